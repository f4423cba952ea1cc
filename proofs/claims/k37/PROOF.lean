import PyProof.Rows.All
import Wide.All
import OpenK.AllK
import Wide.FinOn
import Lean
import PyProof.EqAt
import PyProof.EqKinds
import PyProof.TupleCall
import PyProof.Rows.SortShell
import PyProof.Rows.SortWalk
import PyProof.CompFree
import PyProof.Rows.SortRuns
import PyProof.EqLayable
import PyProof.NeData
import PyProof.P3In
import PyProof.ZipIter
import PyProof.EnumMake
import PyProof.EnumFor
import PyProof.Rows.Range3
import PyProof.AttrMissSeq
import KE.KDictOf
import PySem.Challenge.RW_archrow_k37_fewest_cuts
set_option Elab.async false
set_option compiler.extract_closed false
set_option linter.all false
set_option maxRecDepth 100000
noncomputable section
set_option Elab.async false
set_option linter.all false
set_option maxRecDepth 100000
namespace L2
open PySem PySem.Spec PyProof.Rows
abbrev Key:=Sum Int Str
def keyIs:Key→Value→Bool
 | .inl k,v=>Value.isInt k v
 | .inr x,v=>Value.isStrOf x v
def keyH (w:World):Key→Int
 | .inl k=>hashInt k
 | .inr x=>hashStr w x
theorem keyIs_shape:∀ {k:Key} {v:Value},keyIs k v=true→(∃ i t,k=Sum.inl i∧v=Value.int i t)∨(∃ x t,k=Sum.inr x∧v=Value.str x t)
 | .inl i,v,h=>by
  obtain ⟨t,e⟩:=Value.isInt_shape (k:=i) (v:=v) h
  exact .inl ⟨i,t,rfl,e⟩
 | .inr x,v,h=>by
  obtain ⟨t,e⟩:=Value.isStrOf_shape (x:=x) (v:=v) h
  exact .inr ⟨x,t,rfl,e⟩
theorem keyIs_int (i:Int) (t:Tok):keyIs (.inl i) (.int i t)=true:=by simp [keyIs,Value.isInt]
theorem keyIs_str (x:Str) (t:Tok):keyIs (.inr x) (.str x t)=true:=by simp [keyIs,Value.isStrOf]
theorem key_ll (a b:Int):decide ((Sum.inl a:Key)=Sum.inl b)=(a == b):=by
 by_cases e:a=b
 ·subst e; simp
 ·have h:¬ (Sum.inl a:Key)=Sum.inl b:=fun q=>e (Sum.inl.inj q)
  rw [decide_eq_false h]
  exact (beq_eq_false_iff_ne.mpr e).symm
theorem key_rr (a b:Str):decide ((Sum.inr a:Key)=Sum.inr b)=decide (a=b):=by
 by_cases e:a=b
 ·subst e; simp
 ·have h:¬ (Sum.inr a:Key)=Sum.inr b:=fun q=>e (Sum.inr.inj q)
  rw [decide_eq_false h,decide_eq_false e]
theorem key_lr (a:Int) (b:Str):decide ((Sum.inl a:Key)=Sum.inr b)=false:=decide_eq_false (fun q=>nomatch q)
theorem key_rl (a:Str) (b:Int):decide ((Sum.inr a:Key)=Sum.inl b)=false:=decide_eq_false (fun q=>nomatch q)
def mixKind (prog:Program) (w:World):PySem.KeyKind prog w Key where
 is:=keyIs
 hash:=keyH w
 inj:=fun v a b ha hb=>by
  rcases keyIs_shape ha with ⟨i,t,rfl,rfl⟩ | ⟨x,t,rfl,rfl⟩
  ·rcases keyIs_shape hb with ⟨j,u,rfl,e⟩ | ⟨y,u,rfl,e⟩
   ·injection e with e1 _; rw [e1]
   ·exact nomatch e
  ·rcases keyIs_shape hb with ⟨j,u,rfl,e⟩ | ⟨y,u,rfl,e⟩
   ·exact nomatch e
   ·injection e with e1 _; rw [e1]
 byValue:=fun k v h=>by
  rcases keyIs_shape h with ⟨i,t,rfl,rfl⟩ | ⟨x,t,rfl,rfl⟩ <;> rfl
 pyHash:=fun hv h=>by
  rcases keyIs_shape hv with ⟨i,t,rfl,rfl⟩ | ⟨x,t,rfl,rfl⟩
  ·exact wpAny_pyHash_int h
  ·exact wpAny_pyHash_str h
 eqBool:=fun hu hv h=>by
  rcases keyIs_shape hu with ⟨i,t,rfl,rfl⟩ | ⟨x,t,rfl,rfl⟩
  ·rcases keyIs_shape hv with ⟨j,u,rfl,rfl⟩ | ⟨y,u,rfl,rfl⟩
   ·rw [key_ll] at h; exact wpAny_eqBool_int h
   ·rw [key_lr] at h; exact SeqAt.EqAt.int_str i t y u _ _ _ _ h
  ·rcases keyIs_shape hv with ⟨j,u,rfl,rfl⟩ | ⟨y,u,rfl,rfl⟩
   ·rw [key_rl] at h; exact SeqAt.EqAt.str_int x t j u _ _ _ _ h
   ·rw [key_rr] at h; exact wpAny_eqBool_str h
 «strs»:=fun k x t v h=>by
  rcases keyIs_shape h with ⟨i,u,rfl,e⟩ | ⟨y,u,rfl,e⟩
  ·exact nomatch e
  ·injection e with e1 _
   subst e1
   cases v <;> rfl
theorem mixKind_int (prog:Program) (w:World) (i:Int) (t:Tok):(mixKind prog w).is (.inl i) (.int i t)=true:=keyIs_int i t
theorem mixKind_str (prog:Program) (w:World) (x:Str) (t:Tok):(mixKind prog w).is (.inr x) (.str x t)=true:=keyIs_str x t
end L2
namespace L2
open PySem PySem.Spec PyProof.Rows
inductive V where
 | non | bl (b:Bool) | int (i:Int) | str (x:Str) | byt (b:Array UInt8) | flt (b:UInt64) | ref (a:Addr) | ty (n:String)
 deriving DecidableEq
def RelV:V→Value→Prop
 | .non,u=>u=Value.none
 | .bl b,u=>u=Value.bool b
 | .int i,u=>∃ t,u=Value.int i t
 | .str x,u=>∃ t,u=Value.str x t
 | .byt b,u=>∃ t,u=Value.bytes b t
 | .flt b,u=>∃ t,u=Value.float b t
 | .ref a,u=>u=Value.ref a
 | .ty n,u=>u=Value.type n
abbrev Vals:List V→List Value→Prop:=Paired RelV
theorem Vals.length {xs:List V} {us:List Value} (r:Vals xs us):xs.length=us.length:=Paired.length r
theorem Vals.get:∀ {xs:List V} {us:List Value} {i:Nat} {x:V},Vals xs us→xs[i]?=some x→∃ u,us[i]?=some u∧RelV x u
 | _,_,_,_,.nil,e=>by simp at e
 | _,_,0,_,.cons r _,e=>by simp at e; subst e; exact ⟨_,rfl,r⟩
 | _,_,i+1,x,.cons _ t,e=>by
  obtain ⟨u,h1,h2⟩:=Vals.get (i:=i) (x:=x) t (by simpa using e)
  exact ⟨u,by simpa using h1,h2⟩
theorem Vals.set {x:V} {u:Value} (r:RelV x u):∀ {xs:List V} {us:List Value} (i:Nat),Vals xs us→Vals (xs.set i x) (us.set i u)
 | _,_,_,.nil=>.nil
 | _,_,0,.cons _ t=>.cons r t
 | _,_,i+1,.cons q t=>.cons q (Vals.set r i t)
theorem Vals.append:∀ {xs ys:List V} {us ws:List Value},Vals xs us→Vals ys ws→Vals (xs++ys) (us++ws)
 | _,_,_,_,.nil,s=>s
 | _,_,_,_,.cons r t,s=>.cons r (Vals.append t s)
theorem Vals.take:∀ {xs:List V} {us:List Value} (n:Nat),Vals xs us→Vals (xs.take n) (us.take n)
 | _,_,0,_=>.nil
 | _,_,_+1,.nil=>.nil
 | _,_,n+1,.cons r t=>.cons r (Vals.take n t)
theorem Vals.drop:∀ {xs:List V} {us:List Value} (n:Nat),Vals xs us→Vals (xs.drop n) (us.drop n)
 | _,_,0,r=>r
 | _,_,_+1,.nil=>.nil
 | _,_,n+1,.cons _ t=>Vals.drop n t
theorem Vals.none_of:∀ {xs:List V} {us:List Value} {i:Nat},Vals xs us→xs[i]?=none→us[i]?=none:=fun {xs us i} r e=>by
 have h1:=r.length
 have h2:xs.length≤i:=List.getElem?_eq_none_iff.mp e
 exact List.getElem?_eq_none_iff.mpr (by lia)
def RelO:Option V→Option Value→Prop
 | some v,some u=>RelV v u
 | none,none=>True
 | _,_=>False
def KV {κ:Type}:List (κ × V)→List (κ × Value)→Prop:=Paired fun (p:κ × V) (q:κ × Value)=>p.1=q.1∧RelV p.2 q.2
def kV:Key→V
 | .inl i=>.int i
 | .inr x=>.str x
inductive HO where
 /-- a list -/
 | lst (xs:List V)
 /-- a tuple (never changes) -/
 | tup (xs:List V)
 /-- a dict whose keys are ints and texts; one whose keys are tuples of ints and texts (the empty one is both) -/
 | dK (kvs:List (Key × V)) | dT (kvs:List (List Key × V))
 /-- a set of ints: its members,its size -/
 | set (S:Int→Bool) (n:Nat)
 /-- an instance of the class at C,its dict at dx,its attributes -/
 | ins (C dx:Addr) (fs:List (Str × V))
 /-- the dict of the instance at x -/
 | own (x:Addr)
 /-- the dict of an exception -/
 | xd (fs:List (Str × V))
 /-- a bound method,f of x -/
 | met (f x:Addr)
 /-- a range object lo,lo+1,.. below hi -/
 | rng (lo hi:Int)
 /-- a thing that is known to the object (the script; a dict while a loop walks it): read,never written while it is so -/
 | frz (o:Obj) (u:HO)
 /-- a code object's table -/
 | tbl (ps:Array Value)
 /-- any other thing,by what is true of its one object (a def of one's own: SetO a S n:=HO.ext fun h=>..) -/
 | ext (φ:Heap→Prop)
abbrev Hp:=Addr→Option HO
def upd (H:Hp) (a:Addr) (o:HO):Hp:=fun b=>if b=a then some o else H b
theorem upd_same {H:Hp} {a:Addr} {o:HO}:upd H a o a=some o:=by unfold upd; rw [if_pos rfl]
theorem upd_ne {H:Hp} {a b:Addr} {o:HO} (h:b≠a):upd H a o b=H b:=by unfold upd; rw [if_neg h]
theorem ne_of {H:Hp} {a b:Addr} {o u:HO} (h:H a=some o) (h':H b=some u) (d:o≠u):a≠b:=by
 intro e; subst e; rw [h] at h'; exact d (Option.some.inj h')
theorem ne_of_none {H:Hp} {a b:Addr} {o:HO} (h:H a=some o) (h':H b=none):a≠b:=by
 intro e; subst e; rw [h] at h'; cases h'
section
variable (P:Program) (w:World)
def ObjOk (H:Hp) (h:Heap) (a:Addr):HO→Prop
 | .lst xs=>xs.length≤sizeLine∧∃ (its:List Value) (n:Nat),Vals xs its∧h.get? a=some { cls:=.type "list",data:=.seq its.toArray n }
 | .tup xs=>xs.length≤sizeLine∧∃ its:List Value,Vals xs its∧IsTup h a its.toArray
 | .dK kvs=>kvs.length≤sizeLine∧(a == sysModules)=false∧∃ vs,KV kvs vs∧h.DictOf (mixKind P w) a vs
 | .dT kvs=>kvs.length≤sizeLine∧(a == sysModules)=false∧∃ xs:List (List Key × Addr × Value),
   Paired (fun (p:List Key × V) (q:List Key × Addr × Value)=>p.1=q.1∧H q.2.1=some (.tup (p.1.map kV))∧RelV p.2 q.2.2) kvs xs ∧
   ∃ o es ep,h.get? a=some o∧o.ExactDict∧o.data=.dict es ep∧es.toList=xs.map (entryOfKey (tupleKind (mixKind P w)))∧(xs.map (·.1)).Nodup
 | .set S n=>h.SetOf (intKind P w) a S n
 | .ins C dx fs=>H dx=some (.own a)∧fs.length≤1000∧dx≠a∧h.get? a=some (PySem.W.instObj C dx) ∧
   ∃ mA,h.Ns1 dx mA∧(∀ f,RelO (fs.lookup f) (mA f))∧PySem.Within mA (fs.map (·.1))
 | .own _=>∃ o,h.get? a=some o
 | .xd fs=>∃ mA,h.Ns1 a mA∧∀ f,RelO (fs.lookup f) (mA f)
 | .rng lo hi=>∃ t u v,h.get? a=some { cls:=.type "range",data:=.fields #[.int lo t,.int hi u,.int 1 v] }
 | .frz o u=>h.get? a=some o∧ObjOk H h a u
 | .tbl ps=>h.get? a=some { cls:=.none,data:=.fields ps }
 | .met f x=>h.get? a=some (PySem.W.methodObj (.ref f) (.ref x))
 | .ext φ=>φ h∧(∃ o,h.get? a=some o)∧∀ h1 h2:Heap,φ h1→(∀ o,h1.get? a=some o→h2.get? a=some o)→φ h2
def HOk (H:Hp) (h:Heap):Prop:=∀ a o,H a=some o→ObjOk P w H h a o
end
section
variable {P:Program} {w:World} {H H':Hp} {h h':Heap} {a:Addr} {o:HO}
theorem ObjOk.lt (x:ObjOk P w H h a o):a < h.objs.size:=by
 cases o with
 | lst xs=>obtain ⟨_,_,_,_,e⟩:=x; exact Heap.lt_size e
 | tup xs=>obtain ⟨_,_,_,p⟩:=x; exact p.lt
 | dK kvs=>obtain ⟨_,_,_,_,o,_,_,e,_⟩:=x; exact Heap.lt_size e
 | dT kvs=>obtain ⟨_,_,_,_,o,_,_,e,_⟩:=x; exact Heap.lt_size e
 | set S n=>obtain ⟨o,_,_,_,e,_⟩:=x; exact Heap.lt_size e
 | ins C dx fs=>obtain ⟨_,_,_,e,_⟩:=x; exact Heap.lt_size e
 | own y=>obtain ⟨_,e⟩:=x; exact Heap.lt_size e
 | xd fs=>obtain ⟨_,⟨_,_,_,e,_⟩,_⟩:=x; exact Heap.lt_size e
 | rng lo hi=>obtain ⟨_,_,_,e⟩:=x; exact Heap.lt_size e
 | frz ob u=>obtain ⟨e,_⟩:=x; exact Heap.lt_size e
 | tbl ps=>exact Heap.lt_size (show h.get? a=some _ from x)
 | met f y=>exact Heap.lt_size (show h.get? a=some _ from x)
 | ext φ=>obtain ⟨_,⟨_,e⟩,_⟩:=x; exact Heap.lt_size e
theorem Paired.mapP {α β:Type} {F G:α→β→Prop}:∀ {l₁:List α} {l₂:List β},Paired F l₁ l₂→(∀ a b,F a b→G a b)→Paired G l₁ l₂
 | _,_,.nil,_=>.nil
 | _,_,.cons r t,f=>.cons (f _ _ r) (Paired.mapP t f)
theorem ObjOk.stay (x:ObjOk P w H h a o) (k:∀ b u,(b=a∨H b=some (.own a))→h.get? b=some u→h'.get? b=some u)
  (ho:∀ b,H b=some (.own a)→H' b=some (.own a)) (ht:∀ b xs,H b=some (.tup xs)→H' b=some (.tup xs)):ObjOk P w H' h' a o:=by
 induction o with
 | lst xs=>obtain ⟨z,its,n,r,e⟩:=x; exact ⟨z,its,n,r,k _ _ (.inl rfl) e⟩
 | tup xs=>obtain ⟨z,its,r,ob,e,c⟩:=x; exact ⟨z,its,r,ob,k _ _ (.inl rfl) e,c⟩
 | dK kvs=>obtain ⟨z,y,vs,r,ob,es,ep,e,c⟩:=x; exact ⟨z,y,vs,r,ob,es,ep,k _ _ (.inl rfl) e,c⟩
 | dT kvs =>
  obtain ⟨z,y,xs,r,ob,es,ep,e,c⟩:=x
  exact ⟨z,y,xs,Paired.mapP r fun p q z=>⟨z.1,ht _ _ z.2.1,z.2.2⟩,ob,es,ep,k _ _ (.inl rfl) e,c⟩
 | set S n=>obtain ⟨ob,es,ep,t,e,c⟩:=x; exact ⟨ob,es,ep,t,k _ _ (.inl rfl) e,c⟩
 | ins C dx fs =>
  obtain ⟨d,z,ne,e,mA,⟨od,es,ep,e2,c⟩,r⟩:=x
  exact ⟨ho _ d,z,ne,k _ _ (.inl rfl) e,mA,⟨od,es,ep,k _ _ (.inr d) e2,c⟩,r⟩
 | own y=>obtain ⟨ob,e⟩:=x; exact ⟨ob,k _ _ (.inl rfl) e⟩
 | xd fs=>obtain ⟨mA,⟨od,es,ep,e,c⟩,r⟩:=x; exact ⟨mA,⟨od,es,ep,k _ _ (.inl rfl) e,c⟩,r⟩
 | rng lo hi=>obtain ⟨t,u,v,e⟩:=x; exact ⟨t,u,v,k _ _ (.inl rfl) e⟩
 | frz ob u ih=>obtain ⟨e,q⟩:=x; exact ⟨k _ _ (.inl rfl) e,ih q⟩
 | tbl ps =>
  have e:h.get? a=some { cls:=.none,data:=.fields ps }:=x
  show h'.get? a=some { cls:=.none,data:=.fields ps }
  exact k a _ (.inl rfl) e
 | met f y =>
  have e:h.get? a=some (PySem.W.methodObj (.ref f) (.ref y)):=x
  show h'.get? a=some (PySem.W.methodObj (.ref f) (.ref y))
  exact k a _ (.inl rfl) e
 | ext φ=>obtain ⟨p,⟨o,e⟩,st⟩:=x; exact ⟨st _ _ p fun o q=>k _ _ (.inl rfl) q,⟨o,k _ _ (.inl rfl) e⟩,st⟩
theorem HOk.lt (x:HOk P w H h) (e:H a=some o):a < h.objs.size:=(x a o e).lt
theorem HOk.fresh (x:HOk P w H h) (e:h.objs.size≤a):H a=none:=by
 cases q:H a with
 | none=>rfl
 | some u=>exact absurd (Nat.lt_of_lt_of_le (x.lt q) e) (Nat.lt_irrefl _)
theorem HOk.kept (x:HOk P w H h) (k:∀ b u,h.get? b=some u→h'.get? b=some u):HOk P w H h':=fun a o e =>
 (x a o e).stay (fun b u _ q=>k b u q) (fun _ q=>q) fun _ _ q=>q
theorem HOk.laid (x:HOk P w H h) (k:∀ b u,h.get? b=some u→h'.get? b=some u) (hp:h.objs.size≤a) (new:ObjOk P w (upd H a o) h' a o):HOk P w (upd H a o) h':=fun b u e=>by
 have hn:=x.fresh hp
 by_cases hb:b=a
 ·subst hb; rw [upd_same] at e; cases e; exact new
 ·rw [upd_ne hb] at e
  exact (x b u e).stay (fun c v _ q=>k c v q) (fun c q=>by rw [upd_ne (ne_of_none q hn)]; exact q) fun c xs q=>by rw [upd_ne (ne_of_none q hn)]; exact q
end
def Rd (H:Hp) (a:Addr) (u:HO):Prop:=H a=some u∨∃ o,H a=some (.frz o u)
theorem Rd.ok {P:Program} {w:World} {H:Hp} {h:Heap} {a:Addr} {u:HO} (r:Rd H a u) (x:HOk P w H h):ObjOk P w H h a u:=by
 rcases r with r | ⟨o,r⟩
 ·exact x a u r
 ·obtain ⟨_,q⟩:=x a _ r
  exact q
def Mut:Option HO→Prop
 | some (.lst _)=>True
 | some (.dK _)=>True
 | some (.dT _)=>True
 | some (.set _ _)=>True
 | some (.ins _ _ _)=>True
 | some (.ext _)=>True
 | _=>False
section
variable {P:Program} {w:World} {H:Hp} {h h':Heap} {x e:Addr} {o':HO}
theorem HOk.write (ok:HOk P w H h) (mu:Mut (H x)) (he:e=x∨H e=some (.own x)) (k:∀ b u,b≠e→h.get? b=some u→h'.get? b=some u) (heo:∃ u,h'.get? e=some u)
  (new:ObjOk P w (upd H x o') h' x o'):HOk P w (upd H x o') h':=fun b u q=>by
 have nown:∀ c y,H c=some (.own y)→c≠x:=fun c y r z=>by subst z; rw [r] at mu; exact mu
 have ntup:∀ c xs,H c=some (.tup xs)→c≠x:=fun c xs r z=>by subst z; rw [r] at mu; exact mu
 by_cases hb:b=x
 ·subst hb; rw [upd_same] at q; cases q; exact new
 ·rw [upd_ne hb] at q
  by_cases hbe:b=e
  ·have q':H b=some (.own x):=by
    rcases he with z | z
    ·exact absurd (hbe.trans z) hb
    ·rw [hbe]; exact z
   rw [q] at q'; cases q'
   obtain ⟨v,hv⟩:=heo
   exact ⟨v,by rw [hbe]; exact hv⟩
  ·refine (ok b u q).stay (fun c v hc r=>k c v ?_ r) (fun c r=>by rw [upd_ne (nown c b r)]; exact r) fun c xs r=>by rw [upd_ne (ntup c xs r)]; exact r
   rcases hc with rfl | hc
   ·exact hbe
   ·rintro rfl
    rcases he with z | z
    ·exact nown c b hc z
    ·rw [hc] at z; cases z; exact hb rfl
end
structure Un (fs ex:List Addr) (H H':Hp) (h h':Heap):Prop where
 keep:∀ b o,h.get? b=some o→H b=none→b ∉ fs→b ∉ ex→h'.get? b=some o
 slot:∀ b o,h.get? b=some o→H b=none→b ∈ fs→b ∉ ex→∃ sl,h'.get? b=some { o with slots:=sl }
 free:∀ b o,h.get? b=some o→H b=none→b ∉ ex→H' b=none
 there:∀ b o,h.get? b=some o→b ∉ ex→∃ o',h'.get? b=some o'
 tups:∀ b xs,H b=some (.tup xs)→H' b=some (.tup xs)
 frzs:∀ b o u,H b=some (.frz o u)→H' b=some (.frz o u)
 tbls:∀ b ps,H b=some (.tbl ps)→∃ more,H' b=some (.tbl (ps++more))
section
variable {fs fs' ex ex':List Addr} {H H1 H2:Hp} {h h1 h2 h':Heap} {a x e:Addr} {o:HO}
theorem Un.any (u:Un fs ex H H1 h h1) {b:Addr} {ob:Obj} (q:h.get? b=some ob) (n:H b=none) (hx:b ∉ ex):∃ sl,h1.get? b=some { ob with slots:=sl }:=by
 by_cases hb:b ∈ fs
 ·exact u.slot b ob q n hb hx
 ·exact ⟨ob.slots,u.keep b ob q n hb hx⟩
theorem Un.kept (k:∀ b u,h.get? b=some u→h'.get? b=some u):Un fs ex H H h h' :=
 ⟨fun b ob q _ _ _=>k b ob q,fun b ob q _ _ _=>⟨ob.slots,k b ob q⟩,fun _ _ _ n _=>n,fun b ob q _=>⟨ob,k b ob q⟩,fun _ _ q=>q,fun _ _ _ q=>q,fun _ ps q=>⟨#[],by rw [q]; simp⟩⟩
theorem Un.refl:Un fs ex H H h h:=Un.kept fun _ _ q=>q
theorem Un.laid (k:∀ b u,h.get? b=some u→h'.get? b=some u) (hp:h.objs.size≤a) (hn:H a=none):Un fs ex H (upd H a o) h h' where
 keep:=fun b u q _ _ _=>k b u q
 slot:=fun b u q _ _ _=>⟨u.slots,k b u q⟩
 free:=fun b u q n _=>by rw [upd_ne (Nat.ne_of_lt (Nat.lt_of_lt_of_le (Heap.lt_size q) hp))]; exact n
 there:=fun b u q _=>⟨u,k b u q⟩
 tups:=fun b xs q=>by rw [upd_ne (ne_of_none q hn)]; exact q
 frzs:=fun b u xs q=>by rw [upd_ne (ne_of_none q hn)]; exact q
 tbls:=fun b ps q=>⟨#[],by rw [upd_ne (ne_of_none q hn),q]; simp⟩
theorem Un.write (mu:Mut (H x)) (he:e=x∨H e=some (.own x)) (k:∀ b u,b≠e→h.get? b=some u→h'.get? b=some u) (heo:∃ u,h'.get? e=some u):Un fs ex H (upd H x o) h h':=by
 have hx:∀ b,H b=none→b≠x:=fun b n z=>by subst z; rw [n] at mu; exact mu
 have hb:∀ b,H b=none→b≠e:=fun b n z=>by
  subst z
  rcases he with r | r
  ·exact hx b n r
  ·rw [n] at r; cases r
 have hm:∀ b u,H b=some u→¬ Mut (some u)→b≠x:=fun b u q nm z=>by subst z; rw [q] at mu; exact nm mu
 refine ⟨fun b u q n _ _=>k b u (hb b n) q,fun b u q n _ _=>⟨u.slots,k b u (hb b n) q⟩,fun b u q n _=>by rw [upd_ne (hx b n)]; exact n,fun b u q _=>?_,
  fun b xs q=>by rw [upd_ne (hm b _ q fun z=>z)]; exact q,fun b u xs q=>by rw [upd_ne (hm b _ q fun z=>z)]; exact q,fun b ps q=>⟨#[],by rw [upd_ne (hm b _ q fun z=>z),q]; simp⟩⟩
 by_cases hbe:b=e
 ·subst hbe; exact heo
 ·exact ⟨u,k b u hbe q⟩
end
def trk (h:Heap) (H:Hp):List Addr:=(List.range h.objs.size).filter fun a=>(H a).isSome
def hidT (h:Heap) (H:Hp):Heap:=PySem.W.hideAll h (trk h H)
theorem hidT_size (h:Heap) (H:Hp):(hidT h H).objs.size=h.objs.size:=PySem.W.hideAll_size _ _
theorem hidT_get {h:Heap} {H:Hp} {b:Addr} {o:Obj} (e:h.get? b=some o) (n:H b=none):(hidT h H).get? b=some o :=
 PySem.W.hideAll_get _ e fun hm=>by
  have q:(H b).isSome=true:=(List.mem_filter.mp hm).2
  rw [n] at q; simp at q
theorem of_hidT {h:Heap} {H:Hp} {b:Addr} {o:Obj} (e:(hidT h H).get? b=some o):h.get? b=some o∧H b=none:=by
 have e':h.get? b=some o:=PySem.W.of_hideAll (trk h H) e
 refine ⟨e',?_⟩
 cases q:H b with
 | none=>rfl
 | some x =>
  have hm:b ∈ trk h H:=List.mem_filter.mpr ⟨List.mem_range.mpr (Heap.lt_size e'),by simp [q]⟩
  have z:(hidT h H).get? b=none:=PySem.W.hideAll_none (trk h H) hm
  rw [z] at e; cases e
end L2
namespace L2
open PySem PySem.Spec PyProof.Rows
structure Mod (K:PySem.W.Frag) (mg:Str→Option Value) (base:Heap):Prop where
 kin:K.In base
 glob:base.Ns mainGlobals mg
 blt:∃ mb,base.Ns builtinsNs mb∧∀ x:Str,x≠"__name__" → mb x=bootBuiltins x
 nolimit:base.NoLimit
structure Cx where
 prog:Program
 w:World
 K:PySem.W.Frag
 mg:Str→Option Value
 base:Heap
 A:Around
 N:List Str
 s₀:Shared
 H₀:Hp
 env:Env
 outer:List Env
 stack:List Env
 ex:List Addr
 fn:Str→Bool
 calm:Bool
 pn:List (Addr × Obj)
 xe:Value→Shared→Prop
def frs (l:List Env):List Addr:=l.filterMap (·.frame)
abbrev Cx.fs (X:Cx):List Addr:=frs X.outer
def Vis (sc:Scope) (x:Str):Prop:=sc.names.lookup x=some .local∨sc.names.lookup x=some .cell∨sc.names.lookup x=some .free
def Loc (sc:Scope) (x:Str):Prop:=sc.names.lookup x=some .local∨sc.names.lookup x=some .cell
def Look (env:Env) (h:Heap) (m:Str→Option Value) (x:Str) (u:Value):Prop :=
 (env.kindOf x=some .local∧m x=some u)∨((env.kindOf x=some .cell∨env.kindOf x=some .free)∧∃ c,env.cells.lookup x=some c∧h.IsCell c (some u))
structure Cx.Ok (X:Cx):Prop where
 mod:Mod X.K X.mg X.base
 kind:X.env.scope.kind=.function
 glob:X.env.globals=mainGlobals
 blt:X.env.builtins=builtinsNs
 above:X.s₀.heap.objs.size≤X.env.locals
 inj:∀ x y c,X.env.cells.lookup x=some c→X.env.cells.lookup y=some c→x=y
 has:∀ x,(X.env.kindOf x=some .cell∨X.env.kindOf x=some .free)→∃ c,X.env.cells.lookup x=some c
 cab:∀ x c,X.fn x=true→X.env.cells.lookup x=some c→X.s₀.heap.objs.size≤c
 hd:X.calm=true→X.A.handled=none
 frames:X.A.frames=some X.stack
 stk:X.stack=X.outer∨(X.stack=X.env::X.outer∧X.env.frame=some X.env.locals)
 exf:∀ b ∈ X.ex,b≠X.env.locals∧∀ x c,X.env.cells.lookup x=some c→c≠b
 bs:∀ b o,X.base.get? b=some o→X.s₀.heap.get? b=some o∧X.H₀ b=none
 bsz:X.base.objs.size≤X.s₀.heap.objs.size
 noex:∀ b o,X.base.get? b=some o→b ∉ X.ex
 exfs:∀ b ∈ X.ex,b ∉ X.fs
 funs:X.s₀.heap.FunFrames X.base X.outer
 frf:∀ b ∈ X.fs,X.H₀ b=none
structure Inv (X:Cx) (pins:List (Addr × Obj)) (σ:List (Option V)) (H:Hp) (s:Shared):Prop where
 ok:X.Ok
 os:s.os=X.s₀.os
 bare:AllBare s.gens
 base:Un X.fs X.ex X.H₀ H X.s₀.heap s.heap
 loc:∃ m,s.heap.Ns X.env.locals m∧∀ (i:Nat) (x:Str) (v:V),X.N[i]?=some x→σ[i]?=some (some v)→Vis X.env.scope x→∃ u,RelV v u∧Look X.env s.heap m x u
 cell:∀ x c,X.env.cells.lookup x=some c→∃ v,s.heap.IsCell c v
 free:H X.env.locals=none
 freeC:∀ x c,X.env.cells.lookup x=some c→H c=none
 pin:∀ p ∈ X.pn++pins,s.heap.get? p.1=some p.2∧H p.1=none∧p.1≠X.env.locals∧p.1 ∉ X.fs∧∀ v,p.2.data≠.cell v
 hok:HOk X.prog X.w H s.heap
 len:σ.length=X.N.length
section
variable {X:Cx} {pins:List (Addr × Obj)} {σ:List (Option V)} {H H':Hp} {s:Shared} {h':Heap}
theorem Cx.Ok.nofr (ok:X.Ok) {b:Addr} {o:Obj} (e:X.base.get? b=some o):b ∉ X.fs:=fun hb=>by
 have:=(ok.funs.mem hb).1
 rw [e] at this; cases this
theorem Inv.bs (I:Inv X pins σ H s):∀ b o,X.base.get? b=some o→s.heap.get? b=some o∧H b=none:=fun b o e =>
 ⟨I.base.keep b o (I.ok.bs b o e).1 (I.ok.bs b o e).2 (I.ok.nofr e) (I.ok.noex b o e),I.base.free b o (I.ok.bs b o e).1 (I.ok.bs b o e).2 (I.ok.noex b o e)⟩
theorem Inv.bk (I:Inv X pins σ H s):∀ b o,X.base.get? b=some o→s.heap.get? b=some o:=fun b o e=>(I.bs b o e).1
theorem Inv.mod (I:Inv X pins σ H s):Mod X.K X.mg X.base:=I.ok.mod
theorem Inv.kIn (I:Inv X pins σ H s):X.K.In s.heap:=I.ok.mod.kin.keeps I.bk
theorem Inv.lt (I:Inv X pins σ H s):X.env.locals < s.heap.objs.size:=let ⟨_,hn,_⟩:=I.loc; hn.lt
theorem Inv.sz (I:Inv X pins σ H s):X.s₀.heap.objs.size≤s.heap.objs.size:=Nat.le_trans I.ok.above (Nat.le_of_lt I.lt)
theorem Inv.nofs (I:Inv X pins σ H s) {a:Addr} (h:s.heap.objs.size≤a):a ∉ X.fs:=fun hb=>by
 obtain ⟨_,o,ho,_⟩:=I.ok.funs.mem hb
 exact absurd (Nat.lt_of_lt_of_le (Heap.lt_size ho) (Nat.le_trans I.sz h)) (Nat.lt_irrefl _)
theorem Inv.cne (I:Inv X pins σ H s):∀ x c,X.env.cells.lookup x=some c→c≠X.env.locals:=fun x c e z=>by
 obtain ⟨v,o,ho,hd⟩:=I.cell x c e
 obtain ⟨m,⟨o',es,ep,ho',hd',_⟩,_⟩:=I.loc
 rw [z,ho'] at ho; cases ho; rw [hd'] at hd; cases hd
theorem Inv.funs (I:Inv X pins σ H s):s.heap.FunFrames X.base X.outer:=by
 have all:∀ (l:List Env),(∀ b ∈ frs l,b ∈ X.fs)→X.s₀.heap.FunFrames X.base l→s.heap.FunFrames X.base l:=by
  intro l
  induction l with
  | nil=>intro _ _; trivial
  | cons env r ih =>
   intro hs hl
   obtain ⟨hk,⟨L,o,hf,hn,ho,hd⟩,hr⟩:=hl
   have hL:L ∈ X.fs:=hs L (by unfold frs; rw [List.filterMap_cons,hf]; exact List.mem_cons_self)
   obtain ⟨sl,e⟩:=I.base.slot L o ho (I.ok.frf L hL) hL fun z=>I.ok.exfs L z hL
   exact ⟨hk,⟨L,_,hf,hn,e,hd⟩,ih (fun b hb=>hs b (by unfold frs; rw [List.filterMap_cons,hf]; exact List.mem_cons_of_mem _ hb)) hr⟩
 exact all X.outer (fun _ hb=>hb) I.ok.funs
theorem Inv.stack (I:Inv X pins σ H s):s.heap.FunFrames X.base X.stack:=by
 rcases I.ok.stk with e | ⟨e,hf⟩
 ·rw [e]; exact I.funs
 ·rw [e]
  obtain ⟨m,hn,_⟩:=I.loc
  refine .cons (by rw [I.ok.kind]; decide) hf hn ?_ I.funs
  exact Heap.get?_none_of_le (Nat.le_trans I.ok.bsz I.ok.above)
theorem Inv.stkSub (I:Inv X pins σ H s):∀ b ∈ frs X.stack,b ∈ X.env.locals::X.fs:=fun b hb=>by
 rcases I.ok.stk with e | ⟨e,hf⟩
 ·rw [e] at hb; exact List.mem_cons_of_mem _ hb
 ·rw [e] at hb
  unfold frs at hb
  rw [List.filterMap_cons,hf] at hb
  exact hb
theorem Inv.stkFree (I:Inv X pins σ H s):∀ b ∈ frs X.stack,H b=none:=fun b hb=>by
 rcases List.mem_cons.mp (I.stkSub b hb) with e | hb
 ·rw [e]; exact I.free
 ·obtain ⟨_,o,ho,_⟩:=I.ok.funs.mem hb
  exact I.base.free b o ho (I.ok.frf b hb) fun z=>I.ok.exfs b z hb
theorem Inv.step {g':Array GenState} {t':Nat} {d':Drawn} {ch:List Addr} (I:Inv X pins σ H s)
  (hch:∀ b ∈ ch,(b ∈ X.ex∨X.s₀.heap.objs.size≤b)∧b≠X.env.locals∧(∀ x c,X.env.cells.lookup x=some c→c≠b)∧∀ p ∈ X.pn++pins,p.1≠b)
  (keep:∀ b o,b≠X.env.locals→b ∉ X.fs→b ∉ ch→s.heap.get? b=some o→H b=none→h'.get? b=some o)
  (slot:∀ b o,b≠X.env.locals→b ∈ X.fs→b ∉ ch→s.heap.get? b=some o→H b=none→∃ sl,h'.get? b=some { o with slots:=sl }) (free:∀ b o,b ∉ ch→s.heap.get? b=some o→H b=none→H' b=none)
  (there:∀ b o,b ∉ ch→s.heap.get? b=some o→∃ o',h'.get? b=some o')
  (tups:∀ b xs,H b=some (.tup xs)→H' b=some (.tup xs)) (frzs:∀ b o u,H b=some (.frz o u)→H' b=some (.frz o u)) (tbls:∀ b ps,H b=some (.tbl ps)→∃ more,H' b=some (.tbl (ps++more)))
  (ns:∀ m,s.heap.Ns X.env.locals m→h'.Ns X.env.locals m) (hok:HOk X.prog X.w H' h') (hg:AllBare g') :
  Inv X pins σ H' { s with heap:=h',gens:=g',drawn:=d',toks:=t' }:=by
 have neL:∀ b o,X.s₀.heap.get? b=some o→b≠X.env.locals:=fun b o e=>Nat.ne_of_lt (Nat.lt_of_lt_of_le (Heap.lt_size e) I.ok.above)
 have neC:∀ b o,X.s₀.heap.get? b=some o→b ∉ X.ex→b ∉ ch:=fun b o e hx hb=>by
  rcases (hch b hb).1 with z | z
  ·exact hx z
  ·exact absurd (Nat.lt_of_lt_of_le (Heap.lt_size e) z) (Nat.lt_irrefl _)
 have cellK:∀ x c,X.env.cells.lookup x=some c→∀ v,s.heap.IsCell c v→h'.IsCell c v:=fun x c e v hq1=>by
  obtain ⟨o,ho,hd⟩:=hq1
  have nch:c ∉ ch:=fun z=>(hch c z).2.2.1 x c e rfl
  by_cases hc:c ∈ X.fs
  ·obtain ⟨sl,q⟩:=slot c o (I.cne x c e) hc nch ho (I.freeC x c e)
   exact ⟨_,q,hd⟩
  ·exact ⟨o,keep c o (I.cne x c e) hc nch ho (I.freeC x c e),hd⟩
 refine ⟨I.ok,I.os,hg,⟨fun b o e n hb hx=>?_,fun b o e n hb hx=>?_,fun b o e n hx=>?_,fun b o e hx=>?_,fun b xs e=>tups b xs (I.base.tups b xs e),fun b o xs e=>frzs b o xs (I.base.frzs b o xs e),fun b ps e=>?_⟩,?_,fun x c e=>?_,?_,fun x c e=>?_,fun p hp=>?_,hok,I.len⟩
 ·exact keep b o (neL b o e) hb (neC b o e hx) (I.base.keep b o e n hb hx) (I.base.free b o e n hx)
 ·obtain ⟨sl,e1⟩:=I.base.slot b o e n hb hx
  obtain ⟨sl',e2⟩:=slot b _ (neL b o e) hb (neC b o e hx) e1 (I.base.free b o e n hx)
  exact ⟨sl',e2⟩
 ·obtain ⟨o',e1⟩:=I.base.there b o e hx
  exact free b o' (neC b o e hx) e1 (I.base.free b o e n hx)
 ·obtain ⟨o',e1⟩:=I.base.there b o e hx
  exact there b o' (neC b o e hx) e1
 ·obtain ⟨m1,e1⟩:=I.base.tbls b ps e
  obtain ⟨m2,e2⟩:=tbls b _ e1
  exact ⟨m1++m2,by rw [e2,Array.append_assoc]⟩
 ·obtain ⟨m,hn,hl⟩:=I.loc
  refine ⟨m,ns m hn,fun i x v e1 e2 e3=>?_⟩
  obtain ⟨u,r,l⟩:=hl i x v e1 e2 e3
  refine ⟨u,r,?_⟩
  rcases l with l | ⟨k,c,e,z⟩
  ·exact .inl l
  ·exact .inr ⟨k,c,e,cellK x c e _ z⟩
 ·obtain ⟨v,z⟩:=I.cell x c e
  exact ⟨v,cellK x c e v z⟩
 ·obtain ⟨m,⟨o,_,_,ho,_⟩,_⟩:=I.loc
  exact free _ o (fun z=>(hch _ z).2.1 rfl) ho I.free
 ·obtain ⟨v,o,ho,hd⟩:=I.cell x c e
  exact free c o (fun z=>(hch c z).2.2.1 x c e rfl) ho (I.freeC x c e)
 ·obtain ⟨e,n,ne,nf,d⟩:=I.pin p hp
  have nch:p.1 ∉ ch:=fun z=>(hch p.1 z).2.2.2 p hp rfl
  exact ⟨keep p.1 p.2 ne nf nch e n,free p.1 p.2 nch e n,ne,nf,d⟩
theorem Inv.un {t':Nat} (I:Inv X pins σ H s) (u:Un X.fs [] H H' s.heap h') (hok:HOk X.prog X.w H' h'):Inv X pins σ H' { s with heap:=h',toks:=t' }:=by
 obtain ⟨m,⟨o,es,ep,ho,r⟩,_⟩:=id I.loc
 obtain ⟨sl,hL⟩:=u.any ho I.free (by simp)
 exact I.step (g':=s.gens) (d':=s.drawn) (ch:=[]) (fun _ z=>nomatch z) (fun b o _ hb _ e n=>u.keep b o e n hb (by simp)) (fun b o _ hb _ e n=>u.slot b o e n hb (by simp)) (fun b o _ e n=>u.free b o e n (by simp)) (fun b o _ e=>u.there b o e (by simp)) u.tups u.frzs u.tbls (fun m' hm=>by
  obtain ⟨o',es',ep',ho',r'⟩:=hm
  rw [ho] at ho'; cases ho'
  exact ⟨_,es',ep',hL,r'⟩) hok I.bare
theorem Inv.call {g':Array GenState} {t':Nat} {d':Drawn} {ch:List Addr} (I:Inv X pins σ H s) (u:Un (frs X.stack) ch H H' s.heap h') (hok:HOk X.prog X.w H' h') (hg:AllBare g')
  (hch:∀ b ∈ ch,(b ∈ X.ex∨X.s₀.heap.objs.size≤b)∧b≠X.env.locals∧(∀ x c,X.env.cells.lookup x=some c→c≠b)∧∀ p ∈ X.pn++pins,p.1≠b) :
  Inv X pins σ H' { s with heap:=h',gens:=g',drawn:=d',toks:=t' }:=by
 obtain ⟨m,⟨o,es,ep,ho,r⟩,_⟩:=id I.loc
 obtain ⟨sl,hL⟩:=u.any ho I.free fun z=>(hch _ z).2.1 rfl
 exact I.step (ch:=ch) hch (fun b o hL hb hc e n=>u.keep b o e n (fun z=>(List.mem_cons.mp (I.stkSub b z)).elim hL hb) hc) (fun b o _ _ hc e n=>u.any e n hc) (fun b o hc e n=>u.free b o e n hc) (fun b o hc e=>u.there b o e hc) u.tups u.frzs u.tbls (fun m' hm=>by
  obtain ⟨o',es',ep',ho',r'⟩:=hm
  rw [ho] at ho'; cases ho'
  exact ⟨_,es',ep',hL,r'⟩) hok hg
theorem Inv.turned {t':Nat} {it:Addr} (I:Inv X pins σ H s) (k:∀ b o,b≠it→s.heap.get? b=some o→h'.get? b=some o) (hn:H it=none) (hL:it≠X.env.locals)
  (h1:it ∈ X.ex∨X.s₀.heap.objs.size≤it) (h2:∀ x c,X.env.cells.lookup x=some c→c≠it) (h3:∀ p ∈ X.pn++pins,p.1≠it):Inv X pins σ H { s with heap:=h',toks:=t' }:=by
 have nit:∀ b u,H b=some u→b≠it:=fun b u e z=>by rw [z,hn] at e; cases e
 refine I.step (g':=s.gens) (d':=s.drawn) (ch:=[it]) (fun b hb=>?_) (fun b o _ _ hc e _=>k b o (fun z=>hc (by simp [z])) e) (fun b o _ _ hc e _=>⟨o.slots,k b o (fun z=>hc (by simp [z])) e⟩) (fun _ _ _ _ n=>n)
  (fun b o hc e=>⟨o,k b o (fun z=>hc (by simp [z])) e⟩) (fun _ _ e=>e) (fun _ _ _ e=>e) (fun b ps e=>⟨#[],by rw [e]; simp⟩) (fun m hm=>?_) (fun b u e=>?_) I.bare
 ·have e:b=it:=by simpa using hb
  subst e
  exact ⟨h1,hL,h2,h3⟩
 ·obtain ⟨o,es,ep,ho,r⟩:=hm
  exact ⟨o,es,ep,k _ o (Ne.symm hL) ho,r⟩
 ·refine (I.hok b u e).stay (fun c v hc q=>k c v ?_ q) (fun _ q=>q) fun _ _ q=>q
  rcases hc with z | z
  ·rw [z]; exact nit b u e
  ·exact nit c _ z
theorem Inv.tok (I:Inv X pins σ H s) (t:Nat):Inv X pins σ H { s with toks:=t }:=I.un (h':=s.heap) (t':=t) Un.refl I.hok
theorem Inv.kept {t':Nat} (I:Inv X pins σ H s) (k:∀ b u,s.heap.get? b=some u→h'.get? b=some u):Inv X pins σ H { s with heap:=h',toks:=t' }:=I.un (Un.kept k) (I.hok.kept k)
theorem Inv.laid {a:Addr} {o:HO} {t':Nat} (I:Inv X pins σ H s) (k:∀ b u,s.heap.get? b=some u→h'.get? b=some u) (hp:s.heap.objs.size≤a) (new:ObjOk X.prog X.w (upd H a o) h' a o) :
  Inv X pins σ (upd H a o) { s with heap:=h',toks:=t' }:=I.un (Un.laid k hp (I.hok.fresh hp)) (I.hok.laid k hp new)
theorem Inv.write {x e:Addr} {o:HO} {t':Nat} (I:Inv X pins σ H s) (mu:Mut (H x)) (he:e=x∨H e=some (.own x)) (k:∀ b u,b≠e→s.heap.get? b=some u→h'.get? b=some u) (heo:∃ u,h'.get? e=some u)
  (new:ObjOk X.prog X.w (upd H x o) h' x o):Inv X pins σ (upd H x o) { s with heap:=h',toks:=t' }:=I.un (Un.write mu he k heo) (I.hok.write mu he k heo new)
theorem Inv.pins_of {pins':List (Addr × Obj)} (I:Inv X pins σ H s) (h:∀ p ∈ pins',s.heap.get? p.1=some p.2∧H p.1=none∧p.1≠X.env.locals∧p.1 ∉ X.fs∧∀ v,p.2.data≠.cell v):Inv X pins' σ H s :=
 ⟨I.ok,I.os,I.bare,I.base,I.loc,I.cell,I.free,I.freeC,fun p hp=>(List.mem_append.mp hp).elim (fun z=>I.pin p (List.mem_append_left _ z)) (h p),I.hok,I.len⟩
theorem nodup_ix {N:List Str} (hN:N.Nodup) {i j:Nat} {x:Str} (a:N[i]?=some x) (b:N[j]?=some x):i=j:=by
 obtain ⟨h1,e1⟩:=List.getElem?_eq_some_iff.mp a
 obtain ⟨h2,e2⟩:=List.getElem?_eq_some_iff.mp b
 exact (List.getElem_inj hN).mp (e1.trans e2.symm)
theorem store_ok2 {M:Model} {A:Around} {E:Value→Shared→Prop} {i:Nat} {x:Str} {v:V} {u:Value} {Q:Unit→Shared→Prop} (I:Inv X pins σ H s) (hN:X.N.Nodup) (hi:X.N[i]?=some x) (hx:Loc X.env.scope x) (r:RelV v u)
  (h:∀ s',Inv X pins (σ.set i (some v)) H s'→(∃ a,Heap.SameBut a s.heap s'.heap∧(a=X.env.locals∨X.env.cells.lookup x=some a))→Q () s') (hf:X.fn x=true∨X.env.scope.names.lookup x=some .local:=by first | exact .inl rfl | exact .inr rfl | assumption):wpAny M A (storeName X.env x u) Q E s:=by
 obtain ⟨m,hn,hl⟩:=id I.loc
 have hcls:(X.env.scope.kind == .class || (X.env.scope.kind == .module && X.env.locals != X.env.globals))=false:=by rw [I.ok.kind]; rfl
 have hiσ:i < σ.length:=by rw [I.len]; exact (List.getElem?_eq_some_iff.mp hi).1
 have cne:=I.cne
 have tracked:∀ {a:Addr} {h':Heap},(∃ o,s.heap.get? a=some o∧H a=none)→Heap.SameBut a s.heap h'→HOk X.prog X.w H h':=fun {a h'} ha hs b ob e=>by
  obtain ⟨_,_,hfree⟩:=ha
  refine (I.hok b ob e).stay (fun c w' hc q=>(hs.2 c ?_).trans q) (fun _ q=>q) fun _ _ q=>q
  rintro rfl
  rcases hc with rfl | hc
  ·rw [hfree] at e; cases e
  ·rw [hfree] at hc; cases hc
 rcases hx with hk | hk
 ·refine wpAny_storeName_local hk hn (fun h' hn' hs=>?_) hcls
  obtain ⟨oL,_,_,hoL,_⟩:=id hn
  refine h _ ⟨I.ok,I.os,I.bare,⟨fun b o e n hb hx=>?_,fun b o e n hb hx=>?_,I.base.free,fun b o e hx=>?_,I.base.tups,I.base.frzs,I.base.tbls⟩,⟨_,hn',fun j y v' e1 e2 e3=>?_⟩,fun y c e=>?_,I.free,I.freeC,fun p hp=>?_,tracked ⟨oL,hoL,I.free⟩ hs,by simpa using I.len⟩ ⟨_,hs,.inl rfl⟩
  ·exact (hs.2 b (Nat.ne_of_lt (Nat.lt_of_lt_of_le (Heap.lt_size e) I.ok.above))).trans (I.base.keep b o e n hb hx)
  ·obtain ⟨sl,e1⟩:=I.base.slot b o e n hb hx
   exact ⟨sl,(hs.2 b (Nat.ne_of_lt (Nat.lt_of_lt_of_le (Heap.lt_size e) I.ok.above))).trans e1⟩
  ·obtain ⟨o',e1⟩:=I.base.there b o e hx
   exact ⟨o',(hs.2 b (Nat.ne_of_lt (Nat.lt_of_lt_of_le (Heap.lt_size e) I.ok.above))).trans e1⟩
  ·by_cases hj:j=i
   ·subst hj
    rw [hi] at e1; cases e1
    rw [List.getElem?_set_self hiσ] at e2
    cases e2
    exact ⟨u,r,.inl ⟨hk,by simp⟩⟩
   ·rw [List.getElem?_set_ne (Ne.symm hj)] at e2
    obtain ⟨u',r',q⟩:=hl j y v' e1 e2 e3
    refine ⟨u',r',?_⟩
    rcases q with ⟨k,e⟩ | ⟨k,c,e,z⟩
    ·refine .inl ⟨k,?_⟩
     have:y≠x:=fun e=>hj (nodup_ix hN e1 (e ▸ hi))
     simp [this,e]
    ·exact .inr ⟨k,c,e,z.sameBut hs (cne y c e)⟩
  ·obtain ⟨w',z⟩:=I.cell y c e
   exact ⟨w',z.sameBut hs (cne y c e)⟩
  ·obtain ⟨e,n,ne,nf,d⟩:=I.pin p hp
   exact ⟨(hs.2 p.1 ne).trans e,n,ne,nf,d⟩
 ·have hfn:X.fn x=true:=by
   rcases hf with z | z
   ·exact z
   ·rw [z] at hk; cases hk
  obtain ⟨c,hc⟩:=I.ok.has x (.inl hk)
  obtain ⟨w',z⟩:=I.cell x c hc
  refine wpAny_storeName_cell I.ok.kind hk hc z (fun h' hc' hs=>?_)
  obtain ⟨oc,hoc,hocd⟩:=id z
  refine h { s with heap:=h' } ⟨I.ok,I.os,I.bare,⟨fun b o e n hb hx=>?_,fun b o e n hb hx=>?_,I.base.free,fun b o e hx=>?_,I.base.tups,I.base.frzs,I.base.tbls⟩,⟨m,hn.sameBut hs (Ne.symm (cne x c hc)),fun j y v' e1 e2 e3=>?_⟩,fun y c' e=>?_,I.free,I.freeC,fun p hp=>?_,tracked ⟨oc,hoc,I.freeC x c hc⟩ hs,by simpa using I.len⟩ ⟨c,hs,.inr hc⟩
  ·exact (hs.2 b (Nat.ne_of_lt (Nat.lt_of_lt_of_le (Heap.lt_size e) (I.ok.cab x c hfn hc)))).trans (I.base.keep b o e n hb hx)
  ·obtain ⟨sl,e1⟩:=I.base.slot b o e n hb hx
   exact ⟨sl,(hs.2 b (Nat.ne_of_lt (Nat.lt_of_lt_of_le (Heap.lt_size e) (I.ok.cab x c hfn hc)))).trans e1⟩
  ·obtain ⟨o',e1⟩:=I.base.there b o e hx
   exact ⟨o',(hs.2 b (Nat.ne_of_lt (Nat.lt_of_lt_of_le (Heap.lt_size e) (I.ok.cab x c hfn hc)))).trans e1⟩
  ·by_cases hj:j=i
   ·subst hj
    rw [hi] at e1; cases e1
    rw [List.getElem?_set_self hiσ] at e2
    cases e2
    exact ⟨u,r,.inr ⟨.inl hk,c,hc,hc'⟩⟩
   ·rw [List.getElem?_set_ne (Ne.symm hj)] at e2
    obtain ⟨u',r',q⟩:=hl j y v' e1 e2 e3
    refine ⟨u',r',?_⟩
    rcases q with q | ⟨k,c',e,z'⟩
    ·exact .inl q
    ·refine .inr ⟨k,c',e,z'.sameBut hs ?_⟩
     rintro rfl
     exact hj (nodup_ix hN e1 (I.ok.inj _ _ _ e hc ▸ hi))
  ·by_cases hcc:c'=c
   ·subst hcc; exact ⟨_,hc'⟩
   ·obtain ⟨w2,z2⟩:=I.cell y c' e
    exact ⟨w2,z2.sameBut hs hcc⟩
  ·obtain ⟨e,n,ne,nf,d⟩:=I.pin p hp
   refine ⟨(hs.2 p.1 ?_).trans e,n,ne,nf,d⟩
   intro q
   rw [q,hoc] at e
   have q':oc=p.2:=Option.some.inj e
   exact d w' (by rw [← q']; exact hocd)
theorem store_ok {M:Model} {A:Around} {E:Value→Shared→Prop} {i:Nat} {x:Str} {v:V} {u:Value} {Q:Unit→Shared→Prop} (I:Inv X pins σ H s) (hN:X.N.Nodup) (hi:X.N[i]?=some x) (hx:Loc X.env.scope x) (r:RelV v u)
  (h:∀ s',Inv X pins (σ.set i (some v)) H s'→Q () s') (hf:X.fn x=true∨X.env.scope.names.lookup x=some .local:=by first | exact .inl rfl | exact .inr rfl | assumption):wpAny M A (storeName X.env x u) Q E s :=
 store_ok2 I hN hi hx r (fun s' I' _=>h s' I') hf
theorem Inv.call' {s':Shared} {ch:List Addr} (I:Inv X pins σ H s) (ho:s'.os=s.os) (u:Un (frs X.stack) ch H H' s.heap s'.heap) (hok:HOk X.prog X.w H' s'.heap) (hg:AllBare s'.gens)
  (hch:∀ b ∈ ch,(b ∈ X.ex∨X.s₀.heap.objs.size≤b)∧b≠X.env.locals∧(∀ x c,X.env.cells.lookup x=some c→c≠b)∧∀ p ∈ X.pn++pins,p.1≠b):Inv X pins σ H' s':=by
 obtain ⟨h',g',d',t',o'⟩:=s'
 have e:o'=s.os:=ho
 subst e
 exact I.call (g':=g') (t':=t') (d':=d') u hok hg hch
end
abbrev XK:=Value→Option Addr→Hp→Prop
abbrev St:=List (Option V)
abbrev VK:=V→Hp→Prop
abbrev TE:=St→Hp→VK→Prop
abbrev TT:=St→Hp→(Bool→Hp→Prop)→Prop
abbrev TA:=St→Hp→(List V→Hp→Prop)→Prop
structure Ends where
 nx:St→Hp→Prop
 rt:VK
 bk:St→Hp→Prop:=fun _ _=>False
 ct:St→Hp→Prop:=fun _ _=>False
abbrev TS:=Ends→St→Hp→Prop
def EP (X:Cx) (pins:List (Addr × Obj)) (σ:St) (Q:VK) (u:Value) (s':Shared):Prop:=∃ v H',Inv X pins σ H' s'∧RelV v u∧Q v H'
def TP (X:Cx) (pins:List (Addr × Obj)) (σ:St) (Q:Bool→Hp→Prop) (b:Bool) (s':Shared):Prop:=∃ H',Inv X pins σ H' s'∧Q b H'
def AP (X:Cx) (pins:List (Addr × Obj)) (σ:St) (Q:List V→Hp→Prop) (us:List Value) (s':Shared):Prop:=∃ vs H',Inv X pins σ H' s'∧Vals vs us∧Q vs H'
def SP (X:Cx) (pins:List (Addr × Obj)) (D:Ends) (f:Flow) (s':Shared):Prop :=
 match f with
 | .next=>∃ σ' H',Inv X pins σ' H' s'∧D.nx σ' H'
 | .brk=>∃ σ' H',Inv X pins σ' H' s'∧D.bk σ' H'
 | .cont=>∃ σ' H',Inv X pins σ' H' s'∧D.ct σ' H'
 | .ret u=>∃ v σ' H',Inv X pins σ' H' s'∧RelV v u∧D.rt v H'
def PE (X:Cx) (e:Expr) (t:TE):Prop :=
 ∀ (pins:List (Addr × Obj)) (s:Shared) (σ:St) (H:Hp) (Q:VK),Inv X pins σ H s→t σ H Q→wpAny (model X.prog X.w) X.A (eval e X.env) (EP X pins σ Q) X.xe s
def PT (X:Cx) (e:Expr) (t:TT):Prop :=
 ∀ (pins:List (Addr × Obj)) (s:Shared) (σ:St) (H:Hp) (Q:Bool→Hp→Prop),Inv X pins σ H s→t σ H Q→wpAny (model X.prog X.w) X.A (isTrue e X.env (eval e X.env)) (TP X pins σ Q) X.xe s
def PW (X:Cx) (e:Expr) (t:TT):Prop :=
 ∀ (whole:Sem Value) (pins:List (Addr × Obj)) (s:Shared) (σ:St) (H:Hp) (Q:Bool→Hp→Prop),Inv X pins σ H s→t σ H Q→wpAny (model X.prog X.w) X.A (isTrue e X.env whole) (TP X pins σ Q) X.xe s
theorem PW.pt {X:Cx} {e:Expr} {t:TT} (h:PW X e t):PT X e t:=h _
def PA (X:Cx) (es:List Expr) (t:TA):Prop :=
 ∀ (pos:Pos) (pins:List (Addr × Obj)) (s:Shared) (σ:St) (H:Hp) (Q:List V→Hp→Prop),Inv X pins σ H s→t σ H Q→wpAny (model X.prog X.w) X.A (spliced (backTo pos (starEach es X.env))) (AP X pins σ Q) X.xe s
def PS (X:Cx) (st:Stmt) (t:TS):Prop :=
 ∀ (pins:List (Addr × Obj)) (s:Shared) (σ:St) (H:Hp) (D:Ends),Inv X pins σ H s→t D σ H→wpAny (model X.prog X.w) X.A (exec st X.env) (SP X pins D) X.xe s
def PSs (X:Cx) (st:List Stmt) (t:TS):Prop :=
 ∀ (pins:List (Addr × Obj)) (s:Shared) (σ:St) (H:Hp) (D:Ends),Inv X pins σ H s→t D σ H→wpAny (model X.prog X.w) X.A (execs st X.env) (SP X pins D) X.xe s
theorem thn {α:Type} {t:Sem α} {Q Q':α→Shared→Prop} {M:Model} {A:Around} {E:Value→Shared→Prop} {s:Shared} (h:wpAny M A t Q E s) (hQ:∀ a s,Q a s→Q' a s):wpAny M A t Q' E s:=wpAny_mono h hQ fun _ _ x=>x
end L2
namespace L2
open PySem PySem.Spec PyProof.Rows
section
variable {X:Cx}
def tVar (i:Nat):TE:=fun σ H Q=>∃ v,σ[i]?=some (some v)∧Q v H
def tC (v:V):TE:=fun _ H Q=>Q v H
theorem pe_var {i:Nat} {x:Str} {pos:Pos} (hN:X.N[i]?=some x) (hv:Vis X.env.scope x) (hd:(x == ("__debug__" : Str))=false:=by decide) (hcd:(x == ("__classdict__" : Str))=false:=by decide):PE X (.Name x pos) (tVar i):=by
 intro pins s σ H Q I h
 obtain ⟨v,e,h⟩:=h
 obtain ⟨m,hn,hl⟩:=I.loc
 obtain ⟨u,r,l⟩:=hl i x v hN e hv
 have fin:EP X pins σ Q u s:=⟨v,H,I,r,h⟩
 rcases l with ⟨hk,hm⟩ | ⟨hk,c,hc,hcell⟩
 ·exact wpAny_Name (wpAny_loadName_local I.ok.kind hk hn hm fin) hd
 ·rcases hk with hk | hk
  ·exact wpAny_Name (wpAny_loadName_cell I.ok.kind hk hc hcell fin) hd
  ·exact wpAny_Name (wpAny_loadName_free I.ok.kind hk hc hcell fin hcd) hd
theorem pe_int {i j pos}:PE X (.Constant (.int i) j pos) (tC (.int i)):=fun _ _ _ H _ I h=>wpAny_Constant_int ⟨.int i,H,I.tok _,⟨_,rfl⟩,h⟩
theorem pe_bl {b j pos}:PE X (.Constant (.bool b) j pos) (tC (.bl b)):=fun _ _ _ H _ I h=>Constant_bool ⟨.bl b,H,I,rfl,h⟩
theorem pe_non {j pos}:PE X (.Constant .none j pos) (tC .non):=fun _ _ _ H _ I h=>Constant_none ⟨.non,H,I,rfl,h⟩
def Gl (X:Cx) (x:Str):Prop:=X.env.kindOf x=some .globalImplicit
theorem ld_glob {E:Value→Shared→Prop} {pins:List (Addr × Obj)} {s:Shared} {σ:St} {H:Hp} {x:Str} {u:Value} {pos:Pos} {Q:Value→Shared→Prop} (I:Inv X pins σ H s) (hg:Gl X x) (hm:X.mg x=some u) (h:Q u s)
  (hd:(x == ("__debug__" : Str))=false:=by decide):wpAny (model X.prog X.w) X.A (eval (.Name x pos) X.env) Q E s :=
 Calls.Name_function_global I.ok.kind hg (Calls.loadGlobal_global (by rw [I.ok.glob]; exact I.mod.glob.keeps I.bk) hm h) hd
theorem ld_blt {E:Value→Shared→Prop} {pins:List (Addr × Obj)} {s:Shared} {σ:St} {H:Hp} {x:Str} {u:Value} {pos:Pos} {Q:Value→Shared→Prop} (I:Inv X pins σ H s) (hg:Gl X x) (hm:X.mg x=none) (hv:bootBuiltins x=some u) (h:Q u s)
  (hn:x≠"__name__" := by decide) (hd:(x == ("__debug__" : Str))=false:=by decide):wpAny (model X.prog X.w) X.A (eval (.Name x pos) X.env) Q E s:=by
 obtain ⟨mb,h1,h2⟩:=I.mod.blt
 exact Calls.Name_function_global I.ok.kind hg (Calls.loadGlobal_builtin (by rw [I.ok.glob]; exact I.mod.glob.keeps I.bk) hm (by rw [I.ok.blt]; exact h1.keeps I.bk) ((h2 x hn).trans hv) h) hd
theorem pe_bltn {x:Str} {v:V} {u:Value} {pos:Pos} (hg:Gl X x) (hm:X.mg x=none) (hv:bootBuiltins x=some u) (r:RelV v u) (hn:x≠"__name__" := by decide) (hd:(x == ("__debug__" : Str))=false:=by decide):PE X (.Name x pos) (tC v) :=
 fun _ _ _ H _ I h=>ld_blt I hg hm hv ⟨v,H,I,r,h⟩ hn hd
variable {a b:Expr} {ta tb:TE} {pos:Pos}
theorem nobehind (b:Expr) {op:CmpOp} (h:op≠.In) (h2:op≠.NotIn):behindInMarks op b=false:=by
 have e1:(op == CmpOp.In)=false:=by cases op <;> first | rfl | exact absurd rfl h
 have e2:(op == CmpOp.NotIn)=false:=by cases op <;> first | rfl | exact absurd rfl h2
 cases b <;> simp [behindInMarks,e1,e2]
def tB (t:TE):TT:=fun σ H Q=>t σ H fun x H1=>∃ c,x=.bl c∧Q c H1
theorem pt_val {e:Expr} {t:TE} (h:PE X e t) (he:∀ whole,isTrue e X.env whole=(do let v ← whole; standAt e.pos; holding [v] (truthy v)):=by intro _; rfl):PT X e (tB t):=by
 intro pins s σ H Q I hw
 refine isTrue_plain (thn (h pins s σ H _ I hw) fun v s1 ⟨x,H1,I1,r1,q1⟩=>?_) (he _)
 obtain ⟨d,rfl,q⟩:=q1
 cases r1
 exact wpAny_truthy_bool ⟨H1,I1,q⟩
variable {tA tB':TT} {rest:List Expr}
def tAnd (t u:TT):TT:=fun σ H Q=>t σ H fun c H1=>if c=true then u σ H1 Q else Q false H1
def tOr (t u:TT):TT:=fun σ H Q=>t σ H fun c H1=>if c=true then Q true H1 else u σ H1 Q
def tNot (t:TT):TT:=fun σ H Q=>t σ H fun c H1=>Q (!c) H1
theorem pw_and1 (ha:PT X a tA):PW X (.BoolOp .And [a] pos) tA:=by
 intro wh pins s σ H Q I h
 refine isTrue_and (thn (ha pins s σ H Q I h) fun c s1 e=>?_)
 cases c with
 | true=>exact isTrue_and_nil e
 | false=>exact e
theorem pw_or1 (ha:PT X a tA):PW X (.BoolOp .Or [a] pos) tA:=by
 intro wh pins s σ H Q I h
 refine isTrue_or (thn (ha pins s σ H Q I h) fun c s1 e=>?_)
 cases c with
 | false=>exact isTrue_or_nil e
 | true=>exact e
theorem pw_and (ha:PT X a tA) (hb:PW X (.BoolOp .And (b::rest) pos) tB'):PW X (.BoolOp .And (a::b::rest) pos) (tAnd tA tB'):=by
 intro wh pins s σ H Q I h
 refine isTrue_and (thn (ha pins s σ H _ I h) fun c s1 ⟨H1,I1,q1⟩=>?_)
 cases c with
 | true=>exact hb wh pins s1 σ H1 Q I1 q1
 | false=>exact ⟨H1,I1,q1⟩
theorem pw_or (ha:PT X a tA) (hb:PW X (.BoolOp .Or (b::rest) pos) tB'):PW X (.BoolOp .Or (a::b::rest) pos) (tOr tA tB'):=by
 intro wh pins s σ H Q I h
 refine isTrue_or (thn (ha pins s σ H _ I h) fun c s1 ⟨H1,I1,q1⟩=>?_)
 cases c with
 | true=>exact ⟨H1,I1,q1⟩
 | false=>exact hb wh pins s1 σ H1 Q I1 q1
theorem pt_not (ha:PT X a tA):PT X (.UnaryOp .Not a pos) (tNot tA):=by
 intro pins s σ H Q I h
 exact isTrue_not (ha pins s σ H (fun c H1=>Q (!c) H1) I h)
def tAndV (ta tb:TE):TE:=fun σ H Q=>ta σ H fun x H1=>∃ c,x=.bl c∧if c=true then tb σ H1 Q else Q (.bl false) H1
def tNotV (ta:TE):TE:=fun σ H Q=>ta σ H fun x H1=>∃ c,x=.bl c∧Q (.bl (!c)) H1
theorem pe_one {op} {t:TE} (h:PE X a t):PE X (.BoolOp op [a] pos) t:=fun pins s σ H Q I hw=>BoolOp_one (h pins s σ H Q I hw)
theorem pe_and (ha:PE X a ta) (hb:PE X (.BoolOp .And (b::rest) pos) tb):PE X (.BoolOp .And (a::b::rest) pos) (tAndV ta tb):=by
 intro pins s σ H Q I h
 refine BoolOp_and (thn (ha pins s σ H _ I h) fun v s1 ⟨x,H1,I1,r1,q1⟩=>?_)
 obtain ⟨c,rfl,q1⟩:=q1
 cases r1
 refine wpAny_truthy_bool ?_
 cases c with
 | true=>exact hb pins s1 σ H1 Q I1 q1
 | false=>exact ⟨.bl false,H1,I1,rfl,q1⟩
theorem pe_not (ha:PE X a ta):PE X (.UnaryOp .Not a pos) (tNotV ta):=by
 intro pins s σ H Q I h
 refine UnaryOp_ (thn (ha pins s σ H _ I h) fun v s1 ⟨x,H1,I1,r1,q1⟩=>?_)
 obtain ⟨c,rfl,q1⟩:=q1
 cases r1
 exact not_of (wpAny_truthy_bool ⟨.bl (!c),H1,I1,rfl,q1⟩)
end
end L2
namespace L2
open PySem PySem.Spec PyProof.Rows
def SqL (K:PySem.W.Frag) (H:Hp) (a:Addr) (xs:List V):Prop :=
 Rd H a (.lst xs) ∨
  ∃ (o:Obj) (its:Array Value) (n:Nat),K.lookup a=some o∧o.cls=.type "list" ∧ o.dict=none∧o.data=.seq its n∧its.size≤sizeLine∧Vals xs its.toList
def SqT (K:PySem.W.Frag) (H:Hp) (a:Addr) (xs:List V):Prop :=
 Rd H a (.tup xs) ∨
  ∃ (o:Obj) (its:Array Value) (n:Nat),K.lookup a=some o∧o.cls=.type "tuple" ∧ o.data=.seq its n∧its.size≤sizeLine∧Vals xs its.toList
def absV:Value→Option V
 | .none=>some .non
 | .bool b=>some (.bl b)
 | .int i _=>some (.int i)
 | .str x _=>some (.str x)
 | .bytes b _=>some (.byt b)
 | .float b _=>some (.flt b)
 | .ref a=>some (.ref a)
 | .type n=>some (.ty n)
 | _=>none
theorem RelV.abs {x:V} {u:Value} (r:RelV x u):absV u=some x:=by
 cases x with
 | non=>cases r; rfl
 | bl _=>cases r; rfl
 | int _=>obtain ⟨t,rfl⟩:=r; rfl
 | str _=>obtain ⟨t,rfl⟩:=r; rfl
 | byt _=>obtain ⟨t,rfl⟩:=r; rfl
 | flt _=>obtain ⟨t,rfl⟩:=r; rfl
 | ref _=>cases r; rfl
 | ty _=>cases r; rfl
theorem RelV.inj {x y:V} {u:Value} (r:RelV x u) (q:RelV y u):x=y:=Option.some.inj (r.abs.symm.trans q.abs)
theorem Vals.inj:∀ {xs ys:List V} {us:List Value},Vals xs us→Vals ys us→xs=ys
 | _,_,_,.nil,.nil=>rfl
 | _,_,_,.cons r t,.cons r' t'=>by rw [r.inj r',Vals.inj t t']
section
variable {X:Cx} {pins:List (Addr × Obj)} {σ:St} {H:Hp} {s:Shared} {a:Addr} {xs ys:List V}
theorem SqL.of {K:PySem.W.Frag} (h:H a=some (.lst xs)):SqL K H a xs:=.inl (.inl h)
theorem SqT.of {K:PySem.W.Frag} (h:H a=some (.tup xs)):SqT K H a xs:=.inl (.inl h)
theorem Inv.list (I:Inv X pins σ H s) (h:SqL X.K H a xs):∃ its:List Value,Vals xs its∧PlainL s.heap a its.toArray∧xs.length≤sizeLine:=by
 rcases h with h | ⟨o,its,n,hk,hc,hd,hs,hz,r⟩
 ·obtain ⟨z,its,n,r,e⟩:=h.ok I.hok
  exact ⟨its,r,⟨_,n,e,rfl,rfl,rfl⟩,z⟩
 ·refine ⟨its.toList,r,⟨o,n,I.kIn a o hk,hc,hd,by simpa using hs⟩,?_⟩
  have e:=r.length
  simp only [Array.length_toList] at e
  lia
theorem Inv.tuple (I:Inv X pins σ H s) (h:SqT X.K H a xs):∃ its:List Value,Vals xs its∧IsTup s.heap a its.toArray∧xs.length≤sizeLine:=by
 rcases h with h | ⟨o,its,n,hk,hc,hs,hz,r⟩
 ·obtain ⟨z,its,r,p⟩:=h.ok I.hok
  exact ⟨its,r,p,z⟩
 ·refine ⟨its.toList,r,⟨o,I.kIn a o hk,hc,n,by simpa using hs⟩,?_⟩
  have e:=r.length
  simp only [Array.length_toList] at e
  lia
theorem Inv.list_inj (I:Inv X pins σ H s) (h:SqL X.K H a xs) (h':SqL X.K H a ys):xs=ys:=by
 obtain ⟨its,r,⟨o,n,e,_,_,d⟩,_⟩:=I.list h
 obtain ⟨its',r',⟨o',n',e',_,_,d'⟩,_⟩:=I.list h'
 rw [e] at e'; cases e'
 rw [d] at d'
 injection d' with d1 _
 have:its=its':=by simpa using congrArg Array.toList d1
 subst this
 exact r.inj r'
end
abbrev Cx.wish (X:Cx) (E:Value→Shared→Prop):Cx:={ X with xe:=E }
abbrev Cx.nox (X:Cx):Cx:=X.wish fun _ _=>False
theorem Cx.Ok.wish {X:Cx} (ok:X.Ok) (E:Value→Shared→Prop):(X.wish E).Ok :=
 ⟨ok.mod,ok.kind,ok.glob,ok.blt,ok.above,ok.inj,ok.has,ok.cab,ok.hd,ok.frames,ok.stk,ok.exf,ok.bs,ok.bsz,ok.noex,ok.exfs,ok.funs,ok.frf⟩
theorem Cx.Ok.unwish {X:Cx} {E:Value→Shared→Prop} (ok:(X.wish E).Ok):X.Ok :=
 ⟨ok.mod,ok.kind,ok.glob,ok.blt,ok.above,ok.inj,ok.has,ok.cab,ok.hd,ok.frames,ok.stk,ok.exf,ok.bs,ok.bsz,ok.noex,ok.exfs,ok.funs,ok.frf⟩
section
variable {X:Cx} {pins:List (Addr × Obj)} {σ:St} {H:Hp} {s:Shared} {E:Value→Shared→Prop}
theorem Inv.wish (I:Inv X pins σ H s) (E:Value→Shared→Prop):Inv (X.wish E) pins σ H s:=⟨I.ok.wish E,I.os,I.bare,I.base,I.loc,I.cell,I.free,I.freeC,I.pin,I.hok,I.len⟩
theorem Inv.unwish (I:Inv (X.wish E) pins σ H s):Inv X pins σ H s:=⟨I.ok.unwish,I.os,I.bare,I.base,I.loc,I.cell,I.free,I.freeC,I.pin,I.hok,I.len⟩
theorem SP.unwish {D:Ends} {f:Flow} {s':Shared} (h:SP (X.wish E) pins D f s'):SP X pins D f s':=by
 cases f with
 | next=>obtain ⟨σ',H',I,q⟩:=h; exact ⟨σ',H',I.unwish,q⟩
 | brk=>obtain ⟨σ',H',I,q⟩:=h; exact ⟨σ',H',I.unwish,q⟩
 | cont=>obtain ⟨σ',H',I,q⟩:=h; exact ⟨σ',H',I.unwish,q⟩
 | ret u=>obtain ⟨v,σ',H',I,r,q⟩:=h; exact ⟨v,σ',H',I.unwish,r,q⟩
theorem PSs.nox {st:List Stmt} {t:TS} (h:PSs X.nox st t):PSs X st t:=fun pins s σ H D I hw =>
 wpAny_mono (h pins s σ H D (I.wish _) hw) (fun _ _ q=>q.unwish) fun _ _ z=>False.elim z
end
section
variable {X:Cx} {st:Stmt} {rest:List Stmt} {t u:TS} {e:Expr} {te:TE} {pos:Pos}
def tNext:TS:=fun D σ H=>D.nx σ H
def tSeq (t u:TS):TS:=fun D σ H=>t { D with nx:=u D } σ H
theorem pss_nil:PSs X [] tNext:=fun _ _ σ H _ I h=>wpAny_execs_nil ⟨σ,H,I,h⟩
theorem pss_cons (h1:PS X st t) (h2:PSs X rest u):PSs X (st::rest) (tSeq t u):=by
 intro pins s σ H D I h
 refine wpAny_execs_cons (thn (h1 pins s σ H { D with nx:=u D } I h) fun f s1 q=>?_)
 cases f with
 | next =>
  obtain ⟨σ',H',I',q⟩:=q
  exact h2 pins s1 σ' H' D I' q
 | ret v=>exact q
 | brk=>exact q
 | cont=>exact q
theorem pss_one (h1:PS X st t):PSs X [st] t:=by
 intro pins s σ H D I h
 refine wpAny_execs_cons (thn (h1 pins s σ H D I h) fun f s1 q=>?_)
 cases f with
 | next=>exact wpAny_execs_nil q
 | ret v=>exact q
 | brk=>exact q
 | cont=>exact q
theorem Inv.quiet {pins:List (Addr × Obj)} {σ:St} {H:Hp} {s:Shared} (I:Inv X pins σ H s):interactive X.env=false:=by simp [interactive,I.ok.kind]
def tDrop (te:TE):TS:=fun D σ H=>te σ H fun _ H1=>D.nx σ H1
theorem ps_expr (he:PE X e te) (hs:swapsWith e none pos.line X.env=pure false:=by rfl):PS X (.Expr e pos) (tDrop te):=by
 intro pins s σ H D I h
 exact wpAny_Expr_any (thn (he pins s σ H _ I h) fun v s1 hq16=>by obtain ⟨x,H1,I1,r1,q1⟩:=hq16; exact ⟨σ,H1,I1,q1⟩) I.quiet hs
def tRet (te:TE):TS:=fun D σ H=>te σ H D.rt
theorem ps_ret (he:PE X e te):PS X (.Return (some e) pos) (tRet te):=by
 intro pins s σ H D I h
 exact wpAny_Return_some (thn (he pins s σ H _ I h) fun v s1 hq17=>by obtain ⟨x,H1,I1,r1,q1⟩:=hq17; exact ⟨x,σ,H1,I1,r1,q1⟩)
def tIfS (c:TT) (t u:TS):TS:=fun D σ H=>c σ H fun b H1=>if b=true then t D σ H1 else u D σ H1
theorem ps_if {c:Expr} {a b:List Stmt} {tc:TT} (hc:PT X c tc) (ha:PSs X a t) (hb:PSs X b u):PS X (.If c a b pos) (tIfS tc t u):=by
 intro pins s σ H D I h
 refine wpAny_If (thn (hc pins s σ H _ I h) fun d s1 ⟨H1,I1,q1⟩=>?_)
 cases d with
 | true=>exact ha pins s1 σ H1 D I1 q1
 | false=>exact hb pins s1 σ H1 D I1 q1
def tNever:TS:=fun _ _ _=>False
theorem pss_never {sts:List Stmt}:PSs X sts tNever:=fun _ _ _ _ _ _ h=>h.elim
end
abbrev TG:=V→St→Hp→(St→Hp→Prop)→Prop
abbrev TGs:=List V→St→Hp→(St→Hp→Prop)→Prop
def PG (X:Cx) (target:Expr) (t:TG):Prop :=
 ∀ (pins:List (Addr × Obj)) (s:Shared) (σ:St) (H:Hp) (v:V) (u:Value) (Q:St→Hp→Prop),Inv X pins σ H s→RelV v u→t v σ H Q →
  wpAny (model X.prog X.w) X.A (assign target X.env u) (fun _ s'=>∃ σ' H',Inv X pins σ' H' s'∧Q σ' H') X.xe s
def PGs (X:Cx) (ts:List Expr) (t:TGs):Prop :=
 ∀ (pins:List (Addr × Obj)) (s:Shared) (σ:St) (H:Hp) (vs:List V) (us:List Value) (Q:St→Hp→Prop),Inv X pins σ H s→Vals vs us→t vs σ H Q →
  wpAny (model X.prog X.w) X.A (assignInOrder ((assignEach ts X.env).map (·.2)) us) (fun _ s'=>∃ σ' H',Inv X pins σ' H' s'∧Q σ' H') X.xe s
abbrev TSet:=V→V→V→Hp→(Hp→Prop)→Prop
def PSet (X:Cx) (t:TSet):Prop :=
 ∀ (pins:List (Addr × Obj)) (s:Shared) (σ:St) (H:Hp) (o i v:V) (ov iv u:Value) (Q:Hp→Prop),Inv X pins σ H s→RelV o ov→RelV i iv→RelV v u→t o i v H Q →
  wpAny (model X.prog X.w) X.A (setItem ov iv u) (fun _ s'=>∃ H',Inv X pins σ H' s'∧Q H') X.xe s
section
variable {X:Cx} {pos:Pos}
def gName (i:Nat):TG:=fun v σ H Q=>Q (σ.set i (some v)) H
theorem pg_name {i:Nat} {x:Str} (hN:X.N.Nodup) (hi:X.N[i]?=some x) (hx:Loc X.env.scope x) (hf:X.fn x=true∨X.env.scope.names.lookup x=some .local:=by first | exact .inl rfl | exact .inr rfl | assumption):PG X (.Name x pos) (gName i):=by
 intro pins s σ H v u Q I r h
 exact wpAny_assign_Name (store_ok I hN hi hx r (fun s' I'=>⟨_,H,I',h⟩) hf)
def gNil:TGs:=fun vs σ H Q=>vs=[]∧Q σ H
def gCons (t:TG) (u:TGs):TGs:=fun vs σ H Q=>∃ v r,vs=v::r∧t v σ H fun σ' H'=>u r σ' H' Q
theorem pgs_nil:PGs X [] gNil:=by
 intro pins s σ H vs us Q I r h
 obtain ⟨e,h⟩:=h
 subst e
 cases r
 exact assignInOrder_nil ⟨σ,H,I,h⟩
theorem pgs_cons {e:Expr} {es:List Expr} {t:TG} {u:TGs} (h1:PG X e t) (h2:PGs X es u)
  (hs:(assignEach (e::es) X.env).map (·.2)=assign e X.env::(assignEach es X.env).map (·.2):=by rfl):PGs X (e::es) (gCons t u):=by
 intro pins s σ H vs us Q I r h
 obtain ⟨v,vr,e1,h⟩:=h
 subst e1
 cases r with
 | cons r rr =>
  rw [hs]
  refine assignInOrder_cons (thn (h1 pins s σ H _ _ _ I r h) fun _ s1 ⟨σ1,H1,I1,q1⟩=>?_)
  exact h2 pins s1 σ1 H1 _ _ Q I1 rr q1
def gTup (K:PySem.W.Frag) (n:Nat) (t:TGs):TG:=fun v σ H Q=>∃ a xs,v=.ref a∧SqT K H a xs∧xs.length=n∧t xs σ H Q
theorem pg_tup {es:List Expr} {k:Nat} {t:TGs} {n:Nat} (hc:X.calm=true) (h:PGs X es t)
  (hn:(assignEach es X.env).length=n:=by rfl) (hst:(assignEach es X.env).findIdx? (·.1)=none:=by rfl):PG X (.Tuple es k pos) (gTup X.K n t):=by
 intro pins s σ H v u Q I r hw
 obtain ⟨a,xs,e1,hq,hl,hw⟩:=hw
 subst e1
 cases r
 obtain ⟨its,rv,ht,hz⟩:=I.tuple hq
 refine assign_Tuple_tuple (I.ok.hd hc) ht (by simp [hn,← hl,rv.length]) hst fun h' hx=>?_
 have I1:Inv X pins σ H { s with heap:=h' }:=I.kept (t':=s.toks) fun b o e=>hx b o (Nat.ne_of_lt (Heap.lt_size e)) e
 exact h pins _ σ H xs _ Q I1 (by simpa using rv) hw
def gSub (to ti:TE) (t:TSet):TG:=fun v σ H Q=>to σ H fun o H1=>ti σ H1 fun i H2=>t o i v H2 fun H3=>Q σ H3
theorem pg_sub {o i:Expr} {to ti:TE} {t:TSet} (ho:PE X o to) (hi:PE X i ti) (hs:PSet X t)
  (ha:∀ v,assign (.Subscript o i pos) X.env v=(do
   let ov ← holding [v] (eval o X.env)
   let iv ← holding [v,ov] (eval i X.env)
   standAt pos
   holding [v,ov,iv] (setItem ov iv v)
   release [v,ov,iv] []):=by intro _; rfl):PG X (.Subscript o i pos) (gSub to ti t):=by
 intro pins s σ H v u Q I r h
 rw [ha]
 refine wpAny_bind (wpAny_holding (thn (ho pins s σ H _ I h) fun ov s1 ⟨x,H1,I1,r1,q1⟩=>?_))
 refine wpAny_bind (wpAny_holding (thn (hi pins s1 σ H1 _ I1 q1) fun iv s2 ⟨y,H2,I2,r2,q2⟩=>?_))
 refine wpAny_bind (wpAny_standAt (wpAny_bind (wpAny_holding (thn (hs pins s2 σ H2 x y v ov iv u _ I2 r1 r2 r q2) fun _ s3 ⟨H3,I3,q3⟩=>?_))))
 exact wpAny_release ⟨σ,H3,I3,q3⟩
def tAsg (te:TE) (g:TG):TS:=fun D σ H=>te σ H fun x H1=>g x σ H1 D.nx
theorem ps_asg {tg e:Expr} {te:TE} {g:TG} (he:PE X e te) (hg:PG X tg g) (hs:swapsWithSole [tg] e pos.line X.env=pure false:=by rfl) (hw:swappedStores [tg] e X.env=pure none:=by rfl)
  (h1:(assignEach [tg] X.env).map (·.2)=[assign tg X.env]:=by rfl):PS X (.Assign [tg] e pos) (tAsg te g):=by
 intro pins s σ H D I h
 refine wpAny_Assign_stores (thn (he pins s σ H _ I h) fun v s1 ⟨x,H1,I1,r1,q1⟩=>?_) hs hw
 rw [h1]
 exact thn (hg pins s1 σ H1 x v _ I1 r1 q1) fun _ s2 q=>q
theorem ps_set {i:Nat} {x:Str} {e:Expr} {te:TE} {pos':Pos} (hN:X.N.Nodup) (hi:X.N[i]?=some x) (hx:Loc X.env.scope x) (he:PE X e te) (hs:swapsWith e (some (.Name x pos')) pos.line X.env=pure false:=by rfl) (hf:X.fn x=true∨X.env.scope.names.lookup x=some .local:=by first | exact .inl rfl | exact .inr rfl | assumption) :
  PS X (.Assign [.Name x pos'] e pos) (tAsg te (gName i)):=by
 intro pins s σ H D I h
 refine wpAny_Assign_Name (thn (he pins s σ H _ I h) fun v s1 ⟨y,H1,I1,r1,q1⟩=>?_) hs
 exact store_ok I1 hN hi hx r1 (fun s2 I2=>⟨_,H1,I2,q1⟩) hf
end
section
variable {X:Cx} {pos:Pos}
def tWhile (c:TT) (tb:TS):TS:=fun D σ H=>∃ W:Nat→St→Hp→Prop,(∃ m,W m σ H)∧∀ m σ H,W m σ H →
 c σ H fun b H1=>if b=true then ∃ N:St→Hp→Prop,(∀ σ' H',N σ' H'→∃ m',m' < m∧W m' σ' H')∧tb { D with nx:=N,ct:=N,bk:=D.nx } σ H1 else D.nx σ H1
theorem ps_while {c:Expr} {body:List Stmt} {tc:TT} {tb:TS} (hp:PassesOwn (model X.prog X.w) X.A X.env X.xe) (hc:PT X c tc) (hb:PSs X body tb):PS X (.While c body [] pos) (tWhile tc tb):=by
 intro pins s σ H D I h
 obtain ⟨W,⟨m0,w0⟩,turn⟩:=h
 refine wpAny_While (codeAny_whileLoop (fun n s'=>∃ σ' H',Inv X pins σ' H' s'∧W n σ' H') ?_ m0 ⟨σ,H,I,w0⟩)
 rintro n s1 ⟨σ1,H1,I1,w1⟩
 refine wpAny_passesOwn hp (thn (hc pins s1 σ1 H1 _ I1 (turn n σ1 H1 w1)) fun b s2 ⟨H2,I2,q2⟩=>?_)
 cases b with
 | true =>
  obtain ⟨N,hN,q2⟩:=q2
  rw [if_pos rfl]
  refine wpAny_passesOwn hp (thn (hb pins s2 σ1 H2 _ I2 q2) fun f s3 q3=>?_)
  cases f with
  | next =>
   obtain ⟨σ3,H3,I3,n3⟩:=q3
   obtain ⟨m',hm,w3⟩:=hN σ3 H3 n3
   exact ⟨m',hm,σ3,H3,I3,w3⟩
  | cont =>
   obtain ⟨σ3,H3,I3,n3⟩:=q3
   obtain ⟨m',hm,w3⟩:=hN σ3 H3 n3
   exact ⟨m',hm,σ3,H3,I3,w3⟩
  | brk=>exact q3
  | ret v=>exact q3
 | false =>
  rw [if_neg Bool.false_ne_true]
  exact wpAny_execs_nil ⟨σ1,H2,I2,q2⟩
end
structure It where
 go:Nat→Hp→Prop
 yld:Nat→Hp→V→Hp→Prop
 stop:Nat→Hp→Prop
def FpOk (X:Cx) (pins:List (Addr × Obj)) (H:Hp) (b:Addr):Prop :=
 H b=none∧b≠X.env.locals∧b ∉ X.fs∧(b ∈ X.ex∨X.s₀.heap.objs.size≤b)∧(∀ x c,X.env.cells.lookup x=some c→c≠b)∧∀ p ∈ X.pn++pins,p.1≠b
theorem Inv.fpOk {X:Cx} {pins:List (Addr × Obj)} {σ:St} {H H':Hp} {s:Shared} {b:Addr} (I:Inv X pins σ H s) (hb:s.heap.objs.size≤b) (hn:H' b=none):FpOk X pins H' b:=by
 refine ⟨hn,Nat.ne_of_gt (Nat.lt_of_lt_of_le I.lt hb),I.nofs hb,.inr (Nat.le_trans I.sz hb),fun x c e z=>?_,fun p hp z=>?_⟩
 ·obtain ⟨v,q⟩:=I.cell x c e
  exact absurd (Nat.lt_of_lt_of_le q.lt (by rw [z]; exact hb)) (Nat.lt_irrefl _)
 ·exact absurd (Nat.lt_of_lt_of_le (Heap.lt_size (I.pin p hp).1) (by rw [z]; exact hb)) (Nat.lt_irrefl _)
structure Turn (P:Program) (w:World) (K:PySem.W.Frag) (tg:Expr) (J:It) (fp:List Addr) (it:Addr) (tn:Nat→Heap→Prop):Prop where
 mem:it ∈ fp
 obj:∀ i h,tn i h→∀ b ∈ fp,∃ o,h.get? b=some o∧∀ v,o.data≠.cell v
 keep:∀ i h h',tn i h→(∀ b ∈ fp,∀ o,h.get? b=some o→h'.get? b=some o)→tn i h'
 item:∀ (X:Cx),X.prog=P→X.w=w→X.K=K→X.calm=true→∀ (i:Nat) (pins:List (Addr × Obj)) (s:Shared) (σ:St) (H:Hp) (E:Value→Shared→Prop),Inv X pins σ H s→(∀ b ∈ fp,FpOk X pins H b)→tn i s.heap→J.go i H →
  wpAny (model P w) X.A (pyNext (.ref it)) (fun r s1=>∃ u,r=some u ∧
   wpAny (model P w) X.A (letOwnedTupleGo tg (.ref it) u) (fun _ s2=>∃ x H',Inv X pins σ H' s2∧RelV x u∧J.yld i H x H'∧tn (i+1) s2.heap∧∀ b ∈ fp,H' b=none) E s1) E s
 done:∀ (X:Cx),X.prog=P→X.w=w→X.K=K→X.calm=true→∀ (i:Nat) (pins:List (Addr × Obj)) (s:Shared) (σ:St) (H:Hp) (E:Value→Shared→Prop),Inv X pins σ H s→(∀ b ∈ fp,FpOk X pins H b)→tn i s.heap→J.stop i H →
  wpAny (model P w) X.A (pyNext (.ref it)) (fun r s1=>r=none∧Inv X pins σ H s1) E s
 self:∀ (A:Around) (i:Nat) (s:Shared) (Q:Value→Shared→Prop) (E:Value→Shared→Prop),tn i s.heap→Q (.ref it) s→wpAny (model P w) A (pyIter (.ref it)) Q E s
abbrev TI:=St→Hp→(It→Hp→Prop)→Prop
def PIE (X:Cx) (pins:List (Addr × Obj)) (σ:St) (tg:Expr) (R:It→Hp→Prop) (itv:Value) (s2:Shared):Prop :=
 ∃ (it:Addr) (fp:List Addr) (tn:Nat→Heap→Prop) (J:It) (H':Hp),itv=.ref it∧Inv X pins σ H' s2∧Turn X.prog X.w X.K tg J fp it tn∧tn 0 s2.heap∧(∀ b ∈ fp,FpOk X pins H' b)∧R J H'
def PI (X:Cx) (tg iter:Expr) (wi:TI):Prop :=
 ∀ (pins:List (Addr × Obj)) (s:Shared) (σ:St) (H:Hp) (R:It→Hp→Prop),Inv X pins σ H s→wi σ H R →
  wpAny (model X.prog X.w) X.A (eval iter X.env) (fun v s1=>wpAny (model X.prog X.w) X.A (pyIter v) (PIE X pins σ tg R) X.xe s1) X.xe s
theorem go_of {M:Model} {A:Around} {E:Value→Shared→Prop} {s:Shared} {tg:Expr} {it:Addr} {u:Value} {o:Obj} {n:String} {vs:Array Value} {Q:Unit→Shared→Prop} (ho:s.heap.get? it=some o) (hc:o.cls=.type n) (hd:o.data=.fields vs)
  (hn:["enumerate","zip","dict_itemiterator","dict_reverseitemiterator","odict_iterator","itertools.zip_longest","itertools.pairwise"].contains n=false) (hQ:Q () s):wpAny M A (letOwnedTupleGo tg (.ref it) u) Q E s:=by
 unfold letOwnedTupleGo
 cases tg <;> first
  | exact wpAny_pure hQ
  | (cases u <;> first
    | exact wpAny_pure hQ
    | (refine wpAny_bind (wpAny_load ho ?_)
       rw [hc,hd]
       show wpAny M A (if (["enumerate","zip","dict_itemiterator","dict_reverseitemiterator","odict_iterator","itertools.zip_longest","itertools.pairwise"].contains n && vs[0]? == some (rawInt _))=true then _ else _) Q E s
       rw [if_neg (by intro h; rw [hn,Bool.false_and] at h; cases h)]
       exact wpAny_pure hQ))
def Itl (K:PySem.W.Frag) (a:Addr):It :=
 ⟨fun i H=>∃ xs x,SqL K H a xs∧xs[i]?=some x,fun i H x H'=>H'=H∧∀ xs,SqL K H a xs→xs[i]?=some x,fun i H=>∃ xs,SqL K H a xs∧xs.length≤i⟩
def Itr (lo:Int) (n:Nat):It:=⟨fun i _=>i < n,fun i H x H'=>H'=H∧x=.int (lo+i),fun i _=>n≤i⟩
theorem turn_list {P:Program} {w:World} {K:PySem.W.Frag} {tg:Expr} (a it:Addr):Turn P w K tg (Itl K a) [it] it (fun i h=>h.IsListIter it a i) where
 mem:=by simp
 obj:=fun i h st b hb=>by
  have e:b=it:=by simpa using hb
  subst e
  obtain ⟨o,e,c,d⟩:=st
  exact ⟨o,e,fun v z=>by rw [d] at z; cases z⟩
 keep:=fun i h h' st k=>st.at fun o e=>k it (by simp) o e
 item:=by
  intro X hP hw hK hc i pins s σ H E I hf st hg
  subst hP hw hK
  obtain ⟨xs,x,hq,hx⟩:=hg
  obtain ⟨its,rv,p,hz⟩:=I.list hq
  obtain ⟨u,hu,ru⟩:=rv.get hx
  obtain ⟨f0,f1,f2,f3,f4,f5⟩:=hf it (by simp)
  refine wpAny_pyNext_list_item st p.isList (x:=u) (by simpa using hu) fun h' st' sb=>?_
  have I1:Inv X pins σ H { s with heap:=h' }:=I.turned (t':=s.toks) (fun b o hb e=>(sb.2 b hb).trans e) f0 f1 f3 f4 f5
  obtain ⟨o,e,c,d⟩:=id st'
  exact ⟨u,rfl,go_of (s:={ s with heap:=h' }) e c d (by decide) ⟨x,H,I1,ru,⟨rfl,fun ys hy=>by rw [I.list_inj hy hq]; exact hx⟩,st',fun b hb=>(hf b hb).1⟩⟩
 done:=by
  intro X hP hw hK hc i pins s σ H E I hf st hg
  subst hP hw hK
  obtain ⟨xs,hq,hx⟩:=hg
  obtain ⟨its,rv,p,hz⟩:=I.list hq
  obtain ⟨f0,f1,f2,f3,f4,f5⟩:=hf it (by simp)
  have hl:=rv.length
  exact wpAny_pyNext_list_end (I.ok.hd hc) st p.isList (by simp; lia) fun h' eb=>⟨rfl,I.turned (t':=s.toks) (fun b o hb e=>eb b o hb e) f0 f1 f3 f4 f5⟩
 self:=fun _ _ _ _ _ st h=>wpAny_pyIter_listiter st h
theorem turn_range {P:Program} {w:World} {K:PySem.W.Frag} {tg:Expr} (it:Addr) (lo:Int) (n:Nat):Turn P w K tg (Itr lo n) [it] it (fun i h=>IsRangeIter h it (lo+(i:Nat) * 1) ((n:Int) - (i:Nat)) 1) where
 mem:=by simp
 obj:=fun i h st b hb=>by
  have e:b=it:=by simpa using hb
  subst e
  exact ⟨_,st,fun v z=>by
   have z':Data.fields _=Data.cell v:=z
   cases z'⟩
 keep:=fun i h h' st k=>k it (by simp) _ st
 item:=by
  intro X hP hw hK hc i pins s σ H E I hf st hg
  subst hP hw hK
  obtain ⟨f0,f1,f2,f3,f4,f5⟩:=hf it (by simp)
  have W:=Walks.range (prog:=X.prog) (w:=X.w) (I.ok.hd hc) it lo 1 n
  refine W.item i s _ _ hg st fun v h' tk hv st' kk=>?_
  obtain ⟨t,rfl⟩:=hv
  have I1:Inv X pins σ H { s with heap:=h',toks:=tk }:=I.turned (fun b o hb e=>kk b o (by simpa using hb) e) f0 f1 f3 f4 f5
  refine ⟨_,rfl,go_of (s:={ s with heap:=h',toks:=tk }) (n:="range_iterator") st' rfl rfl (by decide) ⟨.int (lo+i),H,I1,⟨t,?_⟩,⟨rfl,rfl⟩,st',fun b hb=>(hf b hb).1⟩⟩
  rw [Int.mul_one]
 done:=by
  intro X hP hw hK hc i pins s σ H E I hf st hg
  subst hP hw hK
  obtain ⟨f0,f1,f2,f3,f4,f5⟩:=hf it (by simp)
  exact wpAny_pyNext_range_end (I.ok.hd hc) st (by have:n≤i:=hg; lia) fun h' eb=>⟨rfl,I.turned (t':=s.toks) (fun b o hb e=>eb b o hb e) f0 f1 f3 f4 f5⟩
 self:=fun _ _ _ _ _ st h=>wpAny_pyIter_rangeiter st h
end L2
namespace L2
open PySem PySem.Spec PyProof.Rows
section
variable {X:Cx} {tg:Expr}
def iList (K:PySem.W.Frag) (tl:TE):TI:=fun σ H R=>tl σ H fun x H1=>∃ a,x=.ref a∧(∃ xs,SqL K H1 a xs)∧R (Itl K a) H1
theorem pi_list {l:Expr} {tl:TE} (hl:PE X l tl):PI X tg l (iList X.K tl):=by
 intro pins s σ H R I h
 refine thn (hl pins s σ H _ I h) fun v s1 ⟨x,H1,I1,r1,q1⟩=>?_
 obtain ⟨a,e,⟨xs,hq⟩,q⟩:=q1
 subst e
 cases r1
 obtain ⟨its,rv,p,hz⟩:=I1.list hq
 refine wpAny_pyIter_list p.isList ?_
 refine ⟨s1.heap.objs.size,[s1.heap.objs.size],_,_,H1,rfl,I1.kept (t':=s1.toks) fun b o e=>Heap.get?_push_of_some _ e,turn_list a _,⟨_,Heap.get?_push_size _ rfl,rfl,rfl⟩,fun b hb=>?_,q⟩
 have e:b=s1.heap.objs.size:=by simpa using hb
 subst e
 exact I1.fpOk (Nat.le_refl _) (I1.hok.fresh (Nat.le_refl _))
theorem range_it {pins:List (Addr × Obj)} {σ:St} {H:Hp} {s:Shared} {R:It→Hp→Prop} {E:Value→Shared→Prop} {lo hi:Int} {t u v:Tok} {tk:Nat} (I:Inv X pins σ H s) (h1:-(2 ^ 62)≤lo) (h2:lo < 2 ^ 62) (h3:-(2 ^ 62)≤hi) (h4:hi < 2 ^ 62)
  (q:R (Itr lo (hi - lo).toNat) H):wpAny (model X.prog X.w) X.A (pyIter (.ref s.heap.objs.size)) (PIE X pins σ tg R) E { s with heap:=s.heap.push { cls:=.type "range",data:=.fields #[.int lo t,.int hi u,.int 1 v] },toks:=tk }:=by
 refine wpAny_pyIter_range (IsRange.new ..) (small_one h1 h2 h3 h4) ?_
 have I1:Inv X pins σ H { s with heap:=s.heap.push { cls:=.type "range",data:=.fields #[.int lo t,.int hi u,.int 1 v] },toks:=tk }:=I.kept fun b o e=>Heap.get?_push_of_some _ e
 refine ⟨(s.heap.push { cls:=.type "range",data:=.fields #[.int lo t,.int hi u,.int 1 v] }).objs.size,[(s.heap.push { cls:=.type "range",data:=.fields #[.int lo t,.int hi u,.int 1 v] }).objs.size],_,_,H,rfl,
  I1.kept (t':=tk) fun b o e=>Heap.get?_push_of_some _ e,turn_range _ lo (hi - lo).toNat,?_,fun b hb=>?_,q⟩
 ·have e1:lo+((0:Nat):Int) * 1=lo:=by simp
  have e2:(((hi - lo).toNat:Nat):Int) - ((0:Nat):Int)=Builtin.Range.rangeSize lo hi 1:=by rw [rangeSize_one]; split <;> lia
  show IsRangeIter _ _ (lo+((0:Nat):Int) * 1) ((((hi - lo).toNat:Nat):Int) - ((0:Nat):Int)) 1
  rw [e1,e2]
  exact Heap.get?_push_size _ rfl
 ·have e:b=(s.heap.push { cls:=.type "range",data:=.fields #[.int lo t,.int hi u,.int 1 v] }).objs.size:=by simpa using hb
  subst e
  exact I1.fpOk (Nat.le_refl _) (I1.hok.fresh (Nat.le_refl _))
def iRng1 (ta:TA):TI:=fun σ H R=>ta σ H fun vs H1=>∃ j:Int,vs=[.int j]∧-(2 ^ 62)≤j∧j < 2 ^ 62∧R (Itr 0 j.toNat) H1
def iRng2 (ta:TA):TI:=fun σ H R=>ta σ H fun vs H1=>∃ i j:Int,vs=[.int i,.int j]∧(-(2 ^ 62)≤i∧i < 2 ^ 62∧-(2 ^ 62)≤j∧j < 2 ^ 62)∧R (Itr i (j - i).toNat) H1
theorem pi_range1 {a:Expr} {ta:TA} {p pos:Pos} (hg:Gl X "range") (hm:X.mg "range" = none) (ha:PA X [a] ta) (hs:starEach [a] X.env=[(false,eval a X.env)]:=by rfl):PI X tg (.Call (.Name "range" p) [a] [] pos) (iRng1 ta):=by
 intro pins s σ H R I h
 refine Call_ (ld_blt I hg hm boot_range (PyProof.Rows.callWith_type1 (thn (ha pos pins s σ H _ I h) fun us s1 ⟨vs,H1,I1,r1,q1⟩=>?_) hs rfl))
 obtain ⟨j,e,q1,q2,q⟩:=q1
 subst e
 cases r1 with
 | cons r rr =>
  cases rr
  obtain ⟨t,rfl⟩:=r
  exact call_range_1 (range_it I1 (by lia) (by lia) q1 q2 (by simpa using q))
theorem pi_range2 {a b:Expr} {ta:TA} {p pos:Pos} (hg:Gl X "range") (hm:X.mg "range" = none) (ha:PA X [a,b] ta) (hs:starEach [a,b] X.env=[(false,eval a X.env),(false,eval b X.env)]:=by rfl) (hs2:starEach [b] X.env=[(false,eval b X.env)]:=by rfl) :
  PI X tg (.Call (.Name "range" p) [a,b] [] pos) (iRng2 ta):=by
 intro pins s σ H R I h
 refine Call_ (ld_blt I hg hm boot_range (PyProof.Rows.callWith_type1 (thn (ha pos pins s σ H _ I h) fun us s1 ⟨vs,H1,I1,r1,q1⟩=>?_) (by rw [hs,hs2]) (by rw [hs2]; rfl)))
 obtain ⟨i,j,e,⟨q1,q2,q3,q4⟩,q⟩:=q1
 subst e
 cases r1 with
 | cons r rr =>
  cases rr with
  | cons r' rr =>
   cases rr
   obtain ⟨t,rfl⟩:=r
   obtain ⟨t',rfl⟩:=r'
   exact call_range_2 (range_it I1 q1 q2 q3 q4 q)
def tFor (wi:TI) (g:TG) (tb:TS):TS:=fun D σ H=>wi σ H fun J H1=>∃ W:Nat→Nat→St→Hp→Prop,(∃ m,W 0 m σ H1)∧∀ i m σ H,W i m σ H →
 (J.stop i H∧D.nx σ H)∨(J.go i H∧∃ N:St→Hp→Prop,(∀ σ' H',N σ' H'→∃ m',m' < m∧W (i+1) m' σ' H')∧∀ x H',J.yld i H x H'→g x σ H' fun σ2 H2=>tb { D with nx:=N,ct:=N,bk:=D.nx } σ2 H2)
def pinsAt (fp:List Addr) (h:Heap):List (Addr × Obj):=fp.filterMap fun b=>(h.get? b).map fun o=>(b,o)
theorem mem_pinsAt {fp:List Addr} {h:Heap} {b:Addr} {o:Obj} (hb:b ∈ fp) (e:h.get? b=some o):(b,o) ∈ pinsAt fp h:=List.mem_filterMap.mpr ⟨b,hb,by rw [e]; rfl⟩
theorem of_pinsAt {fp:List Addr} {h:Heap} {p:Addr × Obj} (hp:p ∈ pinsAt fp h):p.1 ∈ fp∧h.get? p.1=some p.2:=by
 obtain ⟨b,hb,e⟩:=List.mem_filterMap.mp hp
 cases q:h.get? b with
 | none=>rw [q] at e; cases e
 | some o =>
  rw [q] at e
  have e':(b,o)=p:=Option.some.inj e
  subst e'
  exact ⟨hb,q⟩
theorem Inv.pinned {pins:List (Addr × Obj)} {σ:St} {H:Hp} {s:Shared} {fp:List Addr} (I:Inv X pins σ H s) (hf:∀ b ∈ fp,FpOk X pins H b) (ho:∀ b ∈ fp,∃ o,s.heap.get? b=some o∧∀ v,o.data≠.cell v):Inv X (pins++pinsAt fp s.heap) σ H s :=
 I.pins_of fun p hp=>(List.mem_append.mp hp).elim (fun z=>I.pin p (List.mem_append_right _ z)) fun z=>by
  obtain ⟨hb,e⟩:=of_pinsAt z
  obtain ⟨f0,f1,f2,_⟩:=hf p.1 hb
  obtain ⟨o,e',d⟩:=ho p.1 hb
  rw [e] at e'; cases e'
  exact ⟨e,f0,f1,f2,d⟩
theorem Inv.unpinned {pins pl:List (Addr × Obj)} {σ:St} {H:Hp} {s:Shared} (I:Inv X (pins++pl) σ H s):Inv X pins σ H s:=I.pins_of fun p hp=>I.pin p (List.mem_append_right _ (List.mem_append_left _ hp))
theorem ps_for {iter:Expr} {body:List Stmt} {wi:TI} {g:TG} {tb:TS} {pos:Pos} (hp:PassesOwn (model X.prog X.w) X.A X.env X.xe) (hc:X.calm=true) (hi:PI X tg iter wi) (hg:PG X tg g) (hb:PSs X body tb)
  (hs:∀ x,foldedSetIterable iter X.env x=pure x:=by intro _; rfl):PS X (.For tg iter body [] pos) (tFor wi g tb):=by
 intro pins s σ H D I h
 refine wpAny_For (thn (hi pins s σ H _ I h) fun v s1 h1=>thn h1 fun itv s2 h2=>?_) hs
 obtain ⟨it,fp,tn,J,H2,e,I2,T,st2,f2,W,⟨m0,w0⟩,turn⟩:=h2
 subst e
 have stat:∀ {H':Hp},(∀ b ∈ fp,H' b=none)→∀ b ∈ fp,FpOk X pins H' b:=fun hn b hb=>⟨hn b hb,(f2 b hb).2⟩
 refine codeAny_forLoop_any (fun n s'=>∃ i σ' H',Inv X pins σ' H' s'∧tn i s'.heap∧(∀ b ∈ fp,H' b=none)∧W i n σ' H') ?_ m0 ⟨0,σ,H2,I2,st2,fun b hb=>(f2 b hb).1,w0⟩
 rintro n s3 ⟨i,σ3,H3,I3,st3,fr3,w3⟩
 rcases turn i n σ3 H3 w3 with ⟨stop,qn⟩ | ⟨go,N,hN,step⟩
 ·refine wpAny_passesOwn hp (thn (T.done X rfl rfl rfl hc i pins s3 σ3 H3 X.xe I3 (stat fr3) st3 stop) fun r s4 ⟨hr,I4⟩=>?_)
  subst hr
  exact wpAny_execs_nil ⟨σ3,H3,I4,qn⟩
 ·refine wpAny_passesOwn hp (thn (T.item X rfl rfl rfl hc i pins s3 σ3 H3 X.xe I3 (stat fr3) st3 go) fun r s4 ⟨u,hr,h4⟩=>?_)
  subst hr
  refine wpAny_passesOwn hp (thn h4 fun _ s5 ⟨x,H5,I5,r5,y5,st5,fr5⟩=>?_)
  have I5':=I5.pinned (stat fr5) (T.obj _ _ st5)
  refine wpAny_passesOwn hp (thn (hg _ s5 σ3 H5 x u _ I5' r5 (step x H5 y5)) fun _ s6 ⟨σ6,H6,I6,q6⟩=>?_)
  refine wpAny_passesOwn hp (thn (hb _ s6 σ6 H6 _ I6 q6) fun f s7 q7=>?_)
  have again:∀ {σ7:St} {H7:Hp},Inv X (pins++pinsAt fp s5.heap) σ7 H7 s7→N σ7 H7→∃ m,m < n∧∃ i σ' H',Inv X pins σ' H' s7∧tn i s7.heap∧(∀ b ∈ fp,H' b=none)∧W i m σ' H':=fun {σ7 H7} I7 n7=>by
   obtain ⟨m',hm,w7⟩:=hN σ7 H7 n7
   refine ⟨m',hm,i+1,σ7,H7,I7.unpinned,T.keep _ _ _ st5 fun b hb o e=>(I7.pin (b,o) (List.mem_append_right _ (List.mem_append_right _ (mem_pinsAt hb e)))).1,fun b hb=>?_,w7⟩
   obtain ⟨o,e,d⟩:=T.obj _ _ st5 b hb
   exact (I7.pin (b,o) (List.mem_append_right _ (List.mem_append_right _ (mem_pinsAt hb e)))).2.1
  cases f with
  | next=>obtain ⟨σ7,H7,I7,n7⟩:=q7; exact again I7 n7
  | cont=>obtain ⟨σ7,H7,I7,n7⟩:=q7; exact again I7 n7
  | brk=>obtain ⟨σ7,H7,I7,q7⟩:=q7; exact ⟨σ7,H7,I7.unpinned,q7⟩
  | ret v=>obtain ⟨x7,σ7,H7,I7,r7,q7⟩:=q7; exact ⟨x7,σ7,H7,I7.unpinned,r7,q7⟩
end
end L2
namespace L2
open PySem PySem.Spec PyProof.Rows
abbrev R2:=V→V→Hp→VK→Prop
def OpR (X:Cx) (f:Value→Value→Sem Value) (r:R2):Prop :=
 ∀ (pins:List (Addr × Obj)) (s:Shared) (σ:St) (H:Hp) (x y:V) (v u:Value) (Q:VK),Inv X pins σ H s→RelV x v→RelV y u→r x y H Q →
  wpAny (model X.prog X.w) X.A (f v u) (EP X pins σ Q) X.xe s
def UnR (X:Cx) (f:Value→Sem Value) (r:V→Hp→VK→Prop):Prop :=
 ∀ (pins:List (Addr × Obj)) (s:Shared) (σ:St) (H:Hp) (x:V) (v:Value) (Q:VK),Inv X pins σ H s→RelV x v→r x H Q →
  wpAny (model X.prog X.w) X.A (f v) (EP X pins σ Q) X.xe s
def CallR (X:Cx) (f:Value) (r:List V→Hp→VK→Prop):Prop :=
 ∀ (pins:List (Addr × Obj)) (s:Shared) (σ:St) (H:Hp) (xs:List V) (us:List Value) (Q:VK),Inv X pins σ H s→Vals xs us→r xs H Q →
  wpAny (model X.prog X.w) X.A (call f us) (EP X pins σ Q) X.xe s
def tOp (r:R2) (ta tb:TE):TE:=fun σ H Q=>ta σ H fun x H1=>tb σ H1 fun y H2=>r x y H2 Q
def tUn (r:V→Hp→VK→Prop) (ta:TE):TE:=fun σ H Q=>ta σ H fun x H1=>r x H1 Q
def rI (C:Int→Int→Prop) (g:Int→Int→V):R2:=fun x y H Q=>∃ i j,x=.int i∧y=.int j∧C i j∧Q (g i j) H
def rI0 (g:Int→Int→V):R2:=fun x y H Q=>∃ i j,x=.int i∧y=.int j∧Q (g i j) H
def rU (g:Int→V):V→Hp→VK→Prop:=fun x H Q=>∃ i,x=.int i∧Q (g i) H
section
variable {X:Cx} {a b c:Expr} {ta tb tc:TE} {pos:Pos}
theorem binT (ha:PE X a ta) (hb:PE X b tb) {pins:List (Addr × Obj)} {s:Shared} {σ:St} {H:Hp} {R:V→V→Hp→Prop} (I:Inv X pins σ H s)
  (h:ta σ H fun x H1=>tb σ H1 fun y H2=>R x y H2) {Q:Value→Shared→Prop} {f:Value→Value→Sem Value}
  (hf:∀ v u s2 x y H2,Inv X pins σ H2 s2→RelV x v→RelV y u→R x y H2→wpAny (model X.prog X.w) X.A (f v u) Q X.xe s2) :
  wpAny (model X.prog X.w) X.A (eval a X.env) (fun v s₁=>wpAny (model X.prog X.w) X.A (eval b X.env) (fun u s₂=>wpAny (model X.prog X.w) X.A (f v u) Q X.xe s₂) X.xe s₁) X.xe s:=by
 refine thn (ha pins s σ H _ I h) fun v s1 ⟨x,H1,I1,r1,q1⟩=>?_
 refine thn (hb pins s1 σ H1 _ I1 q1) fun u s2 ⟨y,H2,I2,r2,q2⟩=>?_
 exact hf v u s2 x y H2 I2 r1 r2 q2
theorem pe_op {op:Operator} {r:R2} (ho:OpR X (binaryOp op) r) (ha:PE X a ta) (hb:PE X b tb):PE X (.BinOp a op b pos) (tOp r ta tb):=by
 intro pins s σ H Q I h
 exact wpAny_BinOp (binT ha hb I h fun v u s2 x y H2 I2 rx ry q=>ho pins s2 σ H2 x y v u Q I2 rx ry q)
theorem pe_un {op:UnaryOp} {r:V→Hp→VK→Prop} (ho:UnR X (unaryOp op) r) (ha:PE X a ta):PE X (.UnaryOp op a pos) (tUn r ta):=by
 intro pins s σ H Q I h
 exact UnaryOp_ (thn (ha pins s σ H _ I h) fun v s1 hq46=>by obtain ⟨x,H1,I1,r1,q1⟩:=hq46; exact ho pins s1 σ H1 x v Q I1 r1 q1)
theorem opI {f:Value→Value→Sem Value} {C:Int→Int→Prop} {g:Int→Int→Int}
  (rule:∀ (i j:Int) (t u:Tok) (s:Shared) (Q:Value→Shared→Prop) (E:Value→Shared→Prop),C i j→Q (.int (g i j) s.toks) { s with toks:=s.toks+1 }→wpAny (model X.prog X.w) X.A (f (.int i t) (.int j u)) Q E s) :
  OpR X f (rI C fun i j=>.int (g i j)):=by
 intro pins s σ H x y v u Q I rx ry h
 obtain ⟨i,j,rfl,rfl,hc,q⟩:=h
 obtain ⟨t,rfl⟩:=rx
 obtain ⟨t',rfl⟩:=ry
 exact rule i j t t' s _ _ hc ⟨.int (g i j),H,I.tok _,⟨_,rfl⟩,q⟩
theorem opI0 {f:Value→Value→Sem Value} {g:Int→Int→Int}
  (rule:∀ (i j:Int) (t u:Tok) (s:Shared) (Q:Value→Shared→Prop) (E:Value→Shared→Prop),Q (.int (g i j) s.toks) { s with toks:=s.toks+1 }→wpAny (model X.prog X.w) X.A (f (.int i t) (.int j u)) Q E s) :
  OpR X f (rI0 fun i j=>.int (g i j)):=by
 intro pins s σ H x y v u Q I rx ry h
 obtain ⟨i,j,rfl,rfl,q⟩:=h
 obtain ⟨t,rfl⟩:=rx
 obtain ⟨t',rfl⟩:=ry
 exact rule i j t t' s _ _ ⟨.int (g i j),H,I.tok _,⟨_,rfl⟩,q⟩
theorem opB0 {f:Value→Value→Sem Value} {g:Int→Int→Bool}
  (rule:∀ (i j:Int) (t u:Tok) (s:Shared) (Q:Value→Shared→Prop) (E:Value→Shared→Prop),Q (.bool (g i j)) s→wpAny (model X.prog X.w) X.A (f (.int i t) (.int j u)) Q E s) :
  OpR X f (rI0 fun i j=>.bl (g i j)):=by
 intro pins s σ H x y v u Q I rx ry h
 obtain ⟨i,j,rfl,rfl,q⟩:=h
 obtain ⟨t,rfl⟩:=rx
 obtain ⟨t',rfl⟩:=ry
 exact rule i j t t' s _ _ ⟨.bl (g i j),H,I,rfl,q⟩
def CPow (i j:Int):Prop:=0≤j∧j≤1000000∧i.natAbs < 2 ^ 64
def CMul (i j:Int):Prop:=(-(2 ^ 64) < i∧i < 2 ^ 64)∨(-(2 ^ 64) < j∧j < 2 ^ 64)
theorem CMul.ok {i j:Int} (h:CMul i j):IntMulOk i j:=by
 rcases h with ⟨h1,h2⟩ | ⟨h1,h2⟩
 ·exact .of_left (intBits_le_64 h1 h2)
 ·exact .of_right (intBits_le_64 h1 h2)
theorem op_add:OpR X (binaryOp .Add) (rI0 fun i j=>.int (i+j)):=opI0 fun _ _ _ _ _ _ _ q=>add_int q
theorem op_sub:OpR X (binaryOp .Sub) (rI0 fun i j=>.int (i - j)):=opI0 fun _ _ _ _ _ _ _ q=>sub_int q
theorem op_mul:OpR X (binaryOp .Mult) (rI CMul fun i j=>.int (i * j)):=opI fun _ _ _ _ _ _ _ hc q=>mul_int q hc.ok
theorem op_mod:OpR X (binaryOp .Mod) (rI (fun _ j=>0 < j) fun i j=>.int (i % j)):=opI fun i j _ _ _ _ _ hc q=>by
 have h1:(0:Int) < j:=hc
 exact mod_int' (by lia) (by rw [Int.fmod_eq_emod_of_nonneg i (by lia)]; exact q)
theorem op_pow:OpR X (binaryOp .Pow) (rI CPow fun i j=>.int (i ^ j.toNat)):=opI fun _ _ _ _ _ _ _ hc q=>pow_int_small hc.1 hc.2.1 hc.2.2 q
theorem unI {f:Value→Sem Value} {g:Int→Int}
  (rule:∀ (i:Int) (t:Tok) (s:Shared) (Q:Value→Shared→Prop) (E:Value→Shared→Prop),Q (.int (g i) s.toks) { s with toks:=s.toks+1 }→wpAny (model X.prog X.w) X.A (f (.int i t)) Q E s) :
  UnR X f (rU fun i=>.int (g i)):=by
 intro pins s σ H x v Q I rx h
 obtain ⟨i,rfl,q⟩:=h
 obtain ⟨t,rfl⟩:=rx
 exact rule i t s _ _ ⟨.int (g i),H,I.tok _,⟨_,rfl⟩,q⟩
theorem un_neg:UnR X (unaryOp .USub) (rU fun i=>.int (-i)):=unI fun _ _ _ _ _ q=>neg_int q
end
section
variable {X:Cx} {a b c:Expr} {ta tb tc:TE} {pos:Pos}
theorem fin_bl {pins:List (Addr × Obj)} {σ:St} {H:Hp} {s:Shared} {Q:VK} {k k':Bool} (I:Inv X pins σ H s) (q:Q (.bl k) H) (e:k=k'):EP X pins σ Q (.bool k') s:=by
 subst e
 exact ⟨.bl k,H,I,rfl,q⟩
theorem op_lt:OpR X (compareOp .Lt) (rI0 fun i j=>.bl (decide (i < j))):=opB0 fun _ _ _ _ _ _ _ q=>lt_int q
theorem op_gt:OpR X (compareOp .Gt) (rI0 fun i j=>.bl (decide (j < i))):=opB0 fun _ _ _ _ _ _ _ q=>gt_int q
theorem op_ge:OpR X (compareOp .GtE) (rI0 fun i j=>.bl (decide (j≤i))):=opB0 fun _ _ _ _ _ _ _ q=>ge_int q
theorem op_isN:OpR X (compareOp .Is) (fun x y H Q=>y=.non∧Q (.bl (decide (x=.non))) H):=by
 intro pins s σ H x y v u Q I rx ry h
 obtain ⟨rfl,q⟩:=h
 cases ry
 refine is_none_gen (fin_bl I q ?_)
 cases x <;> first
  | (cases rx; rfl)
  | (obtain ⟨t,rfl⟩:=rx; rfl)
theorem nomark (b:Expr) {op:CmpOp} (h:op≠.In:=by decide) (h2:op≠.NotIn:=by decide):behindInMarks op b=false:=by
 have e1:(op == CmpOp.In)=false:=by cases op <;> first | rfl | exact absurd rfl h
 have e2:(op == CmpOp.NotIn)=false:=by cases op <;> first | rfl | exact absurd rfl h2
 cases b <;> simp [behindInMarks,e1,e2]
theorem pe_cmpR {op:CmpOp} {r:R2} (ho:OpR X (compareOp op) r) (ha:PE X a ta) (hb:PE X b tb) (hm:behindInMarks op b=false):PE X (.Compare a [op] [b] pos) (tOp r ta tb):=by
 intro pins s σ H Q I h
 exact wpAny_Compare1 (binT ha hb I h fun v u s2 x y H2 I2 rx ry q=>ho pins s2 σ H2 x y v u Q I2 rx ry q) hm
def tTest (t:TE):TT:=fun σ H Q=>t σ H fun x H'=>∃ k,x=.bl k∧Q k H'
theorem pt_cmpR {op:CmpOp} {r:R2} (ho:OpR X (compareOp op) r) (ha:PE X a ta) (hb:PE X b tb) (hm:behindInMarks op b=false):PT X (.Compare a [op] [b] pos) (tTest (tOp r ta tb)):=by
 intro pins s σ H Q I h
 refine wpAny_isTrue_Compare1 (thn (ha pins s σ H _ I h) fun v s1 ⟨x,H1,I1,r1,q1⟩=>thn (hb pins s1 σ H1 _ I1 q1) fun u s2 ⟨y,H2,I2,r2,q2⟩ =>
  thn (ho pins s2 σ H2 x y v u _ I2 r1 r2 q2) fun c s3 ⟨z,H3,I3,r3,k,e,q3⟩=>?_) hm
 subst e
 cases r3
 exact wpAny_truthy_bool ⟨H3,I3,q3⟩
theorem line63:(sizeLine:Nat) < 2 ^ 63:=by rw [sizeLine_eq]; decide
theorem vals1 {x:V} {us:List Value} (r:Vals [x] us):∃ u,us=[u]∧RelV x u:=by
 cases r with
 | cons r1 r2=>cases r2; exact ⟨_,rfl,r1⟩
theorem vals2 {x y:V} {us:List Value} (r:Vals [x,y] us):∃ u w',us=[u,w']∧RelV x u∧RelV y w':=by
 cases r with
 | cons r1 r2 =>
  cases r2 with
  | cons r3 r4=>cases r4; exact ⟨_,_,rfl,r1,r3⟩
theorem call_max2 (hc:X.calm=true):CallR X (.builtin "max") (fun xs H Q=>∃ i j,xs=[.int i,.int j]∧Q (.int (if j > i then j else i)) H):=by
 intro pins s σ H xs us Q I r h
 obtain ⟨i,j,rfl,q⟩:=h
 obtain ⟨u,w',rfl,⟨t,rfl⟩,⟨t',rfl⟩⟩:=vals2 r
 refine max_two_ints (I.ok.hd hc) fun h' tk k=>⟨_,H,I.kept k,?_,q⟩
 by_cases hj:j > i
 ·rw [if_pos hj,if_pos hj]; exact ⟨_,rfl⟩
 ·rw [if_neg hj,if_neg hj]; exact ⟨_,rfl⟩
theorem call_min2 (hc:X.calm=true):CallR X (.builtin "min") (fun xs H Q=>∃ i j,xs=[.int i,.int j]∧Q (.int (if j < i then j else i)) H):=by
 intro pins s σ H xs us Q I r h
 obtain ⟨i,j,rfl,q⟩:=h
 obtain ⟨u,w',rfl,⟨t,rfl⟩,⟨t',rfl⟩⟩:=vals2 r
 refine min_two_ints (I.ok.hd hc) fun h' tk k=>⟨_,H,I.kept k,?_,q⟩
 by_cases hj:j < i
 ·rw [if_pos hj,if_pos hj]; exact ⟨_,rfl⟩
 ·rw [if_neg hj,if_neg hj]; exact ⟨_,rfl⟩
theorem call_int1:CallR X (.type "int") (fun xs H Q=>(∃ i,xs=[.int i]∧Q (.int i) H)∨∃ k,xs=[.bl k]∧Q (.int (if k then 1 else 0)) H):=by
 intro pins s σ H xs us Q I r h
 rcases h with ⟨i,rfl,q⟩ | ⟨k,rfl,q⟩
 ·obtain ⟨u,rfl,t,rfl⟩:=vals1 r
  exact call_int_int ⟨.int i,H,I,⟨_,rfl⟩,q⟩
 ·obtain ⟨u,rfl,r1⟩:=vals1 r
  cases r1
  exact call_int_bool ⟨.int (if k then 1 else 0),H,I.tok _,⟨_,rfl⟩,q⟩
end
end L2
namespace L2
open PySem PySem.Spec PyProof.Rows
structure ObjM (h:Heap) (x dx C:Addr) (mA:Str→Option Value):Prop where
 obj:h.get? x=some (PySem.W.instObj C dx)
 ns:h.Ns1 dx mA
 ne:dx≠x
theorem lookIn_ns {h:Heap} {dx:Addr} {mA:Str→Option Value} (n:h.Ns1 dx mA):∃ od,h.get? dx=some od∧∀ name,PySem.W.lookIn name od=some (mA name):=by
 obtain ⟨o,es,ep,ho,hd,hk,_,hm⟩:=n
 refine ⟨o,ho,fun name=>?_⟩
 have e:=hm name
 unfold nsFind findBy at e
 rw [← Array.find?_toList] at e
 unfold PySem.W.lookIn
 rw [hd]
 dsimp only
 split
 ·rename_i y q
  rw [q] at e
  exact congrArg some e
 ·rename_i q
  rw [q] at e
  have a:es.toList.any (·.refKey)=false:=by
   rw [List.any_eq_false]
   intro y hy
   obtain ⟨z,t,hkey⟩:=hk y (Array.mem_toList_iff.mp hy)
   simp [DictEntry.refKey,hkey]
  have a':¬ es.toList.any (·.refKey)=true:=by rw [a]; exact Bool.false_ne_true
  rw [if_neg a']
  exact congrArg some e
theorem ObjM.look {h:Heap} {x dx C:Addr} {mA:Str→Option Value} (I:ObjM h x dx C mA):∃ od,PySem.W.InstAt h x (PySem.W.instObj C dx) C (some od)∧∀ name,PySem.W.lookIn name od=some (mA name) :=
 let ⟨od,ho,hl⟩:=lookIn_ns I.ns
 ⟨od,⟨I.obj,rfl,rfl,ho⟩,hl⟩
section
variable {prog:Program} {w:World} {A:Around} {E:Value→Shared→Prop} {s:Shared} {K:PySem.W.Frag} {x dx C f:Addr} {mA:Str→Option Value} {name:Str} {v:Value}
end
theorem RelO.some_of {v:V} {o:Option Value} (r:RelO (some v) o):∃ u,o=some u∧RelV v u:=by
 cases o with
 | none=>exact (show False from r).elim
 | some u=>exact ⟨u,rfl,r⟩
section
variable {P:Program} {w:World} {H H':Hp} {h h':Heap} {a C dx:Addr} {fs fs':List (Str × V)}
theorem ins_get (hok:HOk P w H h) (e:H a=some (.ins C dx fs)):∃ mA,ObjM h a dx C mA∧(∀ f,RelO (fs.lookup f) (mA f))∧PySem.Within mA (fs.map (·.1))∧fs.length≤1000∧H dx=some (.own a):=by
 obtain ⟨d,z,ne,ob,mA,n,r,q⟩:=(show ObjOk P w H h a (.ins C dx fs) from hok a _ e)
 exact ⟨mA,⟨ob,n,ne⟩,r,q,z,d⟩
end
structure Cls (K:PySem.W.Frag) (C:Addr):Prop where
 pg:PySem.W.plainGet K C Str.empty=true
 hd:PySem.W.hasDictIn K C=true
 po:PySem.W.plainOver K C=true
 sa:PySem.W.findIn K (.ref C) "__setattr__" = some (some (.builtin "object.__setattr__"))
theorem Cls.get {K:PySem.W.Frag} {C:Addr} (c:Cls K C) (f:Str):PySem.W.plainGet K C f=true:=c.pg
section
variable {X:Cx} {pins:List (Addr × Obj)} {σ:St} {H:Hp} {s:Shared} {a C dx:Addr} {fs:List (Str × V)} {f:Str} {v:V} {A:Around} {E:Value→Shared→Prop}
end
section
variable {X:Cx} {o e value:Expr} {f:Str} {pos pos' tpos:Pos} {ta tv:TE}
end
section
variable {X:Cx} {pins:List (Addr × Obj)} {σ:St} {H:Hp} {s:Shared} {A:Around} {E:Value→Shared→Prop} {Q:Value→Shared→Prop} {c:Value} {b:Bool}
inductive TyOf (K:PySem.W.Frag) (H:Hp):V→Value→Prop where
 | non:TyOf K H .non (.type "NoneType")
 | bl (x:Bool):TyOf K H (.bl x) (.type "bool")
 | int (i:Int):TyOf K H (.int i) (.type "int")
 | str (x:Str):TyOf K H (.str x) (.type "str")
 | flt (x:UInt64):TyOf K H (.flt x) (.type "float")
 | lst {a:Addr} {xs:List V} (e:H a=some (.lst xs)):TyOf K H (.ref a) (.type "list")
 | frz {a:Addr} {o:Obj} {xs:List V} (e:H a=some (.frz o (.lst xs))):TyOf K H (.ref a) (.type "list")
 | tup {a:Addr} {xs:List V} (e:H a=some (.tup xs)):TyOf K H (.ref a) (.type "tuple")
 | dK {a:Addr} {kvs:List (Key × V)} (e:H a=some (.dK kvs)):TyOf K H (.ref a) (.type "dict")
 | dT {a:Addr} {kvs:List (List Key × V)} (e:H a=some (.dT kvs)):TyOf K H (.ref a) (.type "dict")
 | ins {a C dx:Addr} {fs:List (Str × V)} (e:H a=some (.ins C dx fs)) (cl:Cls K C) (ha:PySem.W.findIn K (.ref C) "__class__" = some (some (.builtin "object.__class__")))
   (hn:PySem.W.specialIn K (.builtin "object.__class__") "__get__" = some (some (.builtin "getset_descriptor.__get__"))) (htk:PySem.W.takesIn K (.builtin "object.__class__")=some true)
   (hm:PySem.W.mroIn K C (.type "object")=some true):TyOf K H (.ref a) (.ref C)
theorem isinst_ok {x:V} {u t:Value} (I:Inv X pins σ H s) (rx:RelV x u) (ty:TyOf X.K H x t) (e:PySem.W.kitOne X.K t c=some b) (h:∀ tk,Q (.bool b) { s with toks:=tk }) :
  wpAny (model X.prog X.w) A (call (.builtin "isinstance") [u,c]) Q E s:=by
 cases ty with
 | non=>cases (show u=Value.none from rx); exact PySem.W.kia_one PySem.W.kitx_none I.kIn True.intro e (fun z=>nomatch z) h
 | bl y=>cases (show u=Value.bool y from rx); exact PySem.W.kia_one PySem.W.kitx_bool I.kIn True.intro e (fun z=>nomatch z) h
 | int i=>obtain ⟨t,q⟩:=(show ∃ t,u=Value.int i t from rx); cases q; exact PySem.W.kia_one PySem.W.kitx_int I.kIn True.intro e (fun z=>nomatch z) h
 | str y=>obtain ⟨t,q⟩:=(show ∃ t,u=Value.str y t from rx); cases q; exact PySem.W.kia_one PySem.W.kitx_str I.kIn True.intro e (fun z=>nomatch z) h
 | flt y=>obtain ⟨t,q⟩:=(show ∃ t,u=Value.float y t from rx); cases q; exact PySem.W.kia_one PySem.W.kitx_float I.kIn True.intro e (fun z=>nomatch z) h
 | @lst a xs ea =>
  cases (show u=Value.ref a from rx)
  obtain ⟨_,_,n,_,h1⟩:=(show ObjOk X.prog X.w H s.heap a (.lst xs) from I.hok a _ ea)
  exact PySem.W.kia_one PySem.W.kitx_list I.kIn ⟨_,h1,rfl⟩ e (fun z=>nomatch z) h
 | @frz a ob xs ea =>
  cases (show u=Value.ref a from rx)
  obtain ⟨_,_,_,n,_,h1⟩:=(show ObjOk X.prog X.w H s.heap a (.frz ob (.lst xs)) from I.hok a _ ea)
  exact PySem.W.kia_one PySem.W.kitx_list I.kIn ⟨_,h1,rfl⟩ e (fun z=>nomatch z) h
 | @tup a xs ea =>
  cases (show u=Value.ref a from rx)
  obtain ⟨_,_,_,p⟩:=(show ObjOk X.prog X.w H s.heap a (.tup xs) from I.hok a _ ea)
  obtain ⟨o,h1,h2,_⟩:=p
  exact PySem.W.kia_one PySem.W.kitx_tuple I.kIn ⟨o,h1,h2⟩ e (fun z=>nomatch z) h
 | @dK a kvs ea =>
  cases (show u=Value.ref a from rx)
  obtain ⟨_,_,vs,_,p⟩:=(show ObjOk X.prog X.w H s.heap a (.dK kvs) from I.hok a _ ea)
  obtain ⟨o,es,ep,h1,h2,_⟩:=p
  exact PySem.W.kia_one PySem.W.kitx_dict I.kIn ⟨o,h1,h2.1⟩ e (fun z=>nomatch z) h
 | @dT a kvs ea =>
  cases (show u=Value.ref a from rx)
  obtain ⟨_,_,xs,_,o,es,ep,h1,h2,_⟩:=(show ObjOk X.prog X.w H s.heap a (.dT kvs) from I.hok a _ ea)
  exact PySem.W.kia_one PySem.W.kitx_dict I.kIn ⟨o,h1,h2.1⟩ e (fun z=>nomatch z) h
 | @ins a C dx fs ea cl ha hn htk hm =>
  cases (show u=Value.ref a from rx)
  obtain ⟨mA,O,_⟩:=ins_get I.hok ea
  obtain ⟨od,J,_⟩:=O.look
  exact PySem.W.kia_one (PySem.W.kitx_own (cl.get _) cl.hd ha hn htk hm) I.kIn J e (fun z=>nomatch z) h
end
end L2
namespace L2
open PySem PySem.Spec PyProof.Rows
structure Room (k:Nat) (A:Around):Prop where
 hd:A.handled=none
 dp:A.depth+3 * k+5 < recursionLimit
 un:A.units+16 * k+200 < cLine
theorem Room.mono {j k:Nat} {A:Around} (r:Room k A) (h:j≤k):Room j A:=⟨r.hd,by have:=r.dp; lia,by have:=r.un; lia⟩
theorem Room.deeper {k:Nat} {A:Around} (r:Room (k+1) A) (env:Env):Room k (A.deeper env) :=
 ⟨r.hd,by have:=r.dp; show A.depth+1+3 * k+5 < _; lia,by have:=r.un; show A.units+3+16 * k+200 < _; lia⟩
theorem Room.depth {k:Nat} {A:Around} (r:Room k A):A.depth < recursionLimit:=by have:=r.dp; lia
theorem Room.units {k:Nat} {A:Around} (r:Room k A):A.units+64 < cLine:=by have:=r.un; lia
def tNil:TA:=fun _ H Q=>Q [] H
def tCons (ta:TE) (tr:TA):TA:=fun σ H Q=>ta σ H fun x H1=>tr σ H1 fun xs H2=>Q (x::xs) H2
section
variable {X:Cx} {e:Expr} {es:List Expr} {te:TE} {t:TA} {pos:Pos}
theorem pa_nil:PA X [] tNil:=fun _ _ _ _ H Q I h=>Calls.spliced_nil ⟨[],H,I,.nil,h⟩
theorem pa_cons (ha:PE X e te) (hr:PA X es t) (hs:starEach (e::es) X.env=(false,eval e X.env)::starEach es X.env:=by rfl):PA X (e::es) (tCons te t):=by
 intro pos pins s σ H Q I h
 rw [hs]
 show wpAny _ _ (spliced ((false,eval e X.env)::backTo pos (starEach es X.env))) _ _ s
 refine Calls.spliced_cons (thn (ha pins s σ H _ I h) fun u s1 ⟨x,H1,I1,r1,q1⟩=>?_)
 exact thn (hr pos pins s1 σ H1 _ I1 q1) fun us s2 ⟨xs,H2,I2,r2,q2⟩=>⟨x::xs,H2,I2,.cons r1 r2,q2⟩
def tTup (t:TA):TE:=fun σ H Q=>t σ H fun xs H1=>xs.length≤sizeLine∧∀ p,H1 p=none→Q (.ref p) (upd H1 p (.tup xs))
def tLst (t:TA):TE:=fun σ H Q=>t σ H fun xs H1=>xs.length≤sizeLine∧∀ p,H1 p=none→Q (.ref p) (upd H1 p (.lst xs))
theorem pe_tup {x1} (h:PA X es t):PE X (.Tuple es x1 pos) (tTup t):=by
 intro pins s σ H Q I hq
 refine wpAny_Tuple_spliced (thn (h pos pins s σ H _ I hq) fun us s1 ⟨xs,H1,I1,r,z,q⟩=>⟨by rw [← r.length]; exact z,?_⟩)
 have hf:H1 s1.heap.objs.size=none:=I1.hok.fresh (Nat.le_refl _)
 refine ⟨.ref s1.heap.objs.size,upd H1 s1.heap.objs.size (.tup xs),I1.laid (t':=s1.toks) (fun b u e=>Heap.get?_push_of_some _ e) (Nat.le_refl _) ?_,rfl,q _ hf⟩
 exact ⟨z,us,r,⟨_,Heap.get?_push_size _ rfl,rfl,_,rfl⟩⟩
theorem pe_lst (h:PA X es t):PE X (.List es pos) (tLst t):=by
 intro pins s σ H Q I hq
 refine wpAny_List_spliced (thn (h pos pins s σ H _ I hq) fun us s1 ⟨xs,H1,I1,r,z,q⟩=>⟨by rw [← r.length]; exact z,?_⟩)
 have hf:H1 s1.heap.objs.size=none:=I1.hok.fresh (Nat.le_refl _)
 refine ⟨.ref s1.heap.objs.size,upd H1 s1.heap.objs.size (.lst xs),I1.laid (t':=s1.toks) (fun b u e=>Heap.get?_push_of_some _ e) (Nat.le_refl _) ?_,rfl,q _ hf⟩
 exact ⟨z,us,0,r,Heap.get?_push_size _ rfl⟩
end
abbrev Sp:=List V→Hp→VK→XK→Prop
abbrev CXT:=List Env→Hp→Shared→XK→Value→Shared→Prop
structure Env0 (P:Program) (w:World) (K:PySem.W.Frag) (mg:Str→Option Value) (base:Heap) (A:Around) (outer:List Env) (s:Shared) (H:Hp):Prop where
 frames:A.frames=some outer
 mod:Mod K mg base
 bs:∀ b o,base.get? b=some o→s.heap.get? b=some o∧H b=none
 bsz:base.objs.size≤s.heap.objs.size
 funs:s.heap.FunFrames base outer
 frf:∀ b ∈ frs outer,H b=none
 hok:HOk P w H s.heap
 bare:AllBare s.gens
def CE (outer:List Env) (P:Program) (w:World) (H:Hp) (s:Shared) (Q:VK) (u:Value) (s':Shared):Prop :=
 ∃ v H',s'.os=s.os∧AllBare s'.gens∧Un (frs outer) [] H H' s.heap s'.heap∧HOk P w H' s'.heap∧RelV v u∧Q v H'
def CR (CX:CXT) (outer:List Env) (P:Program) (w:World) (H:Hp) (s:Shared) (Q:VK) (E:XK) (r:Result) (s':Shared):Prop :=
 match r with
 | .ok (.ret u)=>CE outer P w H s Q u s'
 | .ok _=>False
 | .error e=>CX outer H s E e s'
structure FnOk (P:Program) (w:World) (K:PySem.W.Frag) (mg:Str→Option Value) (base:Heap) (CX:CXT) (k:Nat) (f:Addr) (fd:FuncData) (ps:List Str) (sp:Sp):Prop where
 len:∀ vs H Q E,sp vs H Q E→vs.length=ps.length
 run:∀ (A:Around) (outer:List Env) (s:Shared) (H:Hp) (args:Args) (us:List Value) (vs:List V) (Q:VK) (E:XK),Room k A→Env0 P w K mg base A outer s H→BindsTo s fd args (ps.zip us)→Vals vs us→sp vs H Q E →
  codeAny (model P w) A (.call (.ref f) args) (CR CX outer P w H s Q E) s
section
variable {X:Cx} {pins:List (Addr × Obj)} {σ:St} {H:Hp} {s s':Shared}
theorem Inv.env0 (I:Inv X pins σ H s):Env0 X.prog X.w X.K X.mg X.base X.A X.stack s H :=
 ⟨I.ok.frames,I.ok.mod,I.bs,Nat.le_trans I.ok.bsz I.sz,I.stack,I.stkFree,I.hok,I.bare⟩
theorem Inv.after {Q:VK} {u:Value} (I:Inv X pins σ H s) (h:CE X.stack X.prog X.w H s Q u s'):EP X pins σ Q u s':=by
 obtain ⟨v,H',os,bare,un,hok,r,q⟩:=h
 obtain ⟨hh,g,d,t,os'⟩:=s'
 obtain rfl:os'=s.os:=os
 exact ⟨v,H',I.call (h':=hh) (g':=g) (d':=d) (t':=t) (ch:=[]) un hok bare (fun b z=>absurd z (by simp)),r,q⟩
end
def tCall (sp:Sp) (dvs:List V) (E:XK) (t:TA):TE:=fun σ H Q=>t σ H fun vs H1=>sp (vs++dvs) H1 Q E
def Binds (K:PySem.W.Frag) (fd:FuncData) (ps:List Str) (ds:List Value):Prop :=
 ∀ (s:Shared) (us:List Value),K.In s.heap→(us++ds).length=ps.length→BindsTo s fd ⟨us,[]⟩ (ps.zip (us++ds))
theorem Binds.all {K:PySem.W.Frag} {fd:FuncData} {ps:List Str} (h:∀ us:List Value,us.length=ps.length→bindArgs fd ⟨us,[]⟩=pure (ps.zip us)):Binds K fd ps []:=fun s us _ hl=>by
 rw [List.append_nil] at hl ⊢
 exact .of_eq (h us hl)
def Passes (CX:CXT) (X:Cx) (E:XK):Prop:=∀ (pins:List (Addr × Obj)) (σ:St) (H:Hp) (s:Shared) (e:Value) (s':Shared),Inv X pins σ H s→CX X.stack H s E e s'→X.xe e s'
section
variable {X:Cx} {CX:CXT} {k:Nat} {f C:Addr} {fd:FuncData} {ps:List Str} {sp:Sp} {dvs:List V} {ds:List Value} {E:XK} {x m:Str} {p pos apos:Pos} {e o:Expr} {es:List Expr} {ta:TE} {t:TA}
theorem run_fn {pins:List (Addr × Obj)} {σ:St} {H:Hp} {s:Shared} {Q:VK} {us:List Value} {vs:List V} (F:FnOk X.prog X.w X.K X.mg X.base CX k f fd ps sp) (hr:Room k X.A) (hb:Binds X.K fd ps ds) (hd:Vals dvs ds) (hx:Passes CX X E)
  (I:Inv X pins σ H s) (r:Vals vs us) (h:sp (vs++dvs) H Q E):wpAny (model X.prog X.w) X.A (call (.ref f) us) (EP X pins σ Q) X.xe s:=by
 have r2:Vals (vs++dvs) (us++ds):=r.append hd
 have hl:(us++ds).length=ps.length:=by rw [← r2.length]; exact F.len _ _ _ _ h
 refine wpAny_call (codeAny_mono (F.run X.A X.stack s H ⟨us,[]⟩ (us++ds) (vs++dvs) Q E hr I.env0 (hb s us I.kIn hl) r2 h) fun r s' hq=>?_)
 cases r with
 | error e=>exact hx pins σ H s e s' I hq
 | ok fl =>
  cases fl with
  | ret u=>exact I.after hq
  | next=>exact False.elim hq
  | brk=>exact False.elim hq
  | cont=>exact False.elim hq
theorem pe_call (F:FnOk X.prog X.w X.K X.mg X.base CX k f fd ps sp) (hr:Room k X.A) (hg:Gl X x) (hm:X.mg x=some (.ref f)) (hk:PySem.W.keepIn X.K (.ref f)=true) (hb:Binds X.K fd ps ds) (hd:Vals dvs ds) (hx:Passes CX X E)
  (ha:PA X (e::es) t) (hdb:(x == ("__debug__" : Str))=false:=by decide) (he:starEach (e::es) X.env=(false,eval e X.env)::starEach es X.env:=by rfl) (hpl:(backTo pos (starEach es X.env)).any (·.1)=false:=by rfl) :
  PE X (.Call (.Name x p) (e::es) [] pos) (tCall sp dvs E t):=by
 intro pins s σ H Q I h
 refine wpAny_Call_Name_kw (ld_glob I hg hm ?_ hdb)
 refine PySem.W.callWith_K (h₀:=X.base) I.ok.mod.kin hk (thn (ha pos pins s σ H _ I h) fun us s1 ⟨vs,H1,I1,r,q⟩=>⟨I1.kIn,?_⟩) he hpl
 exact run_fn F hr hb hd hx I1 r q
end
section
variable {X:Cx} {CX:CXT} {k:Nat} {f C:Addr} {fd:FuncData} {ps ks:List Str} {sp:Sp} {E:XK} {x m:Str} {p pos apos kpos:Pos} {e o:Expr} {es:List Expr} {kws:List Keyword} {te ta:TE} {t tk:TA} {nm:Option Str}
variable {g:List Value→List Value→List Value} {gV:List V→List V→List V}
end
structure FnScope (N P:List Str) (sc:Scope):Prop where
 kind:sc.kind=.function
 co:sc.isCoroutine=false
 gen:sc.isGenerator=false
 nd:N.Nodup
 pre:N.take P.length=P
 par:∀ x ∈ P,sc.names.lookup x=some .local∨sc.names.lookup x=some .cell
 nofree:∀ y ∈ sc.names,y.2≠.free
theorem bindL_out {kindOf:Str→Option NameKind} {x:Str}:∀ {binds:List (Str × Value)} {m:Str→Option Value},(∀ v,(x,v) ∉ binds)→bindL kindOf binds m x=m x
 | [],_,_=>rfl
 | (n,v)::r,m,h=>by
  unfold bindL
  rw [bindL_out fun w hw=>h w (List.mem_cons_of_mem _ hw)]
  split
  ·have:x≠n:=by rintro rfl; exact h v List.mem_cons_self
   simp [this]
  ·rfl
theorem bindC_out {kindOf:Str→Option NameKind} {x:Str}:∀ {binds:List (Str × Value)} {m:Str→Option Value},(∀ v,(x,v) ∉ binds)→bindC kindOf binds m x=m x
 | [],_,_=>rfl
 | (n,v)::r,m,h=>by
  unfold bindC
  rw [bindC_out fun w hw=>h w (List.mem_cons_of_mem _ hw)]
  split
  ·rfl
  ·have:x≠n:=by rintro rfl; exact h v List.mem_cons_self
   simp [this]
theorem bindL_get {kindOf:Str→Option NameKind} {x:Str} {v:Value}:∀ {P:List Str} {vs:List Value} {i:Nat} {m:Str→Option Value},P.Nodup→P[i]?=some x→vs[i]?=some v→kindOf x=some .local →
  bindL kindOf (P.zip vs) m x=some v
 | [],_,_,_,_,h,_,_=>by simp at h
 | _::_,[],_,_,_,_,h,_=>by simp at h
 | p::P,w::vs,0,m,nd,h1,h2,hk=>by
  simp at h1 h2; subst h1; subst h2
  show bindL kindOf ((p,w)::P.zip vs) m p=_
  unfold bindL
  rw [bindL_out fun v hv=>(List.nodup_cons.mp nd).1 (List.of_mem_zip hv).1,if_pos hk]
  simp
 | p::P,w::vs,i+1,m,nd,h1,h2,hk=>by
  show bindL kindOf ((p,w)::P.zip vs) m x=_
  unfold bindL
  exact bindL_get (i:=i) (List.nodup_cons.mp nd).2 (by simpa using h1) (by simpa using h2) hk
theorem bindC_get {kindOf:Str→Option NameKind} {x:Str} {v:Value}:∀ {P:List Str} {vs:List Value} {i:Nat} {m:Str→Option Value},P.Nodup→P[i]?=some x→vs[i]?=some v→kindOf x≠some .local →
  bindC kindOf (P.zip vs) m x=some v
 | [],_,_,_,_,h,_,_=>by simp at h
 | _::_,[],_,_,_,_,h,_=>by simp at h
 | p::P,w::vs,0,m,nd,h1,h2,hk=>by
  simp at h1 h2; subst h1; subst h2
  show bindC kindOf ((p,w)::P.zip vs) m p=_
  unfold bindC
  rw [bindC_out fun v hv=>(List.nodup_cons.mp nd).1 (List.of_mem_zip hv).1,if_neg hk]
  simp
 | p::P,w::vs,i+1,m,nd,h1,h2,hk=>by
  show bindC kindOf ((p,w)::P.zip vs) m x=_
  unfold bindC
  exact bindC_get (i:=i) (List.nodup_cons.mp nd).2 (by simpa using h1) (by simpa using h2) hk
def start (N:List Str) (vs:List V):St:=vs.map some++List.replicate (N.length - vs.length) none
def cxOf (CX:CXT) (P:Program) (w:World) (K:PySem.W.Frag) (mg:Str→Option Value) (base:Heap) (N:List Str) (qual:Str) (scope:Scope) (f:Addr) (cd:Value) (A:Around) (outer:List Env) (s:Shared) (H:Hp) (E:XK):Cx where
 prog:=P
 w:=w
 K:=K
 mg:=mg
 base:=base
 A:=A.deeper (envOfC qual scope s.heap.objs.size f cd)
 N:=N
 s₀:=s
 H₀:=H
 env:=envOfC qual scope s.heap.objs.size f cd
 outer:=outer
 stack:=envOfC qual scope s.heap.objs.size f cd::outer
 ex:=[]
 calm:=true
 fn:=fun _=>true
 pn:=[]
 xe:=fun e s'=>wpAny (model P w) (A.deeper (envOfC qual scope s.heap.objs.size f cd)) (leaving (envOfC qual scope s.heap.objs.size f cd) e) (fun _ s''=>CX outer H s E e s'') (fun e' s''=>CX outer H s E e' s'') s'
theorem cell_has {sc:Scope} {n:Nat} {x:Str} (h:sc.names.lookup x=some .cell):∃ c,(cellsFrom n sc.names []).lookup x=some c:=by
 have q:=PySem.W.cellsFrom_some sc.names n [] (.inl h)
 exact Option.isSome_iff_exists.mp q
theorem inv_start {CX:CXT} {P:Program} {w:World} {K:PySem.W.Frag} {mg:Str→Option Value} {base:Heap} {N ps:List Str} {qual:Str} {scope:Scope} {f:Addr} {cd:Value} {A:Around} {outer:List Env} {s s1:Shared} {H:Hp} {E:XK} {us:List Value} {vs:List V}
  (S:FnScope N ps scope) (hd:A.handled=none) (e0:Env0 P w K mg base A outer s H) (hl:vs.length=ps.length) (r:Vals vs us)
  (x:InCallC s s.heap.objs.size (bindL (envOfC qual scope s.heap.objs.size f cd).kindOf (ps.zip us) fun _=>none) (cellsFrom (s.heap.objs.size+1) scope.names []) (bindC (envOfC qual scope s.heap.objs.size f cd).kindOf (ps.zip us) fun _=>none) s1) :
  Inv (cxOf CX P w K mg base N qual scope f cd A outer s H E) [] (start N vs) H s1:=by
 have hpl:ps.length≤N.length:=by have:=congrArg List.length S.pre; rw [List.length_take] at this; lia
 obtain ⟨h1,tk,rfl,hk⟩:=x.done
 have noA:∀ b:Addr,b ∉ (cxOf CX P w K mg base N qual scope f cd A outer s H E).ex:=fun b z=>absurd (show b ∈ ([]:List Addr) from z) (by simp)
 refine ⟨⟨e0.mod,S.kind,rfl,rfl,Nat.le_refl _,fun y z c h1 h2=>?_,fun y hy=>?_,fun y c _ h=>?_,fun _=>hd,Around.frames_deeper e0.frames,.inr ⟨rfl,rfl⟩,fun b z=>absurd z (noA b),e0.bs,e0.bsz,fun b _ _=>noA b,fun b z=>absurd z (noA b),e0.funs,e0.frf⟩,
  rfl,e0.bare,Un.kept hk,⟨_,x.toInCall.ns,fun i y v h1 h2 h3=>?_⟩,fun y c h=>⟨_,x.cell y c h⟩,e0.hok.fresh (Nat.le_refl _),fun y c h=>?_,fun p hp=>absurd (show p ∈ ([]:List (Addr × Obj)) from hp) (by simp),e0.hok.kept hk,?_⟩
 ·exact name_of_addr x.apart (PySem.mem_of_lookup h1) (PySem.mem_of_lookup h2)
 ·have hy:scope.names.lookup y=some .cell∨scope.names.lookup y=some .free:=hy
  rcases hy with hy | hy
  ·exact cell_has hy
  ·exact absurd rfl (S.nofree _ (PySem.mem_of_lookup hy))
 ·exact Nat.le_of_lt (x.above y c (PySem.mem_of_lookup h))
 ·have hi:i < vs.length:=by
   unfold start at h2
   by_cases hi:i < vs.length
   ·exact hi
   ·rw [List.getElem?_append_right (by simpa using hi)] at h2
    rw [List.getElem?_replicate] at h2
    split at h2 <;> cases h2
  have ha:vs[i]?=some v:=by
   unfold start at h2
   rw [List.getElem?_append_left (by simpa using hi),List.getElem?_map] at h2
   cases e:vs[i]? with
   | none=>rw [e] at h2; cases h2
   | some a=>rw [e] at h2; cases h2; rfl
  obtain ⟨u,hu,rv⟩:=r.get ha
  have hp:ps[i]?=some y:=by
   rw [← S.pre,List.getElem?_take_of_lt (by lia)]; exact h1
  have ndP:ps.Nodup:=by rw [← S.pre]; exact S.nd.sublist (List.take_sublist _ _)
  refine ⟨u,rv,?_⟩
  rcases S.par y (List.mem_of_getElem? hp) with k | k
  ·exact .inl ⟨k,bindL_get ndP hp hu k⟩
  ·obtain ⟨c,e⟩:=cell_has (n:=s.heap.objs.size+1) k
   refine .inr ⟨.inl k,c,e,?_⟩
   have q:=x.cell y c e
   rw [bindC_get ndP hp hu (by show scope.names.lookup y≠_; rw [k]; decide)] at q
   exact q
 ·exact e0.hok.fresh (Nat.le_of_lt (x.above y c (PySem.mem_of_lookup h)))
 ·unfold start
  show _=N.length
  rw [List.length_append,List.length_map,List.length_replicate]
  lia
theorem fn_of {CX:CXT} {P:Program} {w:World} {K:PySem.W.Frag} {mg:Str→Option Value} {base:Heap} {k:Nat} {f:Addr} {name qual:Str} {params:Arguments} {body:List Stmt} {scope:Scope} {dV kV doc pm cdv ct oc:Value} {an od:Option Addr}
  {osl:Array (Option Value)} {N ps:List Str} {sp:Sp} (lk:K.lookup f=some ⟨oc,od,.func (PySem.W.fnOf name qual params body scope dV kV doc pm an cdv ct),osl⟩) (hcd:PySem.W.codeIn K cdv qual=true) (S:FnScope N ps scope)
  (len:∀ vs H Q E,sp vs H Q E→vs.length=ps.length)
  (hbody:∀ (A:Around) (outer:List Env) (s:Shared) (H:Hp) (vs:List V) (Q:VK) (E:XK),Room k (A.deeper (envOfC qual scope s.heap.objs.size f cdv))→sp vs H Q E →
   ∃ t,PSs (cxOf CX P w K mg base N qual scope f cdv A outer s H E) body t∧t { nx:=fun _ H'=>Q .non H',rt:=Q } (start N vs) H) :
  FnOk P w K mg base CX (k+1) f (PySem.W.fnOf name qual params body scope dV kV doc pm an cdv ct) ps sp:=by
 refine ⟨len,fun A outer s H args us vs Q E hr e0 hb r hsp=>?_⟩
 have hl:=len _ _ _ _ hsp
 have KX:K.In s.heap:=e0.mod.kin.keeps fun b o e=>(e0.bs b o e).1
 have lim:s.heap.NoLimit:=e0.mod.nolimit.keeps fun b o e=>(e0.bs b o e).1
 have hkind:∀ y ∈ ps.zip us,scope.names.lookup y.1=some .local∨(scope.names.lookup y.1=some .cell∧((cellsFrom (s.heap.objs.size+1) scope.names []).lookup y.1).isSome=true):=fun hq81 hy=>by
  obtain ⟨n,v⟩:=hq81
  rcases S.par n (List.of_mem_zip hy).1 with q | q
  ·exact .inl q
  ·exact .inr ⟨q,PySem.W.cellsFrom_some _ _ _ (.inl q)⟩
 refine codeAny_call_function hr.depth (KX _ _ lk) rfl S.co S.gen rfl (PySem.W.codeRec_of KX hcd) (hb _ _ _ _ ?_)
 refine wpAny_newFunctionEnv_cells S.kind hkind fun env he s1 x=>?_
 subst he
 refine ⟨lim.keeps x.toInCall.keep,codeAny_func ?_⟩
 obtain ⟨t,ht,hq⟩:=hbody A outer s H vs Q E (hr.deeper _) hsp
 have I:Inv (cxOf CX P w K mg base N qual scope f cdv A outer s H E) [] (start N vs) H s1:=inv_start S hr.hd e0 hl r x
 refine wpAny_mono (ht [] s1 (start N vs) H _ I hq) (fun fl s' hs=>?_) fun e s' hs=>hs
 have fin:∀ {σ':St} {H':Hp} {v:V} {u:Value},Inv (cxOf CX P w K mg base N qual scope f cdv A outer s H E) [] σ' H' s'→RelV v u→Q v H'→CE outer P w H s Q u s' :=
  fun {σ' H' v u} J rv q=>⟨v,H',J.os,J.bare,J.base,J.hok,rv,q⟩
 cases fl with
 | ret u =>
  obtain ⟨v,σ',H',J,rv,q⟩:=hs
  exact fin J rv q
 | next =>
  obtain ⟨σ',H',J,q⟩:=hs
  exact fin (v:=V.non) (u:=Value.none) J rfl q
 | brk =>
  obtain ⟨_,_,_,q⟩:=hs
  exact False.elim q
 | cont =>
  obtain ⟨_,_,_,q⟩:=hs
  exact False.elim q
end L2
namespace L2
open PySem PySem.Spec PyProof.Rows
section
variable {X:Cx} {x:Str} {p pos:Pos} {e:Expr} {es:List Expr} {t:TA} {id T:String} {r:List V→Hp→VK→Prop}
def tCB (r:List V→Hp→VK→Prop) (t:TA):TE:=fun σ H Q=>t σ H fun vs H1=>r vs H1 Q
theorem pe_callB (hc:CallR X (.builtin id) r) (hg:Gl X x) (hm:X.mg x=none) (hv:bootBuiltins x=some (.builtin id)) (ha:PA X (e::es) t) (hn:x≠"__name__" := by decide) (hdb:(x == ("__debug__" : Str))=false:=by decide)
  (he:starEach (e::es) X.env=(false,eval e X.env)::starEach es X.env:=by rfl) (hpl:(backTo pos (starEach es X.env)).any (·.1)=false:=by rfl):PE X (.Call (.Name x p) (e::es) [] pos) (tCB r t):=by
 intro pins s σ H Q I h
 refine wpAny_Call_Name_kw (ld_blt I hg hm hv ?_ hn hdb)
 exact PyProof.Rows.callWith_builtin1 (thn (ha pos pins s σ H _ I h) fun us s1 hq82=>by obtain ⟨vs,H1,I1,r1,q1⟩:=hq82; exact hc pins s1 σ H1 vs us Q I1 r1 q1) he hpl
theorem pe_callTy (hc:CallR X (.type T) r) (hg:Gl X x) (hm:X.mg x=none) (hv:bootBuiltins x=some (.type T)) (ha:PA X (e::es) t) (hn:x≠"__name__" := by decide) (hdb:(x == ("__debug__" : Str))=false:=by decide)
  (he:starEach (e::es) X.env=(false,eval e X.env)::starEach es X.env:=by rfl) (hpl:(backTo pos (starEach es X.env)).any (·.1)=false:=by rfl):PE X (.Call (.Name x p) (e::es) [] pos) (tCB r t):=by
 intro pins s σ H Q I h
 refine wpAny_Call_Name_kw (ld_blt I hg hm hv ?_ hn hdb)
 exact PyProof.Rows.callWith_type1 (thn (ha pos pins s σ H _ I h) fun us s1 hq83=>by obtain ⟨vs,H1,I1,r1,q1⟩:=hq83; exact hc pins s1 σ H1 vs us Q I1 r1 q1) he hpl
end
end L2
namespace HT
open PySem PyProof.Rows
def lexLt:List Int→List Int→Bool
 | [],[]=>false
 | [],_::_=>true
 | _::_,[]=>false
 | x::xs,y::ys=>if x=y then lexLt xs ys else decide (x < y)
theorem lexLt_cons (x y:Int) (xs ys:List Int):lexLt (x::xs) (y::ys)=if x=y then lexLt xs ys else decide (x < y):=rfl
theorem rcLt_int (A:Around) (s:Shared) (a:Int) (t:Tok) (c:Int) (u:Tok) (prog:Program) (w:World) (E:Value→Shared→Prop) (Q:Value→Shared→Prop) (h:Q (.bool (decide (a < c))) s) :
  wpAny (model prog w) A (richCompare .Lt (.int a t) (.int c u)) Q E s :=
 (PyProof.Rows.lt_int h:wpAny (model prog w) A (compareOp .Lt (.int a t) (.int c u)) Q E s)
section
open PySem.SeqAt
open PySem.AutoSeq1 (wpAny_loadPart')
open PySem.MeetsSeq PySem.MeetsSeq2 PySem.MeetsSeq3
end
section
variable {prog:Program} {w:World} {A:Around} {E:Value→Shared→Prop} {s:Shared}
def sIx (n d:Nat):Option Int→Nat
 | none=>d
 | some v=>if v < 0 then (v+(n:Int)).toNat else min v.toNat n
end
end HT
namespace L2
open PySem PySem.Spec PyProof.Rows
abbrev TO:=St→Hp→(Option Int→Hp→Prop)→Prop
def PO (X:Cx) (e:Option Expr) (t:TO):Prop :=
 ∀ (pins:List (Addr × Obj)) (s:Shared) (σ:St) (H:Hp) (Q:Option Int→Hp→Prop),Inv X pins σ H s→t σ H Q →
  wpAny (model X.prog X.w) X.A (evalPart e X.env) (fun u s'=>∃ o H',Inv X pins σ H' s'∧IsPart u o∧Q o H') X.xe s
def tNoPart:TO:=fun _ H Q=>Q none H
def tPart (t:TE):TO:=fun σ H Q=>t σ H fun x H1=>∃ i,x=.int i∧Q (some i) H1
theorem intsAre_of {ns:List Int}:∀ {us:List Value},Vals (ns.map V.int) us→IntsAre us ns:=by
 induction ns with
 | nil=>intro us r; rw [List.map_nil] at r; cases r; exact .nil
 | cons n ns ih =>
  intro us r
  rw [List.map_cons] at r
  cases r with
  | cons r1 r2 =>
   obtain ⟨t,e⟩:=r1
   subst e
   exact .cons n t (ih r2)
section
variable {X:Cx} {e:Expr} {te:TE} {lo hi:Option Expr} {tl th:TO} {pos p2:Pos}
theorem po_none:PO X none tNoPart:=by
 intro pins s σ H Q I h
 rw [evalPart_none]
 exact wpAny_pure ⟨none,H,I,.none,h⟩
theorem po_some (h:PE X e te):PO X (some e) (tPart te):=by
 intro pins s σ H Q I hw
 rw [evalPart_some]
 refine thn (h pins s σ H _ I hw) fun u s1 ⟨x,H1,I1,r1,q1⟩=>?_
 obtain ⟨i,rfl,q⟩:=q1
 obtain ⟨t,rfl⟩:=r1
 exact ⟨some i,H1,I1,.int i t,q⟩
def SlR (X:Cx) (r:V→Option Int→Option Int→Hp→VK→Prop):Prop :=
 ∀ (pins:List (Addr × Obj)) (s:Shared) (σ:St) (H:Hp) (x:V) (v vl vu:Value) (lo hi:Option Int) (sl:Addr) (Q:VK),Inv X pins σ H s→RelV x v→s.heap.IsSliceOf sl vl vu .none→IsPart vl lo→IsPart vu hi→r x lo hi H Q →
  ∃ T id,typeLookup (.type T) "__getitem__" = pure (some (.builtin id))∧s.TypeIs v T∧wpAny (model X.prog X.w) X.A (getItem v (.ref sl)) (EP X pins σ Q) X.xe s
def tSl (r:V→Option Int→Option Int→Hp→VK→Prop) (te:TE) (tl th:TO):TE:=fun σ H Q=>te σ H fun x H1=>tl σ H1 fun l H2=>th σ H2 fun u H3=>r x l u H3 Q
theorem pe_slice {r:V→Option Int→Option Int→Hp→VK→Prop} (hr:SlR X r) (he:PE X e te) (hl:PO X lo tl) (hu:PO X hi th):PE X (.Subscript e (.Slice lo hi none p2) pos) (tSl r te tl th):=by
 intro pins s σ H Q I h
 refine Subscript_ (thn (he pins s σ H _ I h) fun v s1 ⟨x,H1,I1,r1,q1⟩=>?_)
 refine wpAny_Slice (thn (hl pins s1 σ H1 _ I1 q1) fun vl s2 ⟨l,H2,I2,pl,q2⟩=>thn (hu pins s2 σ H2 _ I2 q2) fun vu s3 ⟨u,H3,I3,pu,q3⟩=>?_)
 rw [evalPart_none]
 refine wpAny_pure ?_
 have I4:Inv X pins σ H3 { s3 with heap:=s3.heap.push { cls:=.type "slice",data:=.fields #[vl,vu,.none] } }:=I3.kept (t':=s3.toks) fun b ob q=>Heap.get?_push_of_some _ q
 obtain ⟨T,id,hT,ht,hg⟩:=hr pins { s3 with heap:=s3.heap.push { cls:=.type "slice",data:=.fields #[vl,vu,.none] } } σ H3 x v vl vu l u s3.heap.objs.size Q I4 r1 (Heap.IsSliceOf.new ..) pl pu q3
 show wpAny (model X.prog X.w) X.A (subscriptTail e (.Slice lo hi none p2) v (.ref s3.heap.objs.size)) (EP X pins σ Q) X.xe { s3 with heap:=s3.heap.push { cls:=.type "slice",data:=.fields #[vl,vu,.none] } }
 exact tail_any (ops:=[.ref s3.heap.objs.size,v]) ht hT hg (by with_unfolding_all rfl)
def cutV (xs:List V) (lo hi:Option Int):List V:=(xs.drop (HT.sIx xs.length 0 lo)).take (HT.sIx xs.length xs.length hi - HT.sIx xs.length 0 lo)
theorem cutV_length (xs:List V) (lo hi:Option Int):(cutV xs lo hi).length≤xs.length:=by
 unfold cutV
 rw [List.length_take,List.length_drop]
 lia
end
end L2
namespace L2
open PySem PySem.Spec PyProof.Rows
def ixN (n:Nat) (i:Int):Option Nat:=if 0≤i then (if i < n then some i.toNat else none) else if -(n:Int)≤i then some (i+n).toNat else none
def atI {α:Type} (xs:List α) (i:Int):Option α:=(ixN xs.length i).bind fun j=>xs[j]?
theorem ixN_seq {n:Nat} {i:Int} {j:Nat} (h:ixN n i=some j):seqIndex? i n=some j∧j < n∧-(n:Int)≤i∧i < n:=by
 unfold ixN at h
 by_cases h0:0≤i
 ·rw [if_pos h0] at h
  by_cases h1:i < n
  ·rw [if_pos h1] at h
   have e:i.toNat=j:=Option.some.inj h
   exact ⟨by rw [seqIndex_of h0 h1,e],by lia,by lia,h1⟩
  ·rw [if_neg h1] at h; cases h
 ·rw [if_neg h0] at h
  by_cases h1:-(n:Int)≤i
  ·rw [if_pos h1] at h
   have e:(i+n).toNat=j:=Option.some.inj h
   exact ⟨by rw [seqIndex_neg (by lia) h1,e],by lia,h1,by lia⟩
  ·rw [if_neg h1] at h; cases h
theorem atI_get {α:Type} {xs:List α} {i:Int} {v:α} (h:atI xs i=some v):∃ j,seqIndex? i xs.length=some j∧xs[j]?=some v∧j < xs.length∧-(xs.length:Int)≤i∧i < xs.length:=by
 unfold atI at h
 cases e:ixN xs.length i with
 | none=>rw [e] at h; cases h
 | some j =>
  rw [e] at h
  obtain ⟨h1,h2,h3,h4⟩:=ixN_seq e
  exact ⟨j,h1,h,h2,h3,h4⟩
def PlainIx (b:Expr):Prop:=∀ o i,subscripted b false o i=operate [o,i] (getItem o i)
def IxR (X:Cx) (r:R2):Prop :=
 ∀ (value slice:Expr) (pins:List (Addr × Obj)) (s:Shared) (σ:St) (H:Hp) (x y:V) (v u:Value) (Q:VK),Inv X pins σ H s→RelV x v→RelV y u→r x y H Q →
  subscripted slice false v u=operate [v,u] (getItem v u)→wpAny (model X.prog X.w) X.A (subscriptTail value slice v u) (EP X pins σ Q) X.xe s
def MtR (X:Cx) (id:String) (r:V→List V→Hp→VK→Prop):Prop :=
 ∀ (pins:List (Addr × Obj)) (s:Shared) (σ:St) (H:Hp) (x:V) (xs:List V) (v:Value) (us:List Value) (Q:VK),Inv X pins σ H s→RelV x v→Vals xs us→r x xs H Q →
  wpAny (model X.prog X.w) X.A (call (.builtin id) (v::us)) (EP X pins σ Q) X.xe s
section
variable {X:Cx} {a b:Expr} {ta tb:TE} {pos:Pos}
theorem pe_ix {r:R2} (hr:IxR X r) (ha:PE X a ta) (hb:PE X b tb) (hs:PlainIx b):PE X (.Subscript a b pos) (tOp r ta tb):=by
 intro pins s σ H Q I h
 exact Subscript_ (binT ha hb I h fun v u s2 x y H2 I2 rx ry q=>hr a b pins s2 σ H2 x y v u Q I2 rx ry q (hs _ _))
def rIxL (K:PySem.W.Frag):R2:=fun x y H Q=>∃ p xs i v,x=.ref p∧y=.int i∧SqL K H p xs∧atI xs i=some v∧Q v H
def rIxT (K:PySem.W.Frag):R2:=fun x y H Q=>∃ p xs i v,x=.ref p∧y=.int i∧SqT K H p xs∧atI xs i=some v∧Q v H
theorem ix_list:IxR X (rIxL X.K):=by
 intro value slice pins s σ H x y v u Q I rx ry h hs
 obtain ⟨p,xs,i,z,rfl,rfl,hq,he,q⟩:=h
 cases rx
 obtain ⟨t,rfl⟩:=ry
 obtain ⟨its,r,pl,hz⟩:=I.list hq
 obtain ⟨j,h1,h2,h3,h4,h5⟩:=atI_get he
 obtain ⟨w,ew,rw'⟩:=r.get h2
 have hl:=r.length
 have hn:=line63
 have fin:EP X pins σ Q w s:=⟨z,H,I,rw',q⟩
 by_cases h0:0≤i
 ·have hj:i.toNat=j:=by
   rw [seqIndex_of h0 h5] at h1
   exact Option.some.inj h1
  exact item_listR pl.isList h0 (by lia) (by rw [hj]; simpa using ew) fin hs
 ·have hj:(i+(its.toArray.size:Int)).toNat=j:=by
   rw [seqIndex_neg (by lia) h4] at h1
   rw [List.size_toArray,← hl]
   exact Option.some.inj h1
  exact subscriptTail_builtinR (x:=w) pl.isList.typeIs slot_list_getitem.lookup
   (wpAny_getItem_list_neg (Q:=fun r s'=>r=w∧EP X pins σ Q r s') pl.isList (by lia) (by rw [List.size_toArray] <;> lia) (by lia) (by rw [hj]; simpa using ew) ⟨rfl,fin⟩) hs
theorem ix_tup:IxR X (rIxT X.K):=by
 intro value slice pins s σ H x y v u Q I rx ry h hs
 obtain ⟨p,xs,i,z,rfl,rfl,hq,he,q⟩:=h
 cases rx
 obtain ⟨t,rfl⟩:=ry
 obtain ⟨its,r,pl,hz⟩:=I.tuple hq
 obtain ⟨j,h1,h2,h3,h4,h5⟩:=atI_get he
 obtain ⟨w,ew,rw'⟩:=r.get h2
 have hl:=r.length
 have hn:=line63
 have fin:EP X pins σ Q w s:=⟨z,H,I,rw',q⟩
 exact subscriptTail_builtinR (x:=w) pl.typeIs slot_tuple_getitem.lookup
  (getItem_tuple (j:=j) (Q:=fun r s'=>r=w∧EP X pins σ Q r s') pl (by lia) (by lia) (by rw [List.size_toArray,← hl]; exact h1) (by simpa using ew) ⟨rfl,fin⟩) hs
theorem mapSeq_set (its:List Value) (n j:Nat) (u:Value):Obj.mapSeq (·.setIfInBounds j u) { cls:=.type "list",data:=.seq its.toArray n }={ cls:=.type "list",data:=.seq (its.set j u).toArray n }:=by
 simp [Obj.mapSeq]
theorem Inv.lst {pins:List (Addr × Obj)} {σ:St} {H:Hp} {s:Shared} {p:Addr} {xs:List V} (I:Inv X pins σ H s) (h:H p=some (.lst xs)) :
  ∃ (its:List Value) (n:Nat),Vals xs its∧s.heap.get? p=some { cls:=.type "list",data:=.seq its.toArray n }∧xs.length≤sizeLine:=by
 obtain ⟨z,its,n,r,e⟩:=I.hok p _ h
 exact ⟨its,n,r,e,z⟩
theorem Inv.lstUpd {pins:List (Addr × Obj)} {σ:St} {H:Hp} {s:Shared} {p:Addr} {xs ys:List V} {its its':List Value} {n n':Nat} {f:Obj→Obj} (I:Inv X pins σ H s) (h:H p=some (.lst xs))
  (ho:s.heap.get? p=some { cls:=.type "list",data:=.seq its.toArray n }) (hf:f { cls:=.type "list",data:=.seq its.toArray n }={ cls:=.type "list",data:=.seq its'.toArray n' }) (r:Vals ys its') (hz:ys.length≤sizeLine) (t:Nat) :
  Inv X pins σ (upd H p (.lst ys)) { s with heap:=s.heap.update p f,toks:=t }:=by
 have e:(s.heap.update p f).get? p=some { cls:=.type "list",data:=.seq its'.toArray n' }:=by
  rw [Heap.get?_update_self f ho (by rw [hf] <;> rfl),hf]
 refine I.write (x:=p) (e:=p) (by rw [h]; trivial) (.inl rfl) (fun b u hb q=>(Heap.get?_update_other _ _ (Ne.symm hb)).trans q) ⟨_,e⟩ ?_
 exact ⟨hz,its',n',r,e⟩
def rSetL:V→V→V→Hp→(Hp→Prop)→Prop:=fun o i v H Q=>∃ p xs k j,o=.ref p∧i=.int k∧H p=some (.lst xs)∧ixN xs.length k=some j∧Q (upd H p (.lst (xs.set j v)))
theorem set_list:PSet X rSetL:=by
 intro pins s σ H o i v ov iv u Q I ro ri rv h
 obtain ⟨p,xs,k,j,rfl,rfl,hp,hj,q⟩:=h
 cases ro
 obtain ⟨t,rfl⟩:=ri
 obtain ⟨its,n,r,ho,hz⟩:=I.lst hp
 obtain ⟨h1,h2,h3,h4⟩:=ixN_seq hj
 have hl:=r.length
 have hn:=line63
 have I':Inv X pins σ (upd H p (.lst (xs.set j v))) { s with heap:=s.heap.update p (Obj.mapSeq (·.setIfInBounds j u)) } :=
  I.lstUpd hp ho (mapSeq_set its n j u) (r.set rv j) (by rw [List.length_set]; exact hz) s.toks
 by_cases h0:0≤k
 ·have hk:k.toNat=j:=by
   rw [seqIndex_of h0 h4] at h1
   exact Option.some.inj h1
  exact PySem.W.ki_setAt ho h0 (by lia) (by rw [List.size_toArray,← hl]; exact h4) (by rw [hk]; exact ⟨_,I',q⟩)
 ·have hk:(k+(its.toArray.size:Int)).toNat=j:=by
   rw [seqIndex_neg (by lia) h3] at h1
   rw [List.size_toArray,← hl]
   exact Option.some.inj h1
  exact PySem.W.ki_setBack ho (by lia) (by rw [List.size_toArray,← hl]; exact h3) (by lia) (by rw [hk]; exact ⟨_,I',q⟩)
theorem slice_bounds (lo hi:Option Int) (n:Nat):(sliceBounds lo hi none n).1=((HT.sIx n 0 lo:Nat):Int)∧(sliceBounds lo hi none n).2.1=((HT.sIx n n hi:Nat):Int)∧(sliceBounds lo hi none n).2.2=1:=by
 refine ⟨?_,?_,rfl⟩
 ·cases lo with
  | none=>simp [sliceBounds,HT.sIx]
  | some i =>
   simp only [sliceBounds,HT.sIx,Option.getD_none,show (1:Int) > 0 by decide,if_true]
   by_cases h:i < 0
   ·simp only [h,if_true] <;> lia
   ·simp only [h,if_false] <;> lia
 ·cases hi with
  | none=>simp [sliceBounds,HT.sIx]
  | some i =>
   simp only [sliceBounds,HT.sIx,Option.getD_none,show (1:Int) > 0 by decide,if_true]
   by_cases h:i < 0
   ·simp only [h,if_true] <;> lia
   ·simp only [h,if_false] <;> lia
theorem slicePick_cut (its:List Value) (lo hi:Option Int):slicePick its.toArray lo hi none=((its.drop (HT.sIx its.length 0 lo)).take (HT.sIx its.length its.length hi - HT.sIx its.length 0 lo)).toArray:=by
 obtain ⟨h1,h2,h3⟩:=slice_bounds lo hi its.toArray.size
 unfold slicePick
 rw [h1,h2,h3]
 simp only [sliceRange_one,pick_run,List.size_toArray] <;> rfl
def rSlL (K:PySem.W.Frag):V→Option Int→Option Int→Hp→VK→Prop:=fun x lo hi H Q=>∃ a xs,x=.ref a∧SqL K H a xs∧∀ p,H p=none→Q (.ref p) (upd H p (.lst (cutV xs lo hi)))
theorem sl_list:SlR X (rSlL X.K):=by
 intro pins s σ H x v vl vu lo hi sl Q I rx hs pl pu h
 obtain ⟨a,xs,rfl,hx,q⟩:=h
 cases rx
 obtain ⟨its,r,ht,hz⟩:=I.list hx
 have hlen:=r.length
 refine ⟨"list",_,slot_list_getitem.lookup,ht.isList.typeIs,?_⟩
 refine wpAny_getItem_list_slice ht.isList hs pl pu .none (by simp) ?_ (by rw [List.size_toArray] <;> lia)
 rw [slicePick_cut,← hlen]
 refine ⟨.ref s.heap.objs.size,_,I.laid (t':=s.toks) (o:=.lst (cutV xs lo hi)) (fun b ob q=>Heap.get?_push_of_some _ q) (Nat.le_refl _) ?_,rfl,q _ (I.hok.fresh (Nat.le_refl _))⟩
 exact ⟨Nat.le_trans (cutV_length xs lo hi) hz,_,0,(r.drop (HT.sIx xs.length 0 lo)).take (HT.sIx xs.length xs.length hi - HT.sIx xs.length 0 lo),Heap.get?_push_size _ rfl⟩
theorem call_len_seq:CallR X (.builtin "len") (fun xs H Q=>∃ p ys,xs=[.ref p]∧(SqL X.K H p ys∨SqT X.K H p ys)∧Q (.int ys.length) H):=by
 intro pins s σ H xs us Q I r h
 obtain ⟨p,ys,rfl,hq,q⟩:=h
 obtain ⟨u,rfl,rx⟩:=vals1 r
 cases rx
 have hn:=line63
 rcases hq with hq | hq
 ·obtain ⟨its,r',pl,hz⟩:=I.list hq
  have hlen:=r'.length
  exact Calls.call_len_list pl.isList (by simp only [List.size_toArray] <;> lia) ⟨.int ys.length,H,I.tok _,⟨s.toks+1,by rw [List.size_toArray,hlen]⟩,q⟩
 ·obtain ⟨its,r',pl,hz⟩:=I.tuple hq
  have hlen:=r'.length
  exact len_tuple pl (by simp only [List.size_toArray] <;> lia) ⟨.int ys.length,H,I.tok _,⟨s.toks+1,by rw [List.size_toArray,hlen]⟩,q⟩
theorem call_list_of:CallR X (.type "list") (fun xs H Q=>∃ p ys,xs=[.ref p]∧(SqL X.K H p ys∨SqT X.K H p ys)∧∀ l,H l=none→Q (.ref l) (upd H l (.lst ys))):=by
 intro pins s σ H xs us Q I r h
 obtain ⟨p,ys,rfl,hq,q⟩:=h
 obtain ⟨u,rfl,rx⟩:=vals1 r
 cases rx
 have fin:∀ (its:List Value),Vals ys its→ys.length≤sizeLine→∀ (h':Heap) (c':Nat),(∀ b o',s.heap.get? b=some o'→h'.get? b=some o') →
   h'.get? s.heap.objs.size=some { cls:=.type "list",dict:=none,data:=.seq its.toArray c',slots:=#[] }→EP X pins σ Q (.ref s.heap.objs.size) { s with heap:=h' }:=fun its r' hz h' c' kp e =>
  ⟨.ref s.heap.objs.size,_,I.laid (t':=s.toks) kp (Nat.le_refl _) (show ObjOk X.prog X.w _ h' _ (.lst ys) from ⟨hz,its,c',r',e⟩),rfl,q _ (I.hok.fresh (Nat.le_refl _))⟩
 rcases hq with hq | hq
 ·obtain ⟨its,r',pl,hz⟩:=I.list hq
  have hlen:=r'.length
  obtain ⟨o,ho,hc,n,hd⟩:=pl.isList
  exact call_list_seq p (.inl rfl) ho hc hd (fun h' c' kp e=>fin its r' hz h' c' kp e) (by simp only [List.size_toArray] <;> lia)
 ·obtain ⟨its,r',pl,hz⟩:=I.tuple hq
  have hlen:=r'.length
  obtain ⟨o,ho,hc,n,hd⟩:=pl
  exact call_list_seq p (.inr rfl) ho hc hd (fun h' c' kp e=>fin its r' hz h' c' kp e) (by simp only [List.size_toArray] <;> lia)
def tyV (K:PySem.W.Frag) (T:String) (x:V) (H:Hp):Prop:=match x with
 | .str _=>T="str"
 | .int _=>T="int"
 | .ref p=>(T="list" ∧ ∃ xs,SqL K H p xs)∨(T="tuple" ∧ ∃ o,K.lookup p=some o∧o.cls=.type "tuple" ∧ o.dict=none) ∨
   (T="dict" ∧ ((∃ kvs,H p=some (.dK kvs))∨∃ kvs,H p=some (.dT kvs)))∨(T="set" ∧ ∃ S n,H p=some (.set S n))
 | _=>False
theorem tyV_is {pins:List (Addr × Obj)} {σ:St} {H:Hp} {s:Shared} {T:String} {x:V} {v:Value} (I:Inv X pins σ H s) (r:RelV x v) (ty:tyV X.K T x H) :
  s.TypeIs v T∧∀ a,v=.ref a→∃ ob,s.heap.get? a=some ob∧ob.dict=none:=by
 cases x with
 | str z =>
  obtain ⟨t,rfl⟩:=r
  cases (show T="str" from ty)
  exact ⟨typeIs_str s z t,fun _ e=>nomatch e⟩
 | int i =>
  obtain ⟨t,rfl⟩:=r
  cases (show T="int" from ty)
  exact ⟨typeIs_int s i t,fun _ e=>nomatch e⟩
 | ref p =>
  cases r
  rcases ty with ⟨rfl,xs,hq⟩ | ⟨rfl,o,hk,hc,hd⟩ | ⟨rfl,hk⟩ | ⟨rfl,S,n,hk⟩
  ·obtain ⟨its,_,pl,_⟩:=I.list hq
   refine ⟨pl.isList.typeIs,fun a e=>?_⟩
   cases e
   obtain ⟨o,n,e,c,hd,_⟩:=pl
   exact ⟨o,e,hd⟩
  ·refine ⟨⟨o,I.kIn p o hk,hc⟩,fun a e=>?_⟩
   cases e
   exact ⟨o,I.kIn _ o hk,hd⟩
  ·have z:∃ o,s.heap.get? p=some o∧o.ExactDict:=by
    rcases hk with ⟨kvs,hk⟩ | ⟨kvs,hk⟩
    ·obtain ⟨_,_,_,_,o,_,_,e,ex,_⟩:=I.hok p _ hk
     exact ⟨o,e,ex⟩
    ·obtain ⟨_,_,_,_,o,_,_,e,ex,_⟩:=I.hok p _ hk
     exact ⟨o,e,ex⟩
   obtain ⟨o,e,ex⟩:=z
   refine ⟨⟨o,e,ex.1⟩,fun a e2=>?_⟩
   cases e2
   exact ⟨o,e,ex.2.1⟩
  ·obtain ⟨o,_,_,_,e,ex,_⟩:=I.hok p _ hk
   refine ⟨⟨o,e,ex.1⟩,fun a e2=>?_⟩
   cases e2
   exact ⟨o,e,ex.2.1⟩
 | _=>exact False.elim ty
def tBM0 (K:PySem.W.Frag) (T:String) (r:V→List V→Hp→VK→Prop) (to:TE):TE:=fun σ H Q=>to σ H fun x H1=>tyV K T x H1∧r x [] H1 Q
def tBM (K:PySem.W.Frag) (T:String) (r:V→List V→Hp→VK→Prop) (to:TE) (t:TA):TE:=fun σ H Q=>to σ H fun x H1=>tyV K T x H1∧t σ H1 fun xs H2=>r x xs H2 Q
variable {o e:Expr} {es:List Expr} {to:TE} {t:TA} {name:Str} {apos cpos:Pos} {T id:String} {r:V→List V→Hp→VK→Prop}
theorem pe_bm0 (pa:PlainAttrs T) (slot:Slot T name id) (hty:typeOf (.builtin id)=pure (.type "method_descriptor")) (hm:MtR X id r) (ho:PE X o to)
  (hbase:attributeBase o name X.env (eval o X.env)=eval o X.env:=by rfl) (hline:(apos.endLine == cpos.line)=true:=by rfl):PE X (.Call (.Attribute o name apos) [] [] cpos) (tBM0 X.K T r to):=by
 intro pins s σ H Q I h
 refine wpAny_Call_method0_late hbase hline (thn (ho pins s σ H _ I h) fun v s1 ⟨x,H1,I1,r1,ty,q1⟩=>?_)
 obtain ⟨h1,h2⟩:=tyV_is I1 r1 ty
 exact ⟨T,id,pa,slot,hty,h1,h2,Calls.callWith_builtin rfl (PySem.evalArgs_none (hm pins s1 σ H1 x [] v [] Q I1 r1 .nil q1))⟩
theorem pe_bm (pa:PlainAttrs T) (slot:Slot T name id) (hty:typeOf (.builtin id)=pure (.type "method_descriptor")) (hm:MtR X id r) (ho:PE X o to) (ha:PA X (e::es) t)
  (hbase:attributeBase o name X.env (eval o X.env)=eval o X.env:=by rfl)
  (hfew:((backTo cpos (starEach (e::es) X.env)).all (fun x=>!x.1) && (backToKw cpos (keywordEach [] X.env)).all (fun x=>x.1.isSome)
   && decide ((e::es).length+([]:List Keyword).length+(if ([]:List Keyword).isEmpty then 0 else 1) < 30))=true:=by rfl)
  (hline:(apos.endLine == cpos.line)=true:=by rfl) (hs:starEach (e::es) X.env=(false,eval e X.env)::starEach es X.env:=by rfl) (hplain:(backTo cpos (starEach es X.env)).any (·.1)=false:=by rfl) :
  PE X (.Call (.Attribute o name apos) (e::es) [] cpos) (tBM X.K T r to t):=by
 intro pins s σ H Q I h
 refine wpAny_Call_method_late hbase hfew hline rfl (thn (ho pins s σ H _ I h) fun v s1 ⟨x,H1,I1,r1,ty,q1⟩=>?_)
 obtain ⟨h1,h2⟩:=tyV_is I1 r1 ty
 refine ⟨T,id,pa,slot,hty,h1,h2,?_⟩
 have hA:=ha cpos pins s1 σ H1 _ I1 q1
 rw [hs] at hA ⊢
 refine Calls.callWith_builtin (by show (false || (backTo cpos (starEach es X.env)).any (·.1))=false; rw [hplain] <;> rfl) (Calls.evalArgs_plain ?_)
 exact thn hA fun us s2 ⟨vs,H2,I2,r2,q2⟩=>hm pins s2 σ H2 x vs v us Q I2 r1 r2 q2
end
end L2
namespace L2
open PySem PySem.Spec PyProof.Rows
def MtM (X:Cx) (id:String) (r:V→List V→Hp→VK→Prop):Prop :=
 ∀ (pins:List (Addr × Obj)) (s:Shared) (σ:St) (H:Hp) (x:V) (xs:List V) (v:Value) (us:List Value) (Q:VK),Inv X pins σ H s→RelV x v→Vals xs us→r x xs H Q →
  wpAny (model X.prog X.w) X.A (call (.builtin id) (v::us)) (EP X pins σ Q) X.xe s
theorem Vals.one:∀ {x:V} {us:List Value},Vals [x] us→∃ u,us=[u]∧RelV x u
 | _,_,.cons r .nil=>⟨_,rfl,r⟩
theorem Vals.zero:∀ {us:List Value},Vals [] us→us=[]
 | _,.nil=>rfl
theorem Vals.dropLast {xs:List V} {us:List Value} (h:Vals xs us):Vals xs.dropLast us.dropLast:=by
 induction h with
 | nil=>exact .nil
 | cons r t ih =>
  cases t with
  | nil=>exact .nil
  | cons q t'=>exact .cons r ih
theorem erase_last {α:Type} (l:List α):l.eraseIdx (l.length - 1)=l.dropLast:=by
 induction l with
 | nil=>rfl
 | cons a r ih =>
  cases r with
  | nil=>rfl
  | cons b r =>
   have e:(a::b::r).length - 1=((b::r).length - 1)+1:=by
    have h1:(a::b::r).length=r.length+2:=rfl
    have h2:(b::r).length=r.length+1:=rfl
    lia
   rw [e,List.eraseIdx_cons_succ,ih]
   all_goals rfl
section
variable {X:Cx} {pins:List (Addr × Obj)} {σ:St} {H:Hp} {s:Shared} {l b:Addr} {xs ys zs:List V}
theorem Inv.lset {its its':List Value} {n:Nat} {f:Array Value→Array Value} {t':Nat} (I:Inv X pins σ H s) (hH:H l=some (.lst xs))
  (e:s.heap.get? l=some { cls:=.type "list",data:=.seq its.toArray n }) (hf:f its.toArray=its'.toArray) (hv:Vals ys its') (hz:ys.length≤sizeLine) :
  Inv X pins σ (upd H l (.lst ys)) { s with heap:=s.heap.update l (Obj.mapSeq f),toks:=t' }:=by
 have q:=PySem.IsL.update e f
 rw [hf] at q
 refine I.write (x:=l) (e:=l) (by rw [hH]; exact trivial) (.inl rfl) (fun b' u hb hu=>(Heap.get?_update_other s.heap (Obj.mapSeq f) (Ne.symm hb)).trans hu) ⟨_,q⟩ ?_
 exact ⟨hz,its',_,hv,q⟩
theorem Inv.lnew {its:List Value} {t':Nat} (I:Inv X pins σ H s) (hv:Vals ys its) (hz:ys.length≤sizeLine) :
  Inv X pins σ (upd H s.heap.objs.size (.lst ys)) { s with heap:=s.heap.push { cls:=.type "list",data:=.seq its.toArray },toks:=t' } :=
 I.laid (fun _ _ q=>Heap.get?_push_of_some _ q) (Nat.le_refl _) ⟨hz,its,0,hv,Heap.get?_push_size _ rfl⟩
theorem Inv.fresh (I:Inv X pins σ H s):H s.heap.objs.size=none:=I.hok.fresh (Nat.le_refl _)
theorem Inv.lstM (I:Inv X pins σ H s) (hH:H l=some (.lst xs)):xs.length≤sizeLine∧∃ (its:List Value) (n:Nat),Vals xs its∧xs.length=its.length∧s.heap.get? l=some { cls:=.type "list",data:=.seq its.toArray n }:=by
 obtain ⟨z,its,n,r,e⟩:=I.hok l _ hH
 exact ⟨z,its,n,r,r.length,e⟩
end
section
variable {X:Cx}
def rAppend:V→List V→Hp→VK→Prop:=fun x vs H Q=>∃ l xs y,x=.ref l∧vs=[y]∧H l=some (.lst xs)∧xs.length < sizeLine∧Q .non (upd H l (.lst (xs++[y])))
theorem mt_append:MtM X "list.append" rAppend:=by
 intro pins s σ H x vs v us Q I rx rv h
 obtain ⟨l,xs,y,rfl,rfl,hH,hz,q⟩:=h
 cases rx
 obtain ⟨u,rfl,ru⟩:=rv.one
 obtain ⟨z,its,n,r,hl,e⟩:=I.lstM hH
 refine call_meets F.slot_list_append ⟨_,e,rfl⟩ F.entry_list_append (F.args_list_append_2 _ _) (PySem.list_append l its.toArray n u (by rw [List.size_toArray]; lia)) ⟨e,?_⟩
 refine ⟨.non,_,I.lset (its':=its++[u]) hH e (by simp) (r.append (.cons ru .nil)) ?_,rfl,q⟩
 rw [List.length_append,List.length_singleton]
 lia
def rPop:V→List V→Hp→VK→Prop:=fun x vs H Q=>∃ l xs y,x=.ref l∧vs=[]∧H l=some (.lst xs)∧xs[xs.length - 1]?=some y∧Q y (upd H l (.lst xs.dropLast))
theorem mt_pop:MtM X "list.pop" rPop:=by
 intro pins s σ H x vs v us Q I rx rv h
 obtain ⟨l,xs,y,rfl,rfl,hH,hy,q⟩:=h
 cases rx
 have hus:=rv.zero
 subst hus
 obtain ⟨z,its,n,r,hl,e⟩:=I.lstM hH
 obtain ⟨u,hu,ru⟩:=r.get hy
 have hy':its.toArray[its.toArray.size - 1]?=some u:=by
  show its.toArray[its.length - 1]?=some u
  rw [← Array.getElem?_toList,← hl]
  exact hu
 refine call_meets F.slot_list_pop ⟨_,e,rfl⟩ F.entry_list_pop (F.args_list_pop_1 _) (MeetsSeq.list_pop_last l its.toArray n u hy' (by rw [List.size_toArray]; lia)) ⟨e,?_⟩
 refine ⟨y,_,I.lset (its':=its.dropLast) hH e ?_ r.dropLast ?_,ru,q⟩
 ·show its.toArray.eraseIdxIfInBounds (its.toArray.size - 1)=its.dropLast.toArray
  rw [List.size_toArray,List.eraseIdxIfInBounds_toArray,erase_last]
 ·rw [List.length_dropLast]
  lia
def rCat:R2:=fun x y H Q=>∃ l b xs zs,x=.ref l∧y=.ref b∧H l=some (.lst xs)∧H b=some (.lst zs)∧xs.length+zs.length≤sizeLine∧∀ p,H p=none→Q (.ref p) (upd H p (.lst (xs++zs)))
theorem op_cat:OpR X (binaryOp .Add) rCat:=by
 intro pins s σ H x y v u Q I rx ry h
 obtain ⟨l,b,xs,zs,rfl,rfl,hH,hB,hz,q⟩:=h
 cases rx
 cases ry
 obtain ⟨z,its,n,r,hl,e⟩:=I.lstM hH
 obtain ⟨z2,its2,n2,r2,hl2,e2⟩:=I.lstM hB
 refine PySem.P.add_list e e2 ?_ (by rw [List.size_toArray,List.size_toArray]; lia)
 have ea:its.toArray++its2.toArray=(its++its2).toArray:=by simp
 rw [ea]
 exact ⟨.ref _,_,I.lnew (t':=s.toks) (r.append r2) (by rw [List.length_append]; lia),rfl,q _ I.fresh⟩
end
section
variable {prog:Program} {w:World} {A:Around} {E:Value→Shared→Prop} {s:Shared}
end
section
variable {X:Cx}
end
end L2
namespace Att
open PySem PySem.W PySem.Calls PyProof.Rows
theorem ints_of_wellAll {P:Params} {h:Heap}:∀ (ns:List Int) (vs:List Value),WellAll P h vs (ns.map WData.int)→IntsAre vs ns:=by
 intro ns
 induction ns with
 | nil =>
  intro vs w
  rw [List.map_nil] at w
  cases w
  exact .nil
 | cons n ns ih =>
  intro vs w
  rw [List.map_cons] at w
  cases w with
  | cons a b =>
   cases a
   exact .cons _ _ (ih _ b)
theorem script_of {l:OpenLaw} {n:Nat} (hn:l.most=some n) {P:Params} {h:Heap} {args:List WData} {vals:List Value}
  (hpre:l.row.toRowW.claim.pre args=true) (hwl:WellAll P h vals args) :
  ∃ a vs ns,vals=[Value.ref a]∧args=[WData.list (ns.map WData.int)]∧h.get? a=some { cls:=.type "list",data:=.seq vs.toArray }∧IntsAre vs ns∧ns.length≤n:=by
 have hsh:WShape.hasAll [] args [.list .int]=true:=(pre_splitW hpre).1
 have hc:l.pre.holds [] { args:=args }=true:=(pre_splitW hpre).2
 obtain ⟨d,r,rfl,h1,h2⟩:=hasAllW_cons hsh
 obtain rfl:=hasAllW_nil h2
 obtain ⟨xs,rfl,h3⟩:=hasW_list h1
 obtain ⟨ns,rfl⟩:=items_int h3
 have hlen:ns.length≤n:=by
  unfold OpenLaw.pre at hc
  have h4:(WTm.not (.lt (.lit (.int (n:Int))) (.len (.arg 0)))).holds [] { args:=[.list (ns.map .int)] }=true:=by
   have h4:=(holds_andW hc).1
   rw [hn] at h4
   exact h4
  have h5:=condW_of h4 (w_not (w_lt w_lit (w_len_list (w_arg rfl))))
  rw [List.length_map] at h5
  refine Nat.le_of_not_lt fun q=>?_
  have q':(n:Int) < ((ns.length:Nat):Int):=by lia
  first
   | (rw [decide_eq_true q'] at h5; exact absurd h5 (by decide))
   | (simp at h5; lia)
 cases hwl with
 | cons w1 w2 =>
  cases w2
  cases w1 with
  | list ho hall=>exact ⟨_,_,ns,rfl,rfl,ho,ints_of_wellAll ns _ hall,hlen⟩
theorem post_true (l:OpenLaw) (args:List WData):l.row.toRowW.claim.post args (.bool true) args=true :=
 postW_of (r:=l.row.toRowW) (X:=(true == true))
  (show WShape.has [] (.bool true) .bool=true by first | rfl | decide | simp [WShape.has,WShape.arms,WShape.armsAll])
  (show (WTm.eq .res (.lit (.bool true))).value [] { args:=args,res:=some (.bool true),after:=args }=some (.bool (true == true)) from w_eq_bool (w_res rfl) w_lit) rfl
theorem attach_call {l:OpenLaw} {n:Nat} {q:Program} {loose:List Str} {XP:(Str→Option Value)→Heap→Prop} {YP:World→Heap→Prop} {d:DefRec}
  (hn:l.most=some n) (hdf:d.params.defaults=[])
  (call:∀ (w:World) (s₀ s₁:Shared) (mg mb:Str→Option Value) (fa:Addr) (o:Obj) (pm cd doc:Value) (a:Addr) (vs:List Value) (ns:List Int),
   Ground q loose [] XP w s₀ mg mb s₁.heap→YP w s₁.heap →
   s₁.heap.get? fa=some o→o.data=.func (docDef d.name d.params d.body d.scope pm cd doc)→s₁.heap.CodeRec cd d.name→mg d.name=some (.ref fa) →
   s₁.heap.get? a=some { cls:=.type "list",data:=.seq vs.toArray }→IntsAre vs ns→ns.length≤n→s₁.gens=#[] →
   codeAny (model l.prog w) callerA (.call (.ref fa) ⟨[.ref a],[]⟩) (fun r s'=>r=.ok (.ret (.bool true))∧OldK s₁.heap s'.heap∧s'.os=s₁.os∧AllBare s'.gens) s₁) :
  WalkO q loose XP YP l.row.toRowW d [] (fun f vs=>PySem.call f vs):=by
 intro w s₀ s₁ mg mb G Y fa o pm cd doc dV kV ho hd hcd hD hmg hg args vals as hpre hlay hrd hwl hlo
 obtain rfl:dV=.none:=Dflts.none hD hdf
 obtain rfl:kV=.none:=Dflts.noKw hD
 obtain ⟨a,vs,ns,rfl,rfl,hobj,hints,hlen⟩:=script_of hn hpre hwl
 refine enter_call (codeAny_mono (call w s₀ s₁ mg mb fa o pm cd doc a vs ns G Y ho (fd_plain hd) hcd hmg hobj hints hlen hg) fun r s' hq=>?_)
 obtain ⟨rfl,h2,h3,h4⟩:=hq
 exact ⟨.inl ⟨.bool true,.bool true,[],rfl,fun _=>rfl,.bool true,post_true l _,fun _=>⟨List.Pairwise.nil,fun _ hm=>(nomatch hm)⟩⟩,h2,h3,h4⟩
section
variable {prog:Program} {w:World} {A:Around} {E:Value→Shared→Prop} {s:Shared} {K:Frag}
end
end Att
namespace L2
open PySem PySem.Spec PyProof.Rows
theorem vals_ints:∀ {vs:List Value} {ns:List Int},IntsAre vs ns→Vals (ns.map V.int) vs
 | _,_,.nil=>.nil
 | _,_,.cons n t h=>.cons ⟨t,rfl⟩ (vals_ints h)
def Only (H:Hp):Prop:=∀ b,H b=none∨∃ o xs,H b=some (.frz o (.lst xs))
theorem law_call {P:Program} {w:World} {K:PySem.W.Frag} {mg mb:Str→Option Value} {CX:CXT} {k:Nat} {fa a:Addr} {fd:FuncData} {x:Str} {sp:Sp} {s₁:Shared} {vs:List Value} {ns:List Int}
  (KX:K.In s₁.heap) (hns:s₁.heap.Ns mainGlobals mg) (hb:s₁.heap.Ns builtinsNs mb) (hbb:∀ x:Str,x≠"__name__" → mb x=bootBuiltins x) (hlim:s₁.heap.NoLimit) (hg:s₁.gens=#[])
  (ha:s₁.heap.get? a=some { cls:=.type "list",data:=.seq vs.toArray }) (hi:IntsAre vs ns) (hl:ns.length≤sizeLine) (hr:Room k callerA)
  (F:∀ base:Heap,K.In base→base.Ns mainGlobals mg→FnOk P w K mg base CX k fa fd [x] sp) (hbind:∀ (s:Shared) (u:Value),BindsTo s fd ⟨[u],[]⟩ [(x,u)])
  (hsp:∀ H:Hp,Only H→SqL K H a (ns.map V.int)→sp [.ref a] H (fun v _=>v=.bl true) fun _ _ _=>False)
  (hCX:∀ H e s',CX [] H s₁ (fun _ _ _=>False) e s'→False) :
  codeAny (model P w) callerA (.call (.ref fa) ⟨[.ref a],[]⟩) (fun r s'=>r=.ok (.ret (.bool true))∧OldK s₁.heap s'.heap∧s'.os=s₁.os∧AllBare s'.gens) s₁:=by
 have rv:=vals_ints hi
 have lenV:=hi.length
 have core:∀ H:Hp,Only H→SqL K H a (ns.map V.int)→HOk P w H s₁.heap→(∀ b,H b≠none→b=a)→(H a≠none→K.lookup a=none) →
   codeAny (model P w) callerA (.call (.ref fa) ⟨[.ref a],[]⟩) (fun r s'=>r=.ok (.ret (.bool true))∧OldK s₁.heap s'.heap∧s'.os=s₁.os∧AllBare s'.gens) s₁:=by
  intro H hO hS hok hA hK
  have base_of:∀ {b:Addr} {o:Obj},s₁.heap.get? b=some o→H b=none→(hidT s₁.heap H).get? b=some o:=fun e n=>hidT_get e n
  have noA:∀ {b:Addr} {o:Obj} {es:Array DictEntry} {ep:Nat},s₁.heap.get? b=some o→o.data=.dict es ep→H b=none:=fun {b o es ep} e d=>by
   cases q:H b with
   | none=>rfl
   | some u =>
    have e':b=a:=hA b (by rw [q]; simp)
    subst e'
    rw [ha] at e; cases e
    have d':Data.seq vs.toArray _=Data.dict es ep:=d
    cases d'
  have nsK:∀ {b:Addr} {m:Str→Option Value},s₁.heap.Ns b m→(hidT s₁.heap H).Ns b m:=fun {b m} ⟨o,es,ep,e,d,r⟩=>⟨o,es,ep,base_of e (noA e d),d,r⟩
  have hKb:K.In (hidT s₁.heap H):=fun b o e=>base_of (KX b o e) (by
   cases q:H b with
   | none=>rfl
   | some u =>
    have e':b=a:=hA b (by rw [q]; simp)
    subst e'
    rw [hK (by rw [q]; simp)] at e; cases e)
  have hM:Mod K mg (hidT s₁.heap H):=⟨hKb,nsK hns,⟨mb,nsK hb,hbb⟩,let ⟨mc,h1,h2⟩:=hlim; ⟨mc,nsK h1,h2⟩⟩
  have e0:Env0 P w K mg (hidT s₁.heap H) callerA [] s₁ H:=⟨rfl,hM,fun b o e=>of_hidT e,Nat.le_of_eq (hidT_size _ _),trivial,fun b hb=>absurd (show b ∈ ([]:List Addr) from hb) (by simp),hok,.of_eq hg⟩
  refine codeAny_mono ((F _ hKb (nsK hns)).run callerA [] s₁ H ⟨[.ref a],[]⟩ [.ref a] [.ref a] _ _ hr e0 (hbind s₁ (.ref a)) (.cons rfl .nil) (hsp H hO hS)) fun r s' h=>?_
  cases r with
  | error e=>exact (hCX H e s' h).elim
  | ok fl =>
   cases fl with
   | next=>exact False.elim h
   | brk=>exact False.elim h
   | cont=>exact False.elim h
   | ret u =>
    obtain ⟨v,H',os,bare,un,hok',r',q⟩:=h
    have q':v=.bl true:=q
    subst q'
    obtain rfl:u=Value.bool true:=r'
    refine ⟨rfl,OldK.of_keep fun b o e=>?_,os,bare⟩
    cases q:H b with
    | none=>exact un.keep b o e q (by intro z; exact absurd (show b ∈ ([]:List Addr) from z) (by simp)) (by simp)
    | some u =>
     rcases hO b with z | ⟨ob,xs,z⟩
     ·rw [q] at z; cases z
     ·have z2:=un.frzs b ob _ z
      obtain ⟨e1,_⟩:=hok b _ z
      obtain ⟨e2,_⟩:=hok' b _ z2
      rw [e] at e1; cases e1
      exact e2
 cases hk:K.lookup a with
 | some o =>
  have e:=KX a o hk
  rw [ha] at e
  cases e
  refine core (fun _=>none) (fun _=>.inl rfl) (.inr ⟨_,vs.toArray,_,hk,rfl,rfl,rfl,by rw [List.size_toArray,lenV]; exact hl,by simpa using rv⟩) (fun b u z=>by have z':(none:Option HO)=some u:=z; cases z') (fun b z=>absurd rfl z) fun z=>absurd rfl z
 | none =>
  refine core (fun b=>if b=a then some (.frz { cls:=.type "list",data:=.seq vs.toArray } (.lst (ns.map V.int))) else none) (fun b=>?_) (.inl (.inr ⟨{ cls:=.type "list",data:=.seq vs.toArray },if_pos rfl⟩)) (fun b u z=>?_) (fun b z=>?_) fun _=>hk
  ·by_cases hb:b=a
   ·exact .inr ⟨_,_,if_pos hb⟩
   ·exact .inl (if_neg hb)
  ·by_cases hb:b=a
   ·have z':=(if_pos hb).symm.trans z
    cases z'
    subst hb
    exact ⟨ha,by rw [List.length_map]; exact hl,vs,_,rv,ha⟩
   ·have z':=(if_neg hb).symm.trans z
    cases z'
  ·by_cases hb:b=a
   ·exact hb
   ·exact absurd (if_neg hb) z
end L2
namespace L2
open PySem PySem.Spec PyProof.Rows
theorem walk_of {l:PySem.W.OpenLaw} {n k:Nat} {q:Program} {loose:List Str} {XP:(Str→Option Value)→Heap→Prop} {YP:World→Heap→Prop} {d:DefRec} {K:Params→PySem.W.Frag} {CX:World→CXT} {sp:World→Sp} {x:Str}
  (hn:l.most=some n) (hn2:n≤sizeLine) (hdf:d.params.defaults=[]) (hr:Room k callerA)
  (hY:∀ (w:World) (h:Heap),YP w h→(K w.params).In h)
  (F:∀ (w:World) (mg:Str→Option Value) (fa:Addr) (h:Heap),(K w.params).In h→h.Ns mainGlobals mg→mg d.name=some (.ref fa) →
   ∃ fd:FuncData,(∀ (s:Shared) (u:Value),BindsTo s fd ⟨[u],[]⟩ [(x,u)]) ∧
    ∀ base:Heap,(K w.params).In base→base.Ns mainGlobals mg→FnOk l.prog w (K w.params) mg base (CX w) k fa fd [x] (sp w))
  (hsp:∀ (w:World) (H:Hp) (a:Addr) (ns:List Int),ns.length≤n→Only H→SqL (K w.params) H a (ns.map V.int)→sp w [.ref a] H (fun v _=>v=.bl true) fun _ _ _=>False)
  (hCX:∀ (w:World) (H:Hp) (s:Shared) (e:Value) (s':Shared),CX w [] H s (fun _ _ _=>False) e s'→False) :
  PySem.W.WalkO q loose XP YP l.row.toRowW d [] (fun f vs=>PySem.call f vs):=by
 refine Att.attach_call hn hdf fun w s₀ s₁ mg mb fa o pm cd doc a vs ns G Y ho hd hcd hmg hobj hints hlen hg=>?_
 have KX:=hY w _ Y
 obtain ⟨fd,hb,hF⟩:=F w mg fa _ KX G.T.g hmg
 exact law_call KX G.T.g G.T.b G.T.builtins G.T.nolimit hg hobj hints (Nat.le_trans hlen hn2) hr hF hb (fun H hO hS=>hsp w H a ns hlen hO hS) fun H e s'=>hCX w H s₁ e s'
end L2
namespace L2
open PySem PySem.Spec PyProof.Rows
def defArgs (s:Stmt):Arguments:=match s with
 | .FunctionDef _ a _ _ _ _ _ _ _ _=>a
 | _=>{ posonlyargs:=[],args:=[],vararg:=none,kwonlyargs:=[],kw_defaults:=[],kwarg:=none,defaults:=[] }
def defBody (s:Stmt):List Stmt:=match s with
 | .FunctionDef _ _ b _ _ _ _ _ _ _=>b
 | _=>[]
def defScope (s:Stmt):Scope:=match s with
 | .FunctionDef _ _ _ _ _ _ sc _ _ _=>sc
 | _=>{ kind:=.function,names:=[],isGenerator:=false,isCoroutine:=false }
abbrev CX0:CXT:=fun _ _ _ _ _ _=>False
abbrev E0:XK:=fun _ _ _=>False
theorem pass0 {X:Cx}:Passes CX0 X E0:=fun _ _ _ _ _ _ _ h=>h.elim
structure Fun (K:PySem.W.Frag) (x qual:Str) (st:Stmt) (f:Addr) (fd:FuncData):Prop where
 ex:∃ (oc:Value) (od:Option Addr) (kV doc pm:Value) (an:Option Addr) (cdv ct:Value) (osl:Array (Option Value)),
  fd=PySem.W.fnOf x qual (defArgs st) (defBody st) (defScope st) .none kV doc pm an cdv ct∧K.lookup f=some ⟨oc,od,.func fd,osl⟩∧PySem.W.codeIn K cdv qual=true
 kp:PySem.W.keepIn K (.ref f)=true
section
variable {P:Program} {w:World} {K:PySem.W.Frag} {mg:Str→Option Value} {base:Heap}
theorem Fun.ok {x qual:Str} {st:Stmt} {f:Addr} {fd:FuncData} {N ps:List Str} {k:Nat} {sp:Sp} (F:Fun K x qual st f fd) (S:FnScope N ps (defScope st)) (len:∀ vs H Q E,sp vs H Q E→vs.length=ps.length)
  (hbody:∀ (cdv:Value) (A:Around) (outer:List Env) (s:Shared) (H:Hp) (vs:List V) (Q:VK) (E:XK),Room k (A.deeper (envOfC qual (defScope st) s.heap.objs.size f cdv))→sp vs H Q E →
   ∃ t,PSs (cxOf CX0 P w K mg base N qual (defScope st) f cdv A outer s H E).nox (defBody st) t∧t { nx:=fun _ H'=>Q .non H',rt:=Q } (start N vs) H):FnOk P w K mg base CX0 (k+1) f fd ps sp:=by
 obtain ⟨oc,od,kV,doc,pm,an,cdv,ct,osl,rfl,lk,hcd⟩:=F.ex
 refine fn_of lk hcd S len fun A outer s H vs Q E hr hsp=>?_
 obtain ⟨t,h,q⟩:=hbody cdv A outer s H vs Q E hr hsp
 exact ⟨t,h.nox,q⟩
theorem fun_mk {x qual:Str} {st:Stmt} {f:Addr} {oc:Value} {od an:Option Addr} {osl:Array (Option Value)} {kV doc pm cdv ct:Value} (l:K.lookup f=some ⟨oc,od,.func (PySem.W.fnOf x qual (defArgs st) (defBody st) (defScope st) .none kV doc pm an cdv ct),osl⟩)
  (c:PySem.W.codeIn K cdv qual=true) (k:PySem.W.keepIn K (.ref f)=true):Fun K x qual st f (PySem.W.fnOf x qual (defArgs st) (defBody st) (defScope st) .none kV doc pm an cdv ct):=⟨⟨oc,od,kV,doc,pm,an,cdv,ct,osl,rfl,l,c⟩,k⟩
end
section
variable {X:Cx}
theorem pv (i:Nat) {x:Str} {pos:Pos} (hN:X.N[i]?=some x:=by rfl) (hv:Vis X.env.scope x:=by first | exact Or.inl rfl | exact Or.inr (Or.inl rfl) | exact Or.inr (Or.inr rfl)) (hd:(x == ("__debug__" : Str))=false:=by decide)
  (hcd:(x == ("__classdict__" : Str))=false:=by decide):PE X (.Name x pos) (tVar i):=pe_var hN hv hd hcd
end
def Same (H H':Hp):Prop:=∀ b o,H b=some o→H' b=some o
theorem Same.refl (H:Hp):Same H H:=fun _ _ h=>h
theorem Same.trans {H H1 H2:Hp} (a:Same H H1) (b:Same H1 H2):Same H H2:=fun c o h=>b c o (a c o h)
theorem Same.free {H H':Hp} (e:Same H H') {l:Addr} (h:H' l=Option.none):H l=Option.none:=by
 cases q:H l with
 | none=>rfl
 | some o =>
  rw [e l o q] at h
  cases h
theorem Same.seq {K:PySem.W.Frag} {H H':Hp} {a:Addr} {xs:List V} (e:Same H H') (h:SqL K H a xs):SqL K H' a xs:=by
 rcases h with (h | ⟨o,h⟩) | h
 ·exact .inl (.inl (e _ _ h))
 ·exact .inl (.inr ⟨o,e _ _ h⟩)
 ·exact .inr h
end L2
end

noncomputable section
set_option Elab.async false
set_option linter.all false
set_option maxRecDepth 100000
namespace L2
open PySem PySem.Spec PyProof.Rows
section
variable {X:Cx} {a b c:Expr} {ta tb tc:TE} {pos:Pos}
def CDivB (i j:Int):Prop:=0 < j∧j.natAbs.log2 < 9000
theorem CDivB.of {i j:Int} (h0:0 < j) (h:j < 2 ^ 200):CDivB i j:=by
 refine ⟨h0,?_⟩
 have h2:j.natAbs < 2 ^ 200:=by lia
 have:=(Nat.log2_lt (n:=j.natAbs) (k:=200) (by lia)).mpr h2
 lia
theorem op_fdivB:OpR X (binaryOp .FloorDiv) (rI CDivB fun i j=>.int (i / j)):=opI fun i j _ _ _ _ _ hc q=>by
 have h1:(0:Int) < j:=hc.1
 exact floordiv_int (by lia) (by rw [Int.fdiv_eq_ediv_of_nonneg i (by lia)]; exact q) (.inl (PyProof.noPylong_of_log2 hc.2))
variable {op op':CmpOp} {ops:List CmpOp} {rs:List Expr} {r:R2} {t:V→TE} {tt:V→TT}
theorem call_isi:CallR X (.builtin "isinstance") (fun xs H Q=>∃ x n t k,xs=[x,.ty n]∧TyOf X.K H x t∧PySem.W.kitOne X.K t (.type n)=some k∧Q (.bl k) H):=by
 intro pins s σ H xs us Q I r h
 obtain ⟨x,n,t,k,rfl,ty,e,q⟩:=h
 obtain ⟨u,w',rfl,r1,r2⟩:=vals2 r
 cases r2
 exact isinst_ok I r1 ty e fun tk=>⟨.bl k,H,I.tok _,rfl,q⟩
end
end L2
end

noncomputable section
set_option Elab.async false
set_option linter.all false
set_option maxRecDepth 100000
namespace L2
open PySem PySem.Spec PyProof.Rows
theorem bt_max:bootBuiltins "max" = some (.builtin "max"):=by decide +kernel
theorem bt_min:bootBuiltins "min" = some (.builtin "min"):=by decide +kernel
theorem bt_int:bootBuiltins "int" = some (.type "int"):=by decide +kernel
theorem bt_bool:bootBuiltins "bool" = some (.type "bool"):=by decide +kernel
theorem bt_tuple:bootBuiltins "tuple" = some (.type "tuple"):=by decide +kernel
theorem bt_list:bootBuiltins "list" = some (.type "list"):=by decide +kernel
theorem bt_sorted:bootBuiltins "sorted" = some (.builtin "sorted"):=by decide +kernel
theorem bt_isi:bootBuiltins "isinstance" = some (.builtin "isinstance"):=by decide +kernel
theorem bt_len:bootBuiltins "len" = some (.builtin "len"):=by decide +kernel
theorem iteDT {c A B:Prop} [Decidable c] (hc:c) (h:A):if decide c=true then A else B:=by
 rw [if_pos (decide_eq_true hc)]
 exact h
theorem iteDF {c A B:Prop} [Decidable c] (hc:¬ c) (h:B):if decide c=true then A else B:=by
 rw [if_neg (by simp [hc])]
 exact h
theorem iteD {c A B:Prop} [Decidable c] (h1:c→A) (h2:¬ c→B):if decide c=true then A else B:=by
 by_cases h:c
 ·exact iteDT h (h1 h)
 ·exact iteDF h (h2 h)
theorem Same.new {H:Hp} {p:Addr} {o:HO} (n:H p=none):Same H (L2.upd H p o):=fun b u e=>by rw [upd_ne (ne_of_none e n)]; exact e
section
variable {X:Cx} {st:Stmt} {rest:List Stmt} {t u:TS}
end
theorem pow18:CPow 10 18:=⟨by decide,by decide,by decide⟩
section
variable {X:Cx}
theorem mod_lt' {a:Int} {b:Int} (h:0 < b):0≤a % b∧a % b < b:=⟨Int.emod_nonneg a (by omega),Int.emod_lt_of_pos a h⟩
end
end L2
end

noncomputable section
set_option Elab.async false
set_option linter.all false
set_option maxRecDepth 100000
namespace L2
open PySem PySem.Spec PyProof.Rows
def compCx (X:Cx) (scope:Scope) (N':List Str) (cl:List (Str × Addr)) (C:Addr) (s:Shared) (H:Hp) (ex:List Addr):Cx :=
 { X with N:=N',s₀:=s,H₀:=H,env:=compEnvC scope cl C X.env,outer:=X.stack,stack:=X.stack,ex:=ex,fn:=fun _=>false,pn:=[],xe:=fun _ _=>False }
theorem closure_of {env:Env}:∀ (names:List (Str × NameKind)) (cs:List (Str × Addr)),(∀ x,(x,NameKind.free) ∈ names→∃ c,env.cells.lookup x=some c) →
  (∀ x c,cs.lookup x=some c→env.cells.lookup x=some c) →
  ∃ cl,(forIn names cs fun (p:Str × NameKind) (cs:List (Str × Addr))=>do
   if p.2 == .free then do
    let a ← cellOf env p.1
    pure (ForInStep.yield ((p.1,a)::cs))
   else pure (ForInStep.yield cs):Sem (List (Str × Addr)))=pure cl ∧
   (∀ x,((x,NameKind.free) ∈ names∨(∃ c,cs.lookup x=some c))→∃ c,cl.lookup x=some c)∧∀ x c,cl.lookup x=some c→env.cells.lookup x=some c
 | [],cs,_,hcs=>⟨cs,rfl,fun x h=>h.elim (fun z=>nomatch z) id,hcs⟩
 | (n,k)::names,cs,hf,hcs=>by
  by_cases hk:k=.free
  ·subst hk
   obtain ⟨c,hc⟩:=hf n (List.mem_cons_self ..)
   obtain ⟨cl,e,h1,h2⟩:=closure_of names ((n,c)::cs) (fun x hx=>hf x (List.mem_cons_of_mem _ hx)) (fun x c' hx=>by
    rw [List.lookup_cons] at hx
    cases q:x == n with
    | true=>rw [q] at hx; cases hx; rw [eq_of_beq q]; exact hc
    | false=>rw [q] at hx; exact hcs x c' hx)
   refine ⟨cl,?_,fun x hx=>h1 x ?_,h2⟩
   ·rw [List.forIn_cons]
    have ec:cellOf env n=pure c:=by unfold cellOf; rw [hc]
    simp only [beq_self_eq_true,if_true,ec]
    exact e
   ·rcases hx with hx | ⟨c',hx⟩
    ·rcases List.mem_cons.mp hx with z | z
     ·cases z
      exact .inr ⟨c,by simp⟩
     ·exact .inl z
    ·right
     rw [List.lookup_cons]
     cases q:x == n with
     | true=>exact ⟨c,rfl⟩
     | false=>exact ⟨c',hx⟩
  ·obtain ⟨cl,e,h1,h2⟩:=closure_of names cs (fun x hx=>hf x (List.mem_cons_of_mem _ hx)) hcs
   refine ⟨cl,?_,fun x hx=>h1 x ?_,h2⟩
   ·rw [List.forIn_cons]
    have hb:(k == NameKind.free)=false:=by simpa using hk
    simp only [hb,Bool.false_eq_true,if_false]
    exact e
   ·rcases hx with hx | hx
    ·rcases List.mem_cons.mp hx with z | z
     ·cases z; exact absurd rfl hk
     ·exact .inl z
    ·exact .inr hx
theorem closureFor_of {env:Env} {scope:Scope} (h:∀ x,(x,NameKind.free) ∈ scope.names→∃ c,env.cells.lookup x=some c) :
  ∃ cl,closureFor scope env=pure cl∧(∀ x,(x,NameKind.free) ∈ scope.names→∃ c,cl.lookup x=some c)∧∀ x c,cl.lookup x=some c→env.cells.lookup x=some c:=by
 obtain ⟨cl,e,h1,h2⟩:=closure_of scope.names [] h (fun x c z=>by simp at z)
 refine ⟨cl,?_,fun x hx=>h1 x (.inl hx),h2⟩
 unfold closureFor
 refine Eq.trans ?_ (congrArg (· >>= pure) e)
 rfl
structure Links (X:Cx) (scope:Scope) (N':List Str) (lk:List (Option Nat)):Prop where
 kind:scope.kind=.function
 nocell:∀ x ∈ scope.names,x.2≠.cell
 names:∀ x ∈ scope.names,x.2=.local→scope.names.lookup x.1=some .local
 free:∀ x,(x,NameKind.free) ∈ scope.names→X.env.kindOf x=some .cell∨X.env.kindOf x=some .free
 len:lk.length=N'.length
 link:∀ (i j:Nat),lk[i]?=some (some j)→∃ x,N'[i]?=some x∧X.N[j]?=some x∧(x,NameKind.free) ∈ scope.names∧scope.names.lookup x=some .free
def linksB (outer:List (Str × NameKind)) (N:List Str) (scope:Scope) (N':List Str) (lk:List (Option Nat)):Bool :=
 (scope.kind == .function) && scope.names.all (fun x=>x.2 != .cell && (x.2 != .local || scope.names.lookup x.1 == some .local) && (x.2 != .free || outer.lookup x.1 == some .cell || outer.lookup x.1 == some .free)) &&
 lk.length == N'.length && (List.range lk.length).all fun i=>match lk[i]? with
  | some (some j)=>match N'[i]? with
   | some x=>N[j]? == some x && scope.names.contains (x,.free) && scope.names.lookup x == some .free
   | none=>false
  | _=>true
theorem Links.of {X:Cx} {scope:Scope} {N':List Str} {lk:List (Option Nat)} (h:linksB X.env.scope.names X.N scope N' lk=true):Links X scope N' lk:=by
 simp only [linksB,Bool.and_eq_true] at h
 obtain ⟨⟨⟨h1,h2⟩,h3⟩,h4⟩:=h
 rw [List.all_eq_true] at h2 h4
 refine ⟨by simpa using h1,fun x hx=>?_,fun x hx hl=>?_,fun x hx=>?_,by simpa using h3,fun i j hij=>?_⟩
 ·have:=h2 x hx
  simp only [Bool.and_eq_true] at this
  simpa using this.1.1
 ·have:=h2 x hx
  simp only [Bool.and_eq_true] at this
  have q:=this.1.2
  rw [hl] at q
  simpa using q
 ·have:=h2 _ hx
  simp only [Bool.and_eq_true] at this
  have q:=this.2
  simp only [Bool.or_eq_true] at q
  rcases q with (q | q) | q
  ·simp at q
  ·exact .inl (show X.env.scope.names.lookup x=some .cell by simpa using q)
  ·exact .inr (show X.env.scope.names.lookup x=some .free by simpa using q)
 ·have hi:i < lk.length:=(List.getElem?_eq_some_iff.mp hij).1
  have q:=h4 i (List.mem_range.mpr hi)
  rw [hij] at q
  simp only at q
  cases e:N'[i]? with
  | none=>rw [e] at q; simp at q
  | some x =>
   rw [e] at q
   simp only [Bool.and_eq_true] at q
   obtain ⟨⟨q1,q2⟩,q3⟩:=q
   exact ⟨x,rfl,by simpa using q1,by simpa using q2,by simpa using q3⟩
def inSt (lk:List (Option Nat)) (σ:St):St:=lk.map fun l=>match l with | some j=>(match σ[j]? with | some v=>v | none=>none) | none=>none
theorem lookup_relabel_free {env:Env}:∀ {names:List (Str × NameKind)} {x:Str},names.lookup x=some .free →
  (names.map fun (n,k)=>if (k == NameKind.free && env.scope.kind == .function && env.kindOf n == some .cell) then (n,NameKind.cell) else (n,k)).lookup x=some .cell ∨
  (names.map fun (n,k)=>if (k == NameKind.free && env.scope.kind == .function && env.kindOf n == some .cell) then (n,NameKind.cell) else (n,k)).lookup x=some .free
 | [],_,h=>by simp at h
 | (n,k)::r,x,h=>by
  have ih:=@lookup_relabel_free env r x
  show List.lookup x ((if (k == NameKind.free && env.scope.kind == .function && env.kindOf n == some .cell)=true then (n,NameKind.cell) else (n,k))::_)=_ ∨
   List.lookup x ((if (k == NameKind.free && env.scope.kind == .function && env.kindOf n == some .cell)=true then (n,NameKind.cell) else (n,k))::_)=_
  cases hx:x == n with
  | true =>
   simp only [List.lookup_cons,hx] at h
   cases h
   by_cases hc:(NameKind.free == NameKind.free && env.scope.kind == .function && env.kindOf n == some .cell)=true
   ·rw [if_pos hc]; left; simp [List.lookup_cons,hx]
   ·rw [if_neg hc]; right; simp [List.lookup_cons,hx]
  | false =>
   simp only [List.lookup_cons,hx] at h
   by_cases hc:(k == NameKind.free && env.scope.kind == .function && env.kindOf n == some .cell)=true
   ·rw [if_pos hc]; simp only [List.lookup_cons,hx]; exact ih h
   ·rw [if_neg hc]; simp only [List.lookup_cons,hx]; exact ih h
theorem lookup_mem_free {env:Env}:∀ {names:List (Str × NameKind)} {x:Str} {k:NameKind},(k=.cell∨k=.free)→(∀ y ∈ names,y.2≠.cell) →
  (names.map fun (n,k)=>if (k == NameKind.free && env.scope.kind == .function && env.kindOf n == some .cell) then (n,NameKind.cell) else (n,k)).lookup x=some k→(x,NameKind.free) ∈ names
 | [],_,_,_,_,h=>by simp at h
 | (n,k')::r,x,k,hk,hc,h=>by
  have ih:=@lookup_mem_free env r x k hk (fun y hy=>hc y (List.mem_cons_of_mem _ hy))
  have h':List.lookup x ((if (k' == NameKind.free && env.scope.kind == .function && env.kindOf n == some .cell)=true then (n,NameKind.cell) else (n,k'))::(r.map fun (n,k)=>if (k == NameKind.free && env.scope.kind == .function && env.kindOf n == some .cell) then (n,NameKind.cell) else (n,k)))=some k:=h
  have hk':=hc (n,k') (List.mem_cons_self ..)
  by_cases hcnd:(k' == NameKind.free && env.scope.kind == .function && env.kindOf n == some .cell)=true
  ·rw [if_pos hcnd] at h'
   simp only [Bool.and_eq_true,beq_iff_eq] at hcnd
   cases hx:x == n with
   | true=>rw [eq_of_beq hx,hcnd.1.1]; exact List.mem_cons_self ..
   | false=>rw [List.lookup_cons,hx] at h'; exact List.mem_cons_of_mem _ (ih h')
  ·rw [if_neg hcnd] at h'
   cases hx:x == n with
   | true =>
    rw [List.lookup_cons,hx] at h'
    have e:k'=k:=by simpa using h'
    subst e
    rcases hk with hk | hk
    ·exact absurd hk hk'
    ·rw [eq_of_beq hx,hk]; exact List.mem_cons_self ..
   | false=>rw [List.lookup_cons,hx] at h'; exact List.mem_cons_of_mem _ (ih h')
section
variable {X:Cx} {pins:List (Addr × Obj)} {σ:St} {H:Hp} {s:Shared} {scope:Scope} {N':List Str} {lk:List (Option Nat)} {cl:List (Str × Addr)} {ex:List Addr}
theorem inv_comp {h':Heap} {t':Nat} (I:Inv X pins σ H s) (L:Links X scope N' lk) (hex:∀ b ∈ ex,FpOk X pins H b) (hob:∀ b ∈ ex,∃ o,s.heap.get? b=some o)
  (hc1:∀ x,(x,NameKind.free) ∈ scope.names→∃ c,cl.lookup x=some c) (hc2:∀ x c,cl.lookup x=some c→X.env.cells.lookup x=some c)
  (hn:h'.Ns s.heap.objs.size (fun _=>none)) (hk:∀ b o,s.heap.get? b=some o→h'.get? b=some o) :
  Inv (compCx X scope N' cl s.heap.objs.size s H ex) [] (inSt lk σ) H { s with heap:=h',toks:=t' }:=by
 obtain ⟨m,hm,hl⟩:=I.loc
 have exl:∀ b ∈ ex,b≠s.heap.objs.size:=fun b hb=>by
  obtain ⟨o,e⟩:=hob b hb
  exact Nat.ne_of_lt (Heap.lt_size e)
 refine ⟨⟨I.ok.mod,L.kind,I.ok.glob,I.ok.blt,Nat.le_refl _,fun x y c h1 h2=>I.ok.inj x y c (hc2 _ _ h1) (hc2 _ _ h2),fun x hx=>?_,fun x c z=>(nomatch z),I.ok.hd,I.ok.frames,.inl rfl,
  fun b hb=>⟨exl b hb,fun x c e=>(hex b hb).2.2.2.2.1 x c (hc2 _ _ e)⟩,I.bs,Nat.le_trans I.ok.bsz I.sz,fun b o e z=>?_,fun b hb z=>?_,I.stack,I.stkFree⟩,
  rfl,I.bare,Un.kept hk,⟨_,hn,fun i x v h1 h2 h3=>?_⟩,fun x c e=>?_,I.hok.fresh (Nat.le_refl _),fun x c e=>I.freeC x c (hc2 _ _ e),fun p hp=>absurd (show p ∈ ([]:List (Addr × Obj)) from hp) (by simp),I.hok.kept hk,?_⟩
 ·have hx':(relabel scope X.env).names.lookup x=some .cell∨(relabel scope X.env).names.lookup x=some .free:=hx
  rcases hx' with q | q
  ·exact hc1 x (lookup_mem_free (.inl rfl) L.nocell q)
  ·exact hc1 x (lookup_mem_free (.inr rfl) L.nocell q)
 ·obtain ⟨f0,f1,f2,f3,_⟩:=hex b z
  rcases f3 with q | q
  ·exact I.ok.noex b o e q
  ·have h1:=Heap.lt_size e
   have h2:=I.ok.bsz
   exact absurd (Nat.lt_of_lt_of_le h1 (Nat.le_trans h2 q)) (Nat.lt_irrefl _)
 ·obtain ⟨f0,f1,f2,f3,_⟩:=hex b hb
  rcases List.mem_cons.mp (I.stkSub b z) with q | q
  ·exact f1 q
  ·exact f2 q
 ·have hi:∃ j,lk[i]?=some (some j)∧σ[j]?=some (some v):=by
   have h2':(inSt lk σ)[i]?=some (some v):=h2
   unfold inSt at h2'
   rw [List.getElem?_map] at h2'
   cases e:lk[i]? with
   | none=>rw [e] at h2'; cases h2'
   | some l =>
    cases l with
    | none=>rw [e] at h2'; cases h2'
    | some j =>
     rw [e] at h2'
     cases e2:σ[j]? with
     | none=>simp [e2] at h2'
     | some w' =>
      simp only [Option.map_some,e2,Option.some.injEq] at h2'
      subst h2'
      exact ⟨j,rfl,e2⟩
  obtain ⟨j,hj,hσ⟩:=hi
  obtain ⟨y,e1,e2,e3,e4⟩:=L.link i j hj
  have exy:x=y:=by
   have h1':N'[i]?=some x:=h1
   rw [e1] at h1'; exact (Option.some.inj h1').symm
  subst exy
  have hvis:Vis X.env.scope x:=by
   rcases L.free x e3 with q | q
   ·exact .inr (.inl q)
   ·exact .inr (.inr q)
  obtain ⟨u,ru,lu⟩:=hl j x v e2 hσ hvis
  refine ⟨u,ru,.inr ⟨?_,?_⟩⟩
  ·exact lookup_relabel_free e4
  ·rcases lu with ⟨k,_⟩ | ⟨_,c,hc,z⟩
   ·rcases L.free x e3 with q | q <;> (rw [k] at q; cases q)
   ·obtain ⟨c',hc'⟩:=hc1 x e3
    have:=hc2 x c' hc'
    rw [hc] at this
    cases this
    obtain ⟨o,ho,hd⟩:=z
    exact ⟨c,hc',o,hk _ _ ho,hd⟩
 ·obtain ⟨v,o,ho,hd⟩:=I.cell x c (hc2 _ _ e)
  exact ⟨v,o,hk _ _ ho,hd⟩
 ·show (inSt lk σ).length=N'.length
  unfold inSt
  rw [List.length_map,L.len]
theorem inv_back {s':Shared} {σ':St} {H':Hp} {pl:List (Addr × Obj)} {C:Addr} {h'':Heap} (I:Inv X pins σ H s) (hex:∀ b ∈ ex,FpOk X pins H b)
  (J:Inv (compCx X scope N' cl s.heap.objs.size s H ex) pl σ' H' s') (hs:Heap.SameBut s.heap.objs.size s'.heap h''):Inv X pins σ H' { s' with heap:=h'' }:=by
 have hC:H' s.heap.objs.size=none:=J.free
 have u:=J.base
 refine I.call' (ch:=ex) (s':={ s' with heap:=h'' }) J.os ?_ ?_ J.bare (fun b hb=>?_)
 ·have kk:∀ b o,b≠s.heap.objs.size→s'.heap.get? b=some o→h''.get? b=some o:=fun b o hb e=>(hs.2 b hb).trans e
  have ne:∀ b o,s.heap.get? b=some o→b≠s.heap.objs.size:=fun b o e=>Nat.ne_of_lt (Heap.lt_size e)
  refine ⟨fun b o e n hb hx=>kk b _ (ne b o e) (u.keep b o e n hb hx),fun b o e n hb hx=>?_,u.free,fun b o e hx=>?_,u.tups,u.frzs,u.tbls⟩
  ·obtain ⟨sl,q⟩:=u.slot b o e n hb hx
   exact ⟨sl,kk b _ (ne b o e) q⟩
  ·obtain ⟨o',q⟩:=u.there b o e hx
   exact ⟨o',kk b _ (ne b o e) q⟩
 ·intro b o e
  have hb:b≠s.heap.objs.size:=fun z=>by rw [z] at e; rw [hC] at e; cases e
  refine (J.hok b o e).stay (fun c v hc q=>(hs.2 c ?_).trans q) (fun _ q=>q) fun _ _ q=>q
  rcases hc with z | z
  ·rw [z]; exact hb
  ·intro z'; rw [z'] at z; rw [hC] at z; cases z
 ·obtain ⟨f0,f1,f2,f3,f4,f5⟩:=hex b hb
  exact ⟨f3,f1,f4,f5⟩
end
end L2
end

noncomputable section
set_option Elab.async false
set_option linter.all false
set_option maxRecDepth 100000
namespace L2
open PySem PySem.Spec PyProof.Rows
def turnForm (g:Comprehension) (after:Sem Fin→Sem Fin) (e:Expr) (d:Nat) (it acc:Value) (env:Env):Sem Fin:=do
 standAt g.iter.pos
 match ← pyNext it with
 | none=>pure (.done .next)
 | some v =>
  letOwnedTupleGo g.target it v
  assign g.target env v
  let mut ok:=true
  for c in g.ifs do
   if ok then ok ← isTrue c env (eval c env)
  if ok then after (again (.compLoop e d it acc env)) else again (.compLoop e d it acc env)
def nestAft (e:Expr) (d:Nat) (g':Comprehension) (acc:Value) (env:Env) (k:Sem Fin):Sem Fin:=do
 let x ← eval g'.iter env
 standAt g'.iter.pos
 let x ← foldedSetIterable g'.iter env x
 let _ ← runOwn (.compStart e (d+1) (← holding [x] (pyIter x)) acc env) env
 k
def thenK (t:Sem Unit) (k:Sem Fin):Sem Fin:=do
 t
 k
def emitL (elt:Expr) (acc:Value) (env:Env):Sem Unit:=do let _ ← call (.builtin "list.append") [acc,← eval elt env]
def emitD (k v:Expr) (acc:Value) (env:Env):Sem Unit:=do
    let kv ← eval k env
    let vv ← holding [kv] (eval v env)
    match acc with
    | .ref d=>do
     standAt { k.pos with endLine:=v.pos.endLine,endCol:=v.pos.endCol }
     holding [kv,vv] (dictSet d kv vv)
    | _=>unsupported "internal:dictcomp"
structure CForm (e:Expr) (d:Nat) (g:Comprehension) (acc:Value) (env:Env) (after:Sem Fin→Sem Fin):Prop where
 turn:∀ it,compTurn e d it acc env=turnForm g after e d it acc env
 cl:(clausesOf e)[d]?=some g
 sync:g.is_async=0
 quiet:∀ it,(Code.compLoop e d it acc env).quiet=true
 under:∀ (A:Around) it,A.under (Code.compLoop e d it acc env)=A
 underS:∀ (A:Around) it,A.under (Code.compStart e d it acc env)=A
 nofr:∀ it,(Code.compLoop e d it acc env).isFrame=false
 nofrS:∀ it,(Code.compStart e d it acc env).isFrame=false
section
variable {elt tg tg2 it1 it2 k v:Expr} {ifs ifs2:List Expr} {sc:Scope} {pos:Pos} {acc:Value} {env:Env}
theorem cf_l1:CForm (.ListComp elt [⟨tg,it1,ifs,0⟩] sc pos) 0 ⟨tg,it1,ifs,0⟩ acc env (thenK (emitL elt acc env)) :=
 ⟨fun _=>rfl,rfl,rfl,fun _=>rfl,fun _ _=>rfl,fun _ _=>rfl,fun _=>rfl,fun _=>rfl⟩
theorem cf_d1:CForm (.DictComp k v [⟨tg,it1,ifs,0⟩] sc pos) 0 ⟨tg,it1,ifs,0⟩ acc env (thenK (emitD k v acc env)) :=
 ⟨fun _=>rfl,rfl,rfl,fun _=>rfl,fun _ _=>rfl,fun _ _=>rfl,fun _=>rfl,fun _=>rfl⟩
theorem cf_l20:CForm (.ListComp elt [⟨tg,it1,ifs,0⟩,⟨tg2,it2,ifs2,0⟩] sc pos) 0 ⟨tg,it1,ifs,0⟩ acc env (nestAft (.ListComp elt [⟨tg,it1,ifs,0⟩,⟨tg2,it2,ifs2,0⟩] sc pos) 0 ⟨tg2,it2,ifs2,0⟩ acc env) :=
 ⟨fun _=>rfl,rfl,rfl,fun _=>rfl,fun _ _=>rfl,fun _ _=>rfl,fun _=>rfl,fun _=>rfl⟩
theorem cf_l21:CForm (.ListComp elt [⟨tg,it1,ifs,0⟩,⟨tg2,it2,ifs2,0⟩] sc pos) 1 ⟨tg2,it2,ifs2,0⟩ acc env (thenK (emitL elt acc env)) :=
 ⟨fun _=>rfl,rfl,rfl,fun _=>rfl,fun _ _=>rfl,fun _ _=>rfl,fun _=>rfl,fun _=>rfl⟩
end
def tTrue:TT:=fun _ H Q=>Q true H
def PTs (X:Cx) (ifs:List Expr) (t:TT):Prop :=
 ∀ (pins:List (Addr × Obj)) (s:Shared) (σ:St) (H:Hp) (Q:Bool→Hp→Prop),Inv X pins σ H s→t σ H Q →
  wpAny (model X.prog X.w) X.A (forIn ifs true fun c r=>if r=true then do let ok ← isTrue c X.env (eval c X.env); pure (ForInStep.yield ok) else pure (ForInStep.yield r)) (TP X pins σ Q) X.xe s
theorem pts_nil {X:Cx}:PTs X [] tTrue:=fun _ _ _ H _ I h=>wpAny_tests_nil ⟨H,I,h⟩
theorem pts_one {X:Cx} {c:Expr} {t:TT} (h:PT X c t):PTs X [c] t:=fun pins s σ H Q I q=>wpAny_tests_one (h pins s σ H Q I q)
abbrev TAft:=(St→Hp→Prop)→St→Hp→Prop
def PAft (X:Cx) (after:Sem Fin→Sem Fin) (t:TAft):Prop :=
 ∀ (pins:List (Addr × Obj)) (s:Shared) (σ:St) (H:Hp) (N:St→Hp→Prop) (k:Sem Fin) (Q:Fin→Shared→Prop) (E:Value→Shared→Prop),Inv X pins σ H s→t N σ H →
  (∀ σ' H' s',Inv X pins σ' H' s'→N σ' H'→wpAny (model X.prog X.w) X.A k Q E s')→wpAny (model X.prog X.w) X.A (after k) Q E s
theorem nox_any {X:Cx} (hx:X.xe=fun _ _=>False) {α:Type} {t:Sem α} {Q:α→Shared→Prop} {E:Value→Shared→Prop} {s:Shared} (h:wpAny (model X.prog X.w) X.A t Q X.xe s):wpAny (model X.prog X.w) X.A t Q E s :=
 wpAny_mono h (fun _ _ q=>q) fun e s q=>by rw [hx] at q; exact q.elim
def tLoop (J:It) (g:TG) (tt:TT) (ta:TAft) (End:St→Hp→Prop):St→Hp→Prop:=fun σ H =>
 ∃ W:Nat→Nat→St→Hp→Prop,(∃ m,W 0 m σ H)∧∀ i m σ H,W i m σ H→(J.stop i H∧End σ H) ∨
  (J.go i H∧∃ N:St→Hp→Prop,(∀ σ' H',N σ' H'→∃ m',m' < m∧W (i+1) m' σ' H')∧∀ x H',J.yld i H x H'→g x σ H' fun σ2 H2=>tt σ2 H2 fun b H3=>if b=true then ta N σ2 H3 else N σ2 H3)
section
variable {X:Cx} {e:Expr} {d:Nat} {g:Comprehension} {acc:Value} {after:Sem Fin→Sem Fin} {tg:TG} {tt:TT} {ta:TAft}
theorem comp_loop (hx:X.xe=fun _ _=>False) (hc:X.calm=true) (F:CForm e d g acc X.env after) (hg:PG X g.target tg) (ht:PTs X g.ifs tt) (ha:PAft X after ta)
  {it:Addr} {fp:List Addr} {tn:Nat→Heap→Prop} {J:It} (T:Turn X.prog X.w X.K g.target J fp it tn) {pins:List (Addr × Obj)} {σ:St} {H:Hp} {s:Shared} {End:St→Hp→Prop}
  (I:Inv X pins σ H s) (st:tn 0 s.heap) (hf:∀ b ∈ fp,FpOk X pins H b) (h:tLoop J tg tt ta End σ H) :
  codeAny (model X.prog X.w) X.A (.compLoop e d (.ref it) acc X.env) (fun r s'=>r=.ok .next∧∃ σ' H',Inv X pins σ' H' s'∧End σ' H') s:=by
 obtain ⟨W,⟨m0,w0⟩,turn⟩:=h
 have stat:∀ {H':Hp},(∀ b ∈ fp,H' b=none)→∀ b ∈ fp,FpOk X pins H' b:=fun hn b hb=>⟨hn b hb,(hf b hb).2⟩
 refine codeAny_loop (F.quiet _) (fun n s'=>∃ i σ' H',Inv X pins σ' H' s'∧tn i s'.heap∧(∀ b ∈ fp,H' b=none)∧W i n σ' H') (fun n s3 hI=>?_) m0 ⟨0,σ,H,I,st,fun b hb=>(hf b hb).1,w0⟩
 obtain ⟨i,σ3,H3,I3,st3,fr3,w3⟩:=hI
 rw [F.under]
 have hden:(model X.prog X.w).den (.compLoop e d (.ref it) acc X.env)=(turnForm g after e d (.ref it) acc X.env).onRaise (fun x=>do noteFrame x X.env; theTreesLotGoes x):=by
  rw [← F.turn]
  show (if (Code.compLoop e d (.ref it) acc X.env).isFrame then _ else _)=_
  rw [F.nofr]
  rfl
 rw [hden]
 refine wpAny_noted ?_
 unfold turnForm
 rcases turn i n σ3 H3 w3 with ⟨stop,qn⟩ | ⟨go,N,hN,step⟩
 ·refine wpAny_bind (wpAny_standAt (wpAny_bind (thn (T.done X rfl rfl rfl hc i pins s3 σ3 H3 _ I3 (stat fr3) st3 stop) fun r s4 ⟨hr,I4⟩=>?_)))
  subst hr
  exact wpAny_pure ⟨rfl,σ3,H3,I4,qn⟩
 ·refine wpAny_bind (wpAny_standAt (wpAny_bind (thn (T.item X rfl rfl rfl hc i pins s3 σ3 H3 _ I3 (stat fr3) st3 go) fun r s4 ⟨u,hr,h4⟩=>?_)))
  subst hr
  refine wpAny_bind (thn h4 fun _ s5 ⟨x,H5,I5,r5,y5,st5,fr5⟩=>?_)
  have I5':=I5.pinned (stat fr5) (T.obj _ _ st5)
  refine wpAny_bind (thn (nox_any hx (hg _ s5 σ3 H5 x u _ I5' r5 (step x H5 y5))) fun _ s6 ⟨σ6,H6,I6,q6⟩=>?_)
  refine wpAny_bind (thn (nox_any hx (ht _ s6 σ6 H6 _ I6 q6)) fun ok s7 ⟨H7,I7,q7⟩=>?_)
  have againN:∀ {σ8:St} {H8:Hp} {s8:Shared},Inv X (pins++pinsAt fp s5.heap) σ8 H8 s8→N σ8 H8→∃ m,m < n∧∃ i σ' H',Inv X pins σ' H' s8∧tn i s8.heap∧(∀ b ∈ fp,H' b=none)∧W i m σ' H':=fun {σ8 H8 s8} I8 n8=>by
   obtain ⟨m',hm,w8⟩:=hN σ8 H8 n8
   refine ⟨m',hm,i+1,σ8,H8,I8.unpinned,T.keep _ _ _ st5 fun b hb o e=>(I8.pin (b,o) (List.mem_append_right _ (List.mem_append_right _ (mem_pinsAt hb e)))).1,fun b hb=>?_,w8⟩
   obtain ⟨o,e,d⟩:=T.obj _ _ st5 b hb
   exact (I8.pin (b,o) (List.mem_append_right _ (List.mem_append_right _ (mem_pinsAt hb e)))).2.1
  cases ok with
  | false=>exact wpAny_pure ⟨rfl,againN I7 (by simpa using q7)⟩
  | true =>
   exact ha _ s7 σ6 H7 N _ _ _ I7 (by simpa using q7) fun σ8 H8 s8 I8 n8=>wpAny_pure ⟨rfl,againN I8 n8⟩
theorem comp_start (hx:X.xe=fun _ _=>False) (hc:X.calm=true) (F:CForm e d g acc X.env after) (hg:PG X g.target tg) (ht:PTs X g.ifs tt) (ha:PAft X after ta)
  {it:Addr} {fp:List Addr} {tn:Nat→Heap→Prop} {J:It} (T:Turn X.prog X.w X.K g.target J fp it tn) {pins:List (Addr × Obj)} {σ:St} {H:Hp} {s:Shared} {End:St→Hp→Prop}
  (I:Inv X pins σ H s) (st:tn 0 s.heap) (hf:∀ b ∈ fp,FpOk X pins H b) (h:tLoop J tg tt ta End σ H) :
  codeAny (model X.prog X.w) X.A (.compStart e d (.ref it) acc X.env) (fun r s'=>r=.ok .next∧∃ σ' H',Inv X pins σ' H' s'∧End σ' H') s:=by
 have lp:=comp_loop hx hc F hg ht ha T I st hf h
 refine codeAny_of_tree ?_
 rw [F.underS]
 have hden:(model X.prog X.w).den (.compStart e d (.ref it) acc X.env)=(compStart e d (.ref it) acc X.env).onRaise (fun x=>do noteFrame x X.env; standAt theWindowsPlace):=by
  show (if (Code.compStart e d (.ref it) acc X.env).isFrame then _ else _)=_
  rw [F.nofrS]
  rfl
 rw [hden]
 refine wpAny_notedAt ?_
 unfold compStart
 rw [F.cl]
 simp only [Option.elim_some,F.sync]
 show wpAny _ _ (ask >>= _) _ _ s
 refine wpAny_bind (wpAny_askSetting (wpAny_ite ?_))
 split
 ·first
   | exact wpAny_bind (wpAny_pure (wpAny_pure (And.intro (F.quiet _) lp)))
   | exact wpAny_pure (And.intro (F.quiet _) lp)
 ·have h2:∀ (E:Value→Shared→Prop),wpAny (model X.prog X.w) X.A (pyIter (.ref it)) (fun it' s'=>(Code.compLoop e d it' acc X.env).quiet=true∧codeAny (model X.prog X.w) X.A (.compLoop e d it' acc X.env) (fun r s'=>r=.ok .next∧∃ σ' H',Inv X pins σ' H' s'∧End σ' H') s') E s :=
   fun E=>T.self X.A 0 s _ E st ⟨F.quiet _,lp⟩
  first
   | exact wpAny_bind (wpAny_rule (wpAny_bind (wpAny_standAt (wpAny_bind (wpAny_mono (h2 _) (fun it' s' h'=>wpAny_pure h') fun _ _ x=>x)))))
   | (refine wpAny_bind (wpAny_rule ?_); exact wpAny_bind (wpAny_standAt (wpAny_bind (wpAny_mono (h2 _) (fun it' s' h'=>wpAny_pure h') fun _ _ x=>x))))
theorem pa_nest {g':Comprehension} {wi:TI} (hx:X.xe=fun _ _=>False) (hc:X.calm=true) (F:CForm e (d+1) g' acc X.env after) (hi:PI X g'.target g'.iter wi) (hg:PG X g'.target tg) (ht:PTs X g'.ifs tt) (ha:PAft X after ta)
  (hs:∀ x,foldedSetIterable g'.iter X.env x=pure x:=by intro _; rfl) :
  PAft X (nestAft e d g' acc X.env) (fun N σ H=>wi σ H fun J H1=>tLoop J tg tt ta N σ H1):=by
 intro pins s σ H N k Q E I h hk
 unfold nestAft
 refine wpAny_bind (thn (nox_any hx (hi pins s σ H _ I h)) fun x s1 h1=>?_)
 refine wpAny_bind (wpAny_standAt (wpAny_bind (wpAny_of_eq (hs x) ?_)))
 refine wpAny_bind (wpAny_holding (thn (nox_any hx h1) fun itv s2 h2=>?_))
 obtain ⟨it,fp,tn,J,H2,e1,I2,T,st2,f2,hl⟩:=h2
 subst e1
 refine wpAny_bind (wpAny_runOwn (codeAny_mono (comp_start hx hc F hg ht ha T I2 st2 f2 hl) fun r s' hr=>?_))
 obtain ⟨rfl,σ',H',I',q⟩:=hr
 exact hk σ' H' s' I' q
theorem pa_emitL {elt:Expr} {te:TE} {a:Addr} (hx:X.xe=fun _ _=>False) (he:PE X elt te) :
  PAft X (thenK (emitL elt (.ref a) X.env)) (fun N σ H=>te σ H fun v H1=>∃ xs,H1 a=some (.lst xs)∧xs.length < sizeLine∧N σ (upd H1 a (.lst (xs++[v])))):=by
 intro pins s σ H N k Q E I h hk
 unfold thenK emitL
 refine wpAny_bind (wpAny_bind (thn (nox_any hx (he pins s σ H _ I h)) fun u s1 ⟨v,H1,I1,r1,xs,hH,hz,q⟩=>?_))
 refine wpAny_bind (thn (nox_any hx <| mt_append (X:=X) pins s1 σ H1 (.ref a) [v] (.ref a) [u] (fun w' H'=>N σ H') I1 rfl (.cons r1 .nil) ⟨a,xs,v,rfl,rfl,hH,hz,q⟩) fun _ s2 ⟨_,H2,I2,_,q2⟩=>?_)
 exact wpAny_pure (hk σ H2 s2 I2 q2)
end
end L2
end

noncomputable section
set_option Elab.async false
set_option linter.all false
set_option maxRecDepth 100000
namespace L2
open PySem PySem.Spec PyProof.Rows
section
variable {X:Cx} {e:Expr} {g:Comprehension} {gs:List Comprehension} {scope:Scope} {N':List Str} {lk:List (Option Nat)} {tg:TG} {tt:TT} {wi:TI}
structure NewAcc (X:Cx) (newAcc:Sem Value) (o:HO):Prop where
 ok:∀ (pins:List (Addr × Obj)) (s:Shared) (σ:St) (H:Hp) (Q:Value→Shared→Prop) (E:Value→Shared→Prop),Inv X pins σ H s →
  (∀ a s',s.heap.objs.size≤a→H a=none→(∀ b o,s.heap.get? b=some o→s'.heap.get? b=some o)→Inv X pins σ (upd H a o) s'→Q (.ref a) s')→wpAny (model X.prog X.w) X.A newAcc Q E s
theorem new_list:NewAcc X (newList []) (.lst []) :=
 ⟨fun pins s σ H Q E I h=>wpAny_newObj_type (h _ _ (Nat.le_refl _) I.fresh (fun b o e=>Heap.get?_push_of_some _ e) (I.lnew (its:=[]) (t':=s.toks) .nil (Nat.zero_le _)))⟩
theorem Inv.sameBut {pins:List (Addr × Obj)} {σ:St} {H:Hp} {s:Shared} {C:Addr} {h':Heap} (I:Inv X pins σ H s) (f:FpOk X pins H C) (hs:Heap.SameBut C s.heap h'):Inv X pins σ H { s with heap:=h' }:=by
 obtain ⟨f0,f1,f2,f3,f4,f5⟩:=f
 exact I.turned (t':=s.toks) (fun b o hb e=>(hs.2 b hb).trans e) f0 f1 f3 f4 f5
end
end L2
end

noncomputable section
set_option Elab.async false
set_option linter.all false
set_option maxRecDepth 100000
set_option maxHeartbeats 4000000
namespace ST
open PySem PySem.SetTable
def stp (m:Nat) (p:Probe):Probe:=advance { mask:=m,place:=#[],dummies:=#[],finger:=0,led:=true,moves:=0,plain:=true } p
def sta (m:Nat) (h:Int):Probe:=probeStart { mask:=m,place:=#[],dummies:=#[],finger:=0,led:=true,moves:=0,plain:=true } h
def pth (m:Nat) (h:Int):Nat→Probe
 | 0=>sta m h
 | n+1=>stp m (pth m h n)
def vis (m:Nat) (h:Int) (n:Nat):Nat:=(pth m h n).j
end ST
end

noncomputable section
set_option Elab.async false
set_option linter.all false
set_option maxRecDepth 100000
set_option maxHeartbeats 4000000
namespace ST
open PySem PySem.SetTable
abbrev g (xs:Array Nat) (i:Nat):Nat:=xs.getD i 0
def Ris (xs:Array Nat):Prop:=∀ i j,i < j→j < xs.size→g xs i < g xs j
def Occ (t:SetTable) (x:Nat):Prop:=∃ i,i < t.place.size∧g t.place i=x
structure WF (t:SetTable) (hs:List Int):Prop where
 dum:t.dummies=#[]
 sz:t.place.size=hs.length
 ris:Ris t.place
 bnd:∀ i,i < t.place.size→g t.place i≤t.mask
 msk:∃ j,3≤j∧t.mask=2 ^ j - 1
 room:t.place.size≤t.mask
 rch:∀ i h,hs[i]?=some h→∃ n,vis t.mask h n=g t.place i∧∀ k,k < n→Occ t (vis t.mask h k)
instance (t:SetTable):DecidablePred (Occ t):=fun x=>decidable_of_iff (∃ i,i < t.place.size∧g t.place i=x) Iff.rfl
end ST
end


noncomputable section
set_option Elab.async false
set_option linter.all false
set_option maxRecDepth 100000
set_option maxHeartbeats 4000000
namespace TS
open PySem PyProof.Rows
def gallopT:Bool→Keyed→Array Keyed→Nat→Nat→Nat→StateT SortSt Sem (Option Nat):=sortPriv% PySem.Builtin.gallop
def mergeLoT:Array Keyed→Array Keyed→StateT SortSt Sem (Array Keyed):=sortPriv% PySem.Builtin.mergeLo
def mergeHiT:Array Keyed→Array Keyed→StateT SortSt Sem (Array Keyed):=sortPriv% PySem.Builtin.mergeHi
abbrev setGal (st:SortSt) (g:Nat):SortSt:=SortSt.mk' (kindOf st) (arrOf st) (pendingOf st) g (failedOf st)
theorem gallopT_eq (left:Bool) (key:Keyed) (arr:Array Keyed) (base n hint:Nat):gallopT left key arr base n hint=(do
  let ask:=fun (at_:Nat)=>(do
   let z ← elem' arr (base+at_)
   if left then lt' z key else return (← lt' key z).map (!·):StateT SortSt Sem (Option Bool))
  let mut before:=0
  let mut step:=1
  let mut u:=0
  let mut v:=0
  let some up ← ask hint | return none
  if up then
   let room:=n - hint
   for _ in [0:n] do
    if step ≥ room then break
    let some on ← ask (hint+step) | return none
    if !on then break
    before:=step
    step:=2 * step+1
   u:=hint+before+1
   v:=hint+min step room
  else
   let room:=hint+1
   for _ in [0:n] do
    if step ≥ room then break
    let some hit ← ask (hint - step) | return none
    if hit then break
    before:=step
    step:=2 * step+1
   u:=hint+1 - min step room
   v:=hint - before
  for _ in [0:n] do
   if u ≥ v then break
   let mid:=u+(v - u) / 2
   let some on ← ask mid | return none
   if on then u:=mid+1 else v:=mid
  return some v):=rfl
theorem mergeLoT_eq (p q:Array Keyed):mergeLoT p q=(do
  rule "list.sort.merge-lo"
  let all:=p.size+q.size
  let rest:=fun (to:Array Keyed) (i j:Nat)=>to++p.extract i p.size++q.extract j q.size
  let tail:=fun (to:Array Keyed) (i j:Nat)=>to++q.extract j q.size++p.extract i p.size
  let mut to:Array Keyed:=#[← elem' q 0]
  let mut i:=0
  let mut j:=1
  if j == q.size then return rest to i j
  if i+1 == p.size then return tail to i j
  let mut mg:=gallopOf (← get)
  for _ in [0:all] do
   let mut m:=0
   let mut n:=0
   for _ in [0:all] do
    let some won ← lt' (← elem' q j) (← elem' p i) | return rest to i j
    if won then
     to:=to.push (← elem' q j); j:=j+1; n:=n+1; m:=0
     if j == q.size then return rest to i j
     if n ≥ mg then break
    else
     to:=to.push (← elem' p i); i:=i+1; m:=m+1; n:=0
     if i+1 == p.size then return tail to i j
     if m ≥ mg then break
   rule "list.sort.gallop"
   mg:=mg+1
   for _ in [0:all] do
    if mg > 1 then mg:=mg - 1
    modify fun st=>setGal st mg
    let some k ← gallopT false (← elem' q j) p i (p.size - i) 0 | return rest to i j
    m:=k
    if k > 0 then
     to:=to++p.extract i (i+k); i:=i+k
     if i+1 == p.size then return tail to i j
     if i == p.size then return rest to i j
    to:=to.push (← elem' q j); j:=j+1
    if j == q.size then return rest to i j
    let some k ← gallopT true (← elem' p i) q j (q.size - j) 0 | return rest to i j
    n:=k
    if k > 0 then
     to:=to++q.extract j (j+k); j:=j+k
     if j == q.size then return rest to i j
    to:=to.push (← elem' p i); i:=i+1
    if i+1 == p.size then return tail to i j
    if m < 7 && n < 7 then break
   mg:=mg+1
   modify fun st=>setGal st mg
  unsupported "internal:list.sort.merge-bound"):=rfl
theorem mergeHiT_eq (p q:Array Keyed):mergeHiT p q=(do
  rule "list.sort.merge-hi"
  let all:=p.size+q.size
  let rest:=fun (to:Array Keyed) (i j:Nat)=>p.extract 0 i++q.extract 0 j++to.reverse
  let tail:=fun (to:Array Keyed) (i j:Nat)=>q.extract 0 j++p.extract 0 i++to.reverse
  let mut i:=p.size - 1
  let mut j:=q.size
  let mut to:Array Keyed:=#[← elem' p i]
  if i == 0 then return rest to i j
  if j == 1 then return tail to i j
  let mut mg:=gallopOf (← get)
  for _ in [0:all] do
   let mut m:=0
   let mut n:=0
   for _ in [0:all] do
    let some won ← lt' (← elem' q (j - 1)) (← elem' p (i - 1)) | return rest to i j
    if won then
     i:=i - 1; to:=to.push (← elem' p i); m:=m+1; n:=0
     if i == 0 then return rest to i j
     if m ≥ mg then break
    else
     j:=j - 1; to:=to.push (← elem' q j); n:=n+1; m:=0
     if j == 1 then return tail to i j
     if n ≥ mg then break
   rule "list.sort.gallop"
   mg:=mg+1
   for _ in [0:all] do
    if mg > 1 then mg:=mg - 1
    modify fun st=>setGal st mg
    let some h ← gallopT false (← elem' q (j - 1)) p 0 i (i - 1) | return rest to i j
    let k:=i - h
    m:=k
    if k > 0 then
     to:=to++(p.extract h i).reverse; i:=h
     if i == 0 then return rest to i j
    j:=j - 1; to:=to.push (← elem' q j)
    if j == 1 then return tail to i j
    let some h ← gallopT true (← elem' p (i - 1)) q 0 j (j - 1) | return rest to i j
    let k:=j - h
    n:=k
    if k > 0 then
     to:=to++(q.extract h j).reverse; j:=h
     if j == 1 then return tail to i j
     if j == 0 then return rest to i j
    i:=i - 1; to:=to.push (← elem' p i)
    if i == 0 then return rest to i j
    if m < 7 && n < 7 then break
   mg:=mg+1
   modify fun st=>setGal st mg
  unsupported "internal:list.sort.merge-bound"):=rfl
theorem mergeAtT_eq (i:Nat):mergeAt' i=(do
  let st ← get
  let (some (sa,na,pw),some (sb,nb,_)):=((pendingOf st)[i]?,(pendingOf st)[i+1]?) | unsupported "internal:list.sort.pending"
  set (setPending st (((pendingOf st).setIfInBounds i (sa,na+nb,pw)).eraseIdxIfInBounds (i+1)))
  let some k ← gallopT false (← elem' (arrOf st) sb) (arrOf st) sa na 0 | return false
  let (sa,na):=(sa+k,na - k)
  if na == 0 then return true
  let some nb ← gallopT true (← elem' (arrOf st) (sa+na - 1)) (arrOf st) sb nb (nb - 1) | return false
  if nb == 0 then return true
  let x:=(arrOf st).extract sa sb
  let y:=(arrOf st).extract sb (sb+nb)
  let got ← if na≤nb then mergeLoT x y else mergeHiT x y
  modify fun s2=>setArr s2 (got.toList.zipIdx.foldl (fun a (p,j)=>a.setIfInBounds (sa+j) p) (arrOf s2))
  return (failedOf (← get)).isNone):=rfl
end TS
end

noncomputable section
set_option Elab.async false
set_option linter.all false
set_option maxRecDepth 100000
set_option maxHeartbeats 4000000
namespace TS
open PySem PyProof.Rows
structure Ordd (c:Keyed→Keyed→Bool):Prop where
 asym:∀ x y,c x y=true→c y x=false
 ntr:∀ x y z,c x z=true→c x y=true∨c y z=true
def le (c:Keyed→Keyed→Bool) (x y:Keyed):Prop:=c y x=false
section
variable {c:Keyed→Keyed→Bool}
theorem Ordd.refl (O:Ordd c) (x:Keyed):le c x x:=by
 cases h:c x x
 ·exact h
 ·exact O.asym _ _ h
theorem Ordd.trans (O:Ordd c) {x y z:Keyed} (h1:le c x y) (h2:le c y z):le c x z:=by
 cases h:c z x
 ·exact h
 ·rcases O.ntr _ y _ h with q | q
  ·exact absurd (q.symm.trans h2) (by simp)
  ·exact absurd (q.symm.trans h1) (by simp)
theorem Ordd.of_lt (O:Ordd c) {x y:Keyed} (h:c x y=true):le c x y:=O.asym _ _ h
def el (a:Array Keyed) (i:Nat):Keyed:=a.getD i (Value.none,Value.none)
theorem el_some {a:Array Keyed} {i:Nat} (h:i < a.size):a[i]?=some (el a i):=by
 rw [getElem?_pos a i h,el,Array.getD_eq_getD_getElem?,getElem?_pos a i h]
 rfl
theorem el_of {a:Array Keyed} {i:Nat} {x:Keyed} (h:a[i]?=some x):el a i=x:=by
 rw [el,Array.getD_eq_getD_getElem?,h]
 rfl
theorem el_congr {a b:Array Keyed} {i j:Nat} (h:a[i]?=b[j]?):el a i=el b j:=by
 rw [el,el,Array.getD_eq_getD_getElem?,Array.getD_eq_getD_getElem?,h]
def SR (c:Keyed→Keyed→Bool) (a:Array Keyed) (lo hi:Nat):Prop:=∀ i j,lo≤i→i≤j→j < hi→le c (el a i) (el a j)
def LtOk (prog:Program) (w:World) (A:Around) (E:Value→Shared→Prop) (s:Shared) (κ:SortKind) (c:Keyed→Keyed→Bool) (S:Keyed→Prop):Prop :=
 ∀ (x y:Keyed) (st:SortSt) (Q:Option Bool→SortSt→Prop),S x→S y→kindOf st=κ→Q (some (c x y)) st→wpS (model prog w) A E s (lt' x y) Q st
end
section
variable {prog:Program} {w:World} {A:Around} {E:Value→Shared→Prop} {s:Shared} {κ:SortKind} {c:Keyed→Keyed→Bool} {S:Keyed→Prop}
theorem wpS_elem {a:Array Keyed} {i:Nat} {Q:Keyed→SortSt→Prop} {st:SortSt} (h:i < a.size) (q:Q (el a i) st):wpS (model prog w) A E s (elem' a i) Q st:=by
 rw [elem'_eq,el_some h]
 exact wpS_pure q
def by_ (c:Keyed→Keyed→Bool) (left:Bool) (key:Keyed) (a:Array Keyed) (base i:Nat):Bool:=if left=true then c (el a (base+i)) key else !c key (el a (base+i))
theorem by_mono (O:Ordd c) {left:Bool} {key:Keyed} {a:Array Keyed} {base n i j:Nat} (hs:SR c a base (base+n)) (hij:i≤j) (hj:j < n) (h:by_ c left key a base j=true):by_ c left key a base i=true:=by
 have hl:=hs (base+i) (base+j) (by omega) (by omega) (by omega)
 unfold by_ at *
 cases left with
 | true =>
  rw [if_pos rfl] at *
  rcases O.ntr _ (el a (base+i)) _ h with q | q
  ·exact absurd (q.symm.trans hl) (by simp)
  ·exact q
 | false =>
  rw [if_neg (by simp)] at *
  rw [Bool.not_eq_true'] at *
  exact O.trans hl h
theorem wpS_ask (L:LtOk prog w A E s κ c S) {left:Bool} {key:Keyed} {a:Array Keyed} {base n i:Nat} {Q:Option Bool→SortSt→Prop} {st:SortSt} (hk:kindOf st=κ) (hK:S key) (hA:∀ i,i < n→S (el a (base+i))) (hn:base+n≤a.size) (hi:i < n)
  (h:Q (some (by_ c left key a base i)) st):wpS (model prog w) A E s (do
   let z ← elem' a (base+i)
   if left then lt' z key else return (← lt' key z).map (!·):StateT SortSt Sem (Option Bool)) Q st:=by
 refine wpS_bind (wpS_elem (by omega) ?_)
 unfold by_ at h
 cases left with
 | true =>
  rw [if_pos rfl] at *
  exact L _ _ st Q (hA i hi) hK hk h
 | false =>
  rw [if_neg (by simp)] at *
  exact wpS_bind (L _ _ st _ hK (hA i hi) hk (wpS_pure h))
theorem wp_gallop (O:Ordd c) (L:LtOk prog w A E s κ c S) {left:Bool} {key:Keyed} {a:Array Keyed} {base n hint:Nat} {Q:Option Nat→SortSt→Prop} {st:SortSt} (hk:kindOf st=κ) (hK:S key) (hA:∀ i,i < n→S (el a (base+i))) (hn:base+n≤a.size)
  (hs:SR c a base (base+n)) (hh:hint < n) (h:∀ k,k≤n→(∀ i,i < k→by_ c left key a base i=true)→(∀ i,k≤i→i < n→by_ c left key a base i=false)→Q (some k) st) :
  wpS (model prog w) A E s (gallopT left key a base n hint) Q st:=by
 rw [gallopT_eq]
 dsimp only
 have up:∀ {i j},i≤j→j < n→by_ c left key a base j=true→by_ c left key a base i=true:=fun h1 h2 h3=>by_mono O hs h1 h2 h3
 refine wpS_bind (wpS_ask L hk hK hA hn hh ?_)
 dsimp only
 have dn:∀ {i j},i≤j→j < n→by_ c left key a base i=false→by_ c left key a base j=false:=fun {i j} h1 h2 h3=>by
  cases q:by_ c left key a base j
  ·rfl
  ·rw [up h1 h2 q] at h3
   exact absurd h3 (by simp)
 cases hb0:by_ c left key a base hint with
 | true =>
  rw [if_pos rfl]
  refine wpS_bind (wpS_mono (wpS_forRange (I:=fun x r st'=>st'=st∧∃ be stp,r=(none,be,stp)∧hint+be < n∧be < stp∧x+1≤stp∧by_ c left key a base (hint+be)=true)
   (Q:=fun r st'=>st'=st∧∃ be stp,r=(none,be,stp)∧hint+be < n∧be < stp∧by_ c left key a base (hint+be)=true∧(n - hint≤stp∨(hint+stp < n∧by_ c left key a base (hint+stp)=false))) ?_ ?_ ?_) ?_)
  ·rintro x r st' _ hx ⟨rfl,be,stp,rfl,h1,h2,h3,h4⟩
   dsimp only
   by_cases hr:stp ≥ n - hint
   ·rw [if_pos hr]
    exact wpS_pure ⟨rfl,be,stp,rfl,h1,h2,h4,.inl hr⟩
   ·rw [if_neg hr]
    refine wpS_bind (wpS_ask L hk hK hA hn (by omega) ?_)
    dsimp only
    cases hb:by_ c left key a base (hint+stp) with
    | true =>
     rw [if_neg (by simp)]
     exact wpS_pure ⟨rfl,stp,_,rfl,by omega,by omega,by omega,hb⟩
    | false =>
     rw [if_pos (by simp)]
     exact wpS_pure ⟨rfl,be,stp,rfl,h1,h2,h4,.inr ⟨by omega,hb⟩⟩
  ·rintro r st' ⟨rfl,be,stp,rfl,h1,h2,h3,h4⟩
   exact ⟨rfl,be,stp,rfl,h1,h2,h4,.inl (by omega)⟩
  ·exact ⟨rfl,0,1,rfl,by omega,by omega,by omega,hb0⟩
  rintro r st' ⟨e0,be,stp,rfl,h1,h2,h4,h5⟩
  rw [e0]
  dsimp only
  have g1:∀ i,i < hint+be+1→by_ c left key a base i=true:=fun i hi=>up (j:=hint+be) (by omega) h1 h4
  have g2:∀ i,hint+min stp (n - hint)≤i→i < n→by_ c left key a base i=false:=fun i hi hi'=>by
   rcases h5 with q | ⟨q1,q2⟩
   ·omega
   ·exact dn (i:=hint+stp) (by omega) hi' q2
  refine wpS_bind (wpS_mono (wpS_forRange (I:=fun x r st'=>st'=st∧∃ u v,r=(none,u,v)∧u≤v∧v≤n∧v - u≤n - x∧(∀ i,i < u→by_ c left key a base i=true)∧(∀ i,v≤i→i < n→by_ c left key a base i=false))
   (Q:=fun r st'=>st'=st∧∃ v,r=(none,v,v)∧v≤n∧(∀ i,i < v→by_ c left key a base i=true)∧(∀ i,v≤i→i < n→by_ c left key a base i=false)) ?_ ?_ ?_) ?_)
  ·rintro x r st' _ hx ⟨rfl,u,v,rfl,h1,h2,h3,h4,h5⟩
   dsimp only
   by_cases huv:u ≥ v
   ·rw [if_pos huv]
    obtain rfl:u=v:=by omega
    exact wpS_pure ⟨rfl,u,rfl,h2,h4,h5⟩
   ·rw [if_neg huv]
    refine wpS_bind (wpS_ask L hk hK hA hn (by omega) ?_)
    dsimp only
    cases hb:by_ c left key a base (u+(v - u) / 2) with
    | true =>
     rw [if_pos rfl]
     exact wpS_pure ⟨rfl,_,v,rfl,by omega,h2,by omega,fun i hi=>up (j:=u+(v - u) / 2) (by omega) (by omega) hb,h5⟩
    | false =>
     rw [if_neg (by simp)]
     exact wpS_pure ⟨rfl,u,_,rfl,by omega,by omega,by omega,h4,fun i hi hi'=>dn (i:=u+(v - u) / 2) (by omega) (by omega) hb⟩
  ·rintro r st' ⟨rfl,u,v,rfl,h1,h2,h3,h4,h5⟩
   obtain rfl:u=v:=by omega
   exact ⟨rfl,u,rfl,h2,h4,h5⟩
  ·exact ⟨rfl,_,_,rfl,by omega,by omega,by omega,by assumption,by assumption⟩
  ·rintro r st' ⟨rfl,v,rfl,h2,h4,h5⟩
   exact wpS_pure (h v h2 h4 h5)
 | false =>
  rw [if_neg (by simp)]
  refine wpS_bind (wpS_mono (wpS_forRange (I:=fun x r st'=>st'=st∧∃ be stp,r=(none,be,stp)∧be≤hint∧be < stp∧x+1≤stp∧by_ c left key a base (hint - be)=false)
   (Q:=fun r st'=>st'=st∧∃ be stp,r=(none,be,stp)∧be≤hint∧be < stp∧by_ c left key a base (hint - be)=false∧(hint+1≤stp∨(stp≤hint∧by_ c left key a base (hint - stp)=true))) ?_ ?_ ?_) ?_)
  ·rintro x r st' _ hx ⟨rfl,be,stp,rfl,h1,h2,h3,h4⟩
   dsimp only
   by_cases hr:stp ≥ hint+1
   ·rw [if_pos hr]
    exact wpS_pure ⟨rfl,be,stp,rfl,h1,h2,h4,.inl hr⟩
   ·rw [if_neg hr]
    refine wpS_bind (wpS_ask L hk hK hA hn (by omega) ?_)
    dsimp only
    cases hb:by_ c left key a base (hint - stp) with
    | true =>
     rw [if_pos rfl]
     exact wpS_pure ⟨rfl,be,stp,rfl,h1,h2,h4,.inr ⟨by omega,hb⟩⟩
    | false =>
     rw [if_neg (by simp)]
     exact wpS_pure ⟨rfl,stp,_,rfl,by omega,by omega,by omega,hb⟩
  ·rintro r st' ⟨rfl,be,stp,rfl,h1,h2,h3,h4⟩
   exact ⟨rfl,be,stp,rfl,h1,h2,h4,.inl (by omega)⟩
  ·exact ⟨rfl,0,1,rfl,by omega,by omega,by omega,hb0⟩
  rintro r st' ⟨e0,be,stp,rfl,h1,h2,h4,h5⟩
  rw [e0]
  dsimp only
  have g1:∀ i,i < hint+1 - min stp (hint+1)→by_ c left key a base i=true:=fun i hi=>by
   rcases h5 with q | ⟨q1,q2⟩
   ·omega
   ·exact up (j:=hint - stp) (by omega) (by omega) q2
  have g2:∀ i,hint - be≤i→i < n→by_ c left key a base i=false:=fun i hi hi'=>dn (i:=hint - be) hi hi' h4
  refine wpS_bind (wpS_mono (wpS_forRange (I:=fun x r st'=>st'=st∧∃ u v,r=(none,u,v)∧u≤v∧v≤n∧v - u≤n - x∧(∀ i,i < u→by_ c left key a base i=true)∧(∀ i,v≤i→i < n→by_ c left key a base i=false))
   (Q:=fun r st'=>st'=st∧∃ v,r=(none,v,v)∧v≤n∧(∀ i,i < v→by_ c left key a base i=true)∧(∀ i,v≤i→i < n→by_ c left key a base i=false)) ?_ ?_ ?_) ?_)
  ·rintro x r st' _ hx ⟨rfl,u,v,rfl,h1,h2,h3,h4,h5⟩
   dsimp only
   by_cases huv:u ≥ v
   ·rw [if_pos huv]
    obtain rfl:u=v:=by omega
    exact wpS_pure ⟨rfl,u,rfl,h2,h4,h5⟩
   ·rw [if_neg huv]
    refine wpS_bind (wpS_ask L hk hK hA hn (by omega) ?_)
    dsimp only
    cases hb:by_ c left key a base (u+(v - u) / 2) with
    | true =>
     rw [if_pos rfl]
     exact wpS_pure ⟨rfl,_,v,rfl,by omega,h2,by omega,fun i hi=>up (j:=u+(v - u) / 2) (by omega) (by omega) hb,h5⟩
    | false =>
     rw [if_neg (by simp)]
     exact wpS_pure ⟨rfl,u,_,rfl,by omega,by omega,by omega,h4,fun i hi hi'=>dn (i:=u+(v - u) / 2) (by omega) (by omega) hb⟩
  ·rintro r st' ⟨rfl,u,v,rfl,h1,h2,h3,h4,h5⟩
   obtain rfl:u=v:=by omega
   exact ⟨rfl,u,rfl,h2,h4,h5⟩
  ·exact ⟨rfl,_,_,rfl,by omega,by omega,by omega,by assumption,by assumption⟩
  ·rintro r st' ⟨rfl,v,rfl,h2,h4,h5⟩
   exact wpS_pure (h v h2 h4 h5)
end
end TS
end

noncomputable section
set_option Elab.async false
set_option linter.all false
set_option maxRecDepth 100000
set_option maxHeartbeats 4000000
namespace TS
open PySem PyProof.Rows
section
variable {c:Keyed→Keyed→Bool} {p q:Array Keyed} {t:List Keyed} {i j:Nat}
theorem take_el {a:Array Keyed} {i:Nat} (h:i < a.size):a.toList.take (i+1)=a.toList.take i++[el a i]:=by
 have e:a.toList[i]?=some (el a i):=by rw [Array.getElem?_toList]; exact el_some h
 rw [List.take_succ,e]
 rfl
theorem drop_el {a:Array Keyed} {i:Nat} (h:i < a.size):a.toList.drop i=el a i::a.toList.drop (i+1):=by
 have hl:i < a.toList.length:=by rw [Array.length_toList]; exact h
 have e:a.toList[i]=el a i:=by
  have h1:=List.getElem?_eq_getElem hl
  rw [Array.getElem?_toList,el_some h] at h1
  exact (Option.some.inj h1).symm
 rw [List.drop_eq_getElem_cons hl,e]
structure Mg (c:Keyed→Keyed→Bool) (p q:Array Keyed) (t:List Keyed) (i j:Nat):Prop where
 hi:i≤p.size
 hj:j≤q.size
 perm:t.Perm (p.toList.take i++q.toList.take j)
 srt:t.Pairwise (le c)
 ap:∀ x ∈ t,∀ k,i≤k→k < p.size→le c x (el p k)
 aq:∀ x ∈ t,∀ k,j≤k→k < q.size→le c x (el q k)
def Gd (c:Keyed→Keyed→Bool) (p q:Array Keyed) (t:List Keyed):Prop:=t.Perm (p.toList++q.toList)∧t.Pairwise (le c)
theorem snoc_srt {x:Keyed} (h:t.Pairwise (le c)) (hx:∀ y ∈ t,le c y x):(t++[x]).Pairwise (le c):=by
 rw [List.pairwise_append]
 exact ⟨h,List.pairwise_singleton _ _,fun y hy z hz=>by rw [List.mem_singleton.mp hz]; exact hx y hy⟩
theorem Mg.pushQ (m:Mg c p q t i j) (hj:j < q.size) (sq:SR c q 0 q.size) (hle:∀ k,i≤k→k < p.size→le c (el q j) (el p k)):Mg c p q (t++[el q j]) i (j+1) where
 hi:=m.hi
 hj:=hj
 perm:=by
  rw [take_el hj,← List.append_assoc]
  exact m.perm.append_right _
 srt:=snoc_srt m.srt fun y hy=>m.aq y hy j (Nat.le_refl _) hj
 ap:=fun x hx k h1 h2=>by
  rcases List.mem_append.mp hx with h | h
  ·exact m.ap x h k h1 h2
  ·rw [List.mem_singleton.mp h]
   exact hle k h1 h2
 aq:=fun x hx k h1 h2=>by
  rcases List.mem_append.mp hx with h | h
  ·exact m.aq x h k (by lia) h2
  ·rw [List.mem_singleton.mp h]
   exact sq j k (by lia) (by lia) h2
theorem Mg.pushP (m:Mg c p q t i j) (hi:i < p.size) (sp:SR c p 0 p.size) (hle:∀ k,j≤k→k < q.size→le c (el p i) (el q k)):Mg c p q (t++[el p i]) (i+1) j where
 hi:=hi
 hj:=m.hj
 perm:=by
  rw [take_el hi]
  refine (m.perm.append_right _).trans ?_
  rw [List.append_assoc,List.append_assoc]
  exact List.Perm.append_left _ List.perm_append_comm
 srt:=snoc_srt m.srt fun y hy=>m.ap y hy i (Nat.le_refl _) hi
 ap:=fun x hx k h1 h2=>by
  rcases List.mem_append.mp hx with h | h
  ·exact m.ap x h k (by lia) h2
  ·rw [List.mem_singleton.mp h]
   exact sp i k (by lia) (by lia) h2
 aq:=fun x hx k h1 h2=>by
  rcases List.mem_append.mp hx with h | h
  ·exact m.aq x h k h1 h2
  ·rw [List.mem_singleton.mp h]
   exact hle k h1 h2
theorem drop_take_succ {a:Array Keyed} {i k:Nat} (h:i+k < a.size):(a.toList.drop i).take (k+1)=(a.toList.drop i).take k++[el a (i+k)]:=by
 have e:(a.toList.drop i)[k]?=some (el a (i+k)):=by rw [List.getElem?_drop,Array.getElem?_toList]; exact el_some h
 rw [List.take_succ,e]
 rfl
theorem Mg.takeP (m:Mg c p q t i j) (sp:SR c p 0 p.size):∀ (k:Nat),i+k≤p.size→(∀ x,x < k→∀ y,j≤y→y < q.size→le c (el p (i+x)) (el q y))→Mg c p q (t++(p.toList.drop i).take k) (i+k) j
 | 0,_,_=>by simpa using m
 | k+1,h,hle=>by
  have m':=Mg.takeP m sp k (by lia) fun x hx=>hle x (by lia)
  rw [drop_take_succ (by lia),← List.append_assoc,← Nat.add_assoc]
  exact m'.pushP (by lia) sp (hle k (by lia))
theorem Mg.takeQ (m:Mg c p q t i j) (sq:SR c q 0 q.size):∀ (k:Nat),j+k≤q.size→(∀ x,x < k→∀ y,i≤y→y < p.size→le c (el q (j+x)) (el p y))→Mg c p q (t++(q.toList.drop j).take k) i (j+k)
 | 0,_,_=>by simpa using m
 | k+1,h,hle=>by
  have m':=Mg.takeQ m sq k (by lia) fun x hx=>hle x (by lia)
  rw [drop_take_succ (by lia),← List.append_assoc,← Nat.add_assoc]
  exact m'.pushQ (by lia) sq (hle k (by lia))
theorem Mg.full (m:Mg c p q t p.size q.size):Gd c p q t:=by
 refine ⟨?_,m.srt⟩
 have h:=m.perm
 rw [List.take_of_length_le (by rw [Array.length_toList]; lia),List.take_of_length_le (by rw [Array.length_toList]; lia)] at h
 exact h
theorem ext_list (a:Array Keyed) (i j:Nat):(a.extract i j).toList=(a.toList.drop i).take (j - i):=by
 rw [Array.toList_extract,List.extract_eq_take_drop]
theorem ext_none {a:Array Keyed} {i j:Nat} (h:a.size≤i):(a.toList.drop i).take (j - i)=[]:=by
 rw [List.drop_of_length_le (by rw [Array.length_toList]; exact h)]
 simp
theorem Mg.done {to:Array Keyed} (m:Mg c p q to.toList i j) (sp:SR c p 0 p.size) (sq:SR c q 0 q.size) (h:i=p.size∨j=q.size):Gd c p q (to++p.extract i p.size++q.extract j q.size).toList:=by
 rw [Array.toList_append,Array.toList_append,ext_list,ext_list]
 rcases h with rfl | rfl
 ·rw [ext_none (Nat.le_refl _),List.append_nil]
  have m':=m.takeQ sq (q.size - j) (by have:=m.hj; lia) fun x hx y h1 h2=>by lia
  rw [show j+(q.size - j)=q.size by have:=m.hj; lia] at m'
  exact m'.full
 ·rw [ext_none (a:=q) (Nat.le_refl _),List.append_nil]
  have m':=m.takeP sp (p.size - i) (by have:=m.hi; lia) fun x hx y h1 h2=>by lia
  rw [show i+(p.size - i)=p.size by have:=m.hi; lia] at m'
  exact m'.full
theorem Mg.tail {to:Array Keyed} (O:Ordd c) (m:Mg c p q to.toList i j) (sp:SR c p 0 p.size) (sq:SR c q 0 q.size) (h:i+1=p.size) (hl:∀ y,y < q.size→c (el q y) (el p (p.size - 1))=true):Gd c p q (to++q.extract j q.size++p.extract i p.size).toList:=by
 rw [Array.toList_append,Array.toList_append,ext_list,ext_list]
 have m':=m.takeQ sq (q.size - j) (by have:=m.hj; lia) fun x hx y h1 h2=>by
  rw [show y=p.size - 1 by lia]
  exact O.of_lt (hl _ (by lia))
 rw [show j+(q.size - j)=q.size by have:=m.hj; lia] at m'
 have m2:=m'.takeP sp (p.size - i) (by have:=m.hi; lia) fun x hx y h1 h2=>by lia
 rw [show i+(p.size - i)=p.size by have:=m.hi; lia] at m2
 exact m2.full
theorem app_ext (to a:Array Keyed) (i k:Nat):(to++a.extract i (i+k)).toList=to.toList++(a.toList.drop i).take k:=by
 rw [Array.toList_append,ext_list,show i+k - i=k by lia]
theorem Mg.start (O:Ordd c) (sp:SR c p 0 p.size) (sq:SR c q 0 q.size) (hq:0 < q.size) (hp:0 < p.size) (h:c (el q 0) (el p 0)=true):Mg c p q [el q 0] 0 1:=by
 have m:Mg c p q [] 0 0:=⟨Nat.zero_le _,Nat.zero_le _,(by simp),.nil,(fun x hx=>by cases hx),(fun x hx=>by cases hx)⟩
 exact m.pushQ hq sq fun k _ hk=>O.trans (O.of_lt h) (sp 0 k (by lia) (by lia) hk)
end
structure Eqs (st st':SortSt):Prop where
 kind:kindOf st'=kindOf st
 arr:arrOf st'=arrOf st
 pend:pendingOf st'=pendingOf st
 fail:failedOf st'=failedOf st
theorem Eqs.refl (st:SortSt):Eqs st st:=⟨rfl,rfl,rfl,rfl⟩
theorem Eqs.gal {st st':SortSt} (e:Eqs st st') (g:Nat):Eqs st (setGal st' g):=⟨e.kind,e.arr,e.pend,e.fail⟩
section
variable {prog:Program} {w:World} {A:Around} {E:Value→Shared→Prop} {s:Shared} {κ:SortKind} {c:Keyed→Keyed→Bool} {S:Keyed→Prop} {p q:Array Keyed}
theorem wp_mergeLo (O:Ordd c) (L:LtOk prog w A E s κ c S) {Q:Array Keyed→SortSt→Prop} {st:SortSt} (hk:kindOf st=κ) (Sp:∀ i,i < p.size→S (el p i)) (Sq:∀ i,i < q.size→S (el q i)) (sp:SR c p 0 p.size) (sq:SR c q 0 q.size)
  (hp:0 < p.size) (hq:0 < q.size) (hf:c (el q 0) (el p 0)=true) (hl:∀ y,y < q.size→c (el q y) (el p (p.size - 1))=true) (h:∀ to st',Eqs st st'→Gd c p q to.toList→Q to st') :
  wpS (model prog w) A E s (mergeLoT p q) Q st:=by
 rw [mergeLoT_eq]
 refine wpS_bind (wpS_lift (wpAny_rule ⟨rfl,?_⟩))
 dsimp only
 refine wpS_bind (wpS_elem hq ?_)
 have m0:Mg c p q (#[el q 0]:Array Keyed).toList 0 1:=Mg.start O sp sq hq hp hf
 by_cases h1:(1 == q.size)=true
 ·rw [if_pos h1]
  exact wpS_pure (h _ st (Eqs.refl st) (m0.done sp sq (.inr (by simpa using h1))))
 rw [if_neg h1]
 by_cases h2:(0+1 == p.size)=true
 ·rw [if_pos h2]
  exact wpS_pure (h _ st (Eqs.refl st) (m0.tail O sp sq (by simpa using h2) hl))
 rw [if_neg h2]
 refine wpS_bind (wpS_get ?_)
 refine wpS_bind (wpS_mono (wpS_forRange
  (I:=fun x r st'=>Eqs st st'∧∃ to i j mg,r=(none,to,i,j,mg)∧Mg c p q to.toList i j∧i+1 < p.size∧j < q.size∧x < i+j)
  (Q:=fun r st'=>Eqs st st'∧∃ out r',r=(some out,r')∧Gd c p q out.toList) ?_ ?_ ?_) ?_)
 ·rintro x r st' _ hx ⟨e,to,i,j,mg,rfl,m,hi,hj,hb⟩
  dsimp only
  refine wpS_bind (wpS_mono (wpS_forRange
   (I:=fun y r st'=>Eqs st st'∧∃ to i j m n,r=(none,to,i,j,m,n)∧Mg c p q to.toList i j∧i+1 < p.size∧j < q.size∧x+min y 1 < i+j)
   (Q:=fun r st'=>Eqs st st'∧((∃ out r',r=(some out,r')∧Gd c p q out.toList)∨∃ to i j m n,r=(none,to,i,j,m,n)∧Mg c p q to.toList i j∧i+1 < p.size∧j < q.size∧x+1 < i+j)) ?_ ?_ ?_) ?_)
  ·rintro y r st2 _ hy ⟨e2,to,i,j,ma,na,rfl,m,hi,hj,hb⟩
   dsimp only
   refine wpS_bind (wpS_elem hj (wpS_bind (wpS_elem (by lia) (wpS_bind (L _ _ st2 _ (Sq _ hj) (Sp _ (by lia)) (e2.kind.trans hk) ?_)))))
   dsimp only
   cases hc:c (el q j) (el p i) with
   | true =>
    rw [if_pos rfl]
    refine wpS_bind (wpS_elem hj ?_)
    have m1:Mg c p q (to.push (el q j)).toList i (j+1):=by
     rw [Array.toList_push]
     exact m.pushQ hj sq fun k h1 h2=>O.trans (O.of_lt hc) (sp i k (by lia) h1 h2)
    by_cases e3:(j+1 == q.size)=true
    ·rw [if_pos e3]
     exact wpS_pure ⟨e2,.inl ⟨_,_,rfl,m1.done sp sq (.inr (by simpa using e3))⟩⟩
    rw [if_neg e3]
    have h3:j+1≠q.size:=by simpa using e3
    split
    ·exact wpS_pure ⟨e2,.inr ⟨_,_,_,_,_,rfl,m1,hi,by lia,by lia⟩⟩
    ·exact wpS_pure ⟨e2,_,_,_,_,_,rfl,m1,hi,by lia,by lia⟩
   | false =>
    rw [if_neg (by simp)]
    refine wpS_bind (wpS_elem (by lia) ?_)
    have m1:Mg c p q (to.push (el p i)).toList (i+1) j:=by
     rw [Array.toList_push]
     exact m.pushP (by lia) sp fun k h1 h2=>O.trans (show le c (el p i) (el q j) from hc) (sq j k (by lia) h1 h2)
    by_cases e3:(i+1+1 == p.size)=true
    ·rw [if_pos e3]
     exact wpS_pure ⟨e2,.inl ⟨_,_,rfl,m1.tail O sp sq (by simpa using e3) hl⟩⟩
    rw [if_neg e3]
    have h3:i+1+1≠p.size:=by simpa using e3
    split
    ·exact wpS_pure ⟨e2,.inr ⟨_,_,_,_,_,rfl,m1,by lia,hj,by lia⟩⟩
    ·exact wpS_pure ⟨e2,_,_,_,_,_,rfl,m1,by lia,hj,by lia⟩
  ·rintro r st2 ⟨e2,to,i,j,ma,na,rfl,m,hi,hj,hb⟩
   exact ⟨e2,.inr ⟨_,_,_,_,_,rfl,m,hi,hj,by lia⟩⟩
  ·exact ⟨e,_,_,_,_,_,rfl,m,hi,hj,by lia⟩
  rintro r st2 ⟨e2,⟨out,r',rfl,g⟩ | ⟨to,i,j,ma,na,rfl,m,hi,hj,hb⟩⟩
  ·exact wpS_pure ⟨e2,_,_,rfl,g⟩
  dsimp only
  refine wpS_bind (wpS_lift (wpAny_rule ⟨rfl,?_⟩))
  refine wpS_bind (wpS_mono (wpS_forRange
   (I:=fun y r st'=>Eqs st st'∧∃ to i j mg m n,r=(none,to,i,j,mg,m,n)∧Mg c p q to.toList i j∧i+1 < p.size∧j < q.size∧x+1 < i+j)
   (Q:=fun r st'=>Eqs st st'∧((∃ out r',r=(some out,r')∧Gd c p q out.toList)∨∃ to i j mg m n,r=(none,to,i,j,mg,m,n)∧Mg c p q to.toList i j∧i+1 < p.size∧j < q.size∧x+1 < i+j)) ?_ ?_ ?_) ?_)
  ·rintro y r st2 _ hy ⟨e2,to,i,j,mg,ma,na,rfl,m,hi,hj,hb⟩
   dsimp only
   refine (fun (key:∀ g:Nat,(?G:Nat→Prop) g)=>?main) ?key
   case main =>
    by_cases hmg:mg > 1
    ·rw [if_pos hmg]
     generalize mg - 1=g
     exact key g
    ·rw [if_neg hmg]
     exact key mg
   case key =>
    intro g
    refine wpS_bind (wpS_modify ?_)
    have e':=fun g=>e2.gal (st:=st) g
    refine wpS_bind (wpS_elem (by lia) ?_)
    refine wpS_bind (wp_gallop O L ((e' _).kind.trans hk) (Sq _ (by lia)) (fun x hx=>Sp _ (by lia)) (by lia) (fun a b h1 h2 h3=>sp a b (by lia) h2 (by lia)) (by lia) fun k k1 k2 k3=>?_)
    dsimp only
    have e':=e' g
    have g0:∀ x,x < k→le c (el p (i+x)) (el q j):=fun x hx=>by
     have:=k2 x hx
     unfold by_ at this
     rw [if_neg (by simp),Bool.not_eq_true'] at this
     exact this
    have g1':∀ y,i+k≤y→y < p.size→le c (el q j) (el p y):=fun y h1 h2=>by
     have:=k3 (y - i) (by lia) (by lia)
     unfold by_ at this
     rw [if_neg (by simp),Bool.not_eq_false',show i+(y - i)=y by lia] at this
     exact O.of_lt this
    have hkl:i+k < p.size:=by
     rcases Nat.lt_or_ge (i+k) p.size with hlt | hge
     ·exact hlt
     ·have h1:=g0 (p.size - 1 - i) (by lia)
      rw [show i+(p.size - 1 - i)=p.size - 1 by lia] at h1
      exact absurd ((hl j hj).symm.trans h1) (by simp)
    by_cases hk0:k > 0
    ·rw [if_pos hk0]
     have m1:Mg c p q (to++p.extract i (i+k)).toList (i+k) j:=by
      rw [app_ext]
      exact m.takeP sp k (by lia) fun x hx y h1 h2=>O.trans (g0 x hx) (sq j y (by lia) h1 h2)
     have g1:=g1'
     by_cases e1:(i+k+1 == p.size)=true
     ·rw [if_pos e1]
      exact wpS_pure ⟨e',.inl ⟨_,_,rfl,m1.tail O sp sq (by simpa using e1) hl⟩⟩
     rw [if_neg e1]
     have h1':i+k+1≠p.size:=by simpa using e1
     rw [if_neg (by simp; lia)]
     refine wpS_bind (wpS_elem (by lia) ?_)
     have m2:Mg c p q ((to++p.extract i (i+k)).push (el q j)).toList (i+k) (j+1):=by
      rw [Array.toList_push]
      exact m1.pushQ hj sq g1
     by_cases e3:(j+1 == q.size)=true
     ·rw [if_pos e3]
      exact wpS_pure ⟨e',.inl ⟨_,_,rfl,m2.done sp sq (.inr (by simpa using e3))⟩⟩
     rw [if_neg e3]
     have h3:j+1≠q.size:=by simpa using e3
     refine wpS_bind (wpS_elem (by lia) ?_)
     refine wpS_bind (wp_gallop O L (e'.kind.trans hk) (Sp _ (by lia)) (fun x hx=>Sq _ (by lia)) (by lia) (fun a b h1 h2 h3=>sq a b (by lia) h2 (by lia)) (by lia) fun k2 k21 k22 k23=>?_)
     dsimp only
     have g2:∀ x,x < k2→c (el q (j+1+x)) (el p (i+k))=true:=fun x hx=>k22 x hx
     have g3':∀ y,j+1+k2≤y→y < q.size→le c (el p (i+k)) (el q y):=fun y h1 h2=>by
      have:=k23 (y - (j+1)) (by lia) (by lia)
      unfold by_ at this
      rw [if_pos rfl,show j+1+(y - (j+1))=y by lia] at this
      exact this
     by_cases hk20:k2 > 0
     ·rw [if_pos hk20]
      have m3:Mg c p q ((to++p.extract i (i+k)).push (el q j)++q.extract (j+1) (j+1+k2)).toList (i+k) (j+1+k2):=by
       rw [app_ext]
       exact m2.takeQ sq k2 (by lia) fun x hx y h1 h2=>O.trans (O.of_lt (g2 x hx)) (sp _ y (by lia) h1 h2)
      have g3:=g3'
      by_cases e4:(j+1+k2 == q.size)=true
      ·rw [if_pos e4]
       exact wpS_pure ⟨e',.inl ⟨_,_,rfl,m3.done sp sq (.inr (by simpa using e4))⟩⟩
      rw [if_neg e4]
      have h4:j+1+k2≠q.size:=by simpa using e4
      refine wpS_bind (wpS_elem (by lia) ?_)
      have m4:Mg c p q (((to++p.extract i (i+k)).push (el q j)++q.extract (j+1) (j+1+k2)).push (el p (i+k))).toList (i+k+1) (j+1+k2):=by
       rw [Array.toList_push]
       exact m3.pushP (by lia) sp g3
      by_cases e5:(i+k+1+1 == p.size)=true
      ·rw [if_pos e5]
       exact wpS_pure ⟨e',.inl ⟨_,_,rfl,m4.tail O sp sq (by simpa using e5) hl⟩⟩
      rw [if_neg e5]
      have h5:i+k+1+1≠p.size:=by simpa using e5
      split
      ·exact wpS_pure ⟨e',.inr ⟨_,_,_,_,_,_,rfl,m4,by lia,by lia,by lia⟩⟩
      ·exact wpS_pure ⟨e',_,_,_,_,_,_,rfl,m4,by lia,by lia,by lia⟩
     ·rw [if_neg hk20]
      obtain rfl:k2=0:=by lia
      have m3:=m2
      have g3:∀ y,j+1≤y→y < q.size→le c (el p (i+k)) (el q y):=g3'
      refine wpS_bind (wpS_elem (by lia) ?_)
      have m4:Mg c p q (((to++p.extract i (i+k)).push (el q j)).push (el p (i+k))).toList (i+k+1) (j+1):=by
       rw [Array.toList_push]
       exact m3.pushP (by lia) sp g3
      by_cases e5:(i+k+1+1 == p.size)=true
      ·rw [if_pos e5]
       exact wpS_pure ⟨e',.inl ⟨_,_,rfl,m4.tail O sp sq (by simpa using e5) hl⟩⟩
      rw [if_neg e5]
      have h5:i+k+1+1≠p.size:=by simpa using e5
      split
      ·exact wpS_pure ⟨e',.inr ⟨_,_,_,_,_,_,rfl,m4,by lia,by lia,by lia⟩⟩
      ·exact wpS_pure ⟨e',_,_,_,_,_,_,rfl,m4,by lia,by lia,by lia⟩
    ·rw [if_neg hk0]
     obtain rfl:k=0:=by lia
     have m1:=m
     have g1:∀ y,i≤y→y < p.size→le c (el q j) (el p y):=g1'
     refine wpS_bind (wpS_elem (by lia) ?_)
     have m2:Mg c p q ((to).push (el q j)).toList (i) (j+1):=by
      rw [Array.toList_push]
      exact m1.pushQ hj sq g1
     by_cases e3:(j+1 == q.size)=true
     ·rw [if_pos e3]
      exact wpS_pure ⟨e',.inl ⟨_,_,rfl,m2.done sp sq (.inr (by simpa using e3))⟩⟩
     rw [if_neg e3]
     have h3:j+1≠q.size:=by simpa using e3
     refine wpS_bind (wpS_elem (by lia) ?_)
     refine wpS_bind (wp_gallop O L (e'.kind.trans hk) (Sp _ (by lia)) (fun x hx=>Sq _ (by lia)) (by lia) (fun a b h1 h2 h3=>sq a b (by lia) h2 (by lia)) (by lia) fun k2 k21 k22 k23=>?_)
     dsimp only
     have g2:∀ x,x < k2→c (el q (j+1+x)) (el p (i))=true:=fun x hx=>k22 x hx
     have g3':∀ y,j+1+k2≤y→y < q.size→le c (el p (i)) (el q y):=fun y h1 h2=>by
      have:=k23 (y - (j+1)) (by lia) (by lia)
      unfold by_ at this
      rw [if_pos rfl,show j+1+(y - (j+1))=y by lia] at this
      exact this
     by_cases hk20:k2 > 0
     ·rw [if_pos hk20]
      have m3:Mg c p q ((to).push (el q j)++q.extract (j+1) (j+1+k2)).toList (i) (j+1+k2):=by
       rw [app_ext]
       exact m2.takeQ sq k2 (by lia) fun x hx y h1 h2=>O.trans (O.of_lt (g2 x hx)) (sp _ y (by lia) h1 h2)
      have g3:=g3'
      by_cases e4:(j+1+k2 == q.size)=true
      ·rw [if_pos e4]
       exact wpS_pure ⟨e',.inl ⟨_,_,rfl,m3.done sp sq (.inr (by simpa using e4))⟩⟩
      rw [if_neg e4]
      have h4:j+1+k2≠q.size:=by simpa using e4
      refine wpS_bind (wpS_elem (by lia) ?_)
      have m4:Mg c p q (((to).push (el q j)++q.extract (j+1) (j+1+k2)).push (el p (i))).toList (i+1) (j+1+k2):=by
       rw [Array.toList_push]
       exact m3.pushP (by lia) sp g3
      by_cases e5:(i+1+1 == p.size)=true
      ·rw [if_pos e5]
       exact wpS_pure ⟨e',.inl ⟨_,_,rfl,m4.tail O sp sq (by simpa using e5) hl⟩⟩
      rw [if_neg e5]
      have h5:i+1+1≠p.size:=by simpa using e5
      split
      ·exact wpS_pure ⟨e',.inr ⟨_,_,_,_,_,_,rfl,m4,by lia,by lia,by lia⟩⟩
      ·exact wpS_pure ⟨e',_,_,_,_,_,_,rfl,m4,by lia,by lia,by lia⟩
     ·rw [if_neg hk20]
      obtain rfl:k2=0:=by lia
      have m3:=m2
      have g3:∀ y,j+1≤y→y < q.size→le c (el p (i)) (el q y):=g3'
      refine wpS_bind (wpS_elem (by lia) ?_)
      have m4:Mg c p q (((to).push (el q j)).push (el p (i))).toList (i+1) (j+1):=by
       rw [Array.toList_push]
       exact m3.pushP (by lia) sp g3
      by_cases e5:(i+1+1 == p.size)=true
      ·rw [if_pos e5]
       exact wpS_pure ⟨e',.inl ⟨_,_,rfl,m4.tail O sp sq (by simpa using e5) hl⟩⟩
      rw [if_neg e5]
      have h5:i+1+1≠p.size:=by simpa using e5
      split
      ·exact wpS_pure ⟨e',.inr ⟨_,_,_,_,_,_,rfl,m4,by lia,by lia,by lia⟩⟩
      ·exact wpS_pure ⟨e',_,_,_,_,_,_,rfl,m4,by lia,by lia,by lia⟩
  ·rintro r st2 ⟨e2,to,i,j,mg,ma,na,rfl,m,hi,hj,hb⟩
   exact ⟨e2,.inr ⟨_,_,_,_,_,_,rfl,m,hi,hj,hb⟩⟩
  ·exact ⟨e2,_,_,_,_,_,_,rfl,m,hi,hj,hb⟩
  rintro r st2 ⟨e2,⟨out,r',rfl,g⟩ | ⟨to,i,j,mg,ma,na,rfl,m,hi,hj,hb⟩⟩
  ·exact wpS_pure ⟨e2,_,_,rfl,g⟩
  dsimp only
  refine wpS_bind (wpS_modify (wpS_pure ⟨e2.gal _,_,_,_,_,rfl,m,hi,hj,by lia⟩))
 ·rintro r st' ⟨e,to,i,j,mg,rfl,m,hi,hj,hb⟩
  exfalso
  rw [show max 0 (p.size+q.size)=p.size+q.size by lia] at hb
  lia
 ·exact ⟨Eqs.refl st,_,_,_,_,rfl,m0,by simp at h2; lia,by simp at h1; lia,by lia⟩
 ·rintro r st' ⟨e,out,r',rfl,g⟩
  exact wpS_pure (h _ st' e g)
end
end TS
end

noncomputable section
set_option Elab.async false
set_option linter.all false
set_option maxRecDepth 100000
set_option maxHeartbeats 4000000
namespace TS
open PySem PyProof.Rows
section
variable {c:Keyed→Keyed→Bool} {p q:Array Keyed} {t:List Keyed} {i j:Nat}
structure Mh (c:Keyed→Keyed→Bool) (p q:Array Keyed) (t:List Keyed) (i j:Nat):Prop where
 hi:i≤p.size
 hj:j≤q.size
 perm:t.Perm (p.toList.drop i++q.toList.drop j)
 srt:t.Pairwise (le c)
 ap:∀ x ∈ t,∀ k,k < i→le c (el p k) x
 aq:∀ x ∈ t,∀ k,k < j→le c (el q k) x
theorem drop_pred {a:Array Keyed} {i:Nat} (h0:0 < i) (h:i≤a.size):a.toList.drop (i - 1)=el a (i - 1)::a.toList.drop i:=by
 rw [drop_el (by lia),show i - 1+1=i by lia]
theorem Mh.pushP (m:Mh c p q t i j) (h0:0 < i) (sp:SR c p 0 p.size) (hle:∀ k,k < j→le c (el q k) (el p (i - 1))):Mh c p q (el p (i - 1)::t) (i - 1) j where
 hi:=by have:=m.hi; lia
 hj:=m.hj
 perm:=by
  rw [drop_pred h0 m.hi]
  exact m.perm.cons _
 srt:=List.pairwise_cons.mpr ⟨fun x hx=>m.ap x hx _ (by lia),m.srt⟩
 ap:=fun x hx k hk=>by
  rcases List.mem_cons.mp hx with rfl | h
  ·exact sp k (i - 1) (by lia) (by lia) (by have:=m.hi; lia)
  ·exact m.ap x h k (by lia)
 aq:=fun x hx k hk=>by
  rcases List.mem_cons.mp hx with rfl | h
  ·exact hle k hk
  ·exact m.aq x h k hk
theorem Mh.pushQ (m:Mh c p q t i j) (h0:0 < j) (sq:SR c q 0 q.size) (hle:∀ k,k < i→le c (el p k) (el q (j - 1))):Mh c p q (el q (j - 1)::t) i (j - 1) where
 hi:=m.hi
 hj:=by have:=m.hj; lia
 perm:=by
  rw [drop_pred h0 m.hj]
  exact (m.perm.cons _).trans List.perm_middle.symm
 srt:=List.pairwise_cons.mpr ⟨fun x hx=>m.aq x hx _ (by lia),m.srt⟩
 ap:=fun x hx k hk=>by
  rcases List.mem_cons.mp hx with rfl | h
  ·exact hle k hk
  ·exact m.ap x h k hk
 aq:=fun x hx k hk=>by
  rcases List.mem_cons.mp hx with rfl | h
  ·exact sq k (j - 1) (by lia) (by lia) (by have:=m.hj; lia)
  ·exact m.aq x h k (by lia)
theorem take_pred {a:Array Keyed} {i k:Nat} (h0:k < i) (h:i≤a.size):(a.toList.drop (i - (k+1))).take (k+1)=el a (i - (k+1))::(a.toList.drop (i - k)).take k:=by
 rw [drop_el (by lia),show i - (k+1)+1=i - k by lia,List.take_succ_cons]
theorem Mh.takeP' (m:Mh c p q t i j) (sp:SR c p 0 p.size):∀ (k:Nat),k≤i→(∀ x,i - k≤x→x < i→∀ y,y < j→le c (el q y) (el p x))→Mh c p q ((p.toList.drop (i - k)).take k++t) (i - k) j
 | 0,_,_=>by simpa using m
 | k+1,h,hle=>by
  have m':=Mh.takeP' m sp k (by lia) fun x h1 h2=>hle x (by lia) h2
  rw [take_pred (by lia) m.hi,List.cons_append]
  exact m'.pushP (by lia) sp fun y hy=>hle _ (by lia) (by lia) y hy
theorem Mh.takeQ' (m:Mh c p q t i j) (sq:SR c q 0 q.size):∀ (k:Nat),k≤j→(∀ x,j - k≤x→x < j→∀ y,y < i→le c (el p y) (el q x))→Mh c p q ((q.toList.drop (j - k)).take k++t) i (j - k)
 | 0,_,_=>by simpa using m
 | k+1,h,hle=>by
  have m':=Mh.takeQ' m sq k (by lia) fun x h1 h2=>hle x (by lia) h2
  rw [take_pred (by lia) m.hj,List.cons_append]
  exact m'.pushQ (by lia) sq fun y hy=>hle _ (by lia) (by lia) y hy
theorem Mh.takeP (m:Mh c p q t i j) (sp:SR c p 0 p.size) {h:Nat} (hh:h≤i) (hle:∀ x,h≤x→x < i→∀ y,y < j→le c (el q y) (el p x)):Mh c p q ((p.toList.drop h).take (i - h)++t) h j:=by
 have m':=m.takeP' sp (i - h) (by lia) fun x h1 h2=>hle x (by lia) h2
 rw [show i - (i - h)=h by lia] at m'
 exact m'
theorem Mh.takeQ (m:Mh c p q t i j) (sq:SR c q 0 q.size) {h:Nat} (hh:h≤j) (hle:∀ x,h≤x→x < j→∀ y,y < i→le c (el p y) (el q x)):Mh c p q ((q.toList.drop h).take (j - h)++t) i h:=by
 have m':=m.takeQ' sq (j - h) (by lia) fun x h1 h2=>hle x (by lia) h2
 rw [show j - (j - h)=h by lia] at m'
 exact m'
theorem Mh.full (m:Mh c p q t 0 0):Gd c p q t:=⟨m.perm,m.srt⟩
theorem out3 (a b to:Array Keyed) (i j:Nat):(a.extract 0 i++b.extract 0 j++to.reverse).toList=(a.toList.drop 0).take (i - 0)++((b.toList.drop 0).take (j - 0)++to.toList.reverse):=by
 rw [Array.toList_append,Array.toList_append,ext_list,ext_list,Array.toList_reverse,List.append_assoc]
theorem Mh.done {to:Array Keyed} (m:Mh c p q to.toList.reverse i j) (sp:SR c p 0 p.size) (sq:SR c q 0 q.size) (h:i=0∨j=0):Gd c p q (p.extract 0 i++q.extract 0 j++to.reverse).toList:=by
 rw [out3]
 rcases h with rfl | rfl
 ·have m':=m.takeQ sq (h:=0) (Nat.zero_le _) fun x _ _ y hy=>by lia
  exact (m'.takeP sp (h:=0) (Nat.zero_le _) fun x _ hx=>by lia).full
 ·have m':=m.takeQ sq (h:=0) (Nat.zero_le _) fun x _ hx=>by lia
  exact (m'.takeP sp (h:=0) (Nat.zero_le _) fun x _ hx y hy=>by lia).full
theorem Mh.tail {to:Array Keyed} (O:Ordd c) (m:Mh c p q to.toList.reverse i j) (sp:SR c p 0 p.size) (sq:SR c q 0 q.size) (h:j=1) (hf:c (el q 0) (el p 0)=true):Gd c p q (q.extract 0 j++p.extract 0 i++to.reverse).toList:=by
 rw [out3]
 subst h
 have m':=m.takeP sp (h:=0) (Nat.zero_le _) fun x _ hx y hy=>by
  obtain rfl:y=0:=by lia
  exact O.trans (O.of_lt hf) (sp 0 x (by lia) (by lia) (by have:=m.hi; lia))
 exact (m'.takeQ sq (h:=0) (Nat.zero_le _) fun x _ _ y hy=>by lia).full
theorem push_rev (to:Array Keyed) (x:Keyed):(to.push x).toList.reverse=x::to.toList.reverse:=by
 rw [Array.toList_push,List.reverse_append]
 rfl
theorem app_rev (to a:Array Keyed) (h i:Nat):(to++(a.extract h i).reverse).toList.reverse=(a.toList.drop h).take (i - h)++to.toList.reverse:=by
 rw [Array.toList_append,List.reverse_append,Array.toList_reverse,List.reverse_reverse,ext_list]
theorem Mh.start (sp:SR c p 0 p.size) (O:Ordd c) (hp:0 < p.size) (hl:∀ y,y < q.size→c (el q y) (el p (p.size - 1))=true):Mh c p q [el p (p.size - 1)] (p.size - 1) q.size:=by
 have m:Mh c p q [] p.size q.size:=⟨Nat.le_refl _,Nat.le_refl _,by rw [List.drop_of_length_le (by simp),List.drop_of_length_le (by simp)]; exact .refl _,.nil,(fun x hx=>by cases hx),(fun x hx=>by cases hx)⟩
 exact m.pushP hp sp fun k hk=>O.of_lt (hl k hk)
end
section
variable {prog:Program} {w:World} {A:Around} {E:Value→Shared→Prop} {s:Shared} {κ:SortKind} {c:Keyed→Keyed→Bool} {S:Keyed→Prop} {p q:Array Keyed}
theorem wp_mergeHi (O:Ordd c) (L:LtOk prog w A E s κ c S) {Q:Array Keyed→SortSt→Prop} {st:SortSt} (hk:kindOf st=κ) (Sp:∀ i,i < p.size→S (el p i)) (Sq:∀ i,i < q.size→S (el q i)) (sp:SR c p 0 p.size) (sq:SR c q 0 q.size)
  (hp:0 < p.size) (hq:0 < q.size) (hf:c (el q 0) (el p 0)=true) (hl:∀ y,y < q.size→c (el q y) (el p (p.size - 1))=true) (h:∀ to st',Eqs st st'→Gd c p q to.toList→Q to st') :
  wpS (model prog w) A E s (mergeHiT p q) Q st:=by
 rw [mergeHiT_eq]
 refine wpS_bind (wpS_lift (wpAny_rule ⟨rfl,?_⟩))
 dsimp only
 refine wpS_bind (wpS_elem (by lia) ?_)
 have m0:Mh c p q (#[el p (p.size - 1)]:Array Keyed).toList.reverse (p.size - 1) q.size:=Mh.start sp O hp hl
 by_cases h1:(p.size - 1 == 0)=true
 ·rw [if_pos h1]
  exact wpS_pure (h _ st (Eqs.refl st) (m0.done sp sq (.inl (by simpa using h1))))
 rw [if_neg h1]
 have h1':p.size - 1≠0:=by simpa using h1
 by_cases h2:(q.size == 1)=true
 ·rw [if_pos h2]
  exact wpS_pure (h _ st (Eqs.refl st) (m0.tail O sp sq (by simpa using h2) hf))
 rw [if_neg h2]
 have h2':q.size≠1:=by simpa using h2
 refine wpS_bind (wpS_get ?_)
 refine wpS_bind (wpS_mono (wpS_forRange
  (I:=fun x r st'=>Eqs st st'∧∃ i j to mg,r=(none,i,j,to,mg)∧Mh c p q to.toList.reverse i j∧0 < i∧1 < j∧i+j+x < p.size+q.size)
  (Q:=fun r st'=>Eqs st st'∧∃ out r',r=(some out,r')∧Gd c p q out.toList) ?_ ?_ ?_) ?_)
 ·rintro x r st' _ hx ⟨e,i,j,to,mg,rfl,m,hi,hj,hb⟩
  dsimp only
  refine wpS_bind (wpS_mono (wpS_forRange
   (I:=fun y r st'=>Eqs st st'∧∃ i j to m n,r=(none,i,j,to,m,n)∧Mh c p q to.toList.reverse i j∧0 < i∧1 < j∧i+j+x+min y 1 < p.size+q.size)
   (Q:=fun r st'=>Eqs st st'∧((∃ out r',r=(some out,r')∧Gd c p q out.toList)∨∃ i j to m n,r=(none,i,j,to,m,n)∧Mh c p q to.toList.reverse i j∧0 < i∧1 < j∧i+j+x+1 < p.size+q.size)) ?_ ?_ ?_) ?_)
  ·rintro y r st2 _ hy ⟨e2,i,j,to,ma,na,rfl,m,hi,hj,hb⟩
   dsimp only
   have hi':=m.hi
   have hj':=m.hj
   refine wpS_bind (wpS_elem (by lia) (wpS_bind (wpS_elem (by lia) (wpS_bind (L _ _ st2 _ (Sq _ (by lia)) (Sp _ (by lia)) (e2.kind.trans hk) ?_)))))
   dsimp only
   cases hc:c (el q (j - 1)) (el p (i - 1)) with
   | true =>
    rw [if_pos rfl]
    refine wpS_bind (wpS_elem (by lia) ?_)
    have m1:Mh c p q (to.push (el p (i - 1))).toList.reverse (i - 1) j:=by
     rw [push_rev]
     exact m.pushP hi sp fun k hk=>O.trans (sq k (j - 1) (by lia) (by lia) (by lia)) (O.of_lt hc)
    by_cases e3:(i - 1 == 0)=true
    ·rw [if_pos e3]
     exact wpS_pure ⟨e2,.inl ⟨_,_,rfl,m1.done sp sq (.inl (by simpa using e3))⟩⟩
    rw [if_neg e3]
    have h3:i - 1≠0:=by simpa using e3
    split
    ·exact wpS_pure ⟨e2,.inr ⟨_,_,_,_,_,rfl,m1,by lia,hj,by lia⟩⟩
    ·exact wpS_pure ⟨e2,_,_,_,_,_,rfl,m1,by lia,hj,by lia⟩
   | false =>
    rw [if_neg (by simp)]
    refine wpS_bind (wpS_elem (by lia) ?_)
    have m1:Mh c p q (to.push (el q (j - 1))).toList.reverse i (j - 1):=by
     rw [push_rev]
     exact m.pushQ (by lia) sq fun k hk=>O.trans (sp k (i - 1) (by lia) (by lia) (by lia)) (show le c (el p (i - 1)) (el q (j - 1)) from hc)
    by_cases e3:(j - 1 == 1)=true
    ·rw [if_pos e3]
     exact wpS_pure ⟨e2,.inl ⟨_,_,rfl,m1.tail O sp sq (by simpa using e3) hf⟩⟩
    rw [if_neg e3]
    have h3:j - 1≠1:=by simpa using e3
    split
    ·exact wpS_pure ⟨e2,.inr ⟨_,_,_,_,_,rfl,m1,hi,by lia,by lia⟩⟩
    ·exact wpS_pure ⟨e2,_,_,_,_,_,rfl,m1,hi,by lia,by lia⟩
  ·rintro r st2 ⟨e2,i,j,to,ma,na,rfl,m,hi,hj,hb⟩
   exact ⟨e2,.inr ⟨_,_,_,_,_,rfl,m,hi,hj,by lia⟩⟩
  ·exact ⟨e,_,_,_,_,_,rfl,m,hi,hj,by lia⟩
  rintro r st2 ⟨e2,⟨out,r',rfl,g⟩ | ⟨i,j,to,ma,na,rfl,m,hi,hj,hb⟩⟩
  ·exact wpS_pure ⟨e2,_,_,rfl,g⟩
  dsimp only
  refine wpS_bind (wpS_lift (wpAny_rule ⟨rfl,?_⟩))
  refine wpS_bind (wpS_mono (wpS_forRange
   (I:=fun y r st'=>Eqs st st'∧∃ i j to mg m n,r=(none,i,j,to,mg,m,n)∧Mh c p q to.toList.reverse i j∧0 < i∧1 < j∧i+j+x+1 < p.size+q.size)
   (Q:=fun r st'=>Eqs st st'∧((∃ out r',r=(some out,r')∧Gd c p q out.toList)∨∃ i j to mg m n,r=(none,i,j,to,mg,m,n)∧Mh c p q to.toList.reverse i j∧0 < i∧1 < j∧i+j+x+1 < p.size+q.size)) ?_ ?_ ?_) ?_)
  ·rintro y r st2 _ hy ⟨e2,i,j,to,mg,ma,na,rfl,m,hi,hj,hb⟩
   dsimp only
   refine (fun (key:∀ g:Nat,(?G:Nat→Prop) g)=>?main) ?key
   case main =>
    by_cases hmg:mg > 1
    ·rw [if_pos hmg]
     generalize mg - 1=g
     exact key g
    ·rw [if_neg hmg]
     exact key mg
   case key =>
    intro g
    refine wpS_bind (wpS_modify ?_)
    have e':=fun g=>e2.gal (st:=st) g
    refine wpS_bind (wpS_elem (by have:=m.hj; lia) ?_)
    refine wpS_bind (wp_gallop O L ((e' _).kind.trans hk) (Sq _ (by have:=m.hj; lia)) (fun x hx=>Sp _ (by have:=m.hi; lia)) (by have:=m.hi; lia) (fun a b h1 h2 h3=>sp a b (by lia) h2 (by have:=m.hi; lia)) (by lia) fun h k1 k2 k3=>?_)
    dsimp only
    have e':=e' g
    have g0:∀ x,x < h→le c (el p x) (el q (j - 1)):=fun x hx=>by
     have:=k2 x hx
     unfold by_ at this
     rw [if_neg (by simp),Bool.not_eq_true',Nat.zero_add] at this
     exact this
    have g5:∀ x,h≤x→x < i→le c (el q (j - 1)) (el p x):=fun x h1 h2=>by
     have:=k3 x h1 h2
     unfold by_ at this
     rw [if_neg (by simp),Bool.not_eq_false',Nat.zero_add] at this
     exact O.of_lt this
    have g1':=g0
    by_cases hk0:i - h > 0
    ·rw [if_pos hk0]
     have m1:Mh c p q (to++(p.extract h i).reverse).toList.reverse h j:=by
      rw [app_rev]
      exact m.takeP sp k1 fun x h1 h2 y hy=>O.trans (sq y (j - 1) (by lia) (by lia) (by have:=m.hj; lia)) (g5 x h1 h2)
     have g1:=g1'
     by_cases e1:(h == 0)=true
     ·rw [if_pos e1]
      exact wpS_pure ⟨e',.inl ⟨_,_,rfl,m1.done sp sq (.inl (by simpa using e1))⟩⟩
     rw [if_neg e1]
     have h1':h≠0:=by simpa using e1
     refine wpS_bind (wpS_elem (by have:=m.hj; lia) ?_)
     have m2:Mh c p q ((to++(p.extract h i).reverse).push (el q (j - 1))).toList.reverse (h) (j - 1):=by
      rw [push_rev]
      exact m1.pushQ (by lia) sq g1
     by_cases e3:(j - 1 == 1)=true
     ·rw [if_pos e3]
      exact wpS_pure ⟨e',.inl ⟨_,_,rfl,m2.tail O sp sq (by simpa using e3) hf⟩⟩
     rw [if_neg e3]
     have h3:j - 1≠1:=by simpa using e3
     refine wpS_bind (wpS_elem (by have:=m.hi; lia) ?_)
     refine wpS_bind (wp_gallop O L (e'.kind.trans hk) (Sp _ (by have:=m.hi; lia)) (fun x hx=>Sq _ (by have:=m.hj; lia)) (by have:=m.hj; lia) (fun a b h1 h2 h3=>sq a b (by lia) h2 (by have:=m.hj; lia)) (by lia) fun h2 k21 k22 k23=>?_)
     dsimp only
     have g2:∀ x,x < h2→c (el q x) (el p (h - 1))=true:=fun x hx=>by
      have:=k22 x hx
      unfold by_ at this
      rw [if_pos rfl,Nat.zero_add] at this
      exact this
     have g4:∀ x,h2≤x→x < j - 1→le c (el p (h - 1)) (el q x):=fun x h1 h2=>by
      have:=k23 x h1 h2
      unfold by_ at this
      rw [if_pos rfl,Nat.zero_add] at this
      exact this
     have hh2:0 < h2:=by
      rcases Nat.eq_zero_or_pos h2 with z | z
      ·subst z
       have h1:=O.trans (g4 0 (Nat.le_refl _) (by lia)) (O.of_lt hf)
       have h2:=O.trans (sp 0 (h - 1) (by lia) (by lia) (by have:=m.hi; lia)) (g4 0 (Nat.le_refl _) (by lia))
       exact absurd (hf.symm.trans h2) (by simp)
      ·exact z
     have g3':∀ k,k < h2→le c (el q k) (el p (h - 1)):=fun k hk=>O.of_lt (g2 k hk)
     by_cases hk20:j - 1 - h2 > 0
     ·rw [if_pos hk20]
      have m3:Mh c p q ((to++(p.extract h i).reverse).push (el q (j - 1))++(q.extract h2 (j - 1)).reverse).toList.reverse (h) h2:=by
       rw [app_rev]
       exact m2.takeQ sq k21 fun x h1 h2 y hy=>O.trans (sp y (h - 1) (by lia) (by lia) (by have:=m.hi; lia)) (g4 x h1 h2)
      have g3:=g3'
      by_cases e4:(h2 == 1)=true
      ·rw [if_pos e4]
       exact wpS_pure ⟨e',.inl ⟨_,_,rfl,m3.tail O sp sq (by simpa using e4) hf⟩⟩
      rw [if_neg e4]
      have h4:h2≠1:=by simpa using e4
      rw [if_neg (by simp; lia)]
      refine wpS_bind (wpS_elem (by have:=m.hi; lia) ?_)
      have m4:Mh c p q (((to++(p.extract h i).reverse).push (el q (j - 1))++(q.extract h2 (j - 1)).reverse).push (el p (h - 1))).toList.reverse (h - 1) (h2):=by
       rw [push_rev]
       exact m3.pushP (by lia) sp g3
      by_cases e5:(h - 1 == 0)=true
      ·rw [if_pos e5]
       exact wpS_pure ⟨e',.inl ⟨_,_,rfl,m4.done sp sq (.inl (by simpa using e5))⟩⟩
      rw [if_neg e5]
      have h5:h - 1≠0:=by simpa using e5
      split
      ·exact wpS_pure ⟨e',.inr ⟨_,_,_,_,_,_,rfl,m4,by lia,by lia,by lia⟩⟩
      ·exact wpS_pure ⟨e',_,_,_,_,_,_,rfl,m4,by lia,by lia,by lia⟩
     ·rw [if_neg hk20]
      obtain rfl:h2=j - 1:=by lia
      have m3:=m2
      have g3:=g3'
      refine wpS_bind (wpS_elem (by have:=m.hi; lia) ?_)
      have m4:Mh c p q (((to++(p.extract h i).reverse).push (el q (j - 1))).push (el p (h - 1))).toList.reverse (h - 1) (j - 1):=by
       rw [push_rev]
       exact m3.pushP (by lia) sp g3
      by_cases e5:(h - 1 == 0)=true
      ·rw [if_pos e5]
       exact wpS_pure ⟨e',.inl ⟨_,_,rfl,m4.done sp sq (.inl (by simpa using e5))⟩⟩
      rw [if_neg e5]
      have h5:h - 1≠0:=by simpa using e5
      split
      ·exact wpS_pure ⟨e',.inr ⟨_,_,_,_,_,_,rfl,m4,by lia,by lia,by lia⟩⟩
      ·exact wpS_pure ⟨e',_,_,_,_,_,_,rfl,m4,by lia,by lia,by lia⟩
    ·rw [if_neg hk0]
     obtain rfl:h=i:=by lia
     have m1:=m
     have g1:=g1'
     refine wpS_bind (wpS_elem (by have:=m.hj; lia) ?_)
     have m2:Mh c p q ((to).push (el q (j - 1))).toList.reverse (h) (j - 1):=by
      rw [push_rev]
      exact m1.pushQ (by lia) sq g1
     by_cases e3:(j - 1 == 1)=true
     ·rw [if_pos e3]
      exact wpS_pure ⟨e',.inl ⟨_,_,rfl,m2.tail O sp sq (by simpa using e3) hf⟩⟩
     rw [if_neg e3]
     have h3:j - 1≠1:=by simpa using e3
     refine wpS_bind (wpS_elem (by have:=m.hi; lia) ?_)
     refine wpS_bind (wp_gallop O L (e'.kind.trans hk) (Sp _ (by have:=m.hi; lia)) (fun x hx=>Sq _ (by have:=m.hj; lia)) (by have:=m.hj; lia) (fun a b h1 h2 h3=>sq a b (by lia) h2 (by have:=m.hj; lia)) (by lia) fun h2 k21 k22 k23=>?_)
     dsimp only
     have g2:∀ x,x < h2→c (el q x) (el p (h - 1))=true:=fun x hx=>by
      have:=k22 x hx
      unfold by_ at this
      rw [if_pos rfl,Nat.zero_add] at this
      exact this
     have g4:∀ x,h2≤x→x < j - 1→le c (el p (h - 1)) (el q x):=fun x h1 h2=>by
      have:=k23 x h1 h2
      unfold by_ at this
      rw [if_pos rfl,Nat.zero_add] at this
      exact this
     have hh2:0 < h2:=by
      rcases Nat.eq_zero_or_pos h2 with z | z
      ·subst z
       have h1:=O.trans (g4 0 (Nat.le_refl _) (by lia)) (O.of_lt hf)
       have h2:=O.trans (sp 0 (h - 1) (by lia) (by lia) (by have:=m.hi; lia)) (g4 0 (Nat.le_refl _) (by lia))
       exact absurd (hf.symm.trans h2) (by simp)
      ·exact z
     have g3':∀ k,k < h2→le c (el q k) (el p (h - 1)):=fun k hk=>O.of_lt (g2 k hk)
     by_cases hk20:j - 1 - h2 > 0
     ·rw [if_pos hk20]
      have m3:Mh c p q ((to).push (el q (j - 1))++(q.extract h2 (j - 1)).reverse).toList.reverse (h) h2:=by
       rw [app_rev]
       exact m2.takeQ sq k21 fun x h1 h2 y hy=>O.trans (sp y (h - 1) (by lia) (by lia) (by have:=m.hi; lia)) (g4 x h1 h2)
      have g3:=g3'
      by_cases e4:(h2 == 1)=true
      ·rw [if_pos e4]
       exact wpS_pure ⟨e',.inl ⟨_,_,rfl,m3.tail O sp sq (by simpa using e4) hf⟩⟩
      rw [if_neg e4]
      have h4:h2≠1:=by simpa using e4
      rw [if_neg (by simp; lia)]
      refine wpS_bind (wpS_elem (by have:=m.hi; lia) ?_)
      have m4:Mh c p q (((to).push (el q (j - 1))++(q.extract h2 (j - 1)).reverse).push (el p (h - 1))).toList.reverse (h - 1) (h2):=by
       rw [push_rev]
       exact m3.pushP (by lia) sp g3
      by_cases e5:(h - 1 == 0)=true
      ·rw [if_pos e5]
       exact wpS_pure ⟨e',.inl ⟨_,_,rfl,m4.done sp sq (.inl (by simpa using e5))⟩⟩
      rw [if_neg e5]
      have h5:h - 1≠0:=by simpa using e5
      split
      ·exact wpS_pure ⟨e',.inr ⟨_,_,_,_,_,_,rfl,m4,by lia,by lia,by lia⟩⟩
      ·exact wpS_pure ⟨e',_,_,_,_,_,_,rfl,m4,by lia,by lia,by lia⟩
     ·rw [if_neg hk20]
      obtain rfl:h2=j - 1:=by lia
      have m3:=m2
      have g3:=g3'
      refine wpS_bind (wpS_elem (by have:=m.hi; lia) ?_)
      have m4:Mh c p q (((to).push (el q (j - 1))).push (el p (h - 1))).toList.reverse (h - 1) (j - 1):=by
       rw [push_rev]
       exact m3.pushP (by lia) sp g3
      by_cases e5:(h - 1 == 0)=true
      ·rw [if_pos e5]
       exact wpS_pure ⟨e',.inl ⟨_,_,rfl,m4.done sp sq (.inl (by simpa using e5))⟩⟩
      rw [if_neg e5]
      have h5:h - 1≠0:=by simpa using e5
      split
      ·exact wpS_pure ⟨e',.inr ⟨_,_,_,_,_,_,rfl,m4,by lia,by lia,by lia⟩⟩
      ·exact wpS_pure ⟨e',_,_,_,_,_,_,rfl,m4,by lia,by lia,by lia⟩
  ·rintro r st2 ⟨e2,i,j,to,mg,ma,na,rfl,m,hi,hj,hb⟩
   exact ⟨e2,.inr ⟨_,_,_,_,_,_,rfl,m,hi,hj,hb⟩⟩
  ·exact ⟨e2,_,_,_,_,_,_,rfl,m,hi,hj,hb⟩
  rintro r st2 ⟨e2,⟨out,r',rfl,g⟩ | ⟨i,j,to,mg,ma,na,rfl,m,hi,hj,hb⟩⟩
  ·exact wpS_pure ⟨e2,_,_,rfl,g⟩
  dsimp only
  refine wpS_bind (wpS_modify (wpS_pure ⟨e2.gal _,_,_,_,_,rfl,m,hi,hj,by lia⟩))
 ·rintro r st' ⟨e,i,j,to,mg,rfl,m,hi,hj,hb⟩
  exfalso
  rw [show max 0 (p.size+q.size)=p.size+q.size by lia] at hb
  lia
 ·exact ⟨Eqs.refl st,_,_,_,_,rfl,m0,by lia,by lia,by lia⟩
 ·rintro r st' ⟨e,out,r',rfl,g⟩
  exact wpS_pure (h _ st' e g)
end
end TS
end

noncomputable section
set_option Elab.async false
set_option linter.all false
set_option maxRecDepth 100000
set_option maxHeartbeats 4000000
namespace TS
open PySem PyProof.Rows
section
variable {c:Keyed→Keyed→Bool} {a b:Array Keyed}
structure Rg (a b:Array Keyed) (lo hi:Nat):Prop where
 perm:b.Perm a
 out:∀ k,(k < lo∨hi≤k)→el b k=el a k
theorem Rg.refl {lo hi:Nat}:Rg a a lo hi:=⟨Array.Perm.refl _,fun _ _=>rfl⟩
theorem Rg.trans {d:Array Keyed} {lo hi:Nat} (x:Rg a b lo hi) (y:Rg b d lo hi):Rg a d lo hi:=⟨y.perm.trans x.perm,fun k h=>(y.out k h).trans (x.out k h)⟩
theorem Rg.mono {lo hi lo' hi':Nat} (x:Rg a b lo hi) (h1:lo'≤lo) (h2:hi≤hi'):Rg a b lo' hi':=⟨x.perm,fun k h=>x.out k (by lia)⟩
theorem Rg.size {lo hi:Nat} (x:Rg a b lo hi):b.size=a.size:=x.perm.size_eq
theorem SR.congr {lo hi:Nat} (h:SR c a lo hi) (e:∀ k,lo≤k→k < hi→el b k=el a k):SR c b lo hi:=fun i j h1 h2 h3=>by
 rw [e i h1 (by lia),e j (by lia) h3]
 exact h i j h1 h2 h3
def NI (c:Keyed→Keyed→Bool) (a:Array Keyed) (lo hi:Nat):Prop:=∀ i j,lo≤i→i≤j→j < hi→le c (el a j) (el a i)
theorem el_mirror {i j:Nat} (hj:j≤a.size) (k:Nat):el (mirror a i j ((j - i) / 2)) k=if i≤k∧k < j then el a (i+j - 1 - k) else el a k:=by
 have e:=getElem?_mirror_all (i:=i) hj k
 by_cases h:i≤k∧k < j
 ·rw [if_pos h] at e ⊢
  exact el_congr e
 ·rw [if_neg h] at e ⊢
  exact el_congr e
theorem mirror_rg {i j:Nat} (hj:j≤a.size):Rg a (mirror a i j ((j - i) / 2)) i j:=⟨mirror_perm _ _ _ _,fun k h=>by rw [el_mirror hj,if_neg (by lia)]⟩
theorem mirror_ni {i j:Nat} (hj:j≤a.size) (h:NI c a i j):SR c (mirror a i j ((j - i) / 2)) i j:=fun x y h1 h2 h3=>by
 rw [el_mirror hj,el_mirror hj,if_pos (by lia),if_pos (by lia)]
 exact h _ _ (by lia) (by lia) (by lia)
theorem mirror_eq {lo i j:Nat} (hlo:lo≤i) (hj:j≤a.size) (h:NI c a lo j) (he:∀ x y,i≤x→x < j→i≤y→y < j→le c (el a x) (el a y)):NI c (mirror a i j ((j - i) / 2)) lo j:=fun x y h1 h2 h3=>by
 rw [el_mirror hj,el_mirror hj]
 by_cases hx:i≤x∧x < j
 ·rw [if_pos hx,if_pos (by lia)]
  exact he _ _ (by lia) (by lia) (by lia) (by lia)
 ·rw [if_neg hx]
  by_cases hy:i≤y∧y < j
  ·rw [if_pos hy]
   exact h _ _ (by lia) (by lia) (by lia)
  ·rw [if_neg hy]
   exact h _ _ h1 h2 h3
theorem SR.snoc {lo n:Nat} (O:Ordd c) (h:SR c a lo (lo+n)) (h1:0 < n) (hn:le c (el a (lo+n - 1)) (el a (lo+n))):SR c a lo (lo+(n+1)):=fun i j h2 h3 h4=>by
 by_cases hj:j < lo+n
 ·exact h i j h2 h3 hj
 ·obtain rfl:j=lo+n:=by lia
  by_cases hi:i < lo+n
  ·exact O.trans (h i (lo+n - 1) h2 (by lia) (by lia)) hn
  ·obtain rfl:i=lo+n:=by lia
   exact O.refl _
theorem NI.snoc {lo n:Nat} (O:Ordd c) (h:NI c a lo (lo+n)) (h1:0 < n) (hn:le c (el a (lo+n)) (el a (lo+n - 1))):NI c a lo (lo+(n+1)):=fun i j h2 h3 h4=>by
 by_cases hj:j < lo+n
 ·exact h i j h2 h3 hj
 ·obtain rfl:j=lo+n:=by lia
  by_cases hi:i < lo+n
  ·exact O.trans hn (h i (lo+n - 1) h2 (by lia) (by lia))
  ·obtain rfl:i=lo+n:=by lia
   exact O.refl _
theorem SR.one {lo:Nat} (O:Ordd c):SR c a lo (lo+1):=fun i j h1 h2 h3=>by
 obtain rfl:i=j:=by lia
 exact O.refl _
end
structure Sst (κ:SortKind) (a₀:Array Keyed) (st:SortSt):Prop where
 kind:kindOf st=κ
 fail:failedOf st=none
 perm:(arrOf st).Perm a₀
section
variable {prog:Program} {w:World} {A:Around} {E:Value→Shared→Prop} {s:Shared} {κ:SortKind} {c:Keyed→Keyed→Bool} {a₀:Array Keyed}
theorem Sst.size {st:SortSt} (h:Sst κ a₀ st):(arrOf st).size=a₀.size:=h.perm.size_eq
theorem Sst.mem {st:SortSt} (h:Sst κ a₀ st) {i:Nat} (hi:i < a₀.size):el (arrOf st) i ∈ a₀.toList:=by
 have h1:i < (arrOf st).size:=by rw [h.size]; exact hi
 refine (Array.perm_iff_toList_perm.mp h.perm).mem_iff.mp ?_
 have:=el_some h1
 rw [← Array.getElem?_toList] at this
 exact List.mem_of_getElem? this
theorem Sst.set {st:SortSt} {b:Array Keyed} {lo hi:Nat} (h:Sst κ a₀ st) (r:Rg (arrOf st) b lo hi):Sst κ a₀ (setArr st b):=⟨h.kind,h.fail,r.perm.trans h.perm⟩
theorem wpS_ltA (L:LtOk prog w A E s κ c (· ∈ a₀.toList)) {st:SortSt} {i j:Nat} {Q:Option Bool→SortSt→Prop} (h:Sst κ a₀ st) (hi:i < a₀.size) (hj:j < a₀.size) (q:Q (some (c (el (arrOf st) i) (el (arrOf st) j))) st) :
  wpS (model prog w) A E s (ltAt' i j) Q st:=by
 rw [ltAt'_eq]
 refine wpS_bind (wpS_get ?_)
 exact wpS_bind (wpS_elem (by rw [h.size]; exact hi) (wpS_bind (wpS_elem (by rw [h.size]; exact hj) (L _ _ st Q (h.mem hi) (h.mem hj) h.kind q))))
theorem wpS_ltB (L:LtOk prog w A E s κ c (· ∈ a₀.toList)) {st:SortSt} {b:Array Keyed} {i j lo hi:Nat} {Q:Option Bool→SortSt→Prop} (h:Sst κ a₀ st) (R:Rg (arrOf st) b lo hi) (hi:i < a₀.size) (hj:j < a₀.size) (q:Q (some (c (el b i) (el b j))) (setArr st b)) :
  wpS (model prog w) A E s (ltAt' i j) Q (setArr st b):=wpS_ltA L (h.set R) hi hj q
theorem wpS_rev {st:SortSt} {i j:Nat} {Q:Unit→SortSt→Prop} (q:Q () (setArr st (mirror (arrOf st) i j ((j - i) / 2)))):wpS (model prog w) A E s (reverseSlice' i j) Q st:=by
 rw [reverseSlice'_eq]
 exact wpS_modify q
theorem wp_count (O:Ordd c) (L:LtOk prog w A E s κ c (· ∈ a₀.toList)) {st:SortSt} {lo nrem:Nat} {Q:Option Nat→SortSt→Prop} (h0:Sst κ a₀ st) (h1:1≤nrem) (hn:lo+nrem≤a₀.size)
  (h:∀ n b,1≤n→n≤nrem→Rg (arrOf st) b lo (lo+nrem)→SR c b lo (lo+n)→Q (some n) (setArr st b)):wpS (model prog w) A E s (countRun' lo nrem) Q st:=by
 rw [countRun'_eq]
 dsimp only
 refine wpS_bind (wpS_mono (wpS_forRange (I:=fun x r st'=>st'=st∧∃ n,r=(none,n)∧n=x∧SR c (arrOf st) lo (lo+n))
  (Q:=fun r st'=>st'=st∧∃ n,r=(none,n)∧1≤n∧n≤nrem∧SR c (arrOf st) lo (lo+n)∧(n=nrem∨(n < nrem∧c (el (arrOf st) (lo+n)) (el (arrOf st) (lo+n - 1))=true))) ?_ ?_ ?_) ?_)
 ·rintro x r st' hx1 hx ⟨rfl,n,rfl,rfl,hs⟩
  dsimp only
  refine wpS_bind (wpS_ltA L h0 (by lia) (by lia) ?_)
  dsimp only
  cases hc:c (el (arrOf st') (lo+n)) (el (arrOf st') (lo+n - 1)) with
  | true =>
   rw [if_pos rfl]
   exact wpS_pure ⟨rfl,n,rfl,hx1,by lia,hs,.inr ⟨by lia,hc⟩⟩
  | false =>
   rw [if_neg (by simp)]
   exact wpS_pure ⟨rfl,n+1,rfl,rfl,hs.snoc O hx1 hc⟩
 ·rintro r st' ⟨rfl,n,rfl,hx,hs⟩
  exact ⟨rfl,n,rfl,by lia,by lia,hs,.inl (by lia)⟩
 ·exact ⟨rfl,1,rfl,rfl,SR.one O⟩
 rintro r st' ⟨e0,n,rfl,hn1,hn2,hs,hc⟩
 rw [e0]
 dsimp only
 by_cases hnn:(n == nrem)=true
 ·rw [if_pos hnn]
  exact wpS_pure (h n (arrOf st) hn1 hn2 Rg.refl hs)
 rw [if_neg hnn]
 have hnn':n≠nrem:=by simpa using hnn
 have hc:c (el (arrOf st) (lo+n)) (el (arrOf st) (lo+n - 1))=true:=by
  rcases hc with q | q
  ·lia
  ·exact q.2
 refine (fun (key:∀ b,Rg (arrOf st) b lo (lo+nrem)→NI c b lo (lo+(n+1))→wpS (model prog w) A E s ?cont Q (setArr st b))=>?main) ?key
 case main =>
  by_cases h2:n > 1
  ·rw [if_pos h2]
   refine wpS_bind (wpS_ltA L h0 (by lia) (by lia) ?_)
   dsimp only
   cases hr:c (el (arrOf st) lo) (el (arrOf st) (lo+n - 1)) with
   | true =>
    rw [if_pos rfl]
    exact wpS_pure (h n (arrOf st) hn1 hn2 Rg.refl hs)
   | false =>
    rw [if_neg (by simp)]
    refine wpS_bind (wpS_rev ?_)
    have hz:lo+n≤(arrOf st).size:=by have:=h0.size; lia
    have R0:Rg (arrOf st) (mirror (arrOf st) lo (lo+n) ((lo+n - lo) / 2)) lo (lo+nrem):=(mirror_rg hz).mono (Nat.le_refl _) (by lia)
    have all:∀ u v,lo≤u→u < lo+n→lo≤v→v < lo+n→le c (el (arrOf st) u) (el (arrOf st) v):=fun u v h1 h2 h3 h4 =>
     O.trans (hs u (lo+n - 1) h1 (by lia) (by lia)) (O.trans hr (hs lo v (Nat.le_refl _) h3 h4))
    have N0:NI c (mirror (arrOf st) lo (lo+n) ((lo+n - lo) / 2)) lo (lo+(n+1)):=by
     refine NI.snoc O (mirror_eq (Nat.le_refl _) hz (fun u v h1 h2 h3=>all v u (by lia) (by lia) h1 (by lia)) fun u v h1 h2 h3 h4=>all u v h1 h2 h3 h4) (by lia) ?_
     rw [el_mirror hz,el_mirror hz,if_neg (by lia),if_pos (by lia)]
     exact O.trans (O.of_lt hc) (all _ _ (by lia) (by lia) (by lia) (by lia))
    exact key _ R0 N0
  ·rw [if_neg h2]
   have N0:NI c (arrOf st) lo (lo+(n+1)):=NI.snoc O (fun u v h1 h2 h3=>by
    obtain rfl:u=v:=by lia
    exact O.refl _) (by lia) (O.of_lt hc)
   show wpS _ _ _ _ _ Q (setArr st (arrOf st))
   exact key _ Rg.refl N0
 case key =>
  intro b0 R0 N0
  refine wpS_bind (wpS_lift (wpAny_rule ⟨rfl,?_⟩))
  refine wpS_bind (wpS_mono (wpS_forRange (I:=fun x r st'=>∃ b n neq,st'=setArr st b∧r=(none,n,neq)∧n=x∧Rg (arrOf st) b lo (lo+nrem)∧NI c b lo (lo+n)∧neq < n∧(∀ u v,lo+n - 1 - neq≤u→u < lo+n→lo+n - 1 - neq≤v→v < lo+n→le c (el b u) (el b v)))
   (Q:=fun r st'=>∃ b n neq,st'=setArr st b∧r=(none,n,neq)∧1≤n∧n≤nrem∧Rg (arrOf st) b lo (lo+nrem)∧NI c b lo (lo+n)∧neq < n∧(∀ u v,lo+n - 1 - neq≤u→u < lo+n→lo+n - 1 - neq≤v→v < lo+n→le c (el b u) (el b v))) ?_ ?_ ?_) ?_)
  ·rintro x r st' hx1 hx ⟨b,n',neq,rfl,rfl,rfl,R,N,hq,he⟩
   dsimp only
   refine wpS_bind (wpS_ltB L h0 R (by lia) (by lia) ?_)
   dsimp only
   cases hc1:c (el b (lo+n')) (el b (lo+n' - 1)) with
   | true =>
    rw [if_pos rfl]
    by_cases hneq:neq > 0
    ·rw [if_pos hneq]
     refine wpS_bind (wpS_rev (wpS_pure ?_))
     have hz:lo+n'≤b.size:=by have:=R.size; have:=h0.size; lia
     refine ⟨mirror b (lo+n' - (neq+1)) (lo+n') ((lo+n' - (lo+n' - (neq+1))) / 2),n'+1,0,rfl,rfl,rfl,R.trans ((mirror_rg hz).mono (by lia) (by lia)),?_,by lia,?_⟩
     ·refine NI.snoc O (mirror_eq (by lia) hz N fun u v h1 h2 h3 h4=>he u v (by lia) h2 (by lia) h4) (by lia) ?_
      rw [el_mirror hz,el_mirror hz,if_neg (by lia),if_pos (by lia)]
      exact O.trans (O.of_lt hc1) (he _ _ (by lia) (by lia) (by lia) (by lia))
     ·intro u v h1 h2 h3 h4
      obtain rfl:u=v:=by lia
      exact O.refl _
    ·rw [if_neg hneq]
     refine wpS_pure ⟨b,n'+1,0,rfl,rfl,rfl,R,N.snoc O (by lia) (O.of_lt hc1),by lia,?_⟩
     intro u v h1 h2 h3 h4
     obtain rfl:u=v:=by lia
     exact O.refl _
   | false =>
    rw [if_neg (by simp)]
    refine wpS_bind (wpS_ltB L h0 R (by lia) (by lia) ?_)
    dsimp only
    cases hc2:c (el b (lo+n' - 1)) (el b (lo+n')) with
    | true =>
     rw [if_pos rfl]
     exact wpS_pure ⟨b,n',neq,rfl,rfl,by lia,by lia,R,N,hq,he⟩
    | false =>
     rw [if_neg (by simp)]
     refine wpS_pure ⟨b,n'+1,neq+1,rfl,rfl,rfl,R,N.snoc O (by lia) hc2,by lia,?_⟩
     have hl:∀ u,lo+n' - 1 - neq≤u→u < lo+(n'+1)→le c (el b u) (el b (lo+n'))∧le c (el b (lo+n')) (el b u):=fun u h1 h2=>by
      by_cases hu:u < lo+n'
      ·exact ⟨O.trans (he u (lo+n' - 1) h1 hu (by lia) (by lia)) hc1,O.trans hc2 (he (lo+n' - 1) u (by lia) (by lia) h1 hu)⟩
      ·obtain rfl:u=lo+n':=by lia
       exact ⟨O.refl _,O.refl _⟩
     intro u v h1 h2 h3 h4
     exact O.trans (hl u (by lia) h2).1 (hl v (by lia) h4).2
  ·rintro r st' ⟨b,n',neq,rfl,rfl,hx,R,N,hq,he⟩
   exact ⟨b,n',neq,rfl,rfl,by lia,by lia,R,N,hq,he⟩
  ·refine ⟨_,n+1,0,rfl,rfl,rfl,R0,N0,by lia,?_⟩
   intro u v h1 h2 h3 h4
   obtain rfl:u=v:=by lia
   exact O.refl _
  rintro r st' ⟨b,n',neq,rfl,rfl,hn1',hn2',RB,NB,hq,he⟩
  dsimp only
  by_cases hneq:neq > 0
  ·rw [if_pos hneq]
   refine wpS_bind (wpS_rev ?_)
   have hz:lo+n'≤b.size:=by have:=RB.size; have:=h0.size; lia
   have NB:=mirror_eq (c:=c) (i:=lo+n' - (neq+1)) (by lia) hz NB fun u v h1 h2 h3 h4=>he u v (by lia) h2 (by lia) h4
   have RB:=RB.trans ((mirror_rg (i:=lo+n' - (neq+1)) hz).mono (by lia) (by lia:lo+n'≤lo+nrem))
   show wpS _ _ _ _ _ Q (setArr st (mirror b (lo+n' - (neq+1)) (lo+n') ((lo+n' - (lo+n' - (neq+1))) / 2)))
   generalize mirror b (lo+n' - (neq+1)) (lo+n') ((lo+n' - (lo+n' - (neq+1))) / 2)=b1 at NB RB
   refine wpS_bind (wpS_rev ?_)
   have R2:Rg (arrOf st) (mirror b1 lo (lo+n') ((lo+n' - lo) / 2)) lo (lo+nrem):=RB.trans ((mirror_rg (by have:=RB.size; have:=h0.size; lia)).mono (Nat.le_refl _) (by lia))
   have S2:SR c (mirror b1 lo (lo+n') ((lo+n' - lo) / 2)) lo (lo+n'):=mirror_ni (by have:=RB.size; have:=h0.size; lia) NB
   show wpS _ _ _ _ _ Q (setArr st (mirror b1 lo (lo+n') ((lo+n' - lo) / 2)))
   generalize mirror b1 lo (lo+n') ((lo+n' - lo) / 2)=b2 at R2 S2
   refine wpS_bind (wpS_mono (wpS_forRange (I:=fun x r st'=>st'=setArr st b2∧∃ m,r=(none,m)∧m=x∧SR c b2 lo (lo+m))
    (Q:=fun r st'=>st'=setArr st b2∧∃ m,r=(none,m)∧1≤m∧m≤nrem∧SR c b2 lo (lo+m)) ?_ ?_ ?_) ?_)
   ·rintro x r st' hx1 hx ⟨rfl,m,rfl,rfl,hs⟩
    dsimp only
    refine wpS_bind (wpS_ltB L h0 R2 (by lia) (by lia) ?_)
    dsimp only
    cases hc:c (el b2 (lo+m)) (el b2 (lo+m - 1)) with
    | true =>
     rw [if_pos rfl]
     exact wpS_pure ⟨rfl,m,rfl,by lia,by lia,hs⟩
    | false =>
     rw [if_neg (by simp)]
     exact wpS_pure ⟨rfl,m+1,rfl,rfl,hs.snoc O (by lia) hc⟩
   ·rintro r st' ⟨rfl,m,rfl,hx,hs⟩
    exact ⟨rfl,m,rfl,by lia,by lia,hs⟩
   ·exact ⟨rfl,n',rfl,rfl,S2⟩
   rintro r st' ⟨rfl,m,rfl,hm1,hm2,hs⟩
   exact wpS_pure (h m b2 hm1 hm2 R2 hs)
  ·rw [if_neg hneq]
   refine wpS_bind (wpS_rev ?_)
   have R2:Rg (arrOf st) (mirror b lo (lo+n') ((lo+n' - lo) / 2)) lo (lo+nrem):=RB.trans ((mirror_rg (by have:=RB.size; have:=h0.size; lia)).mono (Nat.le_refl _) (by lia))
   have S2:SR c (mirror b lo (lo+n') ((lo+n' - lo) / 2)) lo (lo+n'):=mirror_ni (by have:=RB.size; have:=h0.size; lia) NB
   show wpS _ _ _ _ _ Q (setArr st (mirror b lo (lo+n') ((lo+n' - lo) / 2)))
   generalize mirror b lo (lo+n') ((lo+n' - lo) / 2)=b2 at R2 S2
   refine wpS_bind (wpS_mono (wpS_forRange (I:=fun x r st'=>st'=setArr st b2∧∃ m,r=(none,m)∧m=x∧SR c b2 lo (lo+m))
    (Q:=fun r st'=>st'=setArr st b2∧∃ m,r=(none,m)∧1≤m∧m≤nrem∧SR c b2 lo (lo+m)) ?_ ?_ ?_) ?_)
   ·rintro x r st' hx1 hx ⟨rfl,m,rfl,rfl,hs⟩
    dsimp only
    refine wpS_bind (wpS_ltB L h0 R2 (by lia) (by lia) ?_)
    dsimp only
    cases hc:c (el b2 (lo+m)) (el b2 (lo+m - 1)) with
    | true =>
     rw [if_pos rfl]
     exact wpS_pure ⟨rfl,m,rfl,by lia,by lia,hs⟩
    | false =>
     rw [if_neg (by simp)]
     exact wpS_pure ⟨rfl,m+1,rfl,rfl,hs.snoc O (by lia) hc⟩
   ·rintro r st' ⟨rfl,m,rfl,hx,hs⟩
    exact ⟨rfl,m,rfl,by lia,by lia,hs⟩
   ·exact ⟨rfl,n',rfl,rfl,S2⟩
   rintro r st' ⟨rfl,m,rfl,hm1,hm2,hs⟩
   exact wpS_pure (h m b2 hm1 hm2 R2 hs)
end
end TS
end

noncomputable section
set_option Elab.async false
set_option linter.all false
set_option maxRecDepth 100000
set_option maxHeartbeats 4000000
namespace TS
open PySem PyProof.Rows
section
variable {c:Keyed→Keyed→Bool} {a b:Array Keyed}
theorem el_bubble {src d:Nat} (hs:src < a.size) (hd:d≤src) (k:Nat):el (bubble a src d) k=if k=src - d then el a src else if src - d < k∧k≤src then el a (k - 1) else el a k:=by
 have e:=getElem?_bubble hs d hd k
 by_cases h1:k=src - d
 ·rw [if_pos h1] at e ⊢
  exact el_congr e
 ·rw [if_neg h1] at e ⊢
  by_cases h2:src - d < k∧k≤src
  ·rw [if_pos h2] at e ⊢
   exact el_congr e
  ·rw [if_neg h2] at e ⊢
   exact el_congr e
theorem bubble_sr {lo k l:Nat} (O:Ordd c) (hk:lo+k < a.size) (hl:l≤k) (h:SR c a lo (lo+k)) (h1:∀ i,i < l→le c (el a (lo+i)) (el a (lo+k))) (h2:∀ i,l≤i→i < k→le c (el a (lo+k)) (el a (lo+i))) :
  SR c (bubble a (lo+k) (lo+k - (lo+l))) lo (lo+(k+1)):=fun i j g1 g2 g3=>by
 rw [el_bubble hk (by lia),el_bubble hk (by lia),show lo+k - (lo+k - (lo+l))=lo+l by lia]
 have q1:∀ i,lo≤i→i < lo+l→le c (el a i) (el a (lo+k)):=fun i x y=>by
  have:=h1 (i - lo) (by lia)
  rwa [show lo+(i - lo)=i by lia] at this
 have q2:∀ i,lo+l≤i→i < lo+k→le c (el a (lo+k)) (el a i):=fun i x y=>by
  have:=h2 (i - lo) (by lia) (by lia)
  rwa [show lo+(i - lo)=i by lia] at this
 by_cases ei:i=lo+l
 ·rw [if_pos ei]
  by_cases ej:j=lo+l
  ·rw [if_pos ej]
   exact O.refl _
  ·rw [if_neg ej,if_pos (by lia)]
   exact q2 _ (by lia) (by lia)
 ·rw [if_neg ei]
  by_cases ej:j=lo+l
  ·rw [if_pos ej,if_neg (by lia)]
   exact q1 _ (by lia) (by lia)
  ·rw [if_neg ej]
   by_cases fi:lo+l < i∧i≤lo+k
   ·rw [if_pos fi,if_pos (by lia)]
    exact h _ _ (by lia) (by lia) (by lia)
   ·rw [if_neg fi]
    by_cases fj:lo+l < j∧j≤lo+k
    ·rw [if_pos fj]
     exact h _ _ (by lia) (by lia) (by lia)
    ·rw [if_neg fj]
     exact h _ _ (by lia) (by lia) (by lia)
theorem bubble_rg {src d:Nat} (hs:src < a.size) (hd:d≤src):Rg a (bubble a src d) (src - d) (src+1):=⟨bubble_perm _ _ _,fun k h=>by
 rw [el_bubble hs hd,if_neg (by lia),if_neg (by lia)]⟩
end
section
variable {prog:Program} {w:World} {A:Around} {E:Value→Shared→Prop} {s:Shared} {κ:SortKind} {c:Keyed→Keyed→Bool} {a₀:Array Keyed}
theorem wp_bin (O:Ordd c) (L:LtOk prog w A E s κ c (· ∈ a₀.toList)) {st:SortSt} {lo n ok:Nat} {Q:Bool→SortSt→Prop} (h0:Sst κ a₀ st) (hok:ok≤n) (h1:1≤n) (hn:lo+n≤a₀.size) (hs:SR c (arrOf st) lo (lo+ok))
  (h:∀ b,Rg (arrOf st) b lo (lo+n)→SR c b lo (lo+n)→Q true (setArr st b)):wpS (model prog w) A E s (binarySort' lo n ok) Q st:=by
 rw [binarySort'_eq]
 refine wpS_bind (wpS_mono (wpS_forRange (I:=fun k r st'=>r=(none,())∧k≤n∧∃ b,st'=setArr st b∧Rg (arrOf st) b lo (lo+n)∧SR c b lo (lo+k))
  (Q:=fun r st'=>r=(none,())∧∃ b,st'=setArr st b∧Rg (arrOf st) b lo (lo+n)∧SR c b lo (lo+n)) ?_ ?_ ?_) ?_)
 ·rintro k r st' hk1 hk ⟨rfl,_,b,rfl,R,hsb⟩
  dsimp only
  have hz:b.size=a₀.size:=R.size.trans h0.size
  refine wpS_bind (wpS_mono (wpS_forRange (I:=fun x r st'=>st'=setArr st b∧∃ l u,r=(none,l,u)∧l≤u∧u≤k∧u - l≤k - x∧(∀ i,i < l→le c (el b (lo+i)) (el b (lo+k)))∧(∀ i,u≤i→i < k→le c (el b (lo+k)) (el b (lo+i))))
   (Q:=fun r st'=>st'=setArr st b∧∃ l,r=(none,l,l)∧l≤k∧(∀ i,i < l→le c (el b (lo+i)) (el b (lo+k)))∧(∀ i,l≤i→i < k→le c (el b (lo+k)) (el b (lo+i)))) ?_ ?_ ?_) ?_)
  ·rintro x r st' _ hx ⟨rfl,l,u,rfl,g1,g2,g3,g4,g5⟩
   dsimp only
   by_cases hlu:l ≥ u
   ·rw [if_pos hlu]
    obtain rfl:l=u:=by lia
    exact wpS_pure ⟨rfl,l,rfl,g2,g4,g5⟩
   ·rw [if_neg hlu]
    refine wpS_bind (wpS_ltB L h0 R (by lia) (by lia) ?_)
    dsimp only
    cases hc:c (el b (lo+k)) (el b (lo+(l+u) / 2)) with
    | true =>
     rw [if_pos rfl]
     exact wpS_pure ⟨rfl,l,_,rfl,by lia,by lia,by lia,g4,fun i h1 h2=>O.trans (O.of_lt hc) (hsb _ _ (by lia) (by lia) (by lia))⟩
    | false =>
     rw [if_neg (by simp)]
     exact wpS_pure ⟨rfl,_,u,rfl,by lia,by lia,by lia,fun i h1=>O.trans (hsb _ _ (by lia) (by lia) (by lia)) (show le c (el b (lo+(l+u) / 2)) (el b (lo+k)) from hc),g5⟩
  ·rintro r st' ⟨rfl,l,u,rfl,g1,g2,g3,g4,g5⟩
   obtain rfl:l=u:=by lia
   exact ⟨rfl,l,rfl,g2,g4,g5⟩
  ·exact ⟨rfl,0,k,rfl,Nat.zero_le _,Nat.le_refl _,by lia,fun i hi=>by lia,fun i h1 h2=>by lia⟩
  rintro r st' ⟨rfl,l,rfl,g2,g4,g5⟩
  dsimp only
  rw [moveDown'_eq]
  refine wpS_bind (wpS_modify (wpS_pure ⟨rfl,by lia,_,rfl,R.trans ((bubble_rg (a:=b) (by lia) (by lia)).mono (by lia) (by lia)),bubble_sr (a:=b) O (by lia) g2 hsb g4 g5⟩))
 ·rintro r st' ⟨rfl,hx,b,rfl,R,hsb⟩
  rw [show max (max ok 1) n=n by lia] at hsb
  exact ⟨rfl,b,rfl,R,hsb⟩
 ·refine ⟨rfl,by lia,arrOf st,rfl,Rg.refl,?_⟩
  by_cases h2:ok=0
  ·subst h2
   exact SR.one O
  ·rw [show max ok 1=ok by lia]
   exact hs
 ·rintro r st' ⟨rfl,b,rfl,R,hsb⟩
  exact wpS_pure (h b R hsb)
theorem fold_set (base:Nat):∀ (l:List Keyed) (off:Nat) (a:Array Keyed),base+off+l.length≤a.size→∀ k:Nat,
  ((l.zipIdx off).foldl (fun x (z:Keyed × Nat)=>x.setIfInBounds (base+z.2) z.1) a)[k]?=if base+off≤k∧k < base+off+l.length then l[k - (base+off)]? else a[k]?
 | [],off,a,_,k=>by
  rw [if_neg (by rw [List.length_nil]; lia)]
  rfl
 | x::l,off,a,h,k=>by
  rw [List.length_cons] at h
  rw [List.zipIdx_cons,List.foldl_cons,fold_set base l (off+1) _ (by rw [Array.size_setIfInBounds]; lia)]
  by_cases h1:base+(off+1)≤k∧k < base+(off+1)+l.length
  ·rw [if_pos h1,if_pos (by rw [List.length_cons]; lia),show k - (base+off)=k - (base+(off+1))+1 by lia,List.getElem?_cons_succ]
  ·rw [if_neg h1,Array.getElem?_setIfInBounds]
   by_cases h2:base+off=k
   ·subst h2
    rw [if_pos rfl,if_pos (by lia),if_pos (by rw [List.length_cons]; lia),Nat.sub_self]
    rfl
   ·rw [if_neg h2,if_neg (by rw [List.length_cons]; lia)]
def wrt (a:Array Keyed) (base:Nat) (l:List Keyed):Array Keyed:=l.zipIdx.foldl (fun x (z:Keyed × Nat)=>x.setIfInBounds (base+z.2) z.1) a
theorem wrt_get {a:Array Keyed} {base:Nat} {l:List Keyed} (h:base+l.length≤a.size) (k:Nat):(wrt a base l)[k]?=if base≤k∧k < base+l.length then l[k - base]? else a[k]?:=fold_set base l 0 a h k
theorem wrt_list {a:Array Keyed} {base:Nat} {l:List Keyed} (h:base+l.length≤a.size):(wrt a base l).toList=a.toList.take base++(l++a.toList.drop (base+l.length)):=by
 apply List.ext_getElem?
 intro k
 rw [Array.getElem?_toList,wrt_get h]
 have hz:a.toList.length=a.size:=Array.length_toList
 by_cases h1:base≤k∧k < base+l.length
 ·rw [if_pos h1,List.getElem?_append_right (by rw [List.length_take]; lia),List.length_take,List.getElem?_append_left (by lia)]
  congr 1
  lia
 ·rw [if_neg h1]
  by_cases h2:k < base
  ·rw [List.getElem?_append_left (by rw [List.length_take]; lia),List.getElem?_take_of_lt h2,Array.getElem?_toList]
  ·rw [List.getElem?_append_right (by rw [List.length_take]; lia),List.length_take,List.getElem?_append_right (by lia),List.getElem?_drop,Array.getElem?_toList]
   congr 1
   lia
theorem split3 (a:Array Keyed) (base m:Nat):a.toList=a.toList.take base++((a.toList.drop base).take m++a.toList.drop (base+m)):=by
 have h1:=(List.take_append_drop base a.toList).symm
 have h2:=(List.take_append_drop m (a.toList.drop base)).symm
 rw [List.drop_drop] at h2
 rw [← h2]
 exact h1
theorem wrt_rg {a:Array Keyed} {base:Nat} {l:List Keyed} (h:base+l.length≤a.size) (hp:l.Perm ((a.toList.drop base).take l.length)):Rg a (wrt a base l) base (base+l.length) where
 perm:=by
  rw [Array.perm_iff_toList_perm,wrt_list h]
  refine List.Perm.trans ?_ (List.Perm.of_eq (split3 a base l.length).symm)
  exact List.Perm.append_left _ (hp.append_right _)
 out:=fun k hk=>el_congr (by rw [wrt_get h,if_neg (by lia)])
end
end TS
end

noncomputable section
set_option Elab.async false
set_option linter.all false
set_option maxRecDepth 100000
set_option maxHeartbeats 4000000
namespace TS
open PySem PyProof.Rows
section
variable {prog:Program} {w:World} {A:Around} {E:Value→Shared→Prop} {s:Shared} {κ:SortKind} {c:Keyed→Keyed→Bool} {a₀:Array Keyed}
theorem wpS_set {σ:Type} {M:Model} {Q:PUnit→σ→Prop} {st st':σ} (h:Q ⟨⟩ st'):wpS M A E s (set st':StateT σ Sem PUnit) Q st:=by
 unfold wpS
 rw [StateT.run_set]
 exact wpAny_pure ⟨rfl,h⟩
theorem el_ext {a:Array Keyed} {lo hi i:Nat} (h:i < hi - lo) (hh:hi≤a.size):el (a.extract lo hi) i=el a (lo+i) :=
 el_congr (by rw [Array.getElem?_extract,if_pos (by lia)])
theorem ext_size {a:Array Keyed} {lo hi:Nat} (hh:hi≤a.size):(a.extract lo hi).size=hi - lo:=by
 rw [Array.size_extract]
 lia
theorem mem_ext {a:Array Keyed} {lo hi:Nat} (hh:hi≤a.size) {z:Keyed} (h:z ∈ (a.extract lo hi).toList):∃ u,lo≤u∧u < hi∧z=el a u:=by
 obtain ⟨i,hi'⟩:=List.getElem?_of_mem h
 rw [Array.getElem?_toList] at hi'
 have hlt:i < (a.extract lo hi).size:=by
  rcases Nat.lt_or_ge i (a.extract lo hi).size with q | q
  ·exact q
  ·rw [Array.getElem?_eq_none q] at hi'
   cases hi'
 rw [ext_size hh] at hlt
 exact ⟨lo+i,by lia,by lia,by rw [← el_ext hlt hh,el_of hi']⟩
theorem wp_mergeAt (O:Ordd c) (L:LtOk prog w A E s κ c (· ∈ a₀.toList)) {st:SortSt} {i sa na pw sb nb pw':Nat} {Q:Bool→SortSt→Prop} (h0:Sst κ a₀ st) (p1:(pendingOf st)[i]?=some (sa,na,pw)) (p2:(pendingOf st)[i+1]?=some (sb,nb,pw'))
  (hsb:sb=sa+na) (hna:1≤na) (hnb:1≤nb) (hz:sb+nb≤a₀.size) (s1:SR c (arrOf st) sa sb) (s2:SR c (arrOf st) sb (sb+nb))
  (h:∀ st',kindOf st'=κ→failedOf st'=none→pendingOf st'=((pendingOf st).setIfInBounds i (sa,na+nb,pw)).eraseIdxIfInBounds (i+1)→Rg (arrOf st) (arrOf st') sa (sb+nb)→SR c (arrOf st') sa (sb+nb)→Q true st') :
  wpS (model prog w) A E s (mergeAt' i) Q st:=by
 rw [mergeAtT_eq]
 refine wpS_bind (wpS_get ?_)
 rw [p1,p2]
 dsimp only
 refine wpS_bind (wpS_set ?_)
 have hsz:=h0.size
 have hm:∀ {j},j < a₀.size→el (arrOf st) j ∈ a₀.toList:=fun hj=>h0.mem hj
 generalize ha:arrOf st=a at *
 have st1k:kindOf (setPending st (((pendingOf st).setIfInBounds i (sa,na+nb,pw)).eraseIdxIfInBounds (i+1)))=κ:=h0.kind
 have st1f:failedOf (setPending st (((pendingOf st).setIfInBounds i (sa,na+nb,pw)).eraseIdxIfInBounds (i+1)))=none:=h0.fail
 have st1a:arrOf (setPending st (((pendingOf st).setIfInBounds i (sa,na+nb,pw)).eraseIdxIfInBounds (i+1)))=a:=ha
 have st1p:pendingOf (setPending st (((pendingOf st).setIfInBounds i (sa,na+nb,pw)).eraseIdxIfInBounds (i+1)))=((pendingOf st).setIfInBounds i (sa,na+nb,pw)).eraseIdxIfInBounds (i+1):=rfl
 generalize hP:((pendingOf st).setIfInBounds i (sa,na+nb,pw)).eraseIdxIfInBounds (i+1)=P at *
 generalize setPending st P=st1 at *
 refine wpS_bind (wpS_elem (by lia) ?_)
 refine wpS_bind (wp_gallop O L st1k (hm (by lia)) (fun x hx=>hm (by lia)) (by lia) (fun x y h1 h2 h3=>s1 x y h1 h2 (by lia)) (by lia) fun k k1 k2 k3=>?_)
 dsimp only
 have g0:∀ x,sa≤x→x < sa+k→le c (el a x) (el a sb):=fun x h1 h2=>by
  have:=k2 (x - sa) (by lia)
  unfold by_ at this
  rw [if_neg (by simp),Bool.not_eq_true',show sa+(x - sa)=x by lia] at this
  exact this
 by_cases e1:(na - k == 0)=true
 ·rw [if_pos e1]
  have e1:na - k=0:=by simpa using e1
  refine wpS_pure (h st1 st1k st1f st1p (by rw [st1a]; exact Rg.refl) ?_)
  rw [st1a]
  intro x y h1 h2 h3
  by_cases hx:x < sb
  ·by_cases hy:y < sb
   ·exact s1 x y h1 h2 hy
   ·exact O.trans (g0 x h1 (by lia)) (s2 sb y (Nat.le_refl _) (by lia) h3)
  ·exact s2 x y (by lia) h2 h3
 rw [if_neg e1]
 have e1:na - k≠0:=by simpa using e1
 have g1:c (el a sb) (el a (sa+k))=true:=by
  have:=k3 k (Nat.le_refl _) (by lia)
  unfold by_ at this
  rw [if_neg (by simp),Bool.not_eq_false'] at this
  exact this
 refine wpS_bind (wpS_elem (by lia) ?_)
 refine wpS_bind (wp_gallop O L st1k (hm (by lia)) (fun x hx=>hm (by lia)) (by lia) (fun x y h1 h2 h3=>s2 x y h1 h2 (by lia)) (by lia) fun m m1 m2 m3=>?_)
 dsimp only
 rw [show sa+k+(na - k) - 1=sb - 1 by lia] at m2 m3
 have g2:∀ x,sb≤x→x < sb+m→c (el a x) (el a (sb - 1))=true:=fun x h1 h2=>by
  have:=m2 (x - sb) (by lia)
  unfold by_ at this
  rw [if_pos rfl,show sb+(x - sb)=x by lia] at this
  exact this
 have g3:∀ x,sb+m≤x→x < sb+nb→le c (el a (sb - 1)) (el a x):=fun x h1 h2=>by
  have:=m3 (x - sb) (by lia) (by lia)
  unfold by_ at this
  rw [if_pos rfl,show sb+(x - sb)=x by lia] at this
  exact this
 by_cases e2:(m == 0)=true
 ·exfalso
  have e2:m=0:=by simpa using e2
  have:=O.trans (s1 (sa+k) (sb - 1) (by lia) (by lia) (by lia)) (g3 sb (by lia) (by lia))
  exact absurd (g1.symm.trans this) (by simp)
 rw [if_neg e2]
 have e2:m≠0:=by simpa using e2
 have zx:(a.extract (sa+k) sb).size=sb - (sa+k):=ext_size (by lia)
 have zy:(a.extract sb (sb+m)).size=m:=by rw [ext_size (by lia)]; lia
 have ex:∀ {t},t < sb - (sa+k)→el (a.extract (sa+k) sb) t=el a (sa+k+t):=fun ht=>el_ext ht (by lia)
 have ey:∀ {t},t < m→el (a.extract sb (sb+m)) t=el a (sb+t):=fun ht=>el_ext (by lia) (by lia)
 have fin:∀ (out:Array Keyed) (st2:SortSt),Eqs st1 st2→Gd c (a.extract (sa+k) sb) (a.extract sb (sb+m)) out.toList →
   wpS (model prog w) A E s (do
    modify fun s2=>setArr s2 (out.toList.zipIdx.foldl (fun x z=>match z with | (p,j)=>x.setIfInBounds (sa+k+j) p) (arrOf s2))
    let y ← get
    pure (failedOf y).isNone:StateT SortSt Sem Bool) Q st2:=by
  rintro out st2 e ⟨gp,gs⟩
  refine wpS_bind (wpS_modify (wpS_bind (wpS_get (wpS_pure ?_))))
  show Q (failedOf st2).isNone (setArr st2 (wrt (arrOf st2) (sa+k) out.toList))
  rw [e.fail,st1f,e.arr,st1a]
  have zo:out.toList.length=sb - (sa+k)+m:=by
   rw [gp.length_eq,List.length_append,Array.length_toList,Array.length_toList,zx,zy]
  have hb:sa+k+out.toList.length≤a.size:=by lia
  have xy:(a.toList.drop (sa+k)).take out.toList.length=(a.extract (sa+k) sb).toList++(a.extract sb (sb+m)).toList:=by
   rw [ext_list,ext_list,zo,show sb+m - sb=m by lia,List.take_add,List.drop_drop,show sa+k+(sb - (sa+k))=sb by lia]
  have R:Rg a (wrt a (sa+k) out.toList) (sa+k) (sa+k+out.toList.length):=wrt_rg hb (by rw [xy]; exact gp)
  refine h _ (e.kind.trans st1k) (e.fail.trans st1f) (e.pend.trans st1p) (R.mono (by lia) (by lia)) ?_
  show SR c (wrt a (sa+k) out.toList) sa (sb+nb)
  have hmid:∀ t,sa+k≤t→t < sb+m→∃ z,out.toList[t - (sa+k)]?=some z∧el (wrt a (sa+k) out.toList) t=z∧((∃ u,sa+k≤u∧u < sb∧z=el a u)∨∃ u,sb≤u∧u < sb+m∧z=el a u):=by
   intro t h1 h2
   have hl:t - (sa+k) < out.toList.length:=by lia
   refine ⟨out.toList[t - (sa+k)],List.getElem?_eq_getElem hl,el_of (by rw [wrt_get hb,if_pos (by lia)]; exact List.getElem?_eq_getElem hl),?_⟩
   have hmem:=gp.mem_iff.mp (List.getElem_mem hl)
   rcases List.mem_append.mp hmem with q | q
   ·exact .inl (mem_ext (by lia) q)
   ·exact .inr (mem_ext (by lia) q)
  have elo:∀ t,t < sa+k→el (wrt a (sa+k) out.toList) t=el a t:=fun t ht=>R.out t (.inl ht)
  have ehi:∀ t,sb+m≤t→el (wrt a (sa+k) out.toList) t=el a t:=fun t ht=>R.out t (.inr (by lia))
  intro x y h1 h2 h3
  by_cases hx:x < sa+k
  ·rw [elo x hx]
   by_cases hy:y < sa+k
   ·rw [elo y hy]
    exact s1 x y h1 h2 (by lia)
   ·by_cases hy2:y < sb+m
    ·obtain ⟨z,_,ez,hzz⟩:=hmid y (by lia) hy2
     rw [ez]
     rcases hzz with ⟨u,u1,u2,rfl⟩ | ⟨u,u1,u2,rfl⟩
     ·exact s1 x u h1 (by lia) u2
     ·exact O.trans (g0 x h1 hx) (s2 sb u (Nat.le_refl _) u1 (by lia))
    ·rw [ehi y (by lia)]
     exact O.trans (g0 x h1 hx) (s2 sb y (Nat.le_refl _) (by lia) h3)
  ·by_cases hx2:x < sb+m
   ·obtain ⟨z,iz,ez,hzz⟩:=hmid x (by lia) hx2
    rw [ez]
    by_cases hy2:y < sb+m
    ·obtain ⟨z',iz',ez',_⟩:=hmid y (by lia) hy2
     rw [ez']
     by_cases hxy:x=y
     ·subst hxy
      rw [ez] at ez'
      rw [ez']
      exact O.refl _
     ·obtain ⟨q1,q2⟩:=List.getElem?_eq_some_iff.mp iz
      obtain ⟨q3,q4⟩:=List.getElem?_eq_some_iff.mp iz'
      have:=List.pairwise_iff_getElem.mp gs _ _ q1 q3 (by lia)
      rw [q2,q4] at this
      exact this
    ·rw [ehi y (by lia)]
     rcases hzz with ⟨u,u1,u2,rfl⟩ | ⟨u,u1,u2,rfl⟩
     ·exact O.trans (s1 u (sb - 1) (by lia) (by lia) (by lia)) (g3 y (by lia) h3)
     ·exact s2 u y (by lia) (by lia) h3
   ·rw [ehi x (by lia),ehi y (by lia)]
    exact s2 x y (by lia) h2 h3
 have go:∀ (out:Array Keyed) (st2:SortSt),Eqs st1 st2→Gd c (a.extract (sa+k) sb) (a.extract sb (sb+m)) out.toList→wpS (model prog w) A E s (do
    modify fun s2=>setArr s2 (out.toList.zipIdx.foldl (fun x z=>match z with | (p,j)=>x.setIfInBounds (sa+k+j) p) (arrOf s2))
    let y ← get
    pure (failedOf y).isNone:StateT SortSt Sem Bool) Q st2:=fin
 have hx0:0 < (a.extract (sa+k) sb).size:=by lia
 have hy0:0 < (a.extract sb (sb+m)).size:=by lia
 have Sx:∀ t,t < (a.extract (sa+k) sb).size→el (a.extract (sa+k) sb) t ∈ a₀.toList:=fun t ht=>by rw [ex (by lia)]; exact hm (by lia)
 have Sy:∀ t,t < (a.extract sb (sb+m)).size→el (a.extract sb (sb+m)) t ∈ a₀.toList:=fun t ht=>by rw [ey (by lia)]; exact hm (by lia)
 have srx:SR c (a.extract (sa+k) sb) 0 (a.extract (sa+k) sb).size:=fun x y h1 h2 h3=>by
  rw [ex (by lia),ex (by lia)]
  exact s1 _ _ (by lia) (by lia) (by lia)
 have sry:SR c (a.extract sb (sb+m)) 0 (a.extract sb (sb+m)).size:=fun x y h1 h2 h3=>by
  rw [ey (by lia),ey (by lia)]
  exact s2 _ _ (by lia) (by lia) (by lia)
 have hf:c (el (a.extract sb (sb+m)) 0) (el (a.extract (sa+k) sb) 0)=true:=by
  rw [ex (by lia),ey (by lia)]
  exact g1
 have hl:∀ y,y < (a.extract sb (sb+m)).size→c (el (a.extract sb (sb+m)) y) (el (a.extract (sa+k) sb) ((a.extract (sa+k) sb).size - 1))=true:=fun y hy=>by
  rw [ey (by lia),ex (by lia),show sa+k+((a.extract (sa+k) sb).size - 1)=sb - 1 by lia]
  exact g2 _ (by lia) (by lia)
 by_cases e3:na - k≤m
 ·rw [if_pos e3]
  exact wpS_bind (wp_mergeLo O L st1k Sx Sy srx sry hx0 hy0 hf hl go)
 ·rw [if_neg e3]
  exact wpS_bind (wp_mergeHi O L st1k Sx Sy srx sry hx0 hy0 hf hl go)
end
end TS
end

noncomputable section
set_option Elab.async false
set_option linter.all false
set_option maxRecDepth 100000
set_option maxHeartbeats 4000000
namespace TS
open PySem PyProof.Rows
section
variable {c:Keyed→Keyed→Bool} {a b:Array Keyed}
def Runs (c:Keyed→Keyed→Bool) (a:Array Keyed):List (Nat × Nat × Nat)→Nat→Nat→Prop
 | [],lo,hi=>lo=hi
 | z::r,lo,hi=>z.1=lo∧1≤z.2.1∧SR c a lo (lo+z.2.1)∧Runs c a r (lo+z.2.1) hi
theorem Runs.app:∀ {l r:List (Nat × Nat × Nat)} {lo hi:Nat},Runs c a (l++r) lo hi→∃ m,Runs c a l lo m∧Runs c a r m hi
 | [],r,lo,hi,h=>⟨lo,rfl,h⟩
 | z::l,r,lo,hi,⟨h1,h2,h3,h4⟩=>by
  obtain ⟨m,g1,g2⟩:=Runs.app h4
  exact ⟨m,⟨h1,h2,h3,g1⟩,g2⟩
theorem Runs.join:∀ {l r:List (Nat × Nat × Nat)} {lo m hi:Nat},Runs c a l lo m→Runs c a r m hi→Runs c a (l++r) lo hi
 | [],r,lo,m,hi,h,g=>by
  obtain rfl:lo=m:=h
  exact g
 | z::l,r,lo,m,hi,⟨h1,h2,h3,h4⟩,g=>⟨h1,h2,h3,Runs.join h4 g⟩
theorem Runs.len:∀ {l:List (Nat × Nat × Nat)} {lo hi:Nat},Runs c a l lo hi→lo+l.length≤hi
 | [],lo,hi,h=>Nat.le_of_eq h
 | z::l,lo,hi,⟨h1,h2,h3,h4⟩=>by
  have:=Runs.len h4
  rw [List.length_cons]
  lia
theorem Runs.congr:∀ {l:List (Nat × Nat × Nat)} {lo hi:Nat},Runs c a l lo hi→(∀ k,lo≤k→k < hi→el b k=el a k)→Runs c b l lo hi
 | [],lo,hi,h,_=>h
 | z::l,lo,hi,⟨h1,h2,h3,h4⟩,e=>by
  have hl:=Runs.len h4
  exact ⟨h1,h2,h3.congr fun k g1 g2=>e k g1 (by lia),Runs.congr h4 fun k g1 g2=>e k (by lia) g2⟩
theorem Runs.pow:∀ {l l':List (Nat × Nat × Nat)} {lo hi:Nat},Runs c a l lo hi→l'.map (fun z=>(z.1,z.2.1))=l.map (fun z=>(z.1,z.2.1))→Runs c a l' lo hi
 | [],[],_,_,h,_=>h
 | [],z::l',_,_,_,e=>by cases e
 | z::l,[],_,_,_,e=>by cases e
 | z::l,z'::l',lo,hi,⟨h1,h2,h3,h4⟩,e=>by
  rw [List.map_cons,List.map_cons] at e
  injection e with e1 e2
  injection e1 with e3 e4
  exact ⟨e3.trans h1,by rw [e4]; exact h2,by rw [e4]; exact h3,by rw [e4]; exact Runs.pow h4 e2⟩
end
section
variable {prog:Program} {w:World} {A:Around} {E:Value→Shared→Prop} {s:Shared} {κ:SortKind} {c:Keyed→Keyed→Bool} {a₀:Array Keyed}
theorem split2 {α:Type} {l:List α} {i:Nat} (h:i+1 < l.length):∃ l1 x y l2,l=l1++x::y::l2∧l1.length=i:=by
 refine ⟨l.take i,l[i],l[i+1],l.drop (i+2),?_,by rw [List.length_take]; lia⟩
 rw [← List.drop_eq_getElem_cons h,← List.drop_eq_getElem_cons (by lia),List.take_append_drop]
theorem wp_mergeR (O:Ordd c) (L:LtOk prog w A E s κ c (· ∈ a₀.toList)) {st:SortSt} {i hi:Nat} {Q:Bool→SortSt→Prop} (h0:Sst κ a₀ st) (hr:Runs c (arrOf st) (pendingOf st).toList 0 hi) (hh:hi≤a₀.size) (hi1:i+1 < (pendingOf st).size)
  (h:∀ st',Sst κ a₀ st'→Rg (arrOf st) (arrOf st') 0 hi→Runs c (arrOf st') (pendingOf st').toList 0 hi→(pendingOf st').size+1=(pendingOf st).size→Q true st') :
  wpS (model prog w) A E s (mergeAt' i) Q st:=by
 obtain ⟨l1,⟨sa,na,pw⟩,⟨sb,nb,pw'⟩,l2,el,hl⟩:=split2 (l:=(pendingOf st).toList) (i:=i) (by rw [Array.length_toList]; exact hi1)
 rw [el] at hr
 obtain ⟨m,r1,r2⟩:=hr.app
 obtain ⟨x1,x2,x3,y1,y2,y3,r3⟩:=r2
 dsimp only at x1 x2 x3 y1 y2 y3 r3
 have hlen:=r3.len
 have hlen1:=r1.len
 have p1:(pendingOf st)[i]?=some (sa,na,pw):=by
  rw [← Array.getElem?_toList,el,List.getElem?_append_right (by lia),hl,Nat.sub_self]
  rfl
 have p2:(pendingOf st)[i+1]?=some (sb,nb,pw'):=by
  rw [← Array.getElem?_toList,el,List.getElem?_append_right (by lia),hl,show i+1 - i=1 by lia]
  rfl
 subst x1
 refine wp_mergeAt O L h0 p1 p2 y1 x2 y2 (by lia) (by rw [y1]; exact x3) (by rw [y1]; exact y3) fun st' k1 k2 k3 R S=>?_
 have ep:(pendingOf st').toList=l1++(sa,na+nb,pw)::l2:=by
  rw [k3]
  have hz:i+1 < ((pendingOf st).setIfInBounds i (sa,na+nb,pw)).size:=by rw [Array.size_setIfInBounds]; exact hi1
  have e1:(((pendingOf st).setIfInBounds i (sa,na+nb,pw)).eraseIdxIfInBounds (i+1)).toList=((pendingOf st).toList.set i (sa,na+nb,pw)).eraseIdx (i+1):=by
   unfold Array.eraseIdxIfInBounds
   rw [dif_pos hz,Array.toList_eraseIdx,Array.toList_setIfInBounds]
  rw [e1,el,← hl,List.set_append_right _ _ (Nat.le_refl _),Nat.sub_self,List.set_cons_zero,List.eraseIdx_append_of_length_le (by lia),show l1.length+1 - l1.length=1 by lia]
  rfl
 have out:∀ k,(k < sa∨sb+nb≤k)→TS.el (arrOf st') k=TS.el (arrOf st) k:=R.out
 refine h st' ⟨k1,k2,R.perm.trans h0.perm⟩ (R.mono (Nat.zero_le _) (by lia)) ?_ ?_
 ·rw [ep]
  refine Runs.join (r1.congr fun k g1 g2=>out k (.inl (by lia))) ⟨rfl,by show 1≤na+nb; lia,?_,?_⟩
  ·show SR c (arrOf st') sa (sa+(na+nb))
   rw [show sa+(na+nb)=sb+nb by lia]
   exact S
  ·show Runs c (arrOf st') l2 (sa+(na+nb)) hi
   rw [show sa+(na+nb)=sa+na+nb by lia]
   exact r3.congr fun k g1 g2=>out k (.inr (by lia))
 ·have e2:(pendingOf st').size=l1.length+(l2.length+1):=by rw [← Array.length_toList,ep,List.length_append,List.length_cons]
  have e3:(pendingOf st).size=l1.length+(l2.length+1+1):=by rw [← Array.length_toList,el,List.length_append,List.length_cons,List.length_cons]
  lia
theorem minRun_pos:∀ (f n r:Nat),1≤n→1≤minRun' f n r
 | 0,n,r,h=>by show 1≤n+r; lia
 | f+1,n,r,h=>by
  rw [minRun'_succ]
  split
  ·lia
  ·exact minRun_pos f _ _ (by lia)
theorem pow_map (p:Array (Nat × Nat × Nat)) (i w:Nat):(p.modify i fun x=>(x.1,x.2.1,w)).toList.map (fun z=>(z.1,z.2.1))=p.toList.map (fun z=>(z.1,z.2.1)):=by
 apply List.ext_getElem?
 intro k
 rw [List.getElem?_map,List.getElem?_map,Array.getElem?_toList,Array.getElem?_toList,Array.getElem?_modify]
 split
 ·rw [Option.map_map]
  rfl
 ·rfl
theorem wp_sortRuns (O:Ordd c) (L:LtOk prog w A E s κ c (· ∈ a₀.toList)) {st:SortSt} {Q:Unit→SortSt→Prop} (h0:Sst κ a₀ st) (hp:pendingOf st=#[]) (h2:2≤a₀.size)
  (h:∀ st',Sst κ a₀ st'→SR c (arrOf st') 0 a₀.size→Q () st'):wpS (model prog w) A E s sortRuns' Q st:=by
 rw [sortRuns'_eq]
 refine wpS_bind (wpS_get ?_)
 dsimp only
 rw [h0.size]
 have hmr:=minRun_pos a₀.size a₀.size 0 (by lia)
 generalize minRun' a₀.size a₀.size 0=mr at hmr
 refine wpS_bind (wpS_mono (wpS_forRange (I:=fun x r st'=>Sst κ a₀ st'∧∃ lo,r=(none,lo)∧lo≤a₀.size∧(a₀.size≤lo∨x≤lo)∧Runs c (arrOf st') (pendingOf st').toList 0 lo)
  (Q:=fun r st'=>Sst κ a₀ st'∧r=(none,a₀.size)∧Runs c (arrOf st') (pendingOf st').toList 0 a₀.size) ?_ ?_ ?_) ?_)
 ·rintro x r st' _ hx ⟨hS,lo,rfl,hlo,hlx,hr⟩
  dsimp only
  by_cases hl:lo ≥ a₀.size
  ·rw [if_pos hl]
   obtain rfl:lo=a₀.size:=by lia
   exact wpS_pure ⟨hS,rfl,hr⟩
  rw [if_neg hl]
  refine wpS_bind (wp_count O L hS (by lia) (by lia) fun n b n1 n2 R Sb=>?_)
  dsimp only
  have hS2:Sst κ a₀ (setArr st' b):=hS.set R
  have hr2:Runs c (arrOf (setArr st' b)) (pendingOf (setArr st' b)).toList 0 lo:=Runs.congr (b:=b) hr fun k q1 q2=>R.out k (.inl q2)
  refine (fun (key:∀ (N:Nat) (stx:SortSt),1≤N→lo+N≤a₀.size→Runs c (arrOf stx) (pendingOf stx).toList 0 lo→Sst κ a₀ stx→SR c (arrOf stx) lo (lo+N)→(?G:Nat→SortSt→Prop) N stx)=>?main) ?key
  case main =>
   by_cases hnm:n < mr
   ·rw [if_pos hnm]
    refine wpS_bind (wpS_lift (wpAny_rule ⟨rfl,?_⟩))
    refine wpS_bind (wp_bin O L hS2 (by lia) (by lia) (by lia) Sb fun b' R' Sb'=>?_)
    rw [if_neg (by simp)]
    have hN1:1≤min (a₀.size - lo) mr:=by lia
    have hN2:lo+min (a₀.size - lo) mr≤a₀.size:=by lia
    have hr2:Runs c (arrOf (setArr (setArr st' b) b')) (pendingOf (setArr (setArr st' b) b')).toList 0 lo:=Runs.congr (b:=b') hr2 fun k q1 q2=>R'.out k (.inl q2)
    have hS2:Sst κ a₀ (setArr (setArr st' b) b'):=hS2.set R'
    have SB2:SR c (arrOf (setArr (setArr st' b) b')) lo (lo+(min (a₀.size - lo) mr)):=Sb'
    generalize setArr (setArr st' b) b'=stx at hr2 hS2 SB2 ⊢
    generalize min (a₀.size - lo) mr=N at hN1 hN2 SB2 ⊢
    exact key N stx hN1 hN2 hr2 hS2 SB2
   ·rw [if_neg hnm]
    have SB2:SR c (arrOf (setArr st' b)) lo (lo+n):=Sb
    exact key n _ n1 (by lia) hr2 hS2 SB2
  case key =>
   intro N stx hN1 hN2 hr2 hS2 SB2
   refine wpS_bind (wpS_get ?_)
   have PUSH:∀ (st3:SortSt),Sst κ a₀ st3→SR c (arrOf st3) lo (lo+N)→Runs c (arrOf st3) (pendingOf st3).toList 0 lo→Sst κ a₀ (setPending st3 ((pendingOf st3).push (lo,N,0)))∧∃ lo',((none,lo+N):Option Unit × Nat)=(none,lo')∧lo'≤a₀.size∧(a₀.size≤lo'∨x+1≤lo')∧Runs c (arrOf st3) ((pendingOf st3).push (lo,N,0)).toList 0 lo':=fun st3 g1 g2 g3 =>
    ⟨⟨g1.kind,g1.fail,g1.perm⟩,_,rfl,by lia,by lia,by rw [Array.toList_push]; exact g3.join ⟨rfl,hN1,g2,rfl⟩⟩
   cases hb:(pendingOf stx).back? with
   | none =>
    dsimp only
    exact wpS_bind (wpS_modify (wpS_pure (PUSH stx hS2 SB2 hr2)))
   | some z =>
    obtain ⟨s1,n1,p1⟩:=z
    dsimp only
    refine wpS_bind (wpS_mono (wpS_forRange (I:=fun x r st'=>r=(none,())∧Sst κ a₀ st'∧SR c (arrOf st') lo (lo+N)∧Runs c (arrOf st') (pendingOf st').toList 0 lo)
     (Q:=fun r st'=>r=(none,())∧Sst κ a₀ st'∧SR c (arrOf st') lo (lo+N)∧Runs c (arrOf st') (pendingOf st').toList 0 lo) ?_ ?_ ?_) ?_)
    ·rintro y r st3 _ _ ⟨rfl,g1,g2,g3⟩
     refine wpS_bind (wpS_get ?_)
     by_cases hp1:(pendingOf st3).size > 1
     ·rw [if_pos hp1]
      cases hq:(pendingOf st3)[(pendingOf st3).size - 2]? with
      | none =>
       dsimp only
       exact wpS_pure ⟨rfl,g1,g2,g3⟩
      | some z =>
       obtain ⟨u,v,older⟩:=z
       dsimp only
       split
       ·exact wpS_pure ⟨rfl,g1,g2,g3⟩
       ·refine wpS_bind (wp_mergeR O L g1 g3 (by lia) (by lia) fun st4 f1 f2 f3 f4=>?_)
        exact wpS_pure ⟨rfl,f1,g2.congr fun k q1 q2=>f2.out k (.inr q1),f3⟩
     ·rw [if_neg hp1]
      dsimp only
      exact wpS_pure ⟨rfl,g1,g2,g3⟩
    ·rintro r st3 ⟨rfl,g1,g2,g3⟩
     exact ⟨rfl,g1,g2,g3⟩
    ·exact ⟨rfl,hS2,SB2,hr2⟩
    rintro r st3 ⟨rfl,g1,g2,g3⟩
    dsimp only
    refine wpS_bind (wpS_modify (wpS_bind (wpS_modify (wpS_pure ?_))))
    exact PUSH (setPending st3 _) ⟨g1.kind,g1.fail,g1.perm⟩ g2 (g3.pow (pow_map _ _ _))
 ·rintro r st' ⟨hS,lo,rfl,hlo,hlx,hr⟩
  obtain rfl:lo=a₀.size:=by lia
  exact ⟨hS,rfl,hr⟩
 ·exact ⟨h0,0,rfl,Nat.zero_le _,.inr (Nat.le_refl _),by rw [hp]; rfl⟩
 rintro r st' ⟨hS,rfl,hr⟩
 dsimp only
 refine wpS_bind (wpS_mono (wpS_forRange (I:=fun x r st'=>r=(none,())∧Sst κ a₀ st'∧Runs c (arrOf st') (pendingOf st').toList 0 a₀.size∧((pendingOf st').size≤1∨(pendingOf st').size+x≤a₀.size))
  (Q:=fun r st'=>r=(none,())∧Sst κ a₀ st'∧Runs c (arrOf st') (pendingOf st').toList 0 a₀.size∧(pendingOf st').size≤1) ?_ ?_ ?_) ?_)
 ·rintro x r st2 _ hx ⟨rfl,hS2,hr2,hz⟩
  refine wpS_bind (wpS_get ?_)
  by_cases h1:(pendingOf st2).size≤1
  ·rw [if_pos h1]
   exact wpS_pure ⟨rfl,hS2,hr2,h1⟩
  rw [if_neg h1]
  refine wpS_bind (wp_mergeR O L hS2 hr2 (Nat.le_refl _) ?_ fun st3 hS3 R3 hr3 hz3=>?_)
  ·split
   ·split <;> lia
   ·rw [if_neg (by simp)]
    lia
  ·exact wpS_pure ⟨rfl,hS3,hr3,.inr (by lia)⟩
 ·rintro r st2 ⟨rfl,hS2,hr2,hz⟩
  exact ⟨rfl,hS2,hr2,by lia⟩
 ·refine ⟨rfl,hS,hr,.inr ?_⟩
  have:=hr.len
  rw [Array.length_toList] at this
  lia
 ·rintro r st2 ⟨rfl,hS2,hr2,hz⟩
  refine wpS_pure (h st2 hS2 ?_)
  match hq:(pendingOf st2).toList,hr2 with
  | [],e=>
   have:(0:Nat)=a₀.size:=e
   lia
  | [z],e =>
   obtain ⟨e1,e2,e3,e4⟩:=e
   have e4:0+z.2.1=a₀.size:=e4
   rw [e4] at e3
   exact e3
  | z::y::l,e =>
   have:(pendingOf st2).toList.length≤1:=by rw [Array.length_toList]; exact hz
   rw [hq] at this
   simp at this
end
end TS
end

noncomputable section
set_option Elab.async false
set_option linter.all false
set_option maxRecDepth 100000
set_option maxHeartbeats 4000000
namespace TS
open PySem PyProof.Rows
theorem lex_nil {y:List Int}:HT.lexLt [] y=decide (0 < y.length):=by cases y <;> rfl
theorem lex_cons {a b:Int} {x y:List Int}:HT.lexLt (a::x) (b::y)=if a=b then HT.lexLt x y else decide (a < b):=rfl
theorem lex_asym:∀ {x y:List Int},HT.lexLt x y=true→HT.lexLt y x=false
 | [],[],_=>rfl
 | [],_::_,_=>rfl
 | _::_,[],h=>by cases h
 | a::x,b::y,h=>by
  rw [lex_cons] at h ⊢
  by_cases e:a=b
  ·rw [if_pos e] at h
   rw [if_pos e.symm]
   exact lex_asym h
  ·rw [if_neg e] at h
   rw [if_neg fun z=>e z.symm]
   have:=of_decide_eq_true h
   exact decide_eq_false (by lia)
theorem lex_ntr:∀ {x z:List Int} (y:List Int),HT.lexLt x z=true→HT.lexLt x y=true∨HT.lexLt y z=true
 | [],[],_,h=>by cases h
 | [],_::_,[],h=>.inr rfl
 | [],_::_,_::_,h=>.inl rfl
 | _::_,[],_,h=>by cases h
 | a::x,b::z,[],h=>.inr rfl
 | a::x,b::z,d::y,h=>by
  rw [lex_cons] at h ⊢
  rw [lex_cons]
  by_cases e:a=b
  ·subst e
   rw [if_pos rfl] at h
   by_cases e2:a=d
   ·subst e2
    rw [if_pos rfl,if_pos rfl]
    exact lex_ntr y h
   ·rw [if_neg e2,if_neg fun q=>e2 q.symm]
    by_cases e3:a < d
    ·exact .inl (decide_eq_true e3)
    ·exact .inr (decide_eq_true (by lia))
  ·rw [if_neg e] at h
   have h:=of_decide_eq_true h
   by_cases e2:a=d
   ·subst e2
    rw [if_neg e]
    exact .inr (decide_eq_true h)
   ·rw [if_neg e2]
    by_cases e3:a < d
    ·exact .inl (decide_eq_true e3)
    ·rw [if_neg (by lia)]
     exact .inr (decide_eq_true (by lia))
def byKey (kf:Value→List Int) (x y:Keyed):Bool:=HT.lexLt (kf x.1) (kf y.1)
theorem ord_key (kf:Value→List Int):Ordd (byKey kf):=⟨fun _ _ h=>lex_asym h,fun _ y _ h=>lex_ntr (kf y.1) h⟩
section
variable {prog:Program} {w:World} {A:Around} {E:Value→Shared→Prop} {s:Shared}
theorem lex_read {b:Bool} {Q:Bool→Shared→Prop}:∀ {ns ms:List Int} {us vs:List Value} (i:Nat),IntsAre us ns→IntsAre vs ms→Q (HT.lexLt ns ms) s→PySem.W.KatLex prog w A b (decide (ns.length < ms.length)) Q (us.zip vs) i s
 | [],ms,us,vs,i,hu,hv,q=>by
  cases hu
  rw [List.zip_nil_left]
  rw [lex_nil] at q
  exact PySem.W.kat_nil q
 | n::ns,[],us,vs,i,hu,hv,q=>by
  cases hv
  rw [List.zip_nil_right]
  exact PySem.W.kat_nil q
 | n::ns,m::ms,us,vs,i,hu,hv,q=>by
  cases hu with
  | cons _ t hu =>
   cases hv with
   | cons _ t' hv =>
    rw [List.zip_cons_cons]
    refine PySem.W.kat_cons (wpAny_eqBool_int ?_)
    rw [lex_cons] at q
    by_cases e:n=m
    ·subst e
     rw [if_pos rfl] at q
     rw [beq_self_eq_true]
     have:=lex_read (b:=b) (Q:=Q) (i+1) hu hv q
     rw [show decide ((n::ns).length < (n::ms).length)=decide (ns.length < ms.length) by rw [List.length_cons,List.length_cons]; congr 1; simp]
     exact PySem.W.kat_yes this
    ·rw [if_neg e] at q
     rw [show (n == m)=false from beq_eq_false_iff_ne.mpr e]
     refine PySem.W.kat_no ?_
     cases b && i == 0 with
     | true=>exact oneLt_int q
     | false=>exact PySem.W.kat_one _ _ (lt_int q)
def Tups (h:Heap) (kf:Value→List Int) (a:Addr) (vs:List Value):Prop :=
 ∀ v ∈ vs,∃ t o xs k,v=.ref t∧t≠a∧h.get? t=some o∧o.cls=.type "tuple" ∧ o.data=.seq xs k∧IntsAre xs.toList (kf v)∧kf v≠[]
theorem ltok_tups {kf:Value→List Int} {a:Addr} {vs:List Value} {b:Bool} {a₀:Array Keyed} (T:Tups s.heap kf a vs) (hm:∀ z ∈ a₀.toList,z.1 ∈ vs):LtOk prog w A E s (tuples' b) (byKey kf) (· ∈ a₀.toList):=by
 intro x y st Q hx hy hk q
 obtain ⟨t,o,xs,n,e1,_,e2,_,e3,e4,_⟩:=T _ (hm _ hx)
 obtain ⟨t',o',xs',n',f1,_,f2,_,f3,f4,_⟩:=T _ (hm _ hy)
 rw [lt'_eq]
 refine wpS_bind (wpS_get ?_)
 rw [hk,e1,f1]
 have z1:xs.size=(kf x.1).length:=by rw [← Array.length_toList]; exact e4.length
 have z2:xs'.size=(kf y.1).length:=by rw [← Array.length_toList]; exact f4.length
 refine wpS_bind (wpS_lift (wpAny_attempt (PySem.W.kat_lt e2 e3 f2 f3 ?_)))
 rw [z1,z2]
 exact lex_read 0 e4 f4 ⟨rfl,wpS_pure q⟩
theorem tups_first {kf:Value→List Int} {a:Addr} {h:Heap}:∀ {vs:List Value},Tups h kf a vs→∃ fs:List Value,PySem.W.KatTups h vs fs∧fs.length=vs.length∧∀ f ∈ fs,∃ n t,f=Value.int n t
 | [],_=>⟨[],trivial,rfl,fun f hf=>by cases hf⟩
 | v::vs,T=>by
  obtain ⟨fs,h1,h2,h3⟩:=tups_first (vs:=vs) fun u hu=>T u (List.mem_cons_of_mem _ hu)
  obtain ⟨t,o,xs,k,rfl,_,e2,e3,e4,e5,e6⟩:=T v List.mem_cons_self
  obtain ⟨f,r,ef,n,tk,hn⟩:∃ f r,xs.toList=f::r∧∃ n tk,f=Value.int n tk:=by
   generalize kf (.ref t)=ks at e5 e6
   generalize xs.toList=us at e5
   cases e5 with
   | nil=>exact absurd rfl e6
   | cons n tk r=>exact ⟨_,_,rfl,_,_,rfl⟩
  have e:xs[0]?=some f:=by rw [← Array.getElem?_toList,ef]; rfl
  exact ⟨f::fs,PySem.W.KatTups.cons e2 e3 e4 e h1,by rw [List.length_cons,List.length_cons,h2],fun g hg=>by
   rcases List.mem_cons.mp hg with rfl | hg
   ·exact ⟨_,_,hn⟩
   ·exact h3 g hg⟩
theorem kind_tups {kf:Value→List Int} {a:Addr} {vs:List Value} {Q:SortKind→Shared→Prop} (T:Tups s.heap kf a vs) (h0:0 < vs.length) (q:Q (tuples' true) s):wpAny (model prog w) A (keyKind' vs.toArray) Q E s:=by
 obtain ⟨fs,h1,h2,h3⟩:=tups_first T
 refine PySem.W.kat_kind (T:=.type "int") h1 (by lia) (fun v hv=>?_) (by decide) q
 obtain ⟨n,t,rfl⟩:=h3 v hv
 exact .now
theorem short_pw {α:Type} {R:α→α→Prop}:∀ {l:List α},l.length < 2→l.Pairwise R
 | [],_=>.nil
 | [x],_=>List.pairwise_singleton _ _
 | _::_::_,h=>by
  rw [List.length_cons,List.length_cons] at h
  lia
theorem list_sortT {a:Addr} {vs:List Value} {n:Nat} {kf:Value→List Int} {P:PySem.Fin→Shared→Prop} (ho:s.heap.get? a=some (seqObj "list" vs.toArray n)) (hz:vs.length≤1000000) (T:Tups s.heap kf a vs)
  (h:∀ out:List Value,out.Perm vs→out.Pairwise (fun x y=>HT.lexLt (kf y) (kf x)=false)→P (.done (.ret .none)) { s with heap:=sortedHeap s.heap a vs out.toArray }) :
  wpAny (model prog w) A (Builtin.«list.sort» ⟨[.ref a],[]⟩) P E s:=by
 have la:a < s.heap.objs.size:=Heap.lt_size ho
 obtain ⟨ep,hc⟩:∃ ep,(s.heap.update a (Obj.mapSeq fun _=>#[])).get? a=some (seqObj "list" #[] ep):=⟨_,get?_update_seq ho (fun _=>#[])⟩
 have old:∀ t o,t≠a→s.heap.get? t=some o→(((s.heap.update a (Obj.mapSeq fun _=>#[])).push (seqObj "tuple" vs.toArray 0)).push (seqObj "list" #[] 0)).get? t=some o:=fun t o ht e =>
  Heap.get?_push_of_some _ (Heap.get?_push_of_some _ (by rw [Heap.get?_update_ne _ _ _ _ ht]; exact e))
 have hc':(((s.heap.update a (Obj.mapSeq fun _=>#[])).push (seqObj "tuple" vs.toArray 0)).push (seqObj "list" #[] 0)).get? a=some (seqObj "list" #[] ep):=Heap.get?_push_of_some _ (Heap.get?_push_of_some _ hc)
 have T':Tups (((s.heap.update a (Obj.mapSeq fun _=>#[])).push (seqObj "tuple" vs.toArray 0)).push (seqObj "list" #[] 0)) kf a vs:=fun v hv=>by
  obtain ⟨t,o,xs,k,e1,e2,e3,r⟩:=T v hv
  exact ⟨t,o,xs,k,e1,e2,old t o e2 e3,r⟩
 have big:∀ m:Nat,m≤vs.length→m≤sizeLine:=fun m hm=>by rw [sizeLine_eq]; lia
 have zz:vs.toArray.size=vs.length:=by simp
 rw [list_sort_plain]
 refine wpAny_bind (listItems_at ho rfl ?_)
 refine wpAny_bind (listUpdate_at ho rfl ?_ (big _ (Nat.le_of_eq zz)) (Nat.zero_le _))
 refine wpAny_bind (seqEpoch_at hc rfl ?_)
 refine wpAny_bind (wpAny_newTuple ?_ (big _ (Nat.le_refl _)))
 refine wpAny_bind (wpAny_newList ?_ (Nat.zero_le _))
 refine wpAny_holding ?_
 show wpAny (model prog w) A _ P E { s with heap:=((s.heap.update a (Obj.mapSeq fun _=>#[])).push (seqObj "tuple" vs.toArray 0)).push (seqObj "list" #[] 0) }
 dsimp only
 have done:∀ st':SortSt,(arrOf st').Perm (vs.toArray.zip vs.toArray)→(arrOf st').toList.Pairwise (le (byKey kf))→P (.done (.ret .none)) { s with heap:=sortedHeap s.heap a vs ((arrOf st').map (·.2)) }:=fun st' hp hs=>by
  have h1:∀ z ∈ (arrOf st').toList,z.1=z.2:=fun z hz=>by
   have:=(Array.perm_iff_toList_perm.mp hp).mem_iff.mp hz
   rw [Array.toList_zip] at this
   obtain ⟨i,hi⟩:=List.getElem?_of_mem this
   rw [List.getElem?_zip_eq_some] at hi
   exact Option.some.inj (hi.1.symm.trans hi.2)
  have e2:(arrOf st').map (·.2)=((arrOf st').toList.map (·.2)).toArray:=by
   apply Array.toList_inj.mp
   rw [Array.toList_map]
  rw [e2]
  refine h _ ?_ ?_
  ·have:=(Array.perm_iff_toList_perm.mp hp).map (fun z:Keyed=>z.2)
   rw [Array.toList_zip] at this
   refine this.trans (List.Perm.of_eq ?_)
   exact List.map_snd_zip (by simp)
  ·rw [List.pairwise_map]
   refine hs.imp_of_mem fun {x y} hx hy hl=>?_
   rw [← h1 x hx,← h1 y hy]
   exact hl
 by_cases h2:vs.toArray.size < 2
 ·rw [if_pos h2,if_pos h2]
  refine wpAny_bind (wpAny_pure ?_)
  rw [StateT.run_pure]
  refine wpAny_bind (wpAny_pure ?_)
  dsimp only
  refine wpAny_bind (seqEpoch_at hc' rfl ?_)
  refine wpAny_bind (listUpdate_at hc' rfl ?_ (Nat.zero_le _) (by rw [Array.size_map,Array.size_zip]; exact Nat.le_trans (big _ (by lia)) (Nat.le_succ _)))
  simp only [bne_self_eq_false,Bool.false_eq_true,if_false]
  refine wpAny_pure (done (SortSt.mk' general' (vs.toArray.zip vs.toArray) #[] 7 none) (Array.Perm.refl _) ?_)
  refine short_pw ?_
  show (vs.toArray.zip vs.toArray).toList.length < 2
  rw [Array.length_toList,Array.size_zip]
  lia
 ·rw [if_neg h2,if_neg h2]
  refine wpAny_bind (kind_tups (A:=A) T' (by lia) ?_)
  have L:LtOk prog w A E { s with heap:=((s.heap.update a (Obj.mapSeq fun _=>#[])).push (seqObj "tuple" vs.toArray 0)).push (seqObj "list" #[] 0) } (tuples' true) (byKey kf) (· ∈ (vs.toArray.zip vs.toArray).toList):=ltok_tups T' fun z hz=>by
   rw [Array.toList_zip] at hz
   exact (List.of_mem_zip hz).1
  have zp:(vs.toArray.zip vs.toArray).size=vs.length:=by rw [Array.size_zip]; lia
  refine wpAny_bind (wpAny_mono (wp_sortRuns (Q:=fun _ st'=>(arrOf st').Perm (vs.toArray.zip vs.toArray)∧failedOf st'=none∧SR (byKey kf) (arrOf st') 0 vs.length) (ord_key kf) L
   (st:=SortSt.mk' (tuples' true) (vs.toArray.zip vs.toArray) #[] 7 none) ⟨rfl,rfl,Array.Perm.refl _⟩ rfl (by lia) fun st' g1 g2=>⟨g1.perm,g1.fail,by rw [zp] at g2; exact g2⟩) ?_ fun _ _ e=>e)
  rintro ⟨⟨⟩,st'⟩ s' ⟨rfl,hp,hf,hs⟩
  dsimp only
  have zs:(arrOf st').size=vs.length:=hp.size_eq.trans zp
  refine wpAny_bind (seqEpoch_at hc' rfl ?_)
  refine wpAny_bind (listUpdate_at hc' rfl ?_ (Nat.zero_le _) (by rw [Array.size_map,zs]; exact Nat.le_trans (big _ (Nat.le_refl _)) (Nat.le_succ _)))
  rw [hf]
  simp only [bne_self_eq_false,Bool.false_eq_true,if_false]
  refine wpAny_pure (done st' hp ?_)
  rw [List.pairwise_iff_getElem]
  intro i j hi hj hij
  rw [Array.length_toList] at hi hj
  have:=hs i j (Nat.zero_le _) (by lia) (by lia)
  have ei:el (arrOf st') i=(arrOf st').toList[i]:=el_of (by rw [← Array.getElem?_toList]; exact List.getElem?_eq_getElem _)
  have ej:el (arrOf st') j=(arrOf st').toList[j]:=el_of (by rw [← Array.getElem?_toList]; exact List.getElem?_eq_getElem _)
  rw [ei,ej] at this
  exact this
end
end TS
end

noncomputable section
set_option Elab.async false
set_option linter.all false
set_option maxRecDepth 100000
set_option maxHeartbeats 4000000
namespace ST
open PySem PyProof.Rows
section
variable {prog:Program} {w:World} {A:Around} {E:Value→Shared→Prop} {s:Shared}
abbrev TK (prog:Program) (w:World):=tupleKind (intKind prog w)
abbrev kH (prog:Program) (w:World) (k:List Int):Int:=(TK prog w).hash k
abbrev ent (prog:Program) (w:World) (x:Addr × List Int):Int × Value:=(kH prog w x.2,.ref x.1)
structure SObj (prog:Program) (w:World) (o:Obj) (ts:List (Addr × List Int)) (es:Array (Int × Value)) (ep:Nat) (t:SetTable):Prop where
 ex:o.ExactSet
 dat:o.data=.set es ep t
 els:es.toList=ts.map (ent prog w)
 wf:WF t (ts.map fun x=>kH prog w x.2)
 roo:t.place.size * 5 < t.mask * 3
 msk:t.mask≤8191
 led:t.led=!w.params.followText "set-order"
 pln:t.plain=true
 ndp:(ts.map (·.2)).Nodup
end
end ST
end

noncomputable section
set_option Elab.async false
set_option linter.all false
set_option maxRecDepth 100000
namespace L2
open PySem PySem.Spec PyProof.Rows
inductive D where
 | non | bl (b:Bool) | int (i:Int) | str (x:Str) | obj (a:Addr)
 | tup (ds:List D) | lst (ds:List D)
 | dT (ks:List (List Key)) (ds:List D) | dK (ks:List Key) (ds:List D)
 | sT (ts:List (List Int))
def setPhi (P:Program) (w:World) (a:Addr) (ts:List (Addr × List Int)) (h:Heap):Prop:=∃ o es ep t,h.get? a=some o∧ST.SObj P w o ts es ep t
abbrev SetO (P:Program) (w:World) (a:Addr) (ts:List (Addr × List Int)):HO:=.ext (setPhi P w a ts)
def SetR (P:Program) (w:World) (H:Hp) (a:Addr) (ts:List (List Int)):Prop :=
 ∃ ts':List (Addr × List Int),H a=some (SetO P w a ts')∧(∀ x ∈ ts',H x.1=some (.tup (x.2.map V.int)))∧(ts'.map (·.2)).Perm ts
section
variable (P:Program) (w:World) (W:Addr→Prop) (H:Hp)
mutual
def RepD:D→V→Prop
 | .non,v=>v=.non
 | .bl b,v=>v=.bl b
 | .int i,v=>v=.int i
 | .str x,v=>v=.str x
 | .obj a,v=>v=.ref a
 | .tup ds,v=>∃ a vs,v=.ref a∧H a=some (.tup vs)∧RepDs ds vs
 | .lst ds,v=>∃ a vs,v=.ref a∧H a=some (.lst vs)∧¬ W a∧RepDs ds vs
 | .dT ks ds,v=>∃ a vs,v=.ref a∧H a=some (.dT (ks.zip vs))∧ks.length=vs.length∧¬ W a∧RepDs ds vs
 | .dK ks ds,v=>∃ a vs,v=.ref a∧H a=some (.dK (ks.zip vs))∧ks.length=vs.length∧¬ W a∧RepDs ds vs
 | .sT ts,v=>∃ a,v=.ref a∧SetR P w H a ts∧¬ W a
def RepDs:List D→List V→Prop
 | [],vs=>vs=[]
 | d::ds,vs=>∃ v r,vs=v::r∧RepD d v∧RepDs ds r
end
end
mutual
def D.flat:D→Bool
 | .tup ds=>D.flats ds
 | .lst _=>false
 | .dT _ _=>false
 | .dK _ _=>false
 | .sT _=>false
 | _=>true
def D.flats:List D→Bool
 | []=>true
 | d::ds=>D.flat d && D.flats ds
end
structure Kp (W:Addr→Prop) (H H':Hp):Prop where
 out:∀ b o,H b=some o→¬ W b→H' b=some o
 tup:∀ b xs,H b=some (.tup xs)→H' b=some (.tup xs)
theorem Kp.refl {W:Addr→Prop} {H:Hp}:Kp W H H:=⟨fun _ _ e _=>e,fun _ _ e=>e⟩
theorem Kp.trans {W:Addr→Prop} {H H1 H2:Hp} (a:Kp W H H1) (b:Kp W H1 H2):Kp W H H2:=⟨fun c o e n=>b.out c o (a.out c o e n) n,fun c xs e=>b.tup c xs (a.tup c xs e)⟩
theorem Same.kp {W:Addr→Prop} {H H':Hp} (h:Same H H'):Kp W H H':=⟨fun b o e _=>h b o e,fun b xs e=>h b _ e⟩
theorem Kp.mono {W W':Addr→Prop} {H H':Hp} (h:Kp W H H') (s:∀ a,W a→W' a):Kp W' H H':=⟨fun b o e n=>h.out b o e fun z=>n (s b z),h.tup⟩
section
variable {P:Program} {w:World} {W W':Addr→Prop} {H H':Hp}
mutual
theorem RepD.keep (k:Kp W H H'):∀ {d:D} {v:V},RepD P w W H d v→RepD P w W H' d v
 | .non,_,h=>h
 | .bl _,_,h=>h
 | .int _,_,h=>h
 | .str _,_,h=>h
 | .obj _,_,h=>h
 | .tup ds,_,⟨a,vs,e,t,r⟩=>⟨a,vs,e,k.tup a vs t,RepDs.keep k r⟩
 | .lst ds,_,⟨a,vs,e,t,n,r⟩=>⟨a,vs,e,k.out a _ t n,n,RepDs.keep k r⟩
 | .dT ks ds,_,⟨a,vs,e,t,l,n,r⟩=>⟨a,vs,e,k.out a _ t n,l,n,RepDs.keep k r⟩
 | .dK ks ds,_,⟨a,vs,e,t,l,n,r⟩=>⟨a,vs,e,k.out a _ t n,l,n,RepDs.keep k r⟩
 | .sT ts,_,⟨a,e,⟨ts',t,r,z⟩,n⟩=>⟨a,e,⟨ts',k.out a _ t n,fun x hx=>k.tup _ _ (r x hx),z⟩,n⟩
theorem RepDs.keep (k:Kp W H H'):∀ {ds:List D} {vs:List V},RepDs P w W H ds vs→RepDs P w W H' ds vs
 | [],_,h=>h
 | d::ds,_,⟨v,r,e,h1,h2⟩=>⟨v,r,e,RepD.keep k h1,RepDs.keep k h2⟩
end
mutual
theorem RepD.anti (s:∀ a,W' a→W a):∀ {d:D} {v:V},RepD P w W H d v→RepD P w W' H d v
 | .non,_,h=>h
 | .bl _,_,h=>h
 | .int _,_,h=>h
 | .str _,_,h=>h
 | .obj _,_,h=>h
 | .tup ds,_,⟨a,vs,e,t,r⟩=>⟨a,vs,e,t,RepDs.anti s r⟩
 | .lst ds,_,⟨a,vs,e,t,n,r⟩=>⟨a,vs,e,t,fun z=>n (s a z),RepDs.anti s r⟩
 | .dT ks ds,_,⟨a,vs,e,t,l,n,r⟩=>⟨a,vs,e,t,l,fun z=>n (s a z),RepDs.anti s r⟩
 | .dK ks ds,_,⟨a,vs,e,t,l,n,r⟩=>⟨a,vs,e,t,l,fun z=>n (s a z),RepDs.anti s r⟩
 | .sT ts,_,⟨a,e,t,n⟩=>⟨a,e,t,fun z=>n (s a z)⟩
theorem RepDs.anti (s:∀ a,W' a→W a):∀ {ds:List D} {vs:List V},RepDs P w W H ds vs→RepDs P w W' H ds vs
 | [],_,h=>h
 | d::ds,_,⟨v,r,e,h1,h2⟩=>⟨v,r,e,RepD.anti s h1,RepDs.anti s h2⟩
end
mutual
theorem RepD.flat:∀ {d:D} {v:V},d.flat=true→RepD P w W H d v→RepD P w W' H d v
 | .non,_,_,h=>h
 | .bl _,_,_,h=>h
 | .int _,_,_,h=>h
 | .str _,_,_,h=>h
 | .obj _,_,_,h=>h
 | .tup ds,_,f,⟨a,vs,e,t,r⟩=>⟨a,vs,e,t,RepDs.flat (by simpa [D.flat] using f) r⟩
 | .lst ds,_,f,_=>by simp [D.flat] at f
 | .dT ks ds,_,f,_=>by simp [D.flat] at f
 | .dK ks ds,_,f,_=>by simp [D.flat] at f
 | .sT ts,_,f,_=>by simp [D.flat] at f
theorem RepDs.flat:∀ {ds:List D} {vs:List V},D.flats ds=true→RepDs P w W H ds vs→RepDs P w W' H ds vs
 | [],_,_,h=>h
 | d::ds,_,f,⟨v,r,e,h1,h2⟩=>by
  have f':(d.flat && D.flats ds)=true:=f
  rw [Bool.and_eq_true] at f'
  exact ⟨v,r,e,RepD.flat f'.1 h1,RepDs.flat f'.2 h2⟩
end
theorem RepD.same (s:Same H H') {d:D} {v:V} (h:RepD P w W H d v):RepD P w W H' d v:=h.keep s.kp
theorem RepDs.same (s:Same H H') {ds:List D} {vs:List V} (h:RepDs P w W H ds vs):RepDs P w W H' ds vs:=h.keep s.kp
theorem RepDs.length:∀ {ds:List D} {vs:List V},RepDs P w W H ds vs→vs.length=ds.length
 | [],_,h=>by rw [show _=[] from h]; rfl
 | d::ds,_,⟨v,r,e,h1,h2⟩=>by rw [e,List.length_cons,List.length_cons,RepDs.length h2]
theorem RepDs.get:∀ {ds:List D} {vs:List V} {i:Nat} {d:D},RepDs P w W H ds vs→ds[i]?=some d→∃ v,vs[i]?=some v∧RepD P w W H d v
 | [],_,_,_,_,e=>by simp at e
 | d::ds,_,0,_,⟨v,r,e,h1,h2⟩,e'=>by simp at e'; subst e' e; exact ⟨v,by simp,h1⟩
 | d::ds,_,i+1,_,⟨v,r,e,h1,h2⟩,e'=>by
  subst e
  obtain ⟨u,e1,e2⟩:=RepDs.get (i:=i) h2 (by simpa using e')
  exact ⟨u,by simpa using e1,e2⟩
theorem RepDs.append:∀ {ds ds':List D} {vs vs':List V},RepDs P w W H ds vs→RepDs P w W H ds' vs'→RepDs P w W H (ds++ds') (vs++vs')
 | [],_,_,_,h,h'=>by rw [show _=[] from h]; exact h'
 | d::ds,_,_,_,⟨v,r,e,h1,h2⟩,h'=>by subst e; exact ⟨v,_,rfl,h1,RepDs.append h2 h'⟩
end
end L2
end

noncomputable section
set_option Elab.async false
set_option linter.all false
set_option maxRecDepth 100000
namespace L2
open PySem PySem.Spec PySem.SeqAt PyProof.Rows
abbrev Dm (W:Addr→Prop) (H:Hp):Prop:=∀ a,W a→H a≠none
theorem Dm.same {W:Addr→Prop} {H H':Hp} (d:Dm W H) (s:Same H H'):Dm W H':=fun a h e=>d a h (s.free e)
abbrev Rp (X:Cx) (W:Addr→Prop) (H:Hp) (d:D) (v:V):Prop:=RepD X.prog X.w W H d v
abbrev Rps (X:Cx) (W:Addr→Prop) (H:Hp) (ds:List D) (vs:List V):Prop:=RepDs X.prog X.w W H ds vs
def rD1 (X:Cx) (f:D→Option D):V→Hp→VK→Prop:=fun x H Q=>∃ W d1 d,Dm W H∧Rp X W H d1 x∧f d1=some d∧∀ v H',Same H H'→Rp X W H' d v→Q v H'
def rD2 (X:Cx) (f:D→D→Option D):R2:=fun x y H Q=>∃ W d1 d2 d,Dm W H∧Rp X W H d1 x∧Rp X W H d2 y∧f d1 d2=some d∧∀ v H',Same H H'→Rp X W H' d v→Q v H'
def rDs (X:Cx) (f:List D→Option D):List V→Hp→VK→Prop:=fun xs H Q=>∃ W ds d,Dm W H∧Rps X W H ds xs∧f ds=some d∧∀ v H',Same H H'→Rp X W H' d v→Q v H'
abbrev OpD (X:Cx) (f:Value→Value→Sem Value) (g:D→D→Option D):Prop:=OpR X f (rD2 X g)
abbrev CallD (X:Cx) (f:Value) (g:List D→Option D):Prop:=CallR X f (rDs X g)
section
variable {X:Cx} {W:Addr→Prop} {H:Hp}
theorem new_not {p:Addr} (d:Dm W H) (n:H p=none):¬ W p:=fun z=>d p z n
theorem Rp.lstNew {p:Addr} {vs:List V} {ds:List D} (d:Dm W H) (n:H p=none) (r:Rps X W H ds vs):Rp X W (upd H p (.lst vs)) (.lst ds) (.ref p) :=
 ⟨p,vs,rfl,upd_same,new_not d n,r.same (Same.new n)⟩
theorem Rp.tupNew {p:Addr} {vs:List V} {ds:List D} (n:H p=none) (r:Rps X W H ds vs):Rp X W (upd H p (.tup vs)) (.tup ds) (.ref p) :=
 ⟨p,vs,rfl,upd_same,r.same (Same.new n)⟩
theorem Rps.nil:Rps X W H [] []:=rfl
theorem Rps.cons {d:D} {ds:List D} {v:V} {vs:List V} (h:Rp X W H d v) (r:Rps X W H ds vs):Rps X W H (d::ds) (v::vs):=⟨v,vs,rfl,h,r⟩
end
def D.isI:D→Option Int
 | .int i=>some i
 | _=>none
def D.isL:D→Option (List D)
 | .lst a=>some a
 | _=>none
def D.isT:D→Option (List D)
 | .tup a=>some a
 | _=>none
def D.isN:D→Bool
 | .non=>true
 | _=>false
theorem D.isI_some {d:D} {i:Int} (h:d.isI=some i):d=.int i:=by cases d <;> first | (cases h; rfl) | cases h
theorem D.isL_some {d:D} {i:List D} (h:d.isL=some i):d=.lst i:=by cases d <;> first | (cases h; rfl) | cases h
theorem D.isT_some {d:D} {i:List D} (h:d.isT=some i):d=.tup i:=by cases d <;> first | (cases h; rfl) | cases h
theorem D.isN_true {d:D} (h:d.isN=true):d=.non:=by cases d <;> first | rfl | cases h
theorem D.isN_iff {d:D}:d=.non ↔ d.isN=true:=⟨fun e=>by rw [e]; rfl,D.isN_true⟩
def int2 (f:Int→Int→Option D) (a b:D):Option D:=match a.isI,b.isI with
 | some i,some j=>f i j
 | _,_=>none
theorem int2_some {f:Int→Int→Option D} {a b d:D} (h:int2 f a b=some d):∃ i j,a=.int i∧b=.int j∧f i j=some d:=by
 unfold int2 at h
 cases ha:a.isI with
 | none=>rw [ha] at h; cases h
 | some i =>
  cases hb:b.isI with
  | none=>rw [ha,hb] at h; cases h
  | some j=>rw [ha,hb] at h; exact ⟨i,j,D.isI_some ha,D.isI_some hb,h⟩
def lst2 (f:D→D→Option D) (g:List D→List D→Option D) (a b:D):Option D:=match a.isL,b.isL with
 | some i,some j=>g i j
 | _,_=>f a b
theorem lst2_some {f:D→D→Option D} {g:List D→List D→Option D} {a b d:D} (h:lst2 f g a b=some d):(∃ i j,a=.lst i∧b=.lst j∧g i j=some d)∨f a b=some d:=by
 unfold lst2 at h
 cases ha:a.isL with
 | none=>rw [ha] at h; exact .inr h
 | some i =>
  cases hb:b.isL with
  | none=>rw [ha,hb] at h; exact .inr h
  | some j=>rw [ha,hb] at h; exact .inl ⟨i,j,D.isL_some ha,D.isL_some hb,h⟩
def dAdd:D→D→Option D:=lst2 (int2 fun i j=>some (.int (i+j))) fun a b=>if a.length+b.length≤sizeLine then some (.lst (a++b)) else none
def dSub:D→D→Option D:=int2 fun i j=>some (.int (i - j))
instance (i j:Int):Decidable (CMul i j):=by unfold CMul; infer_instance
instance (i j:Int):Decidable (CPow i j):=by unfold CPow; infer_instance
def dMul:D→D→Option D:=int2 fun i j=>if CMul i j then some (.int (i * j)) else none
def dNeg:D→Option D
 | .int i=>some (.int (-i))
 | _=>none
section
variable {X:Cx}
theorem ifSome {c:Prop} [Decidable c] {α:Type} {a b:α} (h:(if c then some a else none)=some b):c∧b=a:=by
 by_cases hc:c
 ·rw [if_pos hc] at h; cases h; exact ⟨hc,rfl⟩
 ·rw [if_neg hc] at h; cases h
theorem op_dI {f:Value→Value→Sem Value} {C:Int→Int→Prop} {g:Int→Int→V} {h:Int→Int→D} {F:Int→Int→Option D} (ho:OpR X f (rI C g)) (hF:∀ i j d,F i j=some d→C i j∧d=h i j)
  (hg:∀ (W:Addr→Prop) (H:Hp) i j,Rp X W H (h i j) (g i j)):OpD X f (int2 F):=by
 intro pins s σ H x y v u Q I rx ry hh
 obtain ⟨W,d1,d2,d,hd,r1,r2,e,q⟩:=hh
 obtain ⟨i,j,rfl,rfl,e⟩:=int2_some e
 obtain ⟨c,rfl⟩:=hF _ _ _ e
 cases r1; cases r2
 exact ho pins s σ H _ _ v u Q I rx ry ⟨i,j,rfl,rfl,c,q _ _ (Same.refl _) (hg W H i j)⟩
theorem op_dI0 {f:Value→Value→Sem Value} {g:Int→Int→V} {h:Int→Int→D} (ho:OpR X f (rI0 g))
  (hg:∀ (W:Addr→Prop) (H:Hp) i j,Rp X W H (h i j) (g i j)):OpD X f (int2 fun i j=>some (h i j)):=by
 intro pins s σ H x y v u Q I rx ry hh
 obtain ⟨W,d1,d2,d,hd,r1,r2,e,q⟩:=hh
 obtain ⟨i,j,rfl,rfl,e⟩:=int2_some e
 cases e
 cases r1; cases r2
 exact ho pins s σ H _ _ v u Q I rx ry ⟨i,j,rfl,rfl,q _ _ (Same.refl _) (hg W H i j)⟩
theorem op_dSub:OpD X (binaryOp .Sub) dSub:=op_dI0 (h:=fun i j=>.int (i - j)) op_sub fun _ _ _ _=>rfl
theorem op_dMul:OpD X (binaryOp .Mult) dMul:=op_dI (h:=fun i j=>.int (i * j)) op_mul (fun _ _ _ e=>ifSome e) fun _ _ _ _=>rfl
theorem un_dNeg:UnR X (unaryOp .USub) (rD1 X dNeg):=by
 intro pins s σ H x v Q I rx h
 obtain ⟨W,d1,d,hd,r1,e,q⟩:=h
 cases d1 with
 | int i=>cases e; cases r1; exact un_neg pins s σ H _ v Q I rx ⟨i,rfl,q _ _ (Same.refl _) rfl⟩
 | _=>cases e
end
def dCmp (p:Int→Int→Bool):D→D→Option D:=int2 fun i j=>some (.bl (p i j))
abbrev dLt:D→D→Option D:=dCmp fun i j=>decide (i < j)
abbrev dGt:D→D→Option D:=dCmp fun i j=>decide (j < i)
abbrev dGe:D→D→Option D:=dCmp fun i j=>decide (j≤i)
section
variable {X:Cx}
theorem op_dCmp {p:Int→Int→Bool} {f:Value→Value→Sem Value} (ho:OpR X f (rI0 fun i j=>.bl (p i j))):OpD X f (dCmp p):=op_dI0 (h:=fun i j=>.bl (p i j)) ho fun _ _ _ _=>rfl
theorem op_dLt:OpD X (compareOp .Lt) dLt:=op_dCmp op_lt
theorem op_dGt:OpD X (compareOp .Gt) dGt:=op_dCmp op_gt
theorem op_dGe:OpD X (compareOp .GtE) dGe:=op_dCmp op_ge
end
mutual
def D.pd:D→PyData
 | .non=>.none
 | .bl b=>.bool b
 | .int i=>.int i
 | .str x=>.str x
 | .tup ds=>.tuple (D.pds ds)
 | .lst ds=>.list (D.pds ds)
 | _=>.dict []
def D.pds:List D→List PyData
 | []=>[]
 | d::ds=>d.pd::D.pds ds
end
abbrev D.shp (d:D):Bool:=shaped d.pd
mutual
theorem reads_of {X:Cx} {pins:List (Addr × Obj)} {σ:St} {H:Hp} {s:Shared} (I:Inv X pins σ H s) {W:Addr→Prop}:∀ {d:D} {v:V} {u:Value},Rp X W H d v→RelV v u→d.pd.canLay0=true→∃ as,Reads s.heap u d.pd as
 | .non,_,_,h,r,_=>by cases h; cases r; exact ⟨_,.none⟩
 | .bl b,_,_,h,r,_=>by cases h; cases r; exact ⟨_,.bool b⟩
 | .int i,_,_,h,r,_=>by cases h; obtain ⟨t,rfl⟩:=r; exact ⟨_,.int i t⟩
 | .str x,_,_,h,r,_=>by cases h; obtain ⟨t,rfl⟩:=r; exact ⟨_,.str x t⟩
 | .tup ds,_,_,h,r,c=>by
  obtain ⟨a,vs,rfl,e,q⟩:=h
  cases r
  obtain ⟨its,rv,⟨o,ho,hc,n,hd⟩,hz⟩:=I.tuple (SqT.of e)
  obtain ⟨as,ha⟩:=readsAll_of I q rv (by simpa [D.pd,PyData.canLay0] using c)
  exact ⟨_,.tuple ho hc hd (by simpa using ha)⟩
 | .lst ds,_,_,h,r,c=>by
  obtain ⟨a,vs,rfl,e,_,q⟩:=h
  cases r
  obtain ⟨z,its,n,rv,e'⟩:=I.hok a _ e
  obtain ⟨as,ha⟩:=readsAll_of I q rv (by simpa [D.pd,PyData.canLay0] using c)
  exact ⟨_,.list e' rfl rfl (by simpa using ha)⟩
 | .obj _,_,_,_,_,c=>by simp [D.pd,PyData.canLay0] at c
 | .dT _ _,_,_,_,_,c=>by simp [D.pd,PyData.canLay0] at c
 | .dK _ _,_,_,_,_,c=>by simp [D.pd,PyData.canLay0] at c
 | .sT _,_,_,_,_,c=>by simp [D.pd,PyData.canLay0] at c
theorem readsAll_of {X:Cx} {pins:List (Addr × Obj)} {σ:St} {H:Hp} {s:Shared} (I:Inv X pins σ H s) {W:Addr→Prop}:∀ {ds:List D} {vs:List V} {us:List Value},Rps X W H ds vs→Vals vs us→PyData.canLayAll0 (D.pds ds)=true→∃ as,ReadsAll s.heap us (D.pds ds) as
 | [],_,_,h,r,_=>by
  rw [show _=[] from h] at r
  cases r
  exact ⟨_,.nil⟩
 | d::ds,_,_,⟨v,vr,e,h1,h2⟩,r,c=>by
  subst e
  have c':(d.pd.canLay0 && PyData.canLayAll0 (D.pds ds))=true:=c
  rw [Bool.and_eq_true] at c'
  cases r with
  | cons r1 r2 =>
   obtain ⟨as,ha⟩:=reads_of I h1 r1 c'.1
   obtain ⟨bs,hb⟩:=readsAll_of I h2 r2 c'.2
   exact ⟨_,.cons ha hb⟩
end
def dEq (a b:D):Option D:=if a.shp=true∧b.shp=true then some (.bl (PyData.eqv a.pd b.pd)) else none
def dNe (a b:D):Option D:=if a.shp=true∧b.shp=true then some (.bl (!PyData.eqv a.pd b.pd)) else none
section
variable {X:Cx}
theorem op_dEq (hu:X.A.units+64 < cLine):OpD X (compareOp .Eq) dEq:=by
 intro pins s σ H x y v u Q I rx ry h
 obtain ⟨W,d1,d2,d,hd,r1,r2,e,q⟩:=h
 obtain ⟨⟨s1,s2⟩,rfl⟩:=ifSome e
 obtain ⟨as,ra⟩:=reads_of I r1 rx (canLay_of_shaped s1)
 obtain ⟨bs,rb⟩:=reads_of I r2 ry (canLay_of_shaped s2)
 exact compareEq_shaped ra rb s1 s2 hu ⟨.bl _,H,I,rfl,q _ _ (Same.refl _) rfl⟩
theorem op_dNe (hu:X.A.units+64 < cLine):OpD X (compareOp .NotEq) dNe:=by
 intro pins s σ H x y v u Q I rx ry h
 obtain ⟨W,d1,d2,d,hd,r1,r2,e,q⟩:=h
 obtain ⟨⟨s1,s2⟩,rfl⟩:=ifSome e
 obtain ⟨as,ra⟩:=reads_of I r1 rx (canLay_of_shaped s1)
 obtain ⟨bs,rb⟩:=reads_of I r2 ry (canLay_of_shaped s2)
 exact compareNe_shaped ra rb s1 s2 hu ⟨.bl _,H,I,rfl,q _ _ (Same.refl _) rfl⟩
def dIsN (a b:D):Option D:=match b.isN with
 | true=>some (.bl a.isN)
 | false=>none
theorem Rp.non_iff {W:Addr→Prop} {H:Hp} {d:D} {v:V} (h:Rp X W H d v):v=.non ↔ d=.non:=by
 cases d with
 | non=>cases h; simp
 | bl b=>cases h; simp
 | int i=>cases h; simp
 | str x=>cases h; simp
 | obj a=>cases h; simp
 | tup ds=>obtain ⟨a,vs,rfl,_⟩:=h; simp
 | lst ds=>obtain ⟨a,vs,rfl,_⟩:=h; simp
 | dT ks ds=>obtain ⟨a,vs,rfl,_⟩:=h; simp
 | dK ks ds=>obtain ⟨a,vs,rfl,_⟩:=h; simp
 | sT ts=>obtain ⟨a,rfl,_⟩:=h; simp
theorem isN_some {b d e:D} (h:(match b.isN with | true=>some d | false=>none)=some e):b=.non∧e=d:=by
 cases q:b.isN with
 | true=>rw [q] at h; cases h; exact ⟨D.isN_true q,rfl⟩
 | false=>rw [q] at h; cases h
theorem Rp.non_dec {W:Addr→Prop} {H:Hp} {d:D} {v:V} (h:Rp X W H d v):decide (v=.non)=d.isN:=by
 have q:=h.non_iff.trans D.isN_iff
 cases e:d.isN with
 | true=>exact decide_eq_true (q.mpr e)
 | false=>exact decide_eq_false fun z=>by rw [q.mp z] at e; cases e
theorem op_dIsN:OpD X (compareOp .Is) dIsN:=by
 intro pins s σ H x y v u Q I rx ry h
 obtain ⟨W,d1,d2,d,hd,r1,r2,e,q⟩:=h
 obtain ⟨rfl,rfl⟩:=isN_some e
 cases r2
 exact op_isN pins s σ H _ _ v u Q I rx ry ⟨rfl,q _ _ (Same.refl _) (congrArg V.bl r1.non_dec)⟩
end
end L2
end

noncomputable section
set_option Elab.async false
set_option linter.all false
set_option maxRecDepth 100000
namespace L2
open PySem PySem.Spec PySem.SeqAt PyProof.Rows
section
variable {X:Cx}
def dIx (a b:D):Option D:=match b.isI with
 | some i=>match a.isL with
  | some ds=>atI ds i
  | none=>match a.isT with
   | some ds=>atI ds i
   | none=>none
 | none=>none
theorem dIx_some {a b d:D} (h:dIx a b=some d):∃ ds i,(a=.lst ds∨a=.tup ds)∧b=.int i∧atI ds i=some d:=by
 unfold dIx at h
 cases hb:b.isI with
 | none=>rw [hb] at h; cases h
 | some i =>
  rw [hb] at h
  cases ha:a.isL with
  | some ds=>rw [ha] at h; exact ⟨ds,i,.inl (D.isL_some ha),D.isI_some hb,h⟩
  | none =>
   rw [ha] at h
   cases ht:a.isT with
   | some ds=>rw [ht] at h; exact ⟨ds,i,.inr (D.isT_some ht),D.isI_some hb,h⟩
   | none=>rw [ht] at h; cases h
theorem Rps.atI {W:Addr→Prop} {H:Hp} {ds:List D} {vs:List V} {i:Int} {d:D} (h:Rps X W H ds vs) (e:L2.atI ds i=some d):∃ v,L2.atI vs i=some v∧Rp X W H d v:=by
 unfold L2.atI at *
 rw [h.length]
 cases q:ixN ds.length i with
 | none=>rw [q] at e; cases e
 | some j =>
  rw [q] at e
  exact RepDs.get h e
theorem ix_dIx:IxR X (rD2 X dIx):=by
 intro value slice pins s σ H x y v u Q I rx ry h hs
 obtain ⟨W,d1,d2,d,hd,r1,r2,e,q⟩:=h
 obtain ⟨ds,i,h,rfl,e⟩:=dIx_some e
 cases r2
 rcases h with rfl | rfl
 ·obtain ⟨p,vs,rfl,h1,n1,q1⟩:=r1
  obtain ⟨z,hz,rz⟩:=Rps.atI (X:=X) q1 e
  exact ix_list value slice pins s σ H _ _ v u Q I rx ry ⟨p,vs,i,z,rfl,rfl,SqL.of h1,hz,q _ _ (Same.refl _) rz⟩ hs
 ·obtain ⟨p,vs,rfl,h1,q1⟩:=r1
  obtain ⟨z,hz,rz⟩:=Rps.atI (X:=X) q1 e
  exact ix_tup value slice pins s σ H _ _ v u Q I rx ry ⟨p,vs,i,z,rfl,rfl,SqT.of h1,hz,q _ _ (Same.refl _) rz⟩ hs
def dLen:List D→Option D
 | [.lst ds]=>some (.int ds.length)
 | [.tup ds]=>some (.int ds.length)
 | _=>none
theorem call_dLen:CallD X (.builtin "len") dLen:=by
 intro pins s σ H xs us Q I r h
 obtain ⟨W,ds,d,hd,r1,e,q⟩:=h
 match ds,e with
 | [.lst es],e =>
  cases e
  obtain ⟨v,r',rfl,⟨p,vs,rfl,h1,n1,q1⟩,hr⟩:=r1
  cases hr
  refine call_len_seq pins s σ H _ us Q I r ⟨p,vs,rfl,.inl (SqL.of h1),?_⟩
  rw [q1.length]
  exact q _ _ (Same.refl _) rfl
 | [.tup es],e =>
  cases e
  obtain ⟨v,r',rfl,⟨p,vs,rfl,h1,q1⟩,hr⟩:=r1
  cases hr
  refine call_len_seq pins s σ H _ us Q I r ⟨p,vs,rfl,.inr (SqT.of h1),?_⟩
  rw [q1.length]
  exact q _ _ (Same.refl _) rfl
def dList:List D→Option D
 | [.lst ds]=>some (.lst ds)
 | [.tup ds]=>some (.lst ds)
 | _=>none
def dMin2:List D→Option D
 | [.int i,.int j]=>some (.int (if j < i then j else i))
 | _=>none
theorem args2 {W:Addr→Prop} {H:Hp} {a b:D} {xs:List V} (h:Rps X W H [a,b] xs):∃ x y,xs=[x,y]∧Rp X W H a x∧Rp X W H b y:=by
 obtain ⟨x,r,rfl,hx,y,r',rfl,hy,hr⟩:=h
 cases hr
 exact ⟨x,y,rfl,hx,hy⟩
theorem args1 {W:Addr→Prop} {H:Hp} {a:D} {xs:List V} (h:Rps X W H [a] xs):∃ x,xs=[x]∧Rp X W H a x:=by
 obtain ⟨x,r,rfl,hx,hr⟩:=h
 cases hr
 exact ⟨x,rfl,hx⟩
theorem call_dMin2 (hc:X.calm=true):CallD X (.builtin "min") dMin2:=by
 intro pins s σ H xs us Q I r h
 obtain ⟨W,ds,d,hd,r1,e,q⟩:=h
 match ds,e with
 | [.int i,.int j],e =>
  cases e
  obtain ⟨x,y,rfl,hx,hy⟩:=args2 r1
  cases hx; cases hy
  exact call_min2 hc pins s σ H _ us Q I r ⟨i,j,rfl,q _ _ (Same.refl _) rfl⟩
def dInt:List D→Option D
 | [.int i]=>some (.int i)
 | [.bl k]=>some (.int (if k then 1 else 0))
 | _=>none
theorem call_dInt:CallD X (.type "int") dInt:=by
 intro pins s σ H xs us Q I r h
 obtain ⟨W,ds,d,hd,r1,e,q⟩:=h
 match ds,e with
 | [.int i],e =>
  cases e
  obtain ⟨x,rfl,hx⟩:=args1 r1
  cases hx
  exact call_int1 pins s σ H _ us Q I r (.inl ⟨i,rfl,q _ _ (Same.refl _) rfl⟩)
 | [.bl k],e =>
  cases e
  obtain ⟨x,rfl,hx⟩:=args1 r1
  cases hx
  exact call_int1 pins s σ H _ us Q I r (.inr ⟨k,rfl,q _ _ (Same.refl _) rfl⟩)
end
end L2
end

noncomputable section
set_option Elab.async false
set_option linter.all false
set_option maxRecDepth 100000
namespace L2
open PySem PySem.Spec PySem.SeqAt PyProof.Rows
abbrev Rho:=List (Option D)
abbrev Phi:=Rho→(D→Prop)→Prop
abbrev PhiS:=Rho→(List D→Prop)→Prop
def EnvP (P:Program) (w:World) (W:Addr→Prop) (H:Hp) (σ:St) (ρ:Rho):Prop:=∀ (i:Nat) (d:D),ρ[i]?=some (some d)→∃ v,σ[i]?=some (some v)∧RepD P w W H d v
theorem EnvP.keep {P:Program} {w:World} {W:Addr→Prop} {H H':Hp} {σ:St} {ρ:Rho} (e:EnvP P w W H σ ρ) (k:Kp W H H'):EnvP P w W H' σ ρ:=fun i d h=>by
 obtain ⟨v,h1,h2⟩:=e i d h
 exact ⟨v,h1,h2.keep k⟩
theorem EnvP.same {P:Program} {w:World} {W:Addr→Prop} {H H':Hp} {σ:St} {ρ:Rho} (e:EnvP P w W H σ ρ) (s:Same H H'):EnvP P w W H' σ ρ:=e.keep s.kp
theorem PE.pre {X:Cx} {e:Expr} {t t':TE} (h:PE X e t) (k:∀ σ H Q,t' σ H Q→t σ H Q):PE X e t':=fun pins s σ H Q I q=>h pins s σ H Q I (k σ H Q q)
theorem PT.pre {X:Cx} {e:Expr} {t t':TT} (h:PT X e t) (k:∀ σ H Q,t' σ H Q→t σ H Q):PT X e t':=fun pins s σ H Q I q=>h pins s σ H Q I (k σ H Q q)
theorem PA.pre {X:Cx} {es:List Expr} {t t':TA} (h:PA X es t) (k:∀ σ H Q,t' σ H Q→t σ H Q):PA X es t':=fun pos pins s σ H Q I q=>h pos pins s σ H Q I (k σ H Q q)
structure SE' (P:Program) (w:World) (W:Addr→Prop) (σ:St) (H:Hp) (ρ:Rho):Prop where
 dm:Dm W H
 env:EnvP P w W H σ ρ
abbrev SE (X:Cx):(Addr→Prop)→St→Hp→Rho→Prop:=SE' X.prog X.w
theorem SE'.same {P:Program} {w:World} {W:Addr→Prop} {σ:St} {H H':Hp} {ρ:Rho} (e:SE' P w W σ H ρ) (s:Same H H'):SE' P w W σ H' ρ:=⟨e.dm.same s,e.env.same s⟩
def tD (X:Cx) (φ:Phi):TE:=fun σ H Q=>∃ W ρ,SE X W σ H ρ∧φ ρ fun d=>∀ v H',Same H H'→Rp X W H' d v→Q v H'
def tDs (X:Cx) (φ:PhiS):TA:=fun σ H Q=>∃ W ρ,SE X W σ H ρ∧φ ρ fun ds=>∀ vs H',Same H H'→Rps X W H' ds vs→Q vs H'
structure PV (X:Cx) (e:Expr) (φ:Phi):Prop where
 mono:∀ ρ R R',(∀ d,R d→R' d)→φ ρ R→φ ρ R'
 pe:PE X e (tD X φ)
structure PVA (X:Cx) (es:List Expr) (φ:PhiS):Prop where
 mono:∀ ρ R R',(∀ d,R d→R' d)→φ ρ R→φ ρ R'
 pa:PA X es (tDs X φ)
section
variable {X:Cx} {a b c e:Expr} {es:List Expr} {φ φa φb φc:Phi} {τ τa τb:PhiB} {φs:PhiS} {pos:Pos} {W:Addr→Prop} {σ:St} {H:Hp} {ρ:Rho}
theorem tD.of (h:PV X e φ) (se:SE X W σ H ρ) {R:D→Prop} {Q:VK} (hr:φ ρ R) (k:∀ d v H',R d→Same H H'→Rp X W H' d v→Q v H'):tD X φ σ H Q :=
 ⟨W,ρ,se,h.mono ρ _ _ (fun d hd v H' s r=>k d v H' hd s r) hr⟩
theorem tDs.of (h:PVA X es φs) (se:SE X W σ H ρ) {R:List D→Prop} {Q:List V→Hp→Prop} (hr:φs ρ R) (k:∀ ds vs H',R ds→Same H H'→Rps X W H' ds vs→Q vs H'):tDs X φs σ H Q :=
 ⟨W,ρ,se,h.mono ρ _ _ (fun d hd v H' s r=>k d v H' hd s r) hr⟩
def fVar (i:Nat):Phi:=fun ρ R=>∃ d,ρ[i]?=some (some d)∧R d
theorem pv_var {i:Nat} {x:Str} (hN:X.N[i]?=some x:=by rfl) (hv:Vis X.env.scope x:=by first | exact .inl rfl | exact .inr (.inl rfl) | exact .inr (.inr rfl)) (hd:(x == ("__debug__" : Str))=false:=by decide) (hcd:(x == ("__classdict__" : Str))=false:=by decide) :
  PV X (.Name x pos) (fVar i):=⟨fun ρ R R' k ⟨d,e,h⟩=>⟨d,e,k d h⟩,(pe_var hN hv hd hcd).pre fun σ H Q ⟨W,ρ,se,d,e,q⟩=>by
 obtain ⟨v,h1,h2⟩:=se.env i d e
 exact ⟨v,h1,q v H (Same.refl _) h2⟩⟩
theorem PW.pre {t t':TT} (h:PW X e t) (k:∀ σ H Q,t' σ H Q→t σ H Q):PW X e t':=fun w pins s σ H Q I q=>h w pins s σ H Q I (k σ H Q q)
variable {rest:List Expr}
def fNil:PhiS:=fun _ R=>R []
def fCons (φ:Phi) (φs:PhiS):PhiS:=fun ρ R=>φ ρ fun d=>φs ρ fun ds=>R (d::ds)
theorem pva_nil:PVA X [] fNil:=⟨fun ρ R R' k h=>k _ h,pa_nil.pre fun σ H Q ⟨W,ρ,se,q⟩=>q [] H (Same.refl _) rfl⟩
theorem pva_cons (ha:PV X a φ) (hr:PVA X es φs) (hs:starEach (a::es) X.env=(false,eval a X.env)::starEach es X.env:=by rfl):PVA X (a::es) (fCons φ φs) :=
 ⟨fun ρ R R' k h=>ha.mono ρ _ _ (fun d q=>hr.mono ρ _ _ (fun ds q2=>k _ q2) q) h,(pa_cons ha.pe hr.pa hs).pre fun σ H Q ⟨W,ρ,se,h⟩ =>
  tD.of ha se h fun d1 v1 H1 h1 s1 r1=>tDs.of hr (se.same s1) h1 fun ds vs H2 q s2 r2=>q (v1::vs) H2 (s1.trans s2) (.cons (r1.same s2) r2)⟩
variable {x:Str} {p:Pos} {id T:String} {g:List D→Option D}
end
abbrev FD:=List D→(D→Prop)→Prop
def Mono (F:FD):Prop:=∀ ds R R',(∀ d,R d→R' d)→F ds R→F ds R'
section
variable {X:Cx} {k:Nat} {f:Addr} {fd:FuncData} {ps:List Str} {F:FD} {new:Bool} {x:Str} {p pos:Pos} {e:Expr} {es:List Expr} {φs:PhiS}
end
end L2
end

noncomputable section
set_option Elab.async false
set_option linter.all false
set_option maxRecDepth 100000
namespace L2
open PySem PySem.Spec PySem.SeqAt PyProof.Rows
section
variable {X:Cx} {a b c e:Expr} {es:List Expr} {φ φa φb φc:Phi} {τ τa τb:PhiB} {φs:PhiS} {pos:Pos} {W:Addr→Prop} {σ:St} {H:Hp} {ρ:Rho}
variable {op op':CmpOp} {ops:List CmpOp} {rs:List Expr} {g:D→D→Option D} {φr:PhiC}
end
abbrev NF:D→Prop:=fun d=>d.flat=true
section
variable {X:Cx} {a b c e:Expr} {es:List Expr} {φ φa φb φc:Phi} {φs:PhiS} {pos:Pos}
abbrev NL:D→Prop:=fun d=>match d with | .lst ds=>D.flats ds=true | d=>d.flat=true
end
end L2
end

noncomputable section
set_option Elab.async false
set_option linter.all false
set_option maxRecDepth 100000
namespace L2
open PySem PySem.Spec PySem.SeqAt PyProof.Rows
section
variable {P:Program} {w:World} {W W':Addr→Prop} {H:Hp}
mutual
theorem RepD.grow (s:∀ a,W' a→W a∨H a=none):∀ {d:D} {v:V},RepD P w W H d v→RepD P w W' H d v
 | .non,_,h=>h
 | .bl _,_,h=>h
 | .int _,_,h=>h
 | .str _,_,h=>h
 | .obj _,_,h=>h
 | .tup ds,_,⟨a,vs,e,t,r⟩=>⟨a,vs,e,t,RepDs.grow s r⟩
 | .lst ds,_,⟨a,vs,e,t,n,r⟩=>⟨a,vs,e,t,fun z=>(s a z).elim n fun q=>(by rw [t] at q; cases q),RepDs.grow s r⟩
 | .dT ks ds,_,⟨a,vs,e,t,l,n,r⟩=>⟨a,vs,e,t,l,fun z=>(s a z).elim n fun q=>(by rw [t] at q; cases q),RepDs.grow s r⟩
 | .dK ks ds,_,⟨a,vs,e,t,l,n,r⟩=>⟨a,vs,e,t,l,fun z=>(s a z).elim n fun q=>(by rw [t] at q; cases q),RepDs.grow s r⟩
 | .sT ts,_,⟨a,e,⟨ts',t,r,z⟩,n⟩=>⟨a,e,⟨ts',t,r,z⟩,fun z=>(s a z).elim n fun q=>(by rw [t] at q; cases q)⟩
theorem RepDs.grow (s:∀ a,W' a→W a∨H a=none):∀ {ds:List D} {vs:List V},RepDs P w W H ds vs→RepDs P w W' H ds vs
 | [],_,h=>h
 | d::ds,_,⟨v,r,e,h1,h2⟩=>⟨v,r,e,RepD.grow s h1,RepDs.grow s h2⟩
end
end
def ItW (X:Cx) (W:Addr→Prop) (J:It) (ds:List D) (H0:Hp):Prop:=∀ (i:Nat) (H:Hp),Kp W H0 H →
 (∀ d,ds[i]?=some d→J.go i H∧∀ x H1,J.yld i H x H1→Same H H1∧Rp X W H1 d x)∧(ds.length≤i→J.stop i H)
def ItD (X:Cx) (W:Addr→Prop) (J:It) (ds:List D) (H0:Hp):Prop:=∀ W':Addr→Prop,(∀ b,W' b→W b∨H0 b=none)→ItW X W' J ds H0
abbrev PhiI:=Rho→(List D→Prop)→Prop
structure PVI (X:Cx) (tg iter:Expr) (ι:PhiI):Prop where
 mono:∀ ρ R R',(∀ d,R d→R' d)→ι ρ R→ι ρ R'
 pi:PI X tg iter fun σ H R=>∃ W ρ,SE X W σ H ρ∧ι ρ fun ds=>∀ J H',Same H H'→ItD X W J ds H'→R J H'
section
variable {X:Cx} {tg e:Expr} {es:List Expr} {φ:Phi} {φs:PhiS}
theorem PI.pre {iter:Expr} {t t':TI} (h:PI X tg iter t) (k:∀ σ H R,t' σ H R→t σ H R):PI X tg iter t':=fun pins s σ H R I q=>h pins s σ H R I (k σ H R q)
theorem itd_list {W:Addr→Prop} {H:Hp} {p:Addr} {vs:List V} {ds:List D} (h1:H p=some (.lst vs)) (n1:¬ W p) (q1:Rps X W H ds vs):ItD X W (Itl X.K p) ds H:=fun W' hW i H' k=>by
 have h2:=k.out p _ h1 fun z=>(hW p z).elim n1 fun q=>by rw [h1] at q; cases q
 replace q1:=RepDs.grow hW q1
 constructor
 ·intro d hd
  obtain ⟨v,hv,rv⟩:=RepDs.get q1 hd
  refine ⟨⟨vs,v,SqL.of h2,hv⟩,fun x H1 y=>?_⟩
  obtain ⟨rfl,y⟩:=y
  have e:=y vs (SqL.of h2)
  rw [hv] at e
  cases e
  exact ⟨Same.refl _,rv.keep k⟩
 ·intro hl
  exact ⟨vs,SqL.of h2,by rw [q1.length]; exact hl⟩
def rngD (lo:Int) (n:Nat):List D:=(List.range n).map fun (k:Nat)=>D.int (lo+(k:Int))
theorem itd_range {W:Addr→Prop} {H:Hp} {lo:Int} {n:Nat}:ItD X W (Itr lo n) (rngD lo n) H:=fun _ _ i H' k=>by
 constructor
 ·intro d hd
  unfold rngD at hd
  rw [List.getElem?_map] at hd
  have hi:i < n:=by
   by_cases h:i < n
   ·exact h
   ·rw [List.getElem?_eq_none (by simpa using h)] at hd; cases hd
  rw [List.getElem?_range hi] at hd
  cases hd
  refine ⟨hi,fun x H1 y=>?_⟩
  obtain ⟨rfl,rfl⟩:=y
  exact ⟨Same.refl _,rfl⟩
 ·intro hl
  unfold rngD at hl
  rw [List.length_map,List.length_range] at hl
  exact hl
end
section
variable {X:Cx} {tg:Expr} {tgs:List Expr} {γ:Gam} {γs:Gams} {pos:Pos}
theorem PG.pre {t t':TG} (h:PG X tg t) (k:∀ v σ H Q,t' v σ H Q→t v σ H Q):PG X tg t':=fun pins s σ H v u Q I r q=>h pins s σ H v u Q I r (k v σ H Q q)
theorem PGs.pre {t t':TGs} (h:PGs X tgs t) (k:∀ v σ H Q,t' v σ H Q→t v σ H Q):PGs X tgs t':=fun pins s σ H v u Q I r q=>h pins s σ H v u Q I r (k v σ H Q q)
end
end L2
end

noncomputable section
set_option Elab.async false
set_option linter.all false
set_option maxRecDepth 100000
namespace L2
open PySem PySem.Spec PySem.SeqAt PyProof.Rows
theorem kp_upd {H:Hp} {a:Addr} {o o':HO} (h:H a=some o) (ht:∀ xs,o≠.tup xs):Kp (·=a) H (upd H a o') :=
 ⟨fun b u e n=>by rw [upd_ne n]; exact e,fun b xs e=>by rw [upd_ne (ne_of e h (fun z=>ht xs z.symm))]; exact e⟩
section
variable {X:Cx} {a:Addr} {e elt:Expr} {d:Nat} {φ:Phi}
end
section
variable {X:Cx} {e:Expr} {g:Comprehension} {gs:List Comprehension} {scope:Scope} {N':List Str} {lk:List (Option Nat)} {ι:PhiI} {γ:Gam} {τ:PhiB} {ε:Eps} {newAcc:Sem Value} {o0:HO} {acc:AccR}
variable {pos:Pos} {elt:Expr}
variable {tg it1 tg2 it2:Expr} {ifs ifs2:List Expr} {φ:Phi} {ι2:PhiI} {γ2:Gam} {τ2:PhiB}
end
end L2
end

noncomputable section
set_option Elab.async false
set_option linter.all false
set_option maxRecDepth 100000
namespace L2
open PySem PySem.Spec PySem.SeqAt PyProof.Rows
section
variable {P:Program} {w:World} {W W':Addr→Prop} {H H':Hp}
end
section
variable {P:Program} {w:World} {H0:Hp} {IO W0:Addr→Prop} {σ:St} {H H':Hp} {β:Bet} {W:Addr→Prop} {own:Nat→List Addr}
def ownSet (own:Nat→List Addr) (i:Nat) (as:List Addr):Nat→List Addr:=fun j=>if j=i then as else own j
theorem ownSet_sub {own:Nat→List Addr} {i j:Nat} {a:Addr} (h:a ∈ ownSet own i [] j):a ∈ own j∧j≠i:=by
 unfold ownSet at h
 by_cases e:j=i
 ·rw [if_pos e] at h; cases h
 ·rw [if_neg e] at h; exact ⟨h,e⟩
theorem set_ne {α:Type} {β:List α} {i j:Nat} {x:α} (h:i≠j):(β.set i x)[j]?=β[j]?:=by rw [List.getElem?_set,if_neg h]
theorem set_eq {α:Type} {β:List α} {i:Nat} {x y:α} (h:(β.set i x)[i]?=some y):y=x∧i < β.length:=by
 rw [List.getElem?_set,if_pos rfl] at h
 by_cases hi:i < β.length
 ·rw [if_pos hi] at h; cases h; exact ⟨rfl,hi⟩
 ·rw [if_neg hi] at h; cases h
theorem get_set {α:Type} {σ:List α} {i:Nat} {x:α} (h:i < σ.length):(σ.set i x)[i]?=some x:=by rw [List.getElem?_set,if_pos rfl,if_pos h]
end
end L2
end

noncomputable section
set_option Elab.async false
set_option linter.all false
set_option maxRecDepth 100000
namespace L2
open PySem PySem.Spec PySem.SeqAt PyProof.Rows
structure Sn (Z:Hp × (Addr→Prop)) (H:Hp) (W:Addr→Prop):Prop where
 w:∀ b,W b→Z.2 b∨Z.1 b=none
 k:Kp (fun b=>Z.2 b∨Z.1 b=none) Z.1 H
 d:∀ b,Z.1 b≠none→H b≠none
theorem Sn.refl {H:Hp} {W:Addr→Prop}:Sn (H,W) H W:=⟨fun _ z=>.inl z,Kp.refl,fun _ z=>z⟩
theorem Sn.same {Z:Hp × (Addr→Prop)} {H H':Hp} {W:Addr→Prop} (n:Sn Z H W) (s:Same H H'):Sn Z H' W:=⟨n.w,n.k.trans s.kp,fun b z e=>n.d b z (s.free e)⟩
theorem Sn.free {Z:Hp × (Addr→Prop)} {H:Hp} {W:Addr→Prop} (n:Sn Z H W) {a:Addr} (h:H a=none):Z.1 a=none:=by
 cases q:Z.1 a with
 | none=>rfl
 | some o=>exact absurd h (n.d a (by rw [q]; intro z; cases z))
theorem Sn.upd {Z:Hp × (Addr→Prop)} {H:Hp} {W:Addr→Prop} (n:Sn Z H W) {a:Addr} {o o':HO} (h:H a=some o) (ht:∀ xs,o≠.tup xs) (wa:W a):Sn Z (L2.upd H a o') W :=
 ⟨n.w,n.k.trans ((kp_upd h ht).mono fun b z=>by rw [z]; exact n.w a wa),fun b z e=>by
  by_cases hb:b=a
  ·subst hb; rw [upd_same] at e; cases e
  ·rw [upd_ne hb] at e; exact n.d b z e⟩
theorem Sn.trans {Z:Hp × (Addr→Prop)} {H1 H:Hp} {W1 W:Addr→Prop} (n1:Sn Z H1 W1) (n:Sn (H1,W1) H W):Sn Z H W:=by
 have big:∀ b,W1 b∨H1 b=none→Z.2 b∨Z.1 b=none:=fun b z=>z.elim (n1.w b) fun q=>.inr (n1.free q)
 exact ⟨fun b z=>big b (n.w b z),n1.k.trans (n.k.mono big),fun b z=>n.d b (n1.d b z)⟩
section
variable {X:Cx} {C:Cfg} {st:Stmt} {rest a b:List Stmt} {ψ ψ1 ψ2:Psi} {Z:Hp × (Addr→Prop)} {σ:St} {H H':Hp} {β:Bet} {pos:Pos}
theorem PS.pre {t t':TS} (h:PS X st t) (k:∀ D σ H,t' D σ H→t D σ H):PS X st t':=fun pins s σ H D I q=>h pins s σ H D I (k D σ H q)
theorem PSs.pre {t t':TS} (h:PSs X rest t) (k:∀ D σ H,t' D σ H→t D σ H):PSs X rest t':=fun pins s σ H D I q=>h pins s σ H D I (k D σ H q)
variable {i:Nat} {φ:Phi} {N:D→Prop}
end
end L2
end



noncomputable section
set_option Elab.async false
set_option linter.all false
set_option maxRecDepth 100000
namespace L2
open PySem PySem.Spec PySem.SeqAt PyProof.Rows
section
variable {X:Cx} {C:Cfg} {a b c e:Expr} {es:List Expr} {φ:Phi} {ν νa νb:PhiN} {τ τa τb:PhiNB} {νs:PhiNS} {pos:Pos} {σ:St} {H H':Hp} {β:Bet} {Z:Hp × (Addr→Prop)}
theorem held {P:Program} {w:World} {W W2:Addr→Prop} {H2:Hp} {d:D} {v:V} (r:RepD P w W H d v) (n:Sn (H,W) H2 W2):RepD P w W2 H2 d v :=
 RepD.anti n.w (RepD.keep n.k (RepD.grow (fun b z=>z) r))
variable {rest:List Expr}
variable {x:Str} {p:Pos} {id T:String} {g:List D→Option D}
end
theorem Sn.kp {Z:Hp × (Addr→Prop)} {H H':Hp} {W:Addr→Prop} (n:Sn Z H W) (k:Kp W H H') (dn:∀ c,H c≠none→H' c≠none):Sn Z H' W:=⟨n.w,n.k.trans (k.mono n.w),fun b z=>dn b (n.d b z)⟩
section
variable {X:Cx} {C:Cfg} {k ih:Nat} {f:Addr} {fd:FuncData} {ps:List Str} {F:FD} {ok:List Int→Prop} {x hx:Str} {p pos px:Pos} {es:List Expr} {νs:PhiNS}
end
section
variable {X:Cx} {C:Cfg} {e:Expr} {ν:PhiN} {i:Nat} {x:Str} {pos pos':Pos} {tg:Expr} {γ:GamB}
variable {px ap cp:Pos}
end
end L2
end

noncomputable section
set_option Elab.async false
set_option linter.all false
set_option maxRecDepth 100000
set_option maxHeartbeats 1000000
namespace HT2
open PySem PySem.Spec PyProof.Rows
section
open PySem.SeqAt
open PySem.AutoSeq1 (wpAny_loadPart')
open PySem.MeetsSeq PySem.MeetsSeq2 PySem.MeetsSeq3
end
section
variable {prog:Program} {w:World} {A:Around} {E:Value→Shared→Prop} {s:Shared}
end
section
open PySem.SeqAt
open PySem.AutoSeq1 (wpAny_loadPart')
open PySem.MeetsSeq PySem.MeetsSeq2 PySem.MeetsSeq3
end
section
variable {prog:Program} {w:World} {A:Around} {E:Value→Shared→Prop} {s:Shared}
end
end HT2
namespace L2
open PySem PySem.Spec PySem.SeqAt PyProof.Rows
def intsD:List D→Option (List Int)
 | []=>some []
 | .int i::ds=>(intsD ds).map (i::·)
 | _::_=>none
theorem intsD_eq:∀ {ds:List D} {ns:List Int},intsD ds=some ns→ds=ns.map D.int
 | [],_,h=>by cases h; rfl
 | .int i::ds,_,h=>by
  obtain ⟨ns,h1,rfl⟩:=Option.map_eq_some_iff.mp h
  rw [List.map_cons,← intsD_eq h1]
 | .non::_,_,h=>by cases h
 | .bl _::_,_,h=>by cases h
 | .str _::_,_,h=>by cases h
 | .obj _::_,_,h=>by cases h
 | .tup _::_,_,h=>by cases h
 | .lst _::_,_,h=>by cases h
 | .dT _ _::_,_,h=>by cases h
 | .dK _ _::_,_,h=>by cases h
 | .sT _::_,_,h=>by cases h
theorem intsD_map:∀ (ns:List Int),intsD (ns.map D.int)=some ns
 | []=>rfl
 | n::ns=>by rw [List.map_cons]; show (intsD (ns.map D.int)).map _=_; rw [intsD_map ns]; rfl
theorem reps_ints {P:Program} {w:World} {W:Addr→Prop} {H:Hp}:∀ {ns:List Int} {vs:List V},RepDs P w W H (ns.map D.int) vs→vs=ns.map V.int
 | [],_,h=>h
 | n::ns,_,⟨v,r,e,h1,h2⟩=>by rw [e,reps_ints h2,show v=V.int n from h1]; rfl
theorem ints_reps {P:Program} {w:World} {W:Addr→Prop} {H:Hp}:∀ (ns:List Int),RepDs P w W H (ns.map D.int) (ns.map V.int)
 | []=>rfl
 | n::ns=>⟨_,_,rfl,rfl,ints_reps ns⟩
section
variable {X:Cx}
end
end L2
end

noncomputable section
set_option Elab.async false
set_option linter.all false
set_option maxRecDepth 100000
set_option maxHeartbeats 4000000
namespace TS
open PySem PyProof.Rows
section
variable {prog:Program} {w:World} {A:Around} {E:Value→Shared→Prop} {s:Shared}
theorem sorted_any {x:Value} {vs:List Value} {kf:Value→List Int} {Q:Value→Shared→Prop} (hz:vs.length≤1000000)
  (col:∀ (B:Around) (R:List Value→Shared→Prop),B.units≤A.units+1→(∀ (h':Heap) (tk:Nat),(∀ b o,s.heap.get? b=some o→h'.get? b=some o)→s.heap.objs.size≤h'.objs.size→R vs { s with heap:=h',toks:=tk })→wpAny (model prog w) B (collect x) R E s)
  (T:Tups s.heap kf s.heap.objs.size vs)
  (h:∀ (out:List Value) (l:Addr) (h':Heap) (tk:Nat) (n:Nat),out.Perm vs→out.Pairwise (fun x y=>HT.lexLt (kf y) (kf x)=false)→s.heap.objs.size≤l→(∀ b o,s.heap.get? b=some o→h'.get? b=some o)→h'.get? l=some (seqObj "list" out.toArray n)→Q (.ref l) { s with heap:=h',toks:=tk }) :
  wpAny (model prog w) A (call (.builtin "sorted") [x]) Q E s:=by
 refine Calls.call_function_entry kind_sorted plain_sorted entry_sorted (args_sorted1 _) ?_
 unfold Builtin.«sorted»
 refine wpAny_bind (m:=checkCount "sorted" 1 1 _) (wpAny_pure ?_)
 refine wpAny_bind (col A.in1 _ (Nat.le_refl _) fun h' tk kp le0=>?_)
 have nl:vs.length≤sizeLine:=by rw [sizeLine_eq]; lia
 refine wpAny_bind (wpAny_newList ?_ nl)
 have hl:(h'.push (seqObj "list" vs.toArray 0)).get? h'.objs.size=some (seqObj "list" vs.toArray 0):=Heap.get?_push_size _ rfl
 have T':Tups (h'.push (seqObj "list" vs.toArray 0)) kf h'.objs.size vs:=fun v hv=>by
  obtain ⟨t,o,xs,k,e1,_,e3,r⟩:=T v hv
  exact ⟨t,o,xs,k,e1,Nat.ne_of_lt (Heap.lt_size (kp _ _ e3)),Heap.get?_push_of_some _ (kp _ _ e3),r⟩
 refine wpAny_bind (wpAny_holding (wpAny_call_entry slot_list_sort ⟨_,hl,rfl⟩ entry_list_sort (list_sortT (s:={ s with heap:=h'.push (seqObj "list" vs.toArray 0),toks:=tk }) hl hz T' fun out hp hs=>⟨_,rfl,?_⟩) (args_list_sort _)))
 obtain ⟨n,hn⟩:=sortedHeap_at (out:=out.toArray) hl
 refine wpAny_pure ⟨_,rfl,h out h'.objs.size _ tk n hp hs le0 (fun b o e=>?_) hn⟩
 have hb:=Heap.lt_size (kp _ _ e)
 rw [sortedHeap_old (Nat.ne_of_lt hb) (by rw [size_push']; exact Nat.lt_succ_of_lt hb)]
 exact Heap.get?_push_of_some _ (kp _ _ e)
end
end TS
namespace L2
open PySem PySem.Spec PyProof.Rows
def kfOf (H:Hp):Value→List Int
 | .ref t=>match H t with
  | some (.tup xs)=>xs.filterMap fun
   | .int i=>some i
   | _=>none
  | _=>[]
 | _=>[]
theorem filt_int:∀ ns:List Int,((ns.map V.int).filterMap fun
   | .int i=>some i
   | _=>none)=ns
 | []=>rfl
 | n::ns=>by
  rw [List.map_cons,List.filterMap_cons]
  dsimp only
  rw [filt_int ns]
theorem kfOf_tup {H:Hp} {t:Addr} {ns:List Int} (h:H t=some (.tup (ns.map V.int))):kfOf H (.ref t)=ns:=by
 unfold kfOf
 dsimp only
 rw [h]
 exact filt_int ns
def gTs (H:Hp):Value→Addr × List Int
 | .ref t=>(t,kfOf H (.ref t))
 | _=>(0,[])
abbrev TsOk (H:Hp) (ts:List (Addr × List Int)):Prop:=∀ t ∈ ts,H t.1=some (.tup (t.2.map V.int))∧t.2≠[]
abbrev tRef (t:Addr × List Int):V:=.ref t.1
theorem vals_refs:∀ {ts:List (Addr × List Int)} {us:List Value},Vals (ts.map tRef) us→us=ts.map fun t=>Value.ref t.1
 | [],_,.nil=>rfl
 | t::ts,_,.cons r q=>by
  rw [List.map_cons,← vals_refs q]
  cases r
  rfl
theorem refs_vals:∀ (ts:List (Addr × List Int)),Vals (ts.map tRef) (ts.map fun t=>Value.ref t.1)
 | []=>.nil
 | t::ts=>.cons rfl (refs_vals ts)
theorem perm_refs {H:Hp} {ts:List (Addr × List Int)} (T:TsOk H ts) {out:List Value} (hp:out.Perm (ts.map fun t=>Value.ref t.1)):out=(out.map (gTs H)).map (fun t=>Value.ref t.1)∧(out.map (gTs H)).Perm ts:=by
 constructor
 ·rw [List.map_map]
  refine (List.map_congr_left (g:=id) fun v hv=>?_).trans (List.map_id _) |>.symm
  obtain ⟨t,ht,rfl⟩:=List.mem_map.mp (hp.mem_iff.mp hv)
  rfl
 ·refine (hp.map (gTs H)).trans (List.Perm.of_eq ?_)
  rw [List.map_map]
  refine (List.map_congr_left (g:=id) fun t ht=>?_).trans (List.map_id _)
  show (t.1,kfOf H (.ref t.1))=t
  rw [kfOf_tup (T t ht).1]
theorem tups_of {P:Program} {w:World} {H:Hp} {h:Heap} {ts:List (Addr × List Int)} (ok:HOk P w H h) (T:TsOk H ts) {a:Addr} (ha:h.objs.size≤a):TS.Tups h (kfOf H) a (ts.map fun t=>Value.ref t.1):=fun v hv=>by
 obtain ⟨t,ht,rfl⟩:=List.mem_map.mp hv
 obtain ⟨h1,h2⟩:=T t ht
 obtain ⟨_,its,r,o,ho,hc,n,hd⟩:=(show ObjOk P w H h t.1 (.tup (t.2.map V.int)) from ok _ _ h1)
 exact ⟨t.1,o,_,n,rfl,Nat.ne_of_lt (Nat.lt_of_lt_of_le (Heap.lt_size ho) ha),ho,hc,hd,by rw [kfOf_tup h1]; exact intsAre_of (by simpa using r),by rw [kfOf_tup h1]; exact h2⟩
section
variable {X:Cx}
theorem call_sortedT:CallR X (.builtin "sorted") (fun xs H Q=>∃ (p:Addr) (ts:List (Addr × List Int)),xs=[.ref p]∧SqL X.K H p (ts.map tRef)∧TsOk H ts∧ts.length≤1000000 ∧
  ∀ (l:Addr) (ts':List (Addr × List Int)),H l=none→ts'.Perm ts→ts'.Pairwise (fun x y=>HT.lexLt y.2 x.2=false)→Q (.ref l) (upd H l (.lst (ts'.map tRef)))):=by
 intro pins s σ H xs us Q I r h
 obtain ⟨p,ts,rfl,hq,T,hz,q⟩:=h
 obtain ⟨u,rfl,rx⟩:=vals1 r
 cases rx
 obtain ⟨its,r',pl,hl⟩:=I.list hq
 obtain rfl:=vals_refs r'
 have nl:(ts.map fun t=>Value.ref t.1).length≤sizeLine:=by rw [List.length_map,sizeLine_eq]; lia
 refine TS.sorted_any (kf:=kfOf H) (by rw [List.length_map]; exact hz) (fun B R _ hR=>?_) (tups_of I.hok T (Nat.le_refl _)) fun out l h' tk n hp hs hle kp ho=>?_
 ·refine collect_list pl.isList (hR _ s.toks (fun b o e=>?_) ?_) nl
  ·have hb:=Heap.lt_size e
   rw [Heap.get?_update_ne _ _ _ _ (Nat.ne_of_lt hb)]
   exact Heap.get?_push_of_some _ e
  ·rw [Heap.size_update,size_push']
   exact Nat.le_succ _
 ·obtain ⟨e1,e2⟩:=perm_refs T hp
  have zl:out.length=ts.length:=by rw [hp.length_eq,List.length_map]
  refine ⟨.ref l,_,I.laid (t':=tk) (o:=.lst ((out.map (gTs H)).map tRef)) kp hle ?_,rfl,q l _ (I.hok.fresh hle) e2 ?_⟩
  ·refine ⟨by rw [List.length_map,List.length_map,zl,sizeLine_eq]; lia,out,n,?_,ho⟩
   have:=refs_vals (out.map (gTs H))
   rw [← e1] at this
   exact this
  ·rw [List.pairwise_map]
   refine hs.imp_of_mem fun {x y} hx hy hh=>?_
   obtain ⟨t,ht,rfl⟩:=List.mem_map.mp (hp.mem_iff.mp hx)
   obtain ⟨t',ht',rfl⟩:=List.mem_map.mp (hp.mem_iff.mp hy)
   exact hh
end
end L2
end







noncomputable section
set_option Elab.async false
set_option linter.all false
set_option maxRecDepth 100000
namespace TS
open PySem PyProof.Rows
section
variable {prog:Program} {w:World} {A:Around} {E:Value→Shared→Prop} {s:Shared}
theorem sorted_in1 {x:Value} {vs:List Value} {kf:Value→List Int} {Q:Value→Shared→Prop} (hz:vs.length≤1000000)
  (col:∀ (R:List Value→Shared→Prop),(∀ (h':Heap) (tk:Nat),(∀ b o,s.heap.get? b=some o→h'.get? b=some o)→R vs { s with heap:=h',toks:=tk })→wpAny (model prog w) A.in1 (collect x) R E s)
  (T:Tups s.heap kf s.heap.objs.size vs)
  (h:∀ (out:List Value) (h1 h':Heap) (tk:Nat) (n:Nat),out.Perm vs→out.Pairwise (fun x y=>HT.lexLt (kf y) (kf x)=false)→(∀ b o,s.heap.get? b=some o→h1.get? b=some o)→(∀ b o,h1.get? b=some o→h'.get? b=some o)→h'.get? h1.objs.size=some (seqObj "list" out.toArray n)→Q (.ref h1.objs.size) { s with heap:=h',toks:=tk }) :
  wpAny (model prog w) A (call (.builtin "sorted") [x]) Q E s:=by
 refine Calls.call_function_entry kind_sorted plain_sorted entry_sorted (args_sorted1 _) ?_
 unfold Builtin.«sorted»
 refine wpAny_bind (m:=checkCount "sorted" 1 1 _) (wpAny_pure ?_)
 refine wpAny_bind (col _ fun h' tk kp=>?_)
 have nl:vs.length≤sizeLine:=by rw [sizeLine_eq]; omega
 refine wpAny_bind (wpAny_newList ?_ nl)
 have hl:(h'.push (seqObj "list" vs.toArray 0)).get? h'.objs.size=some (seqObj "list" vs.toArray 0):=Heap.get?_push_size _ rfl
 have T':Tups (h'.push (seqObj "list" vs.toArray 0)) kf h'.objs.size vs:=fun v hv=>by
  obtain ⟨t,o,xs,k,e1,_,e3,r⟩:=T v hv
  exact ⟨t,o,xs,k,e1,Nat.ne_of_lt (Heap.lt_size (kp _ _ e3)),Heap.get?_push_of_some _ (kp _ _ e3),r⟩
 refine wpAny_bind (wpAny_holding (wpAny_call_entry slot_list_sort ⟨_,hl,rfl⟩ entry_list_sort (list_sortT (s:={ s with heap:=h'.push (seqObj "list" vs.toArray 0),toks:=tk }) hl hz T' fun out hp hs=>⟨_,rfl,?_⟩) (args_list_sort _)))
 obtain ⟨n,hn⟩:=sortedHeap_at (out:=out.toArray) hl
 refine wpAny_pure ⟨_,rfl,h out h' _ tk n hp hs kp (fun b o e=>?_) hn⟩
 have hb:=Heap.lt_size e
 rw [sortedHeap_old (Nat.ne_of_lt hb) (by rw [size_push']; exact Nat.lt_succ_of_lt hb)]
 exact Heap.get?_push_of_some _ e
end
end TS
namespace ST
open PySem PyProof.Rows
section
variable {prog:Program} {w:World} {s:Shared}
end
end ST
namespace L2
open PySem PySem.Spec PySem.SeqAt PyProof.Rows HT
theorem lexLt_anti:∀ {a b:List Int},lexLt a b=false→lexLt b a=false→a=b
 | [],[],_,_=>rfl
 | [],_::_,h,_=>by cases h
 | _::_,[],_,h=>by cases h
 | x::xs,y::ys,h1,h2=>by
  rw [lexLt_cons] at h1 h2
  by_cases e:x=y
  ·subst e
   rw [if_pos rfl] at h1 h2
   rw [lexLt_anti h1 h2]
  ·rw [if_neg e] at h1
   rw [if_neg (fun z=>e z.symm)] at h2
   have:=of_decide_eq_false h1
   have:=of_decide_eq_false h2
   omega
theorem lexLt_asym:∀ {a b:List Int},lexLt a b=true→lexLt b a=false
 | [],[],h=>by cases h
 | [],_::_,_=>rfl
 | _::_,[],h=>by cases h
 | x::xs,y::ys,h=>by
  rw [lexLt_cons] at h ⊢
  by_cases e:x=y
  ·subst e
   rw [if_pos rfl] at h ⊢
   exact lexLt_asym h
  ·rw [if_neg e] at h
   rw [if_neg (fun z=>e z.symm)]
   have:=of_decide_eq_true h
   exact decide_eq_false (by omega)
theorem lexLt_trans:∀ {a b c:List Int},lexLt a b=true→lexLt b c=true→lexLt a c=true
 | [],[],_,h,_=>by cases h
 | [],_::_,[],_,h=>by cases h
 | [],_::_,_::_,_,_=>rfl
 | _::_,[],_,h,_=>by cases h
 | x::xs,y::ys,[],_,h=>by cases h
 | x::xs,y::ys,z::zs,h1,h2=>by
  rw [lexLt_cons] at h1 h2 ⊢
  by_cases e:x=y
  ·subst e
   rw [if_pos rfl] at h1
   by_cases e2:x=z
   ·subst e2
    rw [if_pos rfl] at h2 ⊢
    exact lexLt_trans h1 h2
   ·rw [if_neg e2] at h2 ⊢
    exact h2
  ·rw [if_neg e] at h1
   have q1:=of_decide_eq_true h1
   by_cases e2:y=z
   ·subst e2
    rw [if_neg e]
    exact h1
   ·rw [if_neg e2] at h2
    have q2:=of_decide_eq_true h2
    rw [if_neg (by omega)]
    exact decide_eq_true (by omega)
def insK (k:List Int):List (List Int)→List (List Int)
 | []=>[k]
 | x::xs=>if lexLt x k=true then x::insK k xs else k::x::xs
def srt:List (List Int)→List (List Int)
 | []=>[]
 | k::ks=>insK k (srt ks)
theorem insK_perm (k:List Int):∀ xs,(insK k xs).Perm (k::xs)
 | []=>.refl _
 | x::xs=>by
  unfold insK
  split
  ·exact ((insK_perm k xs).cons x).trans (List.Perm.swap _ _ _)
  ·exact .refl _
theorem srt_perm:∀ ks,(srt ks).Perm ks
 | []=>.refl _
 | k::ks=>(insK_perm k (srt ks)).trans ((srt_perm ks).cons k)
abbrev Srtd (ks:List (List Int)):Prop:=ks.Pairwise fun x y=>HT.lexLt y x=false
theorem le_trans' {a b c:List Int} (h1:lexLt b a=false) (h2:lexLt c b=false):lexLt c a=false:=by
 cases h:lexLt c a with
 | false=>rfl
 | true =>
  cases hb:lexLt a b with
  | true=>rw [lexLt_trans h hb] at h2; cases h2
  | false =>
   have:=lexLt_anti hb h1
   subst this
   rw [h] at h2; cases h2
theorem insK_srtd (k:List Int):∀ xs,Srtd xs→Srtd (insK k xs)
 | [],_=>by simp [insK]
 | x::xs,h=>by
  obtain ⟨h1,h2⟩:=List.pairwise_cons.mp h
  unfold insK
  split
  ·rename_i hx
   refine List.pairwise_cons.mpr ⟨fun y hy=>?_,insK_srtd k xs h2⟩
   rcases List.mem_cons.mp ((insK_perm k xs).mem_iff.mp hy) with rfl | hy
   ·exact lexLt_asym hx
   ·exact h1 y hy
  ·rename_i hx
   have hx':lexLt x k=false:=by cases q:lexLt x k <;> simp_all
   refine List.pairwise_cons.mpr ⟨fun y hy=>?_,h⟩
   rcases List.mem_cons.mp hy with rfl | hy
   ·exact hx'
   ·exact le_trans' hx' (h1 y hy)
theorem srt_srtd:∀ ks,Srtd (srt ks)
 | []=>.nil
 | k::ks=>insK_srtd k _ (srt_srtd ks)
theorem srtd_unique:∀ {a b:List (List Int)},a.Perm b→Srtd a→Srtd b→a=b
 | [],b,p,_,_=>by rw [List.nil_perm.mp p]
 | x::a,[],p,_,_=>by have:=p.length_eq; simp at this
 | x::a,y::b,p,ha,hb=>by
  obtain ⟨a1,a2⟩:=List.pairwise_cons.mp ha
  obtain ⟨b1,b2⟩:=List.pairwise_cons.mp hb
  have hxy:x=y:=by
   rcases List.mem_cons.mp (p.mem_iff.mp (List.mem_cons_self (a:=x) (l:=a))) with h | h
   ·exact h
   ·rcases List.mem_cons.mp (p.mem_iff.mpr (List.mem_cons_self (a:=y) (l:=b))) with h' | h'
    ·exact h'.symm
    ·exact lexLt_anti (b1 x h) (a1 y h')
  subst hxy
  rw [srtd_unique (List.perm_cons x |>.mp p) a2 b2]
theorem srt_eq {a b:List (List Int)} (p:a.Perm b) (h:Srtd a):a=srt b:=srtd_unique (p.trans (srt_perm b).symm) h (srt_srtd b)
abbrev kD (k:List Int):D:=.tup (k.map D.int)
def keysD:List D→Option (List (List Int))
 | []=>some []
 | .tup a::ds=>match intsD a,keysD ds with
  | some k,some ks=>if k=[] then none else some (k::ks)
  | _,_=>none
 | _::_=>none
theorem keysD_eq:∀ {ds:List D} {ks:List (List Int)},keysD ds=some ks→ds=ks.map kD∧∀ k ∈ ks,k≠[]
 | [],_,h=>by cases h; exact ⟨rfl,fun _ z=>nomatch z⟩
 | .tup a::ds,ks,h=>by
  have h':(match intsD a,keysD ds with | some k,some ks=>if k=[] then none else some (k::ks) | _,_=>none)=some ks:=h
  cases ea:intsD a with
  | none=>rw [ea] at h'; cases h'
  | some k =>
   cases eb:keysD ds with
   | none=>rw [ea,eb] at h'; cases h'
   | some kr =>
    rw [ea,eb] at h'
    by_cases hk:k=[]
    ·simp [hk] at h'
    ·simp only [hk,if_false,Option.some.injEq] at h'
     subst h'
     obtain ⟨h1,h2⟩:=keysD_eq eb
     rw [List.map_cons,← h1,intsD_eq ea]
     refine ⟨rfl,fun x hx=>?_⟩
     rcases List.mem_cons.mp hx with rfl | hx
     ·exact hk
     ·exact h2 x hx
 | .non::_,_,h=>by cases h
 | .bl _::_,_,h=>by cases h
 | .str _::_,_,h=>by cases h
 | .obj _::_,_,h=>by cases h
 | .int _::_,_,h=>by cases h
 | .lst _::_,_,h=>by cases h
 | .dT _ _::_,_,h=>by cases h
 | .dK _ _::_,_,h=>by cases h
 | .sT _::_,_,h=>by cases h
theorem keysD_map:∀ {ks:List (List Int)},(∀ k ∈ ks,k≠[])→keysD (ks.map kD)=some ks
 | [],_=>rfl
 | k::ks,h=>by
  show (match intsD (k.map D.int),keysD (ks.map kD) with | some k,some ks=>if k=[] then none else some (k::ks) | _,_=>none)=_
  rw [intsD_map,keysD_map fun x hx=>h x (List.mem_cons_of_mem _ hx)]
  simp [h k (List.mem_cons_self ..)]
section
variable {X:Cx} {P:Program} {w:World} {W:Addr→Prop} {H:Hp}
theorem keys_reps:∀ {ks:List (List Int)} {vs:List V},(∀ k ∈ ks,k≠[])→RepDs P w W H (ks.map kD) vs→∃ ts:List (Addr × List Int),vs=ts.map tRef∧TsOk H ts∧ts.map (·.2)=ks
 | [],_,_,h=>⟨[],h,(fun _ z=>nomatch z),rfl⟩
 | k::ks,_,hk,⟨v,r,e,⟨a,us,e1,e2,e3⟩,h2⟩=>by
  obtain ⟨ts,q1,q2,q3⟩:=keys_reps (fun x hx=>hk x (List.mem_cons_of_mem _ hx)) h2
  refine ⟨(a,k)::ts,by rw [e,e1,q1]; rfl,fun t ht=>?_,by rw [List.map_cons,q3]⟩
  rcases List.mem_cons.mp ht with rfl | ht
  ·rw [reps_ints e3] at e2
   exact ⟨e2,hk k (List.mem_cons_self ..)⟩
  ·exact q2 t ht
theorem reps_keys:∀ {ts:List (Addr × List Int)},(∀ t ∈ ts,H t.1=some (.tup (t.2.map V.int)))→RepDs P w W H ((ts.map (·.2)).map kD) (ts.map tRef)
 | [],_=>rfl
 | t::ts,h=>⟨_,_,rfl,⟨t.1,_,rfl,h t (List.mem_cons_self ..),ints_reps t.2⟩,reps_keys fun x hx=>h x (List.mem_cons_of_mem _ hx)⟩
def dSortT:List D→Option D
 | [.lst ds]=>match keysD ds with
  | some ks=>if ks.length≤1000000 then some (.lst ((srt ks).map kD)) else none
  | none=>none
 | [.sT ts]=>if ts.length≤1000∧(∀ k ∈ ts,k≠[]) then some (.lst ((srt ts).map kD)) else none
 | _=>none
end
section
variable {X:Cx}
end
end L2
end

noncomputable section
set_option Elab.async false
set_option linter.all false
set_option maxRecDepth 100000
namespace L2
open PySem PySem.Spec PySem.SeqAt PyProof.Rows
def fTake:FD:=fun ds R=>∃ n:Int,ds=[.int n]∧0 < n∧n < 2 ^ 200∧∀ r:Int,0≤r→r < n→R (.int r)
theorem fTake.mono:Mono fTake:=fun ds R R' k ⟨n,e,h1,h2,q⟩=>⟨n,e,h1,h2,fun r a b=>k _ (q r a b)⟩
section
variable {P:Program} {w:World} {K:PySem.W.Frag} {mg:Str→Option Value} {base:Heap}
end
end L2
end

noncomputable section
set_option Elab.async false
set_option linter.all false
set_option maxRecDepth 100000
namespace L2
open PySem PySem.Spec PySem.SeqAt PyProof.Rows
section
variable {X:Cx} {W:Addr→Prop} {H:Hp}
theorem newL {p:Addr} {vs:List V} {ds:List D} (n:H p=none) (f:NL (.lst ds)) (r:Rps X W H ds vs):Rp X (fun a=>H a≠none) (upd H p (.lst vs)) (.lst ds) (.ref p) :=
 ⟨p,vs,rfl,upd_same,fun z=>z n,RepDs.flat f (r.same (Same.new n))⟩
def rD2N (X:Cx) (f:D→D→Option D):R2:=fun x y H Q=>∃ W d1 d2 d,Dm W H∧Rp X W H d1 x∧Rp X W H d2 y∧f d1 d2=some d∧∀ v H',Same H H'→Rp X W H' d v→(NL d→Rp X (fun a=>H a≠none) H' d v)→Q v H'
def rDsN (X:Cx) (f:List D→Option D):List V→Hp→VK→Prop:=fun xs H Q=>∃ W ds d,Dm W H∧Rps X W H ds xs∧f ds=some d∧∀ v H',Same H H'→Rp X W H' d v→(NL d→Rp X (fun a=>H a≠none) H' d v)→Q v H'
abbrev OpDN (X:Cx) (f:Value→Value→Sem Value) (g:D→D→Option D):Prop:=OpR X f (rD2N X g)
abbrev CallDN (X:Cx) (f:Value) (g:List D→Option D):Prop:=CallR X f (rDsN X g)
theorem op_dAddN:OpDN X (binaryOp .Add) dAdd:=by
 intro pins s σ H x y v u Q I rx ry h
 obtain ⟨W,d1,d2,d,hd,r1,r2,e,q⟩:=h
 rcases lst2_some e with ⟨a,b,rfl,rfl,e⟩ | e
 ·obtain ⟨hl,rfl⟩:=ifSome e
  obtain ⟨p,vs,rfl,h1,n1,q1⟩:=r1
  obtain ⟨p',vs',rfl,h2,n2,q2⟩:=r2
  exact op_cat pins s σ H _ _ v u Q I rx ry ⟨p,p',vs,vs',rfl,rfl,h1,h2,by rw [q1.length,q2.length]; exact hl,fun l hl'=>q _ _ (Same.new hl') (Rp.lstNew hd hl' (q1.append q2)) fun f=>newL hl' f (q1.append q2)⟩
 ·obtain ⟨i,j,rfl,rfl,e⟩:=int2_some e
  cases e
  cases r1; cases r2
  exact op_add pins s σ H _ _ v u Q I rx ry ⟨i,j,rfl,rfl,q _ _ (Same.refl _) rfl fun _=>rfl⟩
theorem call_dListN:CallDN X (.type "list") dList:=by
 intro pins s σ H xs us Q I r h
 obtain ⟨W,ds,d,hd,r1,e,q⟩:=h
 match ds,e with
 | [.lst es],e =>
  cases e
  obtain ⟨v,r',rfl,⟨p,vs,rfl,h1,n1,q1⟩,hr⟩:=r1
  cases hr
  exact call_list_of pins s σ H _ us Q I r ⟨p,vs,rfl,.inl (SqL.of h1),fun l hl=>q _ _ (Same.new hl) (Rp.lstNew hd hl q1) fun f=>newL hl f q1⟩
 | [.tup es],e =>
  cases e
  obtain ⟨v,r',rfl,⟨p,vs,rfl,h1,q1⟩,hr⟩:=r1
  cases hr
  exact call_list_of pins s σ H _ us Q I r ⟨p,vs,rfl,.inr (SqT.of h1),fun l hl=>q _ _ (Same.new hl) (Rp.lstNew hd hl q1) fun f=>newL hl f q1⟩
theorem call_dSortLN:CallDN X (.builtin "sorted") (fun ds=>match ds with | [.lst ds]=>dSortT [.lst ds] | _=>none):=by
 intro pins s σ H xs us Q I r h
 obtain ⟨W,ds,d,hd,r1,e,q⟩:=h
 match ds,e with
 | [.lst es],e =>
  have e':(match keysD es with | some ks=>if ks.length≤1000000 then some (D.lst ((srt ks).map kD)) else none | none=>none)=some d:=e
  cases ek:keysD es with
  | none=>rw [ek] at e'; cases e'
  | some ks =>
   rw [ek] at e'
   obtain ⟨hl,rfl⟩:=ifSome e'
   obtain ⟨rfl,hk⟩:=keysD_eq ek
   obtain ⟨x,rfl,p,vs,rfl,hp,n1,q1⟩:=args1 r1
   obtain ⟨ts,rfl,T,rfl⟩:=keys_reps hk q1
   refine call_sortedT pins s σ H _ us Q I r ⟨p,ts,rfl,SqL.of hp,T,by simpa using hl,fun l ts' hl' hpm hpw=>?_⟩
   have eq:ts'.map (·.2)=srt (ts.map (·.2)):=srt_eq (hpm.map _) (List.pairwise_map.mpr hpw)
   rw [← eq] at q
   have rk:=reps_keys (P:=X.prog) (w:=X.w) (W:=W) (H:=H) (ts:=ts') fun t ht=>(T t (hpm.mem_iff.mp ht)).1
   exact q _ _ (Same.new hl') (Rp.lstNew hd hl' rk) fun f=>newL hl' f rk
end
section
variable {X:Cx} {a b e:Expr} {es:List Expr} {φ φa φb:Phi} {φs:PhiS} {pos:Pos}
variable {x:Str} {p:Pos} {id T:String} {g:List D→Option D}
variable {k:Nat} {f:Addr} {fd:FuncData} {ps:List Str} {F:FD}
end
end L2
end

noncomputable section
set_option Elab.async false
set_option linter.all false
set_option maxRecDepth 100000
namespace L2.Q
open PySem PySem.Spec PySem.SeqAt PyProof.Rows
section
variable (P:Program) (w:World) (H:Hp)
mutual
def Own:D→V→List Addr→Prop
 | .tup ds,v,A=>∃ a vs,v=.ref a∧H a=some (.tup vs)∧Owns ds vs A
 | .lst ds,v,A=>∃ a vs A',v=.ref a∧H a=some (.lst vs)∧A=a::A'∧Owns ds vs A'
 | .dT ks ds,v,A=>∃ a vs A',v=.ref a∧H a=some (.dT (ks.zip vs))∧ks.length=vs.length∧A=a::A'∧Owns ds vs A'
 | .dK ks ds,v,A=>∃ a vs A',v=.ref a∧H a=some (.dK (ks.zip vs))∧ks.length=vs.length∧A=a::A'∧Owns ds vs A'
 | .sT ts,v,A=>∃ a,v=.ref a∧SetR P w H a ts∧A=[a]
 | .non,v,A=>v=.non∧A=[]
 | .bl b,v,A=>v=.bl b∧A=[]
 | .int i,v,A=>v=.int i∧A=[]
 | .str x,v,A=>v=.str x∧A=[]
 | .obj a,v,A=>v=.ref a∧A=[]
def Owns:List D→List V→List Addr→Prop
 | [],vs,A=>vs=[]∧A=[]
 | d::ds,vs,A=>∃ v r A1 A2,vs=v::r∧A=A1++A2∧Own d v A1∧Owns ds r A2
end
end
section
variable {P:Program} {w:World} {W:Addr→Prop} {H H':Hp}
theorem setR_keep {a:Addr} {ts:List (List Int)} (k:∀ b xs,H b=some (.tup xs)→H' b=some (.tup xs)) (ha:∀ o,H a=some o→H' a=some o) (h:SetR P w H a ts):SetR P w H' a ts :=
 let ⟨ts',e,r,z⟩:=h; ⟨ts',ha _ e,fun x hx=>k _ _ (r x hx),z⟩
mutual
theorem Own.keep (k:∀ b xs,H b=some (.tup xs)→H' b=some (.tup xs)):∀ {d:D} {v:V} {A:List Addr},(∀ c ∈ A,∀ o,H c=some o→H' c=some o)→Own P w H d v A→Own P w H' d v A
 | .tup ds,_,_,ha,⟨a,vs,e,t,r⟩=>⟨a,vs,e,k a vs t,Owns.keep k ha r⟩
 | .lst ds,_,_,ha,⟨a,vs,A',e,t,eA,r⟩=>⟨a,vs,A',e,ha a (by rw [eA]; simp) _ t,eA,Owns.keep k (fun c hc=>ha c (by rw [eA]; simp [hc])) r⟩
 | .dT ks ds,_,_,ha,⟨a,vs,A',e,t,l,eA,r⟩=>⟨a,vs,A',e,ha a (by rw [eA]; simp) _ t,l,eA,Owns.keep k (fun c hc=>ha c (by rw [eA]; simp [hc])) r⟩
 | .dK ks ds,_,_,ha,⟨a,vs,A',e,t,l,eA,r⟩=>⟨a,vs,A',e,ha a (by rw [eA]; simp) _ t,l,eA,Owns.keep k (fun c hc=>ha c (by rw [eA]; simp [hc])) r⟩
 | .sT ts,_,_,ha,⟨a,e,r,eA⟩=>⟨a,e,setR_keep k (fun o ho=>ha a (by rw [eA]; simp) o ho) r,eA⟩
 | .non,_,_,_,h=>h
 | .bl _,_,_,_,h=>h
 | .int _,_,_,_,h=>h
 | .str _,_,_,_,h=>h
 | .obj _,_,_,_,h=>h
theorem Owns.keep (k:∀ b xs,H b=some (.tup xs)→H' b=some (.tup xs)):∀ {ds:List D} {vs:List V} {A:List Addr},(∀ c ∈ A,∀ o,H c=some o→H' c=some o)→Owns P w H ds vs A→Owns P w H' ds vs A
 | [],_,_,_,h=>h
 | d::ds,_,_,ha,⟨v,r,A1,A2,e,eA,h1,h2⟩=>⟨v,r,A1,A2,e,eA,Own.keep k (fun c hc=>ha c (by rw [eA]; simp [hc])) h1,Owns.keep k (fun c hc=>ha c (by rw [eA]; simp [hc])) h2⟩
end
mutual
theorem Own.rep:∀ {d:D} {v:V} {A:List Addr},(∀ c ∈ A,¬ W c)→Own P w H d v A→RepD P w W H d v
 | .tup ds,_,_,ha,⟨a,vs,e,t,r⟩=>⟨a,vs,e,t,Owns.rep ha r⟩
 | .lst ds,_,_,ha,⟨a,vs,A',e,t,eA,r⟩=>⟨a,vs,e,t,ha a (by rw [eA]; simp),Owns.rep (fun c hc=>ha c (by rw [eA]; simp [hc])) r⟩
 | .dT ks ds,_,_,ha,⟨a,vs,A',e,t,l,eA,r⟩=>⟨a,vs,e,t,l,ha a (by rw [eA]; simp),Owns.rep (fun c hc=>ha c (by rw [eA]; simp [hc])) r⟩
 | .dK ks ds,_,_,ha,⟨a,vs,A',e,t,l,eA,r⟩=>⟨a,vs,e,t,l,ha a (by rw [eA]; simp),Owns.rep (fun c hc=>ha c (by rw [eA]; simp [hc])) r⟩
 | .sT ts,_,_,ha,⟨a,e,r,eA⟩=>⟨a,e,r,ha a (by rw [eA]; simp)⟩
 | .non,_,_,_,h=>h.1
 | .bl _,_,_,_,h=>h.1
 | .int _,_,_,_,h=>h.1
 | .str _,_,_,_,h=>h.1
 | .obj _,_,_,_,h=>h.1
theorem Owns.rep:∀ {ds:List D} {vs:List V} {A:List Addr},(∀ c ∈ A,¬ W c)→Owns P w H ds vs A→RepDs P w W H ds vs
 | [],_,_,_,h=>h.1
 | d::ds,_,_,ha,⟨v,r,A1,A2,e,eA,h1,h2⟩=>⟨v,r,e,Own.rep (fun c hc=>ha c (by rw [eA]; simp [hc])) h1,Owns.rep (fun c hc=>ha c (by rw [eA]; simp [hc])) h2⟩
end
mutual
theorem Own.dom:∀ {d:D} {v:V} {A:List Addr},Own P w H d v A→∀ c ∈ A,H c≠none∧∀ xs,H c≠some (.tup xs)
 | .tup ds,_,_,⟨a,vs,e,t,r⟩,c,hc=>Owns.dom r c hc
 | .lst ds,_,_,⟨a,vs,A',e,t,eA,r⟩,c,hc=>by
  rw [eA] at hc
  rcases List.mem_cons.mp hc with rfl | hc
  ·rw [t]; exact ⟨fun z=>(nomatch z),fun xs z=>by cases z⟩
  ·exact Owns.dom r c hc
 | .dT ks ds,_,_,⟨a,vs,A',e,t,l,eA,r⟩,c,hc=>by
  rw [eA] at hc
  rcases List.mem_cons.mp hc with rfl | hc
  ·rw [t]; exact ⟨fun z=>(nomatch z),fun xs z=>by cases z⟩
  ·exact Owns.dom r c hc
 | .dK ks ds,_,_,⟨a,vs,A',e,t,l,eA,r⟩,c,hc=>by
  rw [eA] at hc
  rcases List.mem_cons.mp hc with rfl | hc
  ·rw [t]; exact ⟨fun z=>(nomatch z),fun xs z=>by cases z⟩
  ·exact Owns.dom r c hc
 | .sT ts,_,_,⟨a,e,⟨ts',t,r,z⟩,eA⟩,c,hc=>by
  rw [eA] at hc
  rw [List.mem_singleton.mp hc,t]
  exact ⟨fun z=>(nomatch z),fun xs z=>by cases z⟩
 | .non,_,_,h,c,hc=>by rw [h.2] at hc; cases hc
 | .bl _,_,_,h,c,hc=>by rw [h.2] at hc; cases hc
 | .int _,_,_,h,c,hc=>by rw [h.2] at hc; cases hc
 | .str _,_,_,h,c,hc=>by rw [h.2] at hc; cases hc
 | .obj _,_,_,h,c,hc=>by rw [h.2] at hc; cases hc
theorem Owns.dom:∀ {ds:List D} {vs:List V} {A:List Addr},Owns P w H ds vs A→∀ c ∈ A,H c≠none∧∀ xs,H c≠some (.tup xs)
 | [],_,_,h,c,hc=>by rw [h.2] at hc; cases hc
 | d::ds,_,_,⟨v,r,A1,A2,e,eA,h1,h2⟩,c,hc=>by
  rw [eA] at hc
  rcases List.mem_append.mp hc with hc | hc
  ·exact Own.dom h1 c hc
  ·exact Owns.dom h2 c hc
end
mutual
theorem own_flat:∀ {d:D} {v:V},d.flat=true→RepD P w W H d v→Own P w H d v []
 | .tup ds,_,f,⟨a,vs,e,t,r⟩=>⟨a,vs,e,t,owns_flat (by simpa [D.flat] using f) r⟩
 | .lst ds,_,f,_=>by simp [D.flat] at f
 | .dT ks ds,_,f,_=>by simp [D.flat] at f
 | .dK ks ds,_,f,_=>by simp [D.flat] at f
 | .sT ts,_,f,_=>by simp [D.flat] at f
 | .non,_,_,h=>⟨h,rfl⟩
 | .bl _,_,_,h=>⟨h,rfl⟩
 | .int _,_,_,h=>⟨h,rfl⟩
 | .str _,_,_,h=>⟨h,rfl⟩
 | .obj _,_,_,h=>⟨h,rfl⟩
theorem owns_flat:∀ {ds:List D} {vs:List V},D.flats ds=true→RepDs P w W H ds vs→Owns P w H ds vs []
 | [],_,_,h=>⟨h,rfl⟩
 | d::ds,_,f,⟨v,r,e,h1,h2⟩=>by
  have f':(d.flat && D.flats ds)=true:=f
  rw [Bool.and_eq_true] at f'
  exact ⟨v,r,[],[],e,rfl,own_flat f'.1 h1,owns_flat f'.2 h2⟩
end
theorem Owns.length:∀ {ds:List D} {vs:List V} {A:List Addr},Owns P w H ds vs A→vs.length=ds.length
 | [],_,_,h=>by rw [h.1]; rfl
 | d::ds,_,_,⟨v,r,A1,A2,e,eA,h1,h2⟩=>by rw [e,List.length_cons,List.length_cons,Owns.length h2]
theorem Owns.append:∀ {ds ds':List D} {vs vs':List V} {A A':List Addr},Owns P w H ds vs A→Owns P w H ds' vs' A'→Owns P w H (ds++ds') (vs++vs') (A++A')
 | [],_,_,_,_,_,h,h'=>by rw [h.1,h.2]; exact h'
 | d::ds,_,_,_,_,_,⟨v,r,A1,A2,e,eA,h1,h2⟩,h'=>by
  subst e eA
  exact ⟨v,_,A1,_,rfl,by rw [List.append_assoc],h1,Owns.append h2 h'⟩
theorem Owns.one {d:D} {v:V} {A:List Addr} (h:Own P w H d v A):Owns P w H [d] [v] A:=⟨v,[],A,[],rfl,by simp,h,rfl,rfl⟩
theorem Owns.split:∀ {ds:List D} {vs:List V} {A:List Addr} {i:Nat} {d:D},Owns P w H ds vs A→ds[i]?=some d→∃ v A1 A2 A3,vs[i]?=some v∧A=A1++(A2++A3)∧Owns P w H (ds.take i) (vs.take i) A1∧Own P w H d v A2∧Owns P w H (ds.drop (i+1)) (vs.drop (i+1)) A3
 | [],_,_,_,_,_,e=>by simp at e
 | d::ds,_,_,0,_,⟨v,r,A1,A2,e,eA,h1,h2⟩,e'=>by
  simp at e'; subst e' e eA
  exact ⟨v,[],A1,A2,by simp,by simp,⟨rfl,rfl⟩,h1,by simpa using h2⟩
 | d::ds,_,_,i+1,_,⟨v,r,A1,A2,e,eA,h1,h2⟩,e'=>by
  subst e eA
  obtain ⟨u,B1,B2,B3,g1,g2,g3,g4,g5⟩:=Owns.split (i:=i) h2 (by simpa using e')
  exact ⟨u,A1++B1,B2,B3,by simpa using g1,by rw [g2]; simp [List.append_assoc],by simpa using ⟨v,_,A1,B1,rfl,rfl,h1,g3⟩,g4,by simpa using g5⟩
end
inductive Kd where
 | own | yng | old | bor
inductive B where
 | val (y:Bool) (d:D) | own (d:D) | hand (ok:List Int→Prop) | shl (y:Bool) (d:D)
abbrev Bet:=List (Option B)
structure Cfg where
 H0:Hp
 IO:Addr→Prop
 /-- is the result to be one's own -/
 ro:Bool
 /-- what else names' data keeps off -/
 U:Addr→Prop:=fun _=>False
abbrev Wn (own:Nat→List Addr):Addr→Prop:=fun a=>∃ i,a ∈ own i
def av (C:Cfg) (W:Addr→Prop):Kd→Addr→Prop
 | .own,a=>W a∨C.H0 a≠none
 | .yng,a=>W a∨C.H0 a≠none
 | .old,a=>W a
 | .bor,_=>False
def av' (C:Cfg) (W:Addr→Prop) (k:Kd) (a:Addr):Prop:=av C W k a∨C.U a
abbrev yk (y:Bool):Kd:=match y with | true=>.yng | false=>.old
def shO:D→HO→List V→Prop
 | .lst _,o,vs=>o=.lst vs
 | .dT ks _,o,vs=>o=.dT (ks.zip vs)∧ks.length=vs.length
 | .dK ks _,o,vs=>o=.dK (ks.zip vs)∧ks.length=vs.length
 | _,_,_=>False
def shD:D→List D
 | .lst ds=>ds
 | .dT _ ds=>ds
 | .dK _ ds=>ds
 | _=>[]
def Shl (P:Program) (w:World) (W:Addr→Prop) (H:Hp) (d:D) (v:V) (A:List Addr):Prop:=∃ a o vs,v=.ref a∧A=[a]∧H a=some o∧shO d o vs∧RepDs P w W H (shD d) vs
theorem Shl.map {P:Program} {w:World} {W W':Addr→Prop} {H H':Hp} {d:D} {v:V} {A:List Addr} (h:Shl P w W H d v A) (ha:∀ c ∈ A,∀ o,H c=some o→H' c=some o) (hr:∀ ds vs,RepDs P w W H ds vs→RepDs P w W' H' ds vs):Shl P w W' H' d v A :=
 let ⟨a,o,vs,e1,e2,e3,e4,r⟩:=h; ⟨a,o,vs,e1,e2,ha a (by rw [e2]; simp) o e3,e4,hr _ _ r⟩
theorem Shl.rep {P:Program} {w:World} {W W':Addr→Prop} {H:Hp} {d:D} {v:V} {A:List Addr} (h:Shl P w W H d v A) (ha:∀ c ∈ A,¬ W' c) (hs:∀ ds vs,RepDs P w W H ds vs→RepDs P w W' H ds vs):RepD P w W' H d v:=by
 obtain ⟨a,o,vs,rfl,rfl,e,sh,r⟩:=h
 have na:=ha a (by simp)
 replace r:=hs _ _ r
 cases d with
 | lst ds=>cases sh; exact ⟨a,vs,rfl,e,na,r⟩
 | dT ks ds=>obtain ⟨rfl,l⟩:=sh; exact ⟨a,vs,rfl,e,l,na,r⟩
 | dK ks ds=>obtain ⟨rfl,l⟩:=sh; exact ⟨a,vs,rfl,e,l,na,r⟩
 | _=>exact sh.elim
structure SQ' (P:Program) (w:World) (C:Cfg) (σ:St) (H:Hp) (β:Bet) (own:Nat→List Addr):Prop where
 len:β.length=σ.length
 val:∀ (i:Nat) (y:Bool) (d:D),β[i]?=some (some (.val y d))→∃ v,σ[i]?=some (some v)∧RepD P w (av' C (Wn own) (yk y)) H d v
 ow:∀ (i:Nat) (d:D),β[i]?=some (some (.own d))→∃ v,σ[i]?=some (some v)∧Own P w H d v (own i)∧∀ c ∈ own i,C.H0 c=none
 hnd:∀ (i:Nat) (ok:List Int→Prop),β[i]?=some (some (.hand ok))→∃ a ns,σ[i]?=some (some (.ref a))∧H a=some (.lst (ns.map V.int))∧ok ns∧own i=[a]∧((∀ b,¬ C.IO b)∨C.IO a)
 dm:∀ (i:Nat) (a:Addr),a ∈ own i→H a≠none∧(∀ xs,H a≠some (.tup xs))∧(C.H0 a=none∨C.IO a)∧¬ C.U a
 dis:∀ (i j:Nat) (a:Addr),a ∈ own i→a ∈ own j→i=j
 nod:∀ i,(own i).Nodup
 kp:Kp C.IO C.H0 H
 dmn:∀ a,C.H0 a≠none→H a≠none
 shl:∀ (i:Nat) (y:Bool) (d:D),β[i]?=some (some (.shl y d))→∃ v,σ[i]?=some (some v)∧Shl P w (av' C (Wn own) (yk y)) H d v (own i)∧∀ c ∈ own i,C.H0 c=none
abbrev SQ (X:Cx):=SQ' X.prog X.w
section
variable {P:Program} {w:World} {C:Cfg} {σ:St} {H H':Hp} {β:Bet} {own:Nat→List Addr} {W W':Addr→Prop}
theorem SQ'.dmW (b:SQ' P w C σ H β own):Dm (Wn own) H:=fun a ⟨i,h⟩=>(b.dm i a h).1
theorem SQ'.dmK (b:SQ' P w C σ H β own) (k:Kd):Dm (av C (Wn own) k) H:=fun a h=>by
 cases k with
 | own=>exact h.elim (b.dmW a) (b.dmn a)
 | yng=>exact h.elim (b.dmW a) (b.dmn a)
 | old=>exact b.dmW a h
 | bor=>exact h.elim
theorem av_mono (s:∀ a,W' a→W a) (k:Kd):∀ a,av C W' k a→av C W k a:=fun a h=>by
 cases k with
 | own=>exact h.imp (s a) id
 | yng=>exact h.imp (s a) id
 | old=>exact s a h
 | bor=>exact h
theorem avp_mono (s:∀ a,W' a→W a) (k:Kd):∀ a,av' C W' k a→av' C W k a:=fun a h=>h.imp (av_mono s k a) id
theorem SQ'.keep (b:SQ' P w C σ H β own) (k:Kp (fun a=>H a=none) H H') (kp:Kp C.IO H H') (dn:∀ a,H a≠none→H' a≠none):SQ' P w C σ H' β own:=by
 have ko:∀ c o,H c=some o→H' c=some o:=fun c o e=>k.out c o e (by rw [e]; exact fun z=>(nomatch z))
 have same:Same H H':=ko
 exact ⟨b.len,fun i y d e=>let ⟨v,h1,h2⟩:=b.val i y d e; ⟨v,h1,h2.same same⟩,fun i d e=>let ⟨v,h1,h2,h3⟩:=b.ow i d e; ⟨v,h1,h2.keep (fun _ _ e=>same _ _ e) (fun c _ o e=>same c o e),h3⟩,
  fun i ok e=>let ⟨a,ns,h1,h2,h3⟩:=b.hnd i ok e; ⟨a,ns,h1,same _ _ h2,h3⟩,fun i a h=>by
   obtain ⟨h1,h2,h3⟩:=b.dm i a h
   cases q:H a with
   | none=>exact absurd q h1
   | some o=>rw [same a o q]; exact ⟨fun z=>(nomatch z),fun xs z=>h2 xs (by rw [q]; exact z),h3⟩,b.dis,b.nod,b.kp.trans kp,fun a z=>dn a (b.dmn a z),fun i y d e=>let ⟨v,h1,h2,h3⟩:=b.shl i y d e; ⟨v,h1,h2.map (fun c _ o e=>same c o e) (fun _ _ r=>r.same same),h3⟩⟩
theorem SQ'.same (b:SQ' P w C σ H β own) (s:Same H H'):SQ' P w C σ H' β own:=b.keep s.kp s.kp fun a z e=>z (s.free e)
theorem wn_set {own:Nat→List Addr} {i:Nat} {a:Addr} (h:Wn (ownSet own i []) a):Wn own a:=let ⟨j,q⟩:=h; ⟨j,(ownSet_sub q).1⟩
theorem os_ne {own:Nat→List Addr} {i j:Nat} {A:List Addr} (h:i≠j):ownSet own i A j=own j:=by unfold ownSet; rw [if_neg (Ne.symm h)]
theorem os_eq {own:Nat→List Addr} {i:Nat} {A:List Addr}:ownSet own i A i=A:=by unfold ownSet; rw [if_pos rfl]
theorem SQ'.setVal {i:Nat} {d:D} {v:V} {y:Bool} (b:SQ' P w C σ H β own) (r:RepD P w (av' C (Wn own) (yk y)) H d v):SQ' P w C (σ.set i (some v)) H (β.set i (some (.val y d))) (ownSet own i []):=by
 have sub:∀ y a,av' C (Wn (ownSet own i [])) (yk y) a→av' C (Wn own) (yk y) a:=fun y=>avp_mono (fun a h=>wn_set h) _
 refine ⟨by simp [b.len],fun j y' d' e=>?_,fun j d' e=>?_,fun j ok e=>?_,fun j a h=>b.dm j a (ownSet_sub h).1,fun j k a h1 h2=>b.dis j k a (ownSet_sub h1).1 (ownSet_sub h2).1,fun j=>?_,b.kp,b.dmn,fun j y' d' e=>?_⟩
 ·by_cases hij:i=j
  ·subst hij
   obtain ⟨e',hl⟩:=set_eq e
   cases e'
   exact ⟨v,get_set (by rw [← b.len]; exact hl),r.anti (sub _)⟩
  ·rw [set_ne hij] at e ⊢
   obtain ⟨u,h1,h2⟩:=b.val j y' d' e
   exact ⟨u,h1,h2.anti (sub _)⟩
 ·by_cases hij:i=j
  ·subst hij
   obtain ⟨e',hl⟩:=set_eq e
   cases e'
  ·rw [set_ne hij] at e ⊢
   rw [os_ne hij]
   exact b.ow j d' e
 ·by_cases hij:i=j
  ·subst hij
   obtain ⟨e',hl⟩:=set_eq e
   cases e'
  ·rw [set_ne hij] at e ⊢
   rw [os_ne hij]
   exact b.hnd j ok e
 ·by_cases hij:i=j
  ·rw [hij,os_eq]; exact List.nodup_nil
  ·rw [os_ne hij]; exact b.nod j
 ·by_cases hij:i=j
  ·subst hij
   obtain ⟨e',hl⟩:=set_eq e
   cases e'
  ·rw [set_ne hij] at e ⊢
   rw [os_ne hij]
   obtain ⟨u,h1,h2,h3⟩:=b.shl j y' d' e
   exact ⟨u,h1,h2.map (fun _ _ _ z=>z) (fun _ _ r=>RepDs.anti (sub _) r),h3⟩
theorem SQ'.setOwn {i:Nat} {d:D} {v:V} {A:List Addr} (b:SQ' P w C σ H β own) (r:Own P w H d v A) (nd:A.Nodup) (nw:∀ c ∈ A,C.H0 c=none∧¬ Wn own c∧C.U c) :
  SQ' P w { C with U:=fun _=>False } (σ.set i (some v)) H (β.set i (some (.own d))) (ownSet own i A):=by
 have sub:∀ y a,av' { C with U:=fun _=>False } (Wn (ownSet own i A)) (yk y) a→av' C (Wn own) (yk y) a:=fun y a h=>by
  have q:∀ a,Wn (ownSet own i A) a→Wn own a∨a ∈ A:=fun a hq2=>by
   obtain ⟨j,q⟩:=hq2
   by_cases hij:i=j
   ·rw [hij,os_eq] at q; exact .inr q
   ·rw [os_ne hij] at q; exact .inl ⟨j,q⟩
  have q':∀ a,Wn (ownSet own i A) a→Wn own a∨C.U a:=fun a z=>(q a z).imp id fun z=>(nw a z).2.2
  rcases h with h | h
  ·cases y with
   | true=>exact h.elim (fun z=>(q' a z).imp .inl id) fun z=>.inl (.inr z)
   | false=>exact q' a h
  ·exact h.elim
 have mem:∀ {j c},c ∈ ownSet own i A j→(i=j∧c ∈ A)∨(i≠j∧c ∈ own j):=fun {j c} h=>by
  by_cases hij:i=j
  ·subst hij; rw [os_eq] at h; exact .inl ⟨rfl,h⟩
  ·rw [os_ne hij] at h; exact .inr ⟨hij,h⟩
 refine ⟨by simp [b.len],fun j y' d' e=>?_,fun j d' e=>?_,fun j ok e=>?_,fun j a h=>?_,fun j k a h1 h2=>?_,fun j=>?_,b.kp,b.dmn,fun j y' d' e=>?_⟩
 ·by_cases hij:i=j
  ·subst hij
   obtain ⟨e',hl⟩:=set_eq e
   cases e'
  ·rw [set_ne hij] at e ⊢
   obtain ⟨u,h1,h2⟩:=b.val j y' d' e
   exact ⟨u,h1,h2.anti (sub _)⟩
 ·by_cases hij:i=j
  ·subst hij
   obtain ⟨e',hl⟩:=set_eq e
   cases e'
   rw [os_eq]
   exact ⟨v,get_set (by rw [← b.len]; exact hl),r,fun c hc=>(nw c hc).1⟩
  ·rw [set_ne hij] at e ⊢
   rw [os_ne hij]
   exact b.ow j d' e
 ·by_cases hij:i=j
  ·subst hij
   obtain ⟨e',hl⟩:=set_eq e
   cases e'
  ·rw [set_ne hij] at e ⊢
   rw [os_ne hij]
   exact b.hnd j ok e
 ·rcases mem h with ⟨_,h⟩ | ⟨_,h⟩
  ·exact ⟨(r.dom a h).1,(r.dom a h).2,.inl (nw a h).1,fun z=>z⟩
  ·exact ⟨(b.dm j a h).1,(b.dm j a h).2.1,(b.dm j a h).2.2.1,fun z=>z⟩
 ·rcases mem h1 with ⟨e1,h1⟩ | ⟨n1,h1⟩
  ·rcases mem h2 with ⟨e2,h2⟩ | ⟨n2,h2⟩
   ·rw [← e1,← e2]
   ·exact absurd ⟨k,h2⟩ (nw a h1).2.1
  ·rcases mem h2 with ⟨e2,h2⟩ | ⟨n2,h2⟩
   ·exact absurd ⟨j,h1⟩ (nw a h2).2.1
   ·exact b.dis j k a h1 h2
 ·by_cases hij:i=j
  ·rw [← hij,os_eq]; exact nd
  ·rw [os_ne hij]; exact b.nod j
 ·by_cases hij:i=j
  ·subst hij
   obtain ⟨e',hl⟩:=set_eq e
   cases e'
  ·rw [set_ne hij] at e ⊢
   rw [os_ne hij]
   obtain ⟨u,h1,h2,h3⟩:=b.shl j y' d' e
   exact ⟨u,h1,h2.map (fun _ _ _ z=>z) (fun _ _ r=>RepDs.anti (sub _) r),h3⟩
theorem SQ'.freeze {i:Nat} {d:D} (b:SQ' P w C σ H β own) (h:β[i]?=some (some (.own d))):SQ' P w C σ H (β.set i (some (.val true d))) (ownSet own i []):=by
 obtain ⟨v,h1,h2,h3⟩:=b.ow i d h
 have e:σ.set i (some v)=σ:=by
  apply List.ext_getElem?
  intro j
  rw [List.getElem?_set]
  by_cases hij:i=j
  ·subst hij
   rw [if_pos rfl,h1]
   have:i < σ.length:=(List.getElem?_eq_some_iff.mp h1).1
   rw [if_pos this]
  ·rw [if_neg hij]
 have q:=SQ'.setVal (i:=i) (d:=d) (v:=v) (y:=true) (own:=ownSet own i []) (C:=C) (P:=P) (w:=w) (σ:=σ) (H:=H) (β:=β.set i none)
 have b':SQ' P w C σ H (β.set i none) (ownSet own i []):=by
  have sub:∀ y a,av' C (Wn (ownSet own i [])) (yk y) a→av' C (Wn own) (yk y) a:=fun y=>avp_mono (fun a h=>wn_set h) _
  refine ⟨by simp [b.len],fun j y' d' e=>?_,fun j d' e=>?_,fun j ok e=>?_,fun j a h=>b.dm j a (ownSet_sub h).1,fun j k a h1 h2=>b.dis j k a (ownSet_sub h1).1 (ownSet_sub h2).1,fun j=>?_,b.kp,b.dmn,fun j y' d' e=>?_⟩
  ·by_cases hij:i=j
   ·subst hij
    obtain ⟨e',hl⟩:=set_eq e
    cases e'
   ·rw [set_ne hij] at e
    obtain ⟨u,h1,h2⟩:=b.val j y' d' e
    exact ⟨u,h1,h2.anti (sub _)⟩
  ·by_cases hij:i=j
   ·subst hij
    obtain ⟨e',hl⟩:=set_eq e
    cases e'
   ·rw [set_ne hij] at e
    rw [os_ne hij]
    exact b.ow j d' e
  ·by_cases hij:i=j
   ·subst hij
    obtain ⟨e',hl⟩:=set_eq e
    cases e'
   ·rw [set_ne hij] at e
    rw [os_ne hij]
    exact b.hnd j ok e
  ·by_cases hij:i=j
   ·rw [hij,os_eq]; exact List.nodup_nil
   ·rw [os_ne hij]; exact b.nod j
  ·by_cases hij:i=j
   ·subst hij
    obtain ⟨e',hl⟩:=set_eq e
    cases e'
   ·rw [set_ne hij] at e
    rw [os_ne hij]
    obtain ⟨u,h1,h2,h3⟩:=b.shl j y' d' e
    exact ⟨u,h1,h2.map (fun _ _ _ z=>z) (fun _ _ r=>RepDs.anti (sub _) r),h3⟩
 have q:=SQ'.setVal (i:=i) (d:=d) (v:=v) (y:=true) b' (h2.rep fun c hc z=>by
  rcases z with (z | z) | z
  ·obtain ⟨j,hj⟩:=z
   obtain ⟨hj,ne⟩:=ownSet_sub hj
   exact ne (b.dis j i c hj hc)
  ·exact z (h3 c hc)
  ·exact (b.dm i c hc).2.2.2 z)
 rw [e,List.set_set] at q
 have eo:ownSet (ownSet own i []) i []=ownSet own i []:=by
  funext j
  by_cases hij:i=j
  ·rw [← hij,os_eq,os_eq]
  ·rw [os_ne hij,os_ne hij]
 rwa [eo] at q
abbrev Cfg.u (C:Cfg) (U:Addr→Prop):Cfg:={ C with U:=U }
theorem SQ'.withU {U:Addr→Prop} (b:SQ' P w C σ H β own) (hU:∀ a,U a→H a=none):SQ' P w (C.u U) σ H β own :=
 ⟨b.len,fun i y d e=>let ⟨v,h1,h2⟩:=b.val i y d e; ⟨v,h1,RepD.grow (fun a z=>z.elim (fun z=>.inl (.inl z)) fun z=>.inr (hU a z)) h2⟩,b.ow,b.hnd,fun i a h=>let ⟨h1,h2,h3,_⟩:=b.dm i a h; ⟨h1,h2,h3,fun z=>h1 (hU a z)⟩,b.dis,b.nod,b.kp,b.dmn,fun i y d e=>let ⟨v,h1,h2,h3⟩:=b.shl i y d e; ⟨v,h1,h2.map (fun _ _ _ z=>z) (fun _ _ r=>RepDs.grow (fun a z=>z.elim (fun z=>.inl (.inl z)) fun z=>.inr (hU a z)) r),h3⟩⟩
theorem SQ'.noU {U:Addr→Prop} (b:SQ' P w (C.u U) σ H β own):SQ' P w (C.u fun _=>False) σ H β own :=
 ⟨b.len,fun i y d e=>let ⟨v,h1,h2⟩:=b.val i y d e; ⟨v,h1,RepD.anti (fun a z=>z.elim .inl fun z=>z.elim) h2⟩,b.ow,b.hnd,fun i a h=>let ⟨h1,h2,h3,_⟩:=b.dm i a h; ⟨h1,h2,h3,fun z=>z⟩,b.dis,b.nod,b.kp,b.dmn,fun i y d e=>let ⟨v,h1,h2,h3⟩:=b.shl i y d e; ⟨v,h1,h2.map (fun _ _ _ z=>z) (fun _ _ r=>RepDs.anti (fun a z=>z.elim .inl fun z=>z.elim) r),h3⟩⟩
theorem SQ'.valA {i:Nat} {y:Bool} {d:D} (b:SQ' P w C σ H β own) (e:β[i]?=some (some (.val y d))):∃ v,σ[i]?=some (some v)∧RepD P w (av C (Wn own) (yk y)) H d v:=let ⟨v,h1,h2⟩:=b.val i y d e; ⟨v,h1,RepD.anti (fun a z=>.inl z) h2⟩
end
end L2.Q
end

noncomputable section
set_option Elab.async false
set_option linter.all false
set_option maxRecDepth 100000
namespace L2.Q
open PySem PySem.Spec PySem.SeqAt PyProof.Rows
def KV (P:Program) (w:World) (C:Cfg) (Z:Hp × (Addr→Prop)) (own:Nat→List Addr) (H:Hp):Kd→D→V→Prop
 | .own,d,v=>∃ A,Own P w H d v A∧A.Nodup∧∀ c ∈ A,Z.1 c=none∧¬ Wn own c∧C.H0 c=none
 | .yng,d,v=>RepD P w (av C (Wn own) .yng) H d v
 | .old,d,v=>RepD P w (av C (Wn own) .old) H d v
 | .bor,d,v=>RepD P w (av C (Wn own) .bor) H d v
structure Out' (P:Program) (w:World) (C:Cfg) (σ:St) (H:Hp) (own:Nat→List Addr) (p:Bool) (β':Bet) (H':Hp) (own':Nat→List Addr):Prop where
 sq:SQ' P w C σ H' β' own'
 sn:Sn (H,Wn own) H' (Wn own')
 pu:p=true→Same H H'∧own'=own
 le:∀ a,Wn own' a→Wn own a
abbrev Out (X:Cx):=Out' X.prog X.w
section
variable {X:Cx} {C:Cfg} {σ:St} {H H1 H2 H':Hp} {own own1 own2 own':Nat→List Addr} {p p':Bool} {β β1 β2 β':Bet} {Z:Hp × (Addr→Prop)} {d:D} {v:V} {k:Kd} {P:Program} {w:World}
theorem Out.refl (s:SQ X C σ H β own) (p:Bool):Out X C σ H own p β H own:=⟨s,Sn.refl,fun _=>⟨Same.refl _,rfl⟩,fun _ z=>z⟩
theorem Out.trans (a:Out X C σ H own p β1 H1 own1) (b:Out X C σ H1 own1 p' β2 H2 own2):Out X C σ H own (p && p') β2 H2 own2:=⟨b.sq,a.sn.trans b.sn,fun h=>by
 rw [Bool.and_eq_true] at h
 obtain ⟨s1,e1⟩:=a.pu h.1
 obtain ⟨s2,e2⟩:=b.pu h.2
 exact ⟨s1.trans s2,e2.trans e1⟩,fun c z=>a.le c (b.le c z)⟩
theorem Out.same (a:Out X C σ H own p β1 H1 own1) (s:Same H1 H2):Out X C σ H own p β1 H2 own1:=⟨a.sq.same s,a.sn.same s,fun h=>let ⟨s1,e1⟩:=a.pu h; ⟨s1.trans s,e1⟩,a.le⟩
theorem Out.wk (a:Out X C σ H own p β1 H1 own1) (h:p'=true→p=true):Out X C σ H own p' β1 H1 own1:=⟨a.sq,a.sn,fun z=>a.pu (h z),a.le⟩
theorem Out.tr2 {q:Bool} (a:Out X C σ H own p β1 H1 own1) (b:Out X C σ H1 own1 p' β2 H2 own2) (h:q=true→p=true∧p'=true):Out X C σ H own q β2 H2 own2:=(a.trans b).wk fun z=>by rw [(h z).1,(h z).2]; rfl
theorem KV.rep (h:KV P w C Z own H k d v):RepD P w (av C (Wn own) k) H d v:=by
 cases k with
 | own=>obtain ⟨A,h1,h2,h3⟩:=h; exact h1.rep fun c hc z=>z.elim (h3 c hc).2.1 fun z=>z (h3 c hc).2.2
 | _=>exact h
theorem KV.yng (h:KV P w C Z own H .own d v):KV P w C Z own H .yng d v:=KV.rep (k:=.own) h
theorem KV.flat {W:Addr→Prop} (f:d.flat=true) (h:RepD P w W H d v):KV P w C Z own H .own d v:=⟨[],own_flat f h,List.nodup_nil,fun c hc=>(nomatch hc)⟩
abbrev Kd.wk:Kd→Kd
 | .own=>.yng
 | .yng=>.yng
 | .old=>.old
 | .bor=>.bor
abbrev Kd.max:Kd→Kd→Kd
 | .bor,_=>.bor
 | _,.bor=>.bor
 | .old,_=>.old
 | _,.old=>.old
 | _,_=>.yng
theorem av_maxL {W:Addr→Prop} {a b:Kd}:∀ c,av C W (a.max b) c→av C W a c:=fun c h=>by
 cases a <;> cases b <;> first | exact h | exact h.elim | exact .inl h
theorem av_maxR {W:Addr→Prop} {a b:Kd}:∀ c,av C W (a.max b) c→av C W b c:=fun c h=>by
 cases a <;> cases b <;> first | exact h | exact h.elim | exact .inl h
theorem KV.of (h:RepD P w (av C (Wn own) k.wk) H d v):KV P w C Z own H k.wk d v:=by
 cases k <;> exact h
theorem KV.sameH (h:KV P w C Z own H k d v) (s:Same H H'):KV P w C Z own H' k d v:=by
 cases k with
 | own=>obtain ⟨A,h1,h2⟩:=h; exact ⟨A,h1.keep (fun b xs e=>s _ _ e) (fun c _ o e=>s c o e),h2⟩
 | yng=>exact RepD.same s h
 | old=>exact RepD.same s h
 | bor=>exact RepD.same s h
theorem KV.held (hk:k≠.bor) (h:KV P w C Z own H k d v) (n:Sn (H,Wn own) H2 (Wn own2)):KV P w C Z own2 H2 k d v:=by
 cases k with
 | own =>
  obtain ⟨A,h1,h2,h3⟩:=h
  refine ⟨A,h1.keep n.k.tup (fun c hc o e=>n.k.out c o e fun z=>z.elim (h3 c hc).2.1 fun z=>(h1.dom c hc).1 z),h2,fun c hc=>⟨(h3 c hc).1,fun z=>(n.w c z).elim (h3 c hc).2.1 fun z=>(h1.dom c hc).1 z,(h3 c hc).2.2⟩⟩
 | yng =>
  have g:RepD P w (fun a=>av C (Wn own) .yng a∨H a=none) H d v:=RepD.grow (fun b z=>z) h
  exact RepD.anti (fun b z=>z.elim (fun z=>(n.w b z).imp .inl id) fun z=>.inl (.inr z)) (RepD.keep (n.k.mono fun b z=>z.imp .inl id) g)
 | old=>exact held (W:=Wn own) h n
 | bor=>exact absurd rfl hk
theorem KV.heldP (h:KV P w C Z own H k d v) (s:Same H H2) (e:own2=own):KV P w C Z own2 H2 k d v:=by rw [e]; exact h.sameH s
abbrev hold (k:Kd) (p:Bool):Prop:=match k,p with
 | .bor,false=>False
 | _,_=>True
theorem KV.ho (h:KV P w C Z own H k d v) (o:Out X C σ H own p β' H2 own2) (hh:hold k p):KV P w C Z own2 H2 k d v:=by
 cases p with
 | true=>obtain ⟨s,e⟩:=o.pu rfl; exact h.heldP s e
 | false=>exact h.held (by rintro rfl; exact hh) o.sn
theorem KV.later (h:KV P w C (H1,Wn own1) own H k d v) (n:Sn Z H1 (Wn own1)):KV P w C Z own H k d v:=by
 cases k with
 | own=>obtain ⟨A,h1,h2,h3⟩:=h; exact ⟨A,h1,h2,fun c hc=>⟨n.free (h3 c hc).1,(h3 c hc).2⟩⟩
 | _=>exact h
end
abbrev PhiQ:=Bet→(D→Kd→Bet→Prop)→Prop
abbrev PhiQB:=Bet→(Bool→Bet→Prop)→Prop
abbrev PhiQS:=Bet→(List D→List Kd→Bet→Prop)→Prop
def tQ (X:Cx) (C:Cfg) (p:Bool) (φ:PhiQ):TE:=fun σ H Q=>∃ β own,SQ X C σ H β own∧φ β fun d k β'=>∀ v H' own',Out X C σ H own p β' H' own'→KV X.prog X.w C (H,Wn own) own' H' k d v→Q v H'
def tQB (X:Cx) (C:Cfg) (p:Bool) (φ:PhiQB):TT:=fun σ H Q=>∃ β own,SQ X C σ H β own∧φ β fun b β'=>∀ H' own',Out X C σ H own p β' H' own'→Q b H'
def KF (P:Program) (w:World) (C:Cfg) (own:Nat→List Addr) (H:Hp):List Kd→List D→List V→List Addr→Prop
 | [],ds,vs,A=>ds=[]∧vs=[]∧A=[]
 | k::ks,ds,vs,A=>∃ d dr v vr A1 A2,ds=d::dr∧vs=v::vr∧A=A1++A2∧(match k with | .own=>Own P w H d v A1 | k=>A1=[]∧RepD P w (av C (Wn own) k) H d v)∧KF P w C own H ks dr vr A2
def KVs (P:Program) (w:World) (C:Cfg) (Z:Hp × (Addr→Prop)) (own:Nat→List Addr) (H:Hp) (ks:List Kd) (ds:List D) (vs:List V):Prop :=
 ∃ A,KF P w C own H ks ds vs A∧A.Nodup∧∀ c ∈ A,Z.1 c=none∧¬ Wn own c∧C.H0 c=none
def tQS (X:Cx) (C:Cfg) (p:Bool) (φ:PhiQS):TA:=fun σ H Q=>∃ β own,SQ X C σ H β own∧φ β fun ds ks β'=>∀ vs H' own',Out X C σ H own p β' H' own'→KVs X.prog X.w C (H,Wn own) own' H' ks ds vs→Q vs H'
section
variable {X:Cx} {C:Cfg} {σ:St} {H H1 H2 H':Hp} {own own1 own2 own':Nat→List Addr} {p p':Bool} {β β1 β2 β':Bet} {Z:Hp × (Addr→Prop)} {d:D} {v:V} {k:Kd} {P:Program} {w:World} {ks:List Kd} {ds:List D} {vs:List V}
theorem KVs.nil:KVs P w C Z own H [] [] []:=⟨[],⟨rfl,rfl,rfl⟩,List.nodup_nil,fun c hc=>(nomatch hc)⟩
theorem KF.dom:∀ {ks:List Kd} {ds:List D} {vs:List V} {A:List Addr},KF P w C own H ks ds vs A→∀ c ∈ A,H c≠none
 | [],_,_,_,⟨_,_,e⟩,c,hc=>by rw [e] at hc; cases hc
 | k::ks,_,_,_,⟨d,dr,v,vr,A1,A2,rfl,rfl,rfl,h1,h2⟩,c,hc=>by
  rcases List.mem_append.mp hc with hc | hc
  ·cases k with
   | own=>exact (Own.dom h1 c hc).1
   | _=>rw [h1.1] at hc; cases hc
  ·exact KF.dom h2 c hc
theorem KVs.cons (h1:KV P w C Z own1 H1 k d v) (n:Sn (H1,Wn own1) H (Wn own)) (h1':KV P w C Z own H k d v) (h2:KVs P w C (H1,Wn own1) own H ks ds vs) (n0:Sn Z H1 (Wn own1)):KVs P w C Z own H (k::ks) (d::ds) (v::vs):=by
 obtain ⟨A2,f2,nd2,q2⟩:=h2
 have z2:∀ c ∈ A2,Z.1 c=none∧¬ Wn own c∧C.H0 c=none:=fun c hc=>⟨n0.free (q2 c hc).1,(q2 c hc).2⟩
 cases k with
 | own =>
  obtain ⟨A1,o1,nd1,q1⟩:=h1
  obtain ⟨A1',o1',nd1',q1'⟩:=(show KV P w C Z own H .own d v from KV.held (k:=.own) (fun z=>(nomatch z)) (⟨A1,o1,nd1,q1⟩:KV P w C Z own1 H1 .own d v) n)
  have o1'':Own P w H d v A1:=o1.keep n.k.tup (fun c hc o e=>n.k.out c o e fun z=>z.elim (q1 c hc).2.1 fun z=>(o1.dom c hc).1 z)
  refine ⟨A1++A2,⟨d,ds,v,vs,A1,A2,rfl,rfl,rfl,o1'',f2⟩,List.nodup_append.mpr ⟨nd1,nd2,fun a ha b hb e=>?_⟩,fun c hc=>?_⟩
  ·subst e
   exact (o1.dom a ha).1 (q2 a hb).1
  ·rcases List.mem_append.mp hc with hc | hc
   ·exact ⟨(q1 c hc).1,fun z=>(n.w c z).elim (q1 c hc).2.1 fun z=>(o1.dom c hc).1 z,(q1 c hc).2.2⟩
   ·exact z2 c hc
 | yng=>exact ⟨A2,⟨d,ds,v,vs,[],A2,rfl,rfl,rfl,⟨rfl,h1'⟩,f2⟩,nd2,z2⟩
 | old=>exact ⟨A2,⟨d,ds,v,vs,[],A2,rfl,rfl,rfl,⟨rfl,h1'⟩,f2⟩,nd2,z2⟩
 | bor=>exact ⟨A2,⟨d,ds,v,vs,[],A2,rfl,rfl,rfl,⟨rfl,h1'⟩,f2⟩,nd2,z2⟩
abbrev kAll:List Kd→Kd
 | []=>.yng
 | k::ks=>Kd.max k (kAll ks)
theorem KF.reps:∀ {ks:List Kd} {ds:List D} {vs:List V} {A:List Addr},KF P w C own H ks ds vs A→(∀ c ∈ A,¬ Wn own c∧C.H0 c=none)→RepDs P w (av C (Wn own) (kAll ks)) H ds vs
 | [],_,_,_,⟨e1,e2,e⟩,_=>by rw [e1,e2]; rfl
 | k::ks,_,_,_,⟨d,dr,v,vr,A1,A2,rfl,rfl,rfl,h1,h2⟩,hA=>by
  refine ⟨v,vr,rfl,?_,RepDs.anti av_maxR (KF.reps h2 fun c hc=>hA c (List.mem_append_right _ hc))⟩
  cases k with
  | own=>exact RepD.anti av_maxL (Own.rep (W:=av C (Wn own) .own) (fun c hc z=>z.elim (hA c (List.mem_append_left _ hc)).1 fun z=>z (hA c (List.mem_append_left _ hc)).2) h1)
  | yng=>exact RepD.anti (av_maxL (a:=.yng)) h1.2
  | old=>exact RepD.anti (av_maxL (a:=.old)) h1.2
  | bor=>exact RepD.anti (av_maxL (a:=.bor)) h1.2
theorem KVs.reps (h:KVs P w C Z own H ks ds vs):RepDs P w (av C (Wn own) (kAll ks)) H ds vs:=let ⟨A,h1,_,h3⟩:=h; h1.reps fun c hc=>(h3 c hc).2
theorem KVs.bor (h:KVs P w C Z own H ks ds vs):RepDs P w (fun _=>False) H ds vs:=RepDs.anti (fun _ z=>z.elim) h.reps
def Kflat:List Kd→List D→Prop
 | k::ks,d::ds=>(match k with | .own=>True | _=>d.flat=true)∧Kflat ks ds
 | _,_=>True
theorem KF.owns:∀ {ks:List Kd} {ds:List D} {vs:List V} {A:List Addr},KF P w C own H ks ds vs A→Kflat ks ds→Owns P w H ds vs A
 | [],_,_,_,⟨e1,e2,e⟩,_=>by rw [e1,e2,e]; exact ⟨rfl,rfl⟩
 | k::ks,_,_,_,⟨d,dr,v,vr,A1,A2,rfl,rfl,rfl,h1,h2⟩,⟨f1,f2⟩=>by
  refine ⟨v,vr,A1,A2,rfl,rfl,?_,KF.owns h2 f2⟩
  cases k with
  | own=>exact h1
  | yng=>rw [h1.1]; exact own_flat f1 h1.2
  | old=>rw [h1.1]; exact own_flat f1 h1.2
  | bor=>rw [h1.1]; exact own_flat f1 h1.2
theorem kAll_wk:∀ {ks:List Kd},(kAll ks).wk=kAll ks
 | []=>rfl
 | k::ks=>by cases k <;> cases h:kAll ks <;> simp [kAll,Kd.max,h]
def kMk (ks:List Kd) (ds:List D) (K:Kd→Prop):Prop:=match ks.all (fun k=>match k with | .own=>true | _=>false) with
 | true=>K .own
 | false=>(Kflat ks ds∧K .own)∨K (kAll ks)
theorem kMk.mono {ks:List Kd} {ds:List D} {K K':Kd→Prop} (k:∀ x,K x→K' x) (h:kMk ks ds K):kMk ks ds K':=by
 unfold kMk at *
 split
 ·next e=>rw [e] at h; exact k _ h
 ·next e=>rw [e] at h; exact h.imp (fun z=>⟨z.1,k _ z.2⟩) (k _)
theorem kMk.of {ks:List Kd} {ds:List D} {K:Kd→Prop} (h:kMk ks ds K):(Kflat ks ds∧K .own)∨K (kAll ks):=by
 unfold kMk at h
 split at h
 ·next e =>
  refine .inl ⟨?_,h⟩
  clear h
  induction ks generalizing ds with
  | nil=>cases ds <;> trivial
  | cons k ks ih =>
   cases ds with
   | nil=>trivial
   | cons d ds =>
    rw [List.all_cons,Bool.and_eq_true] at e
    refine ⟨?_,ih e.2⟩
    have e1:=e.1
    cases k <;> first | trivial | cases e1
 ·exact h
end
structure PQ (X:Cx) (C:Cfg) (p:Bool) (e:Expr) (φ:PhiQ):Prop where
 mono:∀ β R R',(∀ d k β,R d k β→R' d k β)→φ β R→φ β R'
 pe:PE X e (tQ X C p φ)
structure PQT (X:Cx) (C:Cfg) (p:Bool) (e:Expr) (φ:PhiQB):Prop where
 mono:∀ β R R',(∀ d β,R d β→R' d β)→φ β R→φ β R'
 pt:PT X e (tQB X C p φ)
structure PQW (X:Cx) (C:Cfg) (p:Bool) (e:Expr) (φ:PhiQB):Prop where
 mono:∀ β R R',(∀ d β,R d β→R' d β)→φ β R→φ β R'
 pw:PW X e (tQB X C p φ)
structure PQA (X:Cx) (C:Cfg) (p:Bool) (es:List Expr) (φ:PhiQS):Prop where
 mono:∀ β R R',(∀ d k β,R d k β→R' d k β)→φ β R→φ β R'
 pa:PA X es (tQS X C p φ)
end L2.Q
end

noncomputable section
set_option Elab.async false
set_option linter.all false
set_option maxRecDepth 100000
namespace L2.Q
open PySem PySem.Spec PySem.SeqAt PyProof.Rows
section
variable {X:Cx} {C:Cfg} {a b c e:Expr} {es:List Expr} {φ φa φb:PhiQ} {τ τa τb:PhiQB} {φs:PhiQS} {pos:Pos} {σ:St} {H H':Hp} {β:Bet} {own:Nat→List Addr} {p p':Bool}
theorem tQ.of (h:PQ X C p e φ) (s:SQ X C σ H β own) {R:D→Kd→Bet→Prop} {Q:VK} (hr:φ β R) (k:∀ d kd β' v H' own',R d kd β'→Out X C σ H own p β' H' own'→KV X.prog X.w C (H,Wn own) own' H' kd d v→Q v H'):tQ X C p φ σ H Q :=
 ⟨β,own,s,h.mono β _ _ (fun d kd β' hd v H' own' o r=>k d kd β' v H' own' hd o r) hr⟩
theorem tQB.of (h:PQT X C p e τ) (s:SQ X C σ H β own) {R:Bool→Bet→Prop} {Q:Bool→Hp→Prop} (hr:τ β R) (k:∀ t β' H' own',R t β'→Out X C σ H own p β' H' own'→Q t H'):tQB X C p τ σ H Q :=
 ⟨β,own,s,h.mono β _ _ (fun t β' hd H' own' o=>k t β' H' own' hd o) hr⟩
theorem tQS.of (h:PQA X C p es φs) (s:SQ X C σ H β own) {R:List D→List Kd→Bet→Prop} {Q:List V→Hp→Prop} (hr:φs β R) (k:∀ ds ks β' vs H' own',R ds ks β'→Out X C σ H own p β' H' own'→KVs X.prog X.w C (H,Wn own) own' H' ks ds vs→Q vs H'):tQS X C p φs σ H Q :=
 ⟨β,own,s,h.mono β _ _ (fun d kd β' hd v H' own' o r=>k d kd β' v H' own' hd o r) hr⟩
theorem PQW.t (h:PQW X C p e τ):PQT X C p e τ:=⟨h.mono,h.pw.pt⟩
abbrev vk (y:Bool):D→Kd
 | .int _=>.own
 | .bl _=>.own
 | .non=>.own
 | .str _=>.own
 | _=>yk y
def qB:B→(D→Kd→Prop)→Prop
 | .val y d,K=>K d (vk y d)
 | .own d,K=>K d .bor
 | .hand _,_=>False
 | .shl _ _,_=>False
def qVar (i:Nat):PhiQ:=fun β R=>∃ b,β[i]?=some (some b)∧qB b fun d k=>R d k β
theorem kv_var {P:Program} {w:World} {Z:Hp × (Addr→Prop)} {y:Bool} {d:D} {v:V} (h:RepD P w (av C (Wn own) (yk y)) H d v):KV P w C Z own H (vk y d) d v:=by
 cases d with
 | int i=>exact KV.flat rfl h
 | bl i=>exact KV.flat rfl h
 | non=>exact KV.flat rfl h
 | str i=>exact KV.flat rfl h
 | _=>cases y <;> exact h
theorem pq_var {i:Nat} {x:Str} (hN:X.N[i]?=some x:=by rfl) (hv:Vis X.env.scope x:=by first | exact .inl rfl | exact .inr (.inl rfl) | exact .inr (.inr rfl)) (hd:(x == ("__debug__" : Str))=false:=by decide) (hcd:(x == ("__classdict__" : Str))=false:=by decide) :
  PQ X C true (.Name x pos) (qVar i):=⟨fun β R R' k hq2=>by obtain ⟨b,e,h⟩:=hq2; exact ⟨b,e,by cases b <;> first | exact k _ _ _ h | exact h⟩,(pe_var hN hv hd hcd).pre fun σ H Q hq3=>by
 obtain ⟨β,own,s,b,e,q⟩:=hq3
 cases b with
 | val y d=>obtain ⟨v,h1,h2⟩:=s.valA e; exact ⟨v,h1,q v H own (Out.refl s _) (kv_var h2)⟩
 | own d=>obtain ⟨v,h1,h2,h3⟩:=s.ow i d e; exact ⟨v,h1,q v H own (Out.refl s _) (h2.rep fun _ _ z=>z)⟩
 | hand ok=>exact q.elim
 | shl _ _=>exact q.elim⟩
def qFrz (i:Nat):PhiQ:=fun β R=>∃ d,β[i]?=some (some (.own d))∧R d .yng (β.set i (some (.val true d)))
theorem pq_frz {i:Nat} {x:Str} (hN:X.N[i]?=some x:=by rfl) (hv:Vis X.env.scope x:=by first | exact .inl rfl | exact .inr (.inl rfl) | exact .inr (.inr rfl)) (hd:(x == ("__debug__" : Str))=false:=by decide) (hcd:(x == ("__classdict__" : Str))=false:=by decide) :
  PQ X C false (.Name x pos) (qFrz i):=⟨fun β R R' k hq4=>by obtain ⟨b,e,h⟩:=hq4; exact ⟨b,e,k _ _ _ h⟩,(pe_var hN hv hd hcd).pre fun σ H Q hq5=>by
 obtain ⟨β,own,s,d,e,q⟩:=hq5
 have f:=s.freeze e
 obtain ⟨v,h1,h2⟩:=f.valA (y:=true) (get_set (by rw [s.len]; obtain ⟨v,h1,_⟩:=s.ow i d e; exact (List.getElem?_eq_some_iff.mp h1).1))
 exact ⟨v,h1,q v H _ ⟨f,⟨fun b z=>.inl (wn_set z),Kp.refl,fun _ z=>z⟩,fun z=>(nomatch z),fun _ z=>wn_set z⟩ h2⟩⟩
def qC (d:D):PhiQ:=fun β R=>R d .own β
theorem pq_int {i j}:PQ X C true (.Constant (.int i) j pos) (qC (.int i)):=⟨fun ρ R R' k h=>k _ _ _ h,pe_int.pre fun σ H Q hq6=>by obtain ⟨β,own,s,q⟩:=hq6; exact q _ H own (Out.refl s _) (KV.flat (W:=fun _=>False) rfl rfl)⟩
theorem pq_bl {b j}:PQ X C true (.Constant (.bool b) j pos) (qC (.bl b)):=⟨fun ρ R R' k h=>k _ _ _ h,pe_bl.pre fun σ H Q hq7=>by obtain ⟨β,own,s,q⟩:=hq7; exact q _ H own (Out.refl s _) (KV.flat (W:=fun _=>False) rfl rfl)⟩
theorem pq_non {j}:PQ X C true (.Constant .none j pos) (qC .non):=⟨fun ρ R R' k h=>k _ _ _ h,pe_non.pre fun σ H Q hq8=>by obtain ⟨β,own,s,q⟩:=hq8; exact q _ H own (Out.refl s _) (KV.flat (W:=fun _=>False) rfl rfl)⟩
def rD2M (X:Cx) (f:D→D→Option D) (N:D→Prop):R2:=fun x y H Q=>∃ W d1 d2 d,Dm W H∧Rp X W H d1 x∧Rp X W H d2 y∧f d1 d2=some d∧∀ v H',Same H H'→Rp X W H' d v→(N d→Rp X (fun a=>H a≠none) H' d v)→Q v H'
abbrev OpM (X:Cx) (f:Value→Value→Sem Value) (g:D→D→Option D) (N:D→Prop):Prop:=OpR X f (rD2M X g N)
theorem OpD.m {f:Value→Value→Sem Value} {g:D→D→Option D} (h:OpD X f g):OpM X f g NF:=fun pins s σ H x y v u Q I rx ry ⟨W,d1,d2,d,hd,r1,r2,e,q⟩ =>
 h pins s σ H x y v u Q I rx ry ⟨W,d1,d2,d,hd,r1,r2,e,fun v H' s r=>q v H' s r fun f=>RepD.flat f r⟩
def kN (N:D→Prop) (d:D) (k:Kd) (K:Kd→Prop):Prop:=match d with
 | .int _=>K .own
 | .bl _=>K .own
 | .non=>K .own
 | .str _=>K .own
 | .tup _=>K k
 | _=>(N d∧K .own)∨K k
theorem kN.mono {N:D→Prop} {d:D} {k:Kd} {K K':Kd→Prop} (h:∀ x,K x→K' x) (q:kN N d k K):kN N d k K':=by
 cases d <;> first | exact h _ q | exact q.imp (fun z=>⟨z.1,h _ z.2⟩) (h _)
theorem own_new {P:Program} {w:World} {Z:Hp × (Addr→Prop)} {d:D} {v:V} (hd:Dm (Wn own) H) (h0:∀ a,C.H0 a≠none→H a≠none) (hz:∀ a,Z.1 a≠none→H a≠none) (f:NL d) (r:RepD P w (fun a=>H a≠none) H' d v):KV P w C Z own H' .own d v:=by
 have nn:∀ {a:Addr},¬ (H a≠none)→H a=none:=fun {a} h=>Decidable.by_contra fun z=>h z
 have cl:∀ {a:Addr},H a=none→Z.1 a=none∧¬ Wn own a∧C.H0 a=none:=fun {a} h=>⟨Decidable.by_contra fun z=>hz a z h,fun z=>hd a z h,Decidable.by_contra fun z=>h0 a z h⟩
 cases d with
 | lst ds =>
  obtain ⟨a,vs,rfl,e,n,q⟩:=r
  exact ⟨[a],⟨a,vs,[],rfl,e,rfl,owns_flat f q⟩,by simp,fun c hc=>by rw [List.mem_singleton.mp hc]; exact cl (nn n)⟩
 | _=>exact KV.flat f r
theorem KV.kN {N:D→Prop} {P:Program} {w:World} {Z:Hp × (Addr→Prop)} {d:D} {v:V} {k:Kd} {K:Kd→Prop} (hk:k.wk=k) (r:RepD P w (av C (Wn own) k) H' d v) (ro:N d→KV P w C Z own H' .own d v) (q:kN N d k K):∃ k',K k'∧KV P w C Z own H' k' d v:=by
 have rk:KV P w C Z own H' k d v:=by rw [← hk]; exact KV.of (by rw [hk]; exact r)
 cases d with
 | int i=>exact ⟨_,q,KV.flat rfl r⟩
 | bl i=>exact ⟨_,q,KV.flat rfl r⟩
 | non=>exact ⟨_,q,KV.flat rfl r⟩
 | str i=>exact ⟨_,q,KV.flat rfl r⟩
 | tup ds=>exact ⟨_,q,rk⟩
 | _=>exact q.elim (fun z=>⟨_,z.2,ro z.1⟩) fun z=>⟨_,z,rk⟩
structure NOk (N:D→Prop):Prop where
 nl:∀ d,N d→NL d
theorem nok_NL:NOk NL:=⟨fun _ h=>h⟩
theorem nok_NF:NOk NF:=⟨fun d h=>by cases d <;> first | exact h | cases h⟩
theorem mx_wk {a b:Kd}:(a.max b).wk=a.max b:=by cases a <;> cases b <;> rfl
def qOp (g:D→D→Option D) (N:D→Prop) (pb:Bool) (φa φb:PhiQ):PhiQ:=fun β R=>φa β fun x ka β1=>hold ka pb∧φb β1 fun y kb β2=>∃ d,g x y=some d∧kN N d (ka.max kb) fun k=>R d k β2
variable {g:D→D→Option D} {N:D→Prop}
theorem qOp.mono (ha:PQ X C p a φa) (hb:PQ X C p' b φb):∀ β R R',(∀ d k β,R d k β→R' d k β)→qOp g N p' φa φb β R→qOp g N p' φa φb β R':=fun β R R' k h =>
 ha.mono β _ _ (fun x ka β1 hx=>⟨hx.1,hb.mono β1 _ _ (fun y kb β2 hq11=>by obtain ⟨d,e,q⟩:=hq11; exact ⟨d,e,q.mono fun _ z=>k _ _ _ z⟩) hx.2⟩) h
theorem qOp_of (hn:NOk N) (ha:PQ X C p a φa) (hb:PQ X C p' b φb):∀ σ H Q,tQ X C (p && p') (qOp g N p' φa φb) σ H Q→tOp (rD2M X g N) (tQ X C p φa) (tQ X C p' φb) σ H Q:=fun σ H Q ⟨β,own,s,h⟩ =>
 tQ.of ha s h fun d1 k1 β1 v1 H1 own1 ⟨hh,h1⟩ o1 r1=>tQ.of hb o1.sq h1 fun d2 k2 β2 v2 H2 own2 hq14 o2 r2=>by
  obtain ⟨d,e,q⟩:=hq14
  have r1':=r1.ho o2 hh
  refine ⟨av C (Wn own2) (k1.max k2),d1,d2,d,o2.sq.dmK _,RepD.anti av_maxL r1'.rep,RepD.anti av_maxR r2.rep,e,fun v H' s3 r3 n3=>?_⟩
  have o:=(o1.trans o2).same s3
  obtain ⟨k,q,r⟩:=KV.kN (Z:=(H,Wn own)) mx_wk r3 (fun n=>own_new (H:=H2) o2.sq.dmW o2.sq.dmn (fun a z=>o2.sn.d a (o1.sn.d a z)) (hn.nl _ n) (n3 n)) q
  exact q v H' own2 o r
theorem pq_op {op:Operator} (hn:NOk N) (ho:OpM X (binaryOp op) g N) (ha:PQ X C p a φa) (hb:PQ X C p' b φb):PQ X C (p && p') (.BinOp a op b pos) (qOp g N p' φa φb):=⟨qOp.mono ha hb,(pe_op ho ha.pe hb.pe).pre (qOp_of hn ha hb)⟩
theorem pq_cmp {op:CmpOp} (hn:NOk N) (ho:OpM X (compareOp op) g N) (ha:PQ X C p a φa) (hb:PQ X C p' b φb) (hm:behindInMarks op b=false:=by first | exact nobehind _ (by decide) (by decide) | rfl):PQ X C (p && p') (.Compare a [op] [b] pos) (qOp g N p' φa φb) :=
 ⟨qOp.mono ha hb,(pe_cmpR ho ha.pe hb.pe hm).pre (qOp_of hn ha hb)⟩
theorem pq_ix (hn:NOk N) (ho:IxR X (rD2M X g N)) (ha:PQ X C p a φa) (hb:PQ X C p' b φb) (hs:PlainIx b:=by exact fun _ _=>rfl):PQ X C (p && p') (.Subscript a b pos) (qOp g N p' φa φb):=⟨qOp.mono ha hb,(pe_ix ho ha.pe hb.pe hs).pre (qOp_of hn ha hb)⟩
def qTest (φ:PhiQ):PhiQB:=fun β R=>φ β fun d k β'=>∃ b,d=.bl b∧R b β'
theorem pqt_cmp {op:CmpOp} (hn:NOk N) (ho:OpM X (compareOp op) g N) (ha:PQ X C p a φa) (hb:PQ X C p' b φb) (hm:behindInMarks op b=false:=by first | exact nobehind _ (by decide) (by decide) | rfl):PQT X C (p && p') (.Compare a [op] [b] pos) (qTest (qOp g N p' φa φb)) :=
 ⟨fun β R R' k h=>qOp.mono ha hb β _ _ (fun d kd β hq15=>by obtain ⟨t,e,q⟩:=hq15; exact ⟨t,e,k _ _ q⟩) h,(pt_cmpR ho ha.pe hb.pe hm).pre fun σ H Q ⟨β,own,s,h⟩ =>
  tQ.of ha s h fun d1 k1 β1 v1 H1 own1 ⟨hh,h1⟩ o1 r1=>tQ.of hb o1.sq h1 fun d2 k2 β2 v2 H2 own2 hq18 o2 r2=>by
   obtain ⟨d,e,q⟩:=hq18
   have r1':=r1.ho o2 hh
   refine ⟨av C (Wn own2) (k1.max k2),d1,d2,d,o2.sq.dmK _,RepD.anti av_maxL r1'.rep,RepD.anti av_maxR r2.rep,e,fun v H' s3 r3 n3=>?_⟩
   obtain ⟨k,⟨t,et,q'⟩,r⟩:=KV.kN (Z:=(H,Wn own)) mx_wk r3 (fun n=>own_new (H:=H2) o2.sq.dmW o2.sq.dmn (fun a z=>o2.sn.d a (o1.sn.d a z)) (hn.nl _ n) (n3 n)) q
   subst et
   cases r3
   exact ⟨t,rfl,q' H' own2 ((o1.trans o2).same s3)⟩⟩
theorem pqt_val (ha:PQ X C p a φa) (he:∀ whole,isTrue a X.env whole=(do let v ← whole; standAt a.pos; holding [v] (truthy v)):=by intro _; rfl):PQT X C p a (qTest φa) :=
 ⟨fun β R R' k h=>ha.mono β _ _ (fun d kd β' hq19=>by obtain ⟨b,e,q⟩:=hq19; exact ⟨b,e,k _ _ q⟩) h,(pt_val ha.pe he).pre fun σ H Q ⟨β,own,s,h⟩=>tQ.of ha s h fun d k β' v H1 own1 hq21 o1 r1=>by
  obtain ⟨b,e,q⟩:=hq21
  subst e
  cases r1.rep
  exact ⟨b,rfl,q H1 own1 o1⟩⟩
def qNotT (τ:PhiQB):PhiQB:=fun β R=>τ β fun b β'=>R (!b) β'
theorem pqt_not (ha:PQT X C p a τ):PQT X C p (.UnaryOp .Not a pos) (qNotT τ) :=
 ⟨fun β R R' k h=>ha.mono β _ _ (fun b β' q=>k _ _ q) h,(pt_not ha.pt).pre fun σ H Q hq22=>by obtain ⟨β,own,s,h⟩:=hq22; exact tQB.of ha s h fun b β' H1 own1 q o=>q H1 own1 o⟩
variable {rest:List Expr}
def qAndT (τa τb:PhiQB):PhiQB:=fun β R=>τa β fun t β1=>if t=true then τb β1 R else R false β1
def qOrT (τa τb:PhiQB):PhiQB:=fun β R=>τa β fun t β1=>if t=true then R true β1 else τb β1 R
theorem pqw_and1 (ha:PQT X C p a τ):PQW X C p (.BoolOp .And [a] pos) τ:=⟨ha.mono,pw_and1 ha.pt⟩
theorem pqw_or1 (ha:PQT X C p a τ):PQW X C p (.BoolOp .Or [a] pos) τ:=⟨ha.mono,pw_or1 ha.pt⟩
theorem andL {p q:Bool} (z:(p && q)=true):p=true:=by cases p <;> first | rfl | cases z
theorem andR {p q:Bool} (z:(p && q)=true):q=true:=by cases p <;> first | exact z | cases z
theorem pqw_and (ha:PQT X C p a τa) (hb:PQW X C p' (.BoolOp .And (b::rest) pos) τb):PQW X C (p && p') (.BoolOp .And (a::b::rest) pos) (qAndT τa τb) :=
 ⟨fun β R R' k h=>ha.mono β _ _ (fun t β1 q=>by
   cases t
   ·exact k _ _ q
   ·exact hb.mono β1 _ _ k q) h,(pw_and ha.pt hb.pw).pre fun σ H Q ⟨β,own,s,h⟩=>tQB.of ha s h fun t β1 H1 own1 q o1=>by
  cases t
  ·exact q H1 own1 (o1.wk andL)
  ·exact tQB.of hb.t o1.sq q fun t' β2 H2 own2 q2 o2=>q2 H2 own2 (o1.trans o2)⟩
theorem pqw_or (ha:PQT X C p a τa) (hb:PQW X C p' (.BoolOp .Or (b::rest) pos) τb):PQW X C (p && p') (.BoolOp .Or (a::b::rest) pos) (qOrT τa τb) :=
 ⟨fun β R R' k h=>ha.mono β _ _ (fun t β1 q=>by
   cases t
   ·exact hb.mono β1 _ _ k q
   ·exact k _ _ q) h,(pw_or ha.pt hb.pw).pre fun σ H Q ⟨β,own,s,h⟩=>tQB.of ha s h fun t β1 H1 own1 q o1=>by
  cases t
  ·exact tQB.of hb.t o1.sq q fun t' β2 H2 own2 q2 o2=>q2 H2 own2 (o1.trans o2)
  ·exact q H1 own1 (o1.wk andL)⟩
def qAnd (φa φb:PhiQ):PhiQ:=fun β R=>φa β fun x _ β1=>∃ c,x=.bl c∧if c=true then φb β1 R else R (.bl false) .own β1
def qNot (φa:PhiQ):PhiQ:=fun β R=>φa β fun x _ β1=>∃ c,x=.bl c∧R (.bl (!c)) .own β1
theorem pq_one {op} (h:PQ X C p a φ):PQ X C p (.BoolOp op [a] pos) φ:=⟨h.mono,pe_one h.pe⟩
theorem kv_bl {P:Program} {w:World} {Z:Hp × (Addr→Prop)} {b:Bool}:KV P w C Z own H .own (.bl b) (.bl b):=KV.flat (W:=fun _=>False) rfl rfl
theorem pq_and (ha:PQ X C p a φa) (hb:PQ X C p' (.BoolOp .And (b::rest) pos) φb):PQ X C (p && p') (.BoolOp .And (a::b::rest) pos) (qAnd φa φb) :=
 ⟨fun β R R' k h=>ha.mono β _ _ (fun d kd β1 ⟨c,e,q⟩=>⟨c,e,by
   cases c
   ·exact k _ _ _ q
   ·exact hb.mono β1 _ _ k q⟩) h,(pe_and ha.pe hb.pe).pre fun σ H Q ⟨β,own,s,h⟩=>tQ.of ha s h fun d kd β1 v H1 own1 hq27 o1 r1=>by
  obtain ⟨c,e,q⟩:=hq27
  subst e
  cases r1.rep
  refine ⟨c,rfl,?_⟩
  cases c
  ·exact q _ H1 own1 (o1.wk andL) kv_bl
  ·exact tQ.of hb o1.sq q fun d2 k2 β2 v2 H2 own2 q2 o2 r2=>q2 v2 H2 own2 (o1.trans o2) (r2.later o1.sn)⟩
theorem pq_not (ha:PQ X C p a φa):PQ X C p (.UnaryOp .Not a pos) (qNot φa) :=
 ⟨fun β R R' k h=>ha.mono β _ _ (fun d kd β1 hq31=>by obtain ⟨c,e,q⟩:=hq31; exact ⟨c,e,k _ _ _ q⟩) h,(pe_not ha.pe).pre fun σ H Q ⟨β,own,s,h⟩=>tQ.of ha s h fun d kd β1 v H1 own1 hq33 o1 r1=>by
  obtain ⟨c,e,q⟩:=hq33
  subst e
  cases r1.rep
  exact ⟨c,rfl,q _ H1 own1 o1 kv_bl⟩⟩
def qUn (g:D→Option D) (φa:PhiQ):PhiQ:=fun β R=>φa β fun x _ β1=>∃ d,g x=some d∧d.flat=true∧R d .own β1
theorem pq_un {op:UnaryOp} {g:D→Option D} (ho:UnR X (unaryOp op) (rD1 X g)) (ha:PQ X C p a φa):PQ X C p (.UnaryOp op a pos) (qUn g φa) :=
 ⟨fun β R R' k h=>ha.mono β _ _ (fun x _ β1 hq35=>by obtain ⟨d,e,f,q⟩:=hq35; exact ⟨d,e,f,k _ _ _ q⟩) h,(pe_un ho ha.pe).pre fun σ H Q ⟨β,own,s,h⟩ =>
  tQ.of ha s h fun d1 k1 β1 v1 H1 own1 hq37 o1 r1=>by obtain ⟨d,e,f,q⟩:=hq37; exact ⟨_,d1,d,o1.sq.dmK _,r1.rep,e,fun v H' s2 r2=>q v H' own1 (o1.same s2) (KV.flat f r2)⟩⟩
def qNil:PhiQS:=fun β R=>R [] [] β
def qCons (pr:Bool) (φ:PhiQ) (φs:PhiQS):PhiQS:=fun β R=>φ β fun d k β1=>hold k pr∧φs β1 fun ds ks β2=>R (d::ds) (k::ks) β2
theorem pqa_nil:PQA X C true [] qNil:=⟨fun β R R' k h=>k _ _ _ h,pa_nil.pre fun σ H Q hq38=>by obtain ⟨β,own,s,q⟩:=hq38; exact q [] H own (Out.refl s _) KVs.nil⟩
theorem pqa_cons (ha:PQ X C p a φ) (hr:PQA X C p' es φs) (hs:starEach (a::es) X.env=(false,eval a X.env)::starEach es X.env:=by rfl):PQA X C (p && p') (a::es) (qCons p' φ φs) :=
 ⟨fun β R R' k h=>ha.mono β _ _ (fun d kd β1 q=>⟨q.1,hr.mono β1 _ _ (fun ds ks β2 q2=>k _ _ _ q2) q.2⟩) h,(pa_cons ha.pe hr.pa hs).pre fun σ H Q ⟨β,own,s,h⟩ =>
  tQ.of ha s h fun d1 k1 β1 v1 H1 own1 hq40 o1 r1=>by obtain ⟨hh,h1⟩:=hq40; exact tQS.of hr o1.sq h1 fun ds ks β2 vs H2 own2 q o2 r2=>q (v1::vs) H2 own2 (o1.trans o2) (KVs.cons r1 o2.sn (r1.ho o2 hh) r2 o1.sn)⟩
def qTup (φs:PhiQS):PhiQ:=fun β R=>φs β fun ds ks β1=>ds.length≤sizeLine∧kMk ks ds fun k=>R (.tup ds) k β1
def qLst (φs:PhiQS):PhiQ:=fun β R=>φs β fun ds ks β1=>ds.length≤sizeLine∧kMk ks ds fun k=>R (.lst ds) k β1
theorem Owns.same {P:Program} {w:World} {ds:List D} {vs:List V} {A:List Addr} (s:Same H H') (h:Owns P w H ds vs A):Owns P w H' ds vs A:=h.keep (fun b xs e=>s _ _ e) fun c _ o e=>s c o e
theorem kv_tup {P:Program} {w:World} {Z:Hp × (Addr→Prop)} {ks:List Kd} {ds:List D} {vs:List V} {K:Kd→Prop} {q:Addr} (hq:H q=none) (h:KVs P w C Z own H ks ds vs) (m:kMk ks ds K):∃ k,K k∧KV P w C Z own (upd H q (.tup vs)) k (.tup ds) (.ref q):=by
 rcases m.of with ⟨f,k⟩ | k
 ·obtain ⟨A,h1,h2,h3⟩:=h
  exact ⟨_,k,A,⟨q,vs,rfl,upd_same,(h1.owns f).same (Same.new hq)⟩,h2,h3⟩
 ·refine ⟨_,k,?_⟩
  rw [← kAll_wk]
  exact KV.of (by rw [kAll_wk]; exact ⟨q,vs,rfl,upd_same,h.reps.same (Same.new hq)⟩)
theorem kv_lst {P:Program} {w:World} {Z:Hp × (Addr→Prop)} {ks:List Kd} {ds:List D} {vs:List V} {K:Kd→Prop} {q:Addr} (hq:H q=none) (hd:Dm (Wn own) H) (h0:∀ a,C.H0 a≠none→H a≠none) (hz:∀ a,Z.1 a≠none→H a≠none) (h:KVs P w C Z own H ks ds vs) (m:kMk ks ds K):∃ k,K k∧KV P w C Z own (upd H q (.lst vs)) k (.lst ds) (.ref q):=by
 rcases m.of with ⟨f,k⟩ | k
 ·obtain ⟨A,h1,h2,h3⟩:=h
  refine ⟨_,k,q::A,⟨q,vs,A,rfl,upd_same,rfl,(h1.owns f).same (Same.new hq)⟩,List.nodup_cons.mpr ⟨fun z=>h1.dom q z hq,h2⟩,fun c hc=>?_⟩
  rcases List.mem_cons.mp hc with rfl | hc
  ·exact ⟨Decidable.by_contra fun z=>hz c z hq,fun z=>hd c z hq,Decidable.by_contra fun z=>h0 c z hq⟩
  ·exact h3 c hc
 ·refine ⟨_,k,?_⟩
  have nq:¬ av C (Wn own) (kAll ks) q:=fun z=>by
   cases e:kAll ks <;> rw [e] at z <;> first | exact z.elim (fun z=>hd q z hq) fun z=>h0 q z hq | exact hd q z hq | exact z
  rw [← kAll_wk]
  exact KV.of (by rw [kAll_wk]; exact ⟨q,vs,rfl,upd_same,nq,h.reps.same (Same.new hq)⟩)
theorem KVs.length {P:Program} {w:World} {Z:Hp × (Addr→Prop)} {ks:List Kd} {ds:List D} {vs:List V} (h:KVs P w C Z own H ks ds vs):vs.length=ds.length:=h.reps.length
theorem pq_tup {x1} (h:PQA X C p es φs):PQ X C p (.Tuple es x1 pos) (qTup φs) :=
 ⟨fun β R R' k q=>h.mono β _ _ (fun ds ks β1 hq41=>by obtain ⟨l,q⟩:=hq41; exact ⟨l,q.mono fun _ z=>k _ _ _ z⟩) q,(pe_tup h.pa).pre fun σ H Q ⟨β,own,s,q⟩=>tQS.of h s q fun ds ks β1 vs H1 own1 ⟨l,q1⟩ o1 r1 =>
  ⟨by rw [r1.length]; exact l,fun q hq=>let ⟨k,q1,r⟩:=kv_tup hq r1 q1; q1 _ _ own1 (o1.same (Same.new hq)) r⟩⟩
theorem pq_lst (h:PQA X C p es φs):PQ X C p (.List es pos) (qLst φs) :=
 ⟨fun β R R' k q=>h.mono β _ _ (fun ds ks β1 hq44=>by obtain ⟨l,q⟩:=hq44; exact ⟨l,q.mono fun _ z=>k _ _ _ z⟩) q,(pe_lst h.pa).pre fun σ H Q ⟨β,own,s,q⟩=>tQS.of h s q fun ds ks β1 vs H1 own1 ⟨l,q1⟩ o1 r1 =>
  ⟨by rw [r1.length]; exact l,fun q hq=>let ⟨k,q1,r⟩:=kv_lst hq o1.sq.dmW o1.sq.dmn (fun a z=>o1.sn.d a z) r1 q1; q1 _ _ own1 (o1.same (Same.new hq)) r⟩⟩
end
end L2.Q
end

noncomputable section
set_option Elab.async false
set_option linter.all false
set_option maxRecDepth 100000
namespace L2.Q
open PySem PySem.Spec PySem.SeqAt PyProof.Rows
section
variable {X:Cx} {C:Cfg} {a b c e:Expr} {es:List Expr} {φ φa φb:PhiQ} {τ τa τb:PhiQB} {φs:PhiQS} {pos:Pos} {σ:St} {H H':Hp} {β:Bet} {own:Nat→List Addr} {p p':Bool} {g:D→D→Option D} {N:D→Prop}
variable {op op':CmpOp} {ops:List CmpOp} {rs:List Expr} {φr:PhiQC}
theorem av_wk {W:Addr→Prop} {k:Kd}:∀ c,av C W k.wk c→av C W k c:=fun c h=>by cases k <;> exact h
def rDsM (X:Cx) (f:List D→Option D) (N:D→Prop):List V→Hp→VK→Prop:=fun xs H Q=>∃ W ds d,Dm W H∧Rps X W H ds xs∧f ds=some d∧∀ v H',Same H H'→Rp X W H' d v→(N d→Rp X (fun a=>H a≠none) H' d v)→Q v H'
abbrev CallM (X:Cx) (f:Value) (g:List D→Option D) (N:D→Prop):Prop:=CallR X f (rDsM X g N)
theorem CallD.m {f:Value} {g:List D→Option D} (h:CallD X f g):CallM X f g NF:=fun pins s σ H xs us Q I r ⟨W,ds,d,hd,r1,e,q⟩ =>
 h pins s σ H xs us Q I r ⟨W,ds,d,hd,r1,e,fun v H' s r=>q v H' s r fun f=>RepD.flat f r⟩
def qCall (g:List D→Option D) (N:D→Prop) (φs:PhiQS):PhiQ:=fun β R=>φs β fun ds ks β1=>∃ d,g ds=some d∧kN N d (kAll ks) fun k=>R d k β1
variable {x:Str} {pp:Pos} {id T:String} {gs:List D→Option D}
theorem qCall.mono (h:PQA X C p es φs):∀ β R R',(∀ d k β,R d k β→R' d k β)→qCall gs N φs β R→qCall gs N φs β R':=fun β R R' k q=>h.mono β _ _ (fun ds ks β1 hq24=>by obtain ⟨d,e,q⟩:=hq24; exact ⟨d,e,q.mono fun _ z=>k _ _ _ z⟩) q
theorem qCall_of (hn:NOk N) (h:PQA X C p es φs):∀ σ H Q,tQ X C p (qCall gs N φs) σ H Q→tCB (rDsM X gs N) (tQS X C p φs) σ H Q:=fun σ H Q ⟨β,own,s,q⟩=>tQS.of h s q fun ds ks β1 vs H1 own1 hq26 o1 r1=>by
 obtain ⟨d,e,q1⟩:=hq26
 refine ⟨av C (Wn own1) (kAll ks),ds,d,o1.sq.dmK _,r1.reps,e,fun v H' s2 r2 n2=>?_⟩
 obtain ⟨k',q,r⟩:=KV.kN (Z:=(H,Wn own)) kAll_wk r2 (fun n=>own_new (H:=H1) o1.sq.dmW o1.sq.dmn (fun a z=>o1.sn.d a z) (hn.nl _ n) (n2 n)) q1
 exact q v H' own1 (o1.same s2) r
theorem pq_callB (hn':NOk N) (hc:CallM X (.builtin id) gs N) (hm:X.mg x=none) (hv:bootBuiltins x=some (.builtin id)) (ha:PQA X C p (e::es) φs) (hg:Gl X x:=by rfl) (hn:x≠"__name__" := by decide) (hdb:(x == ("__debug__" : Str))=false:=by decide)
  (hsp:starEach (e::es) X.env=(false,eval e X.env)::starEach es X.env:=by rfl) (hpl:(backTo pos (starEach es X.env)).any (·.1)=false:=by rfl) :
  PQ X C p (.Call (.Name x pp) (e::es) [] pos) (qCall gs N φs):=⟨qCall.mono ha,(pe_callB hc hg hm hv ha.pa hn hdb (he:=hsp) (hpl:=hpl)).pre (qCall_of hn' ha)⟩
theorem pq_callTy (hn':NOk N) (hc:CallM X (.type T) gs N) (hm:X.mg x=none) (hv:bootBuiltins x=some (.type T)) (ha:PQA X C p (e::es) φs) (hg:Gl X x:=by rfl) (hn:x≠"__name__" := by decide) (hdb:(x == ("__debug__" : Str))=false:=by decide)
  (hsp:starEach (e::es) X.env=(false,eval e X.env)::starEach es X.env:=by rfl) (hpl:(backTo pos (starEach es X.env)).any (·.1)=false:=by rfl) :
  PQ X C p (.Call (.Name x pp) (e::es) [] pos) (qCall gs N φs):=⟨qCall.mono ha,(pe_callTy hc hg hm hv ha.pa hn hdb (he:=hsp) (hpl:=hpl)).pre (qCall_of hn' ha)⟩
end
def NewV (P:Program) (w:World) (ro:Bool) (H H':Hp) (d:D) (v:V):Prop:=match ro with
 | true=>∃ A,Own P w H' d v A∧A.Nodup∧∀ c ∈ A,H c=none
 | false=>RepD P w (fun a=>H a≠none) H' d v
abbrev rk (ro:Bool):Kd:=match ro with | true=>.own | false=>.yng
def spQ (P:Program) (w:World) (ro:Bool) (F:FD):Sp:=fun vs H Q _=>∃ ds,RepDs P w (fun _=>False) H ds vs∧F ds fun d=>∀ v H',Same H H'→NewV P w ro H H' d v→Q v H'
def spQH (P:Program) (w:World) (ok:List Int→Prop) (ro:Bool) (F:FD):Sp:=fun vs H Q _=>∃ h vs' ds ns,vs=.ref h::vs'∧H h=some (.lst (ns.map V.int))∧ok ns∧RepDs P w (fun a=>a=h) H ds vs' ∧
 F ds fun d=>∀ v H' ns',Kp (·=h) H H'→(∀ c,H c≠none→H' c≠none)→H' h=some (.lst (ns'.map V.int))→ok ns'→NewV P w ro H H' d v→Q v H'
section
variable {X:Cx} {C:Cfg} {k ih:Nat} {f:Addr} {fd:FuncData} {ps:List Str} {F:FD} {ro p:Bool} {x hx:Str} {pp pos px:Pos} {e:Expr} {es:List Expr} {φs:PhiQS} {ok:List Int→Prop} {σ:St} {H H':Hp} {β:Bet} {own:Nat→List Addr} {P:Program} {w:World}
theorem NewV.kv {Z:Hp × (Addr→Prop)} {d:D} {v:V} (hd:Dm (Wn own) H) (h0:∀ a,C.H0 a≠none→H a≠none) (hz:∀ a,Z.1 a≠none→H a≠none) (h:NewV P w ro H H' d v):KV P w C Z own H' (rk ro) d v:=by
 cases ro with
 | true =>
  obtain ⟨A,h1,h2,h3⟩:=h
  exact ⟨A,h1,h2,fun c hc=>⟨Decidable.by_contra fun z=>hz c z (h3 c hc),fun z=>hd c z (h3 c hc),Decidable.by_contra fun z=>h0 c z (h3 c hc)⟩⟩
 | false=>exact RepD.anti (fun a z=>z.elim (hd a) (h0 a)) h
def qOwn (ro:Bool) (F:FD) (φs:PhiQS):PhiQ:=fun β R=>φs β fun ds _ β1=>F ds fun d=>R d (rk ro) β1
theorem pq_call (mF:Mono F) (G:FnOk X.prog X.w X.K X.mg X.base CX0 k f fd ps (spQ X.prog X.w ro F)) (hr:Room k X.A) (hm:X.mg x=some (.ref f)) (hk:PySem.W.keepIn X.K (.ref f)=true) (hb:Binds X.K fd ps []) (ha:PQA X C p (e::es) φs) (hg:Gl X x:=by rfl)
  (hdb:(x == ("__debug__" : Str))=false:=by decide)
  (hsp:starEach (e::es) X.env=(false,eval e X.env)::starEach es X.env:=by rfl) (hpl:(backTo pos (starEach es X.env)).any (·.1)=false:=by rfl) :
  PQ X C p (.Call (.Name x pp) (e::es) [] pos) (qOwn ro F φs) :=
 ⟨fun β R R' k h=>ha.mono β _ _ (fun ds ks β1 q=>mF ds _ _ (fun d q=>k _ _ _ q) q) h,(pe_call G hr hg hm hk hb .nil pass0 ha.pa (hdb:=hdb) (he:=hsp) (hpl:=hpl)).pre fun σ H Q ⟨β,own,s,h⟩=>tQS.of ha s h fun ds ks β1 vs H1 own1 q o1 r1=>by
  rw [List.append_nil]
  exact ⟨ds,r1.bor,mF ds _ _ (fun d q2 v H' s2 r2=>q2 v H' own1 (o1.same s2) (r2.kv o1.sq.dmW o1.sq.dmn fun a z=>o1.sn.d a z)) q⟩⟩
theorem SQ'.drawn {i:Nat} {h:Addr} {ns':List Int} (b:SQ' P w C σ H β own) (e:β[i]?=some (some (.hand ok))) (hσ:σ[i]?=some (some (.ref h))) (k:Kp (·=h) H H') (e':H' h=some (.lst (ns'.map V.int))) (o':ok ns') (dn:∀ c,H c≠none→H' c≠none):SQ' P w C σ H' β own:=by
 obtain ⟨a,ns,h1,h2,h3,h4,h5⟩:=b.hnd i ok e
 rw [hσ] at h1
 cases h1
 have wh:Wn own h:=⟨i,by rw [h4]; simp⟩
 have kW:∀ y,Kp (av' C (Wn own) (yk y)) H H':=fun y=>k.mono fun c z=>by rw [z]; cases y <;> first | exact .inl wh | exact .inl (.inl wh)
 have ne:∀ j,j≠i→∀ c ∈ own j,c≠h:=fun j hj c hc z=>hj (b.dis j i c hc (by rw [h4,z]; simp))
 refine ⟨b.len,fun j y d e=>let ⟨v,g1,g2⟩:=b.val j y d e; ⟨v,g1,g2.keep (kW y)⟩,fun j d ej=>?_,fun j ok' ej=>?_,fun j c hc=>?_,b.dis,b.nod,⟨fun c o z n=>?_,fun c xs z=>k.tup c xs (b.kp.tup c xs z)⟩,fun c z=>dn c (b.dmn c z),fun j y d ej=>by
  obtain ⟨v,g1,g2,g3⟩:=b.shl j y d ej
  have hj:j≠i:=fun z=>by rw [z,e] at ej; cases ej
  exact ⟨v,g1,g2.map (fun c hc o eo=>k.out c o eo (ne j hj c hc)) (fun _ _ r=>r.keep (kW y)),g3⟩⟩
 ·obtain ⟨v,g1,g2,g3⟩:=b.ow j d ej
  have hj:j≠i:=fun z=>by rw [z,e] at ej; cases ej
  exact ⟨v,g1,g2.keep k.tup (fun c hc o eo=>k.out c o eo (ne j hj c hc)),g3⟩
 ·by_cases hj:j=i
  ·subst hj
   rw [e] at ej
   cases ej
   exact ⟨h,ns',hσ,e',o',h4,h5⟩
  ·obtain ⟨a,ms,g1,g2,g3,g4,g5⟩:=b.hnd j ok' ej
   exact ⟨a,ms,g1,k.out a _ g2 (ne j hj a (by rw [g4]; simp)),g3,g4,g5⟩
 ·obtain ⟨g1,g2,g3⟩:=b.dm j c hc
  by_cases hch:c=h
  ·rw [hch,e']
   rw [hch] at g3
   exact ⟨fun z=>(nomatch z),fun xs z=>(by cases z),g3⟩
  ·cases q:H c with
   | none=>exact absurd q g1
   | some o=>rw [k.out c o q hch]; exact ⟨fun z=>(nomatch z),fun xs z=>g2 xs (by rw [q]; exact z),g3⟩
 ·refine k.out c o (b.kp.out c o z n) fun q=>?_
  subst q
  rcases (b.dm i c (by rw [h4]; simp)).2.2.1 with z0 | z0
  ·rw [z0] at z; cases z
  ·exact n z0
def qDraw (ih:Nat) (ok:List Int→Prop) (ro:Bool) (F:FD) (φs:PhiQS):PhiQ:=fun β R=>β[ih]?=some (some (.hand ok))∧φs β fun ds ks β1=>β1[ih]?=some (some (.hand ok))∧hold (kAll ks) false∧F ds fun d=>R d (rk ro) β1
theorem pq_draw (mF:Mono F) (G:FnOk X.prog X.w X.K X.mg X.base CX0 k f fd ps (spQH X.prog X.w ok ro F)) (hr:Room k X.A) (hm:X.mg x=some (.ref f)) (hk:PySem.W.keepIn X.K (.ref f)=true) (hb:Binds X.K fd ps []) (ha:PQA X C p es φs) (hN:X.N[ih]?=some hx:=by rfl)
  (hv:Vis X.env.scope hx:=by first | exact .inl rfl | exact .inr (.inl rfl) | exact .inr (.inr rfl)) (hd:(hx == ("__debug__" : Str))=false:=by decide) (hcd:(hx == ("__classdict__" : Str))=false:=by decide) (hg:Gl X x:=by rfl) (hdb:(x == ("__debug__" : Str))=false:=by decide)
  (hsp:starEach (.Name hx px::es) X.env=(false,eval (.Name hx px) X.env)::starEach es X.env:=by rfl) (hpl:(backTo pos (starEach es X.env)).any (·.1)=false:=by rfl) :
  PQ X C false (.Call (.Name x pp) (.Name hx px::es) [] pos) (qDraw ih ok ro F φs) :=
 ⟨fun β R R' k hq28=>by obtain ⟨e,h⟩:=hq28; exact ⟨e,ha.mono β _ _ (fun ds ks β1 hq29=>by obtain ⟨e,hh,q⟩:=hq29; exact ⟨e,hh,mF ds _ _ (fun d q=>k _ _ _ q) q⟩) h⟩,
  (pe_call G hr hg hm hk hb .nil pass0 (pa_cons (pe_var (pos:=px) hN hv hd hcd) ha.pa hsp) (hdb:=hdb) (he:=hsp) (hpl:=hpl)).pre fun σ H Q hq30=>by
  obtain ⟨β,own,s,e,h⟩:=hq30
  obtain ⟨hh,ns,h1,h2,h3,h4⟩:=s.hnd ih ok e
  refine ⟨.ref hh,h1,tQS.of ha s h fun ds ks β1 vs H1 own1 ⟨e1,ho,q⟩ o1 r1=>?_⟩
  obtain ⟨hh',ns1,g1,g2,g3,g4,g5⟩:=o1.sq.hnd ih ok e1
  rw [h1] at g1
  cases g1
  have wh:Wn own1 hh:=⟨ih,by rw [g4]; simp⟩
  rw [List.append_nil]
  refine ⟨hh,vs,ds,ns1,rfl,g2,g3,RepDs.anti (fun a z=>?_) r1.reps,mF ds _ _ (fun d q v H' ns' kp dn e' ok' r=>?_) q⟩
  ·subst z
   cases hk:kAll ks with
   | own=>exact .inl wh
   | yng=>exact .inl wh
   | old=>exact wh
   | bor=>rw [hk] at ho; exact ho.elim
  ·exact q v H' own1 ⟨o1.sq.drawn e1 h1 kp e' ok' dn,o1.sn.kp (kp.mono fun b z=>by rw [z]; exact wh) dn,fun z=>(nomatch z),o1.le⟩ (r.kv o1.sq.dmW o1.sq.dmn fun a z=>o1.sn.d a z)⟩
end
end L2.Q
end

noncomputable section
set_option Elab.async false
set_option linter.all false
set_option maxRecDepth 100000
namespace L2.Q
open PySem PySem.Spec PySem.SeqAt PyProof.Rows
abbrev Cfg.z (C:Cfg):Cfg:=C.u fun _=>False
def SB (X:Cx) (C:Cfg) (Z:Hp × (Addr→Prop)) (σ:St) (H:Hp) (β:Bet):Prop:=∃ own,SQ X C.z σ H β own∧Sn Z H (Wn own)
structure EndsB where
 nx:Bet→Prop
 rt:D→Bet→Prop
 bk:Bet→Prop:=fun _=>False
 ct:Bet→Prop:=fun _=>False
def EndsB.up (E:EndsB) (n:Bet→Prop):EndsB:=⟨n,E.rt,E.bk,E.ct⟩
def EndsB.lp (E:EndsB) (n:Bet→Prop):EndsB:=⟨n,E.rt,E.nx,n⟩
structure EOk (X:Cx) (C:Cfg) (Z:Hp × (Addr→Prop)) (E:EndsB) (D:Ends):Prop where
 nx:∀ σ H β,SB X C Z σ H β→E.nx β→D.nx σ H
 rt:∀ σ H β d v,SB X C Z σ H β→NewV X.prog X.w C.ro C.H0 H d v→E.rt d β→D.rt v H
 bk:∀ σ H β,SB X C Z σ H β→E.bk β→D.bk σ H
 ct:∀ σ H β,SB X C Z σ H β→E.ct β→D.ct σ H
structure Le (E E':EndsB):Prop where
 nx:∀ β,E.nx β→E'.nx β
 rt:∀ d β,E.rt d β→E'.rt d β
 bk:∀ β,E.bk β→E'.bk β
 ct:∀ β,E.ct β→E'.ct β
abbrev Psi:=EndsB→Bet→Prop
def tSQ (X:Cx) (C:Cfg) (ψ:Psi):TS:=fun D σ H=>∃ Z E β,SB X C Z σ H β∧ψ E β∧EOk X C Z E D
structure PB (X:Cx) (C:Cfg) (st:Stmt) (ψ:Psi):Prop where
 mono:∀ E E' β,Le E E'→ψ E β→ψ E' β
 ps:PS X st (tSQ X C ψ)
structure PBs (X:Cx) (C:Cfg) (st:List Stmt) (ψ:Psi):Prop where
 mono:∀ E E' β,Le E E'→ψ E β→ψ E' β
 ps:PSs X st (tSQ X C ψ)
section
variable {X:Cx} {C:Cfg} {st:Stmt} {rest a b:List Stmt} {ψ ψ1 ψ2:Psi} {Z:Hp × (Addr→Prop)} {σ:St} {H H':Hp} {β β':Bet} {pos pos':Pos} {e c:Expr} {φ:PhiQ} {τ:PhiQB} {p:Bool} {own own':Nat→List Addr} {i:Nat} {x:Str}
theorem Out.sb (n:Sn Z H (Wn own)) (o:Out X C.z σ H own p β' H' own'):SB X C Z σ H' β':=⟨own',o.sq,n.trans o.sn⟩
theorem pbs_nil:PBs X C [] (fun E β=>E.nx β):=⟨fun E E' β l h=>l.nx β h,pss_nil.pre fun D σ H hq1=>by obtain ⟨Z,E,β,sb,h,ok⟩:=hq1; exact ok.nx σ H β sb h⟩
theorem pbs_cons (h1:PB X C st ψ1) (h2:PBs X C rest ψ2):PBs X C (st::rest) (fun E β=>ψ1 (E.up (ψ2 E)) β) :=
 ⟨fun E E' β l h=>h1.mono { E with nx:=ψ2 E } { E' with nx:=ψ2 E' } β ⟨fun β' q=>h2.mono E E' β' l q,l.rt,l.bk,l.ct⟩ h,(pss_cons h1.ps h2.ps).pre fun D σ H ⟨Z,E,β,sb,h,ok⟩ =>
  ⟨Z,{ E with nx:=ψ2 E },β,sb,h,⟨fun σ' H' β' sb' h'=>⟨Z,E,β',sb',h',ok⟩,ok.rt,ok.bk,ok.ct⟩⟩⟩
theorem pbs_one (h1:PB X C st ψ):PBs X C [st] ψ:=⟨h1.mono,pss_one h1.ps⟩
theorem pbs_mid (h1:PB X C st ψ1) (h2:PBs X C rest ψ2):PBs X C (st::rest) (fun E β=>∃ J:Bet→Prop,ψ1 (E.up J) β∧∀ β',J β'→ψ2 E β') :=
 ⟨fun E E' β l hq3=>by obtain ⟨J,h,k⟩:=hq3; exact ⟨J,h1.mono { E with nx:=J } { E' with nx:=J } β ⟨fun _ q=>q,l.rt,l.bk,l.ct⟩ h,fun β' q=>h2.mono E E' β' l (k β' q)⟩,(pss_cons h1.ps h2.ps).pre fun D σ H ⟨Z,E,β,sb,⟨J,h,k⟩,ok⟩ =>
  ⟨Z,{ E with nx:=J },β,sb,h,⟨fun σ' H' β' sb' h'=>⟨Z,E,β',sb',k β' h',ok⟩,ok.rt,ok.bk,ok.ct⟩⟩⟩
theorem pbs_never:PBs X C a (fun _ _=>False):=⟨fun _ _ _ _ h=>h.elim,pss_never.pre fun D σ H hq8=>by obtain ⟨Z,E,β,sb,h,ok⟩:=hq8; exact h.elim⟩
theorem pb_if (hc:PQT X C.z p c τ) (ha:PBs X C a ψ1) (hb:PBs X C b ψ2):PB X C (.If c a b pos) (fun E β=>τ β fun t β'=>if t=true then ψ1 E β' else ψ2 E β') :=
 ⟨fun E E' β l h=>hc.mono _ _ _ (fun t β' q=>by
   cases t
   ·exact hb.mono E E' β' l q
   ·exact ha.mono E E' β' l q) h,(ps_if hc.pt ha.ps hb.ps).pre fun D σ H hq9=>by
  obtain ⟨Z,E,β,⟨own,s,n⟩,h,ok⟩:=hq9
  refine tQB.of hc s h fun t β' H1 own1 q o1=>?_
  cases t
  ·exact ⟨Z,E,β',o1.sb n,q,ok⟩
  ·exact ⟨Z,E,β',o1.sb n,q,ok⟩⟩
abbrev kSt (d:D) (k:Kd) (K:B→Prop):Prop:=match k with
 | .own=>K (.val true d)
 | .yng=>K (.val true d)
 | .old=>K (.val false d)
 | .bor=>d.flat=true∧K (.val true d)
theorem kSt.mono {d:D} {k:Kd} {K K':B→Prop} (h:∀ b,K b→K' b) (q:kSt d k K):kSt d k K':=by
 cases k <;> first | exact h _ q | exact ⟨q.1,h _ q.2⟩
theorem kSt.of {P:Program} {w:World} {d:D} {v:V} {k:Kd} {K:B→Prop} (r:KV P w C Z own H k d v) (q:kSt d k K):∃ y,K (.val y d)∧RepD P w (av C (Wn own) (yk y)) H d v:=by
 cases k with
 | own=>exact ⟨true,q,r.yng⟩
 | yng=>exact ⟨true,q,r⟩
 | old=>exact ⟨false,q,r⟩
 | bor=>exact ⟨true,q.2,RepD.flat q.1 r⟩
theorem sn_frz {own:Nat→List Addr} {i:Nat} (n:Sn Z H (Wn own)):Sn Z H (Wn (ownSet own i [])):=⟨fun b z=>n.w b (wn_set z),n.k,n.d⟩
theorem pb_set (he:PQ X C.z p e φ) (hN:X.N.Nodup) (hi:X.N[i]?=some x:=by rfl) (hx:Loc X.env.scope x:=by first | exact .inl rfl | exact .inr rfl)
  (hs:swapsWith e (some (.Name x pos')) pos.line X.env=pure false:=by rfl) (hf:X.fn x=true∨X.env.scope.names.lookup x=some .local:=by first | exact .inl rfl | exact .inr rfl | assumption) :
  PB X C (.Assign [.Name x pos'] e pos) (fun E β=>φ β fun d k β'=>kSt d k fun b=>E.nx (β'.set i (some b))) :=
 ⟨fun E E' β l q=>he.mono _ _ _ (fun d k β' q=>q.mono fun _=>l.nx _) q,(ps_set hN hi hx he.pe hs hf).pre fun D σ H ⟨Z,E,β,⟨own,s,n⟩,q,ok⟩=>tQ.of he s q fun d k β' v H' own' q o r=>by
  obtain ⟨y,q,r⟩:=q.of r
  exact ok.nx _ _ _ ⟨_,o.sq.setVal (RepD.anti (fun a z=>z.elim id fun z=>z.elim) r),sn_frz (n.trans o.sn)⟩ q⟩
abbrev kFl (k:Kd) (d:D):Prop:=match k with
 | .own=>True
 | _=>d.flat=true
theorem KV.fl {P:Program} {w:World} {d:D} {v:V} {k:Kd} (f:kFl k d) (r:KV P w C Z own H k d v):KV P w C Z own H .own d v:=by
 cases k with
 | own=>exact r
 | yng=>exact KV.flat f r.rep
 | old=>exact KV.flat f r.rep
 | bor=>exact KV.flat f r.rep
theorem pb_setO (he:∀ U,PQ X (C.u U) p e φ) (hN:X.N.Nodup) (hi:X.N[i]?=some x:=by rfl) (hx:Loc X.env.scope x:=by first | exact .inl rfl | exact .inr rfl)
  (hs:swapsWith e (some (.Name x pos')) pos.line X.env=pure false:=by rfl) (hf:X.fn x=true∨X.env.scope.names.lookup x=some .local:=by first | exact .inl rfl | exact .inr rfl | assumption) :
  PB X C (.Assign [.Name x pos'] e pos) (fun E β=>φ β fun d k β'=>kFl k d∧E.nx (β'.set i (some (.own d)))) :=
 ⟨fun E E' β l q=>(he fun _=>False).mono _ _ _ (fun d k β' q=>⟨q.1,l.nx _ q.2⟩) q,fun pins s σ H D I ⟨Z,E,β,⟨own,sq,n⟩,q,ok⟩ =>
  ps_set hN hi hx (he fun a=>H a=none).pe hs hf pins s σ H D I (tQ.of (he fun a=>H a=none) (sq.withU (C:=C.z) (U:=fun a=>H a=none) fun a z=>z) q fun d k β' v H' own' hq12 o r=>by
   obtain ⟨f,q⟩:=hq12
   obtain ⟨A,h1,h2,h3⟩:=r.fl f
   refine ok.nx _ _ _ ⟨_,o.sq.setOwn h1 h2 fun c hc=>⟨(h3 c hc).2.2,(h3 c hc).2.1,(h3 c hc).1⟩,?_⟩ q
   have m:=n.trans o.sn
   exact ⟨fun b hq13=>by
    obtain ⟨j,hj⟩:=hq13
    by_cases hij:i=j
    ·rw [← hij,os_eq] at hj
     exact .inr (n.free (h3 b hj).1)
    ·rw [os_ne hij] at hj
     exact m.w b ⟨j,hj⟩,m.k,m.d⟩)⟩
theorem SQ'.putU {P:Program} {w:World} {U U2:Addr→Prop} {d d':D} {v:V} {A':List Addr} {c:Addr} {o:HO} (b:SQ' P w (C.u U) σ H β own) (e:β[i]?=some (some (.own d))) (hσ:σ[i]?=some (some v)) (hc:c ∈ own i)
  (r:Own P w (upd H c o) d' v A') (nd:A'.Nodup) (hA:∀ a ∈ A',a ∈ own i∨(C.H0 a=none∧¬ Wn own a∧U a)) (hU:∀ a,U2 a→U a) (hA2:∀ a ∈ A',¬ U2 a):SQ' P w (C.u U2) σ (upd H c o) (β.set i (some (.own d'))) (ownSet own i A'):=by
 obtain ⟨g1,g2,g3,g4⟩:=b.dm i c hc
 obtain ⟨oc,hoc⟩:∃ oc,H c=some oc:=by
  cases q:H c with
  | none=>exact absurd q g1
  | some oc=>exact ⟨oc,rfl⟩
 have ht:∀ xs,oc≠.tup xs:=fun xs z=>g2 xs (by rw [hoc,z])
 have k:Kp (·=c) H (upd H c o):=kp_upd hoc ht
 have h0:∀ a ∈ own i,C.H0 a=none:=by obtain ⟨_,_,_,h⟩:=b.ow i d e; exact h
 have wc:Wn own c:=⟨i,hc⟩
 have sub:∀ y a,av' (C.u U2) (Wn (ownSet own i A')) (yk y) a→av' (C.u U) (Wn own) (yk y) a:=fun y a h=>by
  have q:∀ a,Wn (ownSet own i A') a→Wn own a∨U a:=fun a hq14=>by
   obtain ⟨j,q⟩:=hq14
   by_cases hij:i=j
   ·rw [hij,os_eq] at q
    rcases hA a q with z | z
    ·exact .inl ⟨i,z⟩
    ·exact .inr z.2.2
   ·rw [os_ne hij] at q; exact .inl ⟨j,q⟩
  rcases h with h | h
  ·cases y with
   | true=>exact h.elim (fun z=>(q a z).imp .inl id) fun z=>.inl (.inr z)
   | false=>exact q a h
  ·exact .inr (hU a h)
 have mem:∀ {j c},c ∈ ownSet own i A' j→(i=j∧c ∈ A')∨(i≠j∧c ∈ own j):=fun {j c} h=>by
  by_cases hij:i=j
  ·subst hij; rw [os_eq] at h; exact .inl ⟨rfl,h⟩
  ·rw [os_ne hij] at h; exact .inr ⟨hij,h⟩
 have nec:∀ j,i≠j→∀ a ∈ own j,a≠c:=fun j hij a ha z=>hij (b.dis i j c hc (by rw [← z]; exact ha))
 refine ⟨by simp [b.len],fun j y' d2 e2=>?_,fun j d2 e2=>?_,fun j ok e2=>?_,fun j a h=>?_,fun j k2 a h1 h2=>?_,fun j=>?_,⟨fun a oa z n=>?_,fun a xs z=>k.tup a xs (b.kp.tup a xs z)⟩,fun a z=>?_,fun j y' d2 e2=>by
  by_cases hij:i=j
  ·subst hij
   obtain ⟨e',hl⟩:=set_eq e2
   cases e'
  ·rw [set_ne hij] at e2
   rw [os_ne hij]
   obtain ⟨u,h1,h2,h3⟩:=b.shl j y' d2 e2
   exact ⟨u,h1,h2.map (fun a ha oa ea=>k.out a oa ea (nec j hij a ha)) (fun _ _ r=>RepDs.anti (sub _) (r.keep (k.mono fun a z=>by rw [z]; cases y' <;> first | exact .inl wc | exact .inl (.inl wc)))),h3⟩⟩
 ·by_cases hij:i=j
  ·subst hij
   obtain ⟨e',hl⟩:=set_eq e2
   cases e'
  ·rw [set_ne hij] at e2
   obtain ⟨u,h1,h2⟩:=b.val j y' d2 e2
   exact ⟨u,h1,(h2.keep (k.mono fun a z=>by rw [z]; cases y' <;> first | exact .inl wc | exact .inl (.inl wc))).anti (sub _)⟩
 ·by_cases hij:i=j
  ·subst hij
   obtain ⟨e',hl⟩:=set_eq e2
   cases e'
   rw [os_eq]
   exact ⟨v,hσ,r,fun a ha=>(hA a ha).elim (h0 a) fun z=>z.1⟩
  ·rw [set_ne hij] at e2
   rw [os_ne hij]
   obtain ⟨u,h1,h2,h3⟩:=b.ow j d2 e2
   exact ⟨u,h1,h2.keep k.tup (fun a ha oa ea=>k.out a oa ea (nec j hij a ha)),h3⟩
 ·by_cases hij:i=j
  ·subst hij
   obtain ⟨e',hl⟩:=set_eq e2
   cases e'
  ·rw [set_ne hij] at e2
   rw [os_ne hij]
   obtain ⟨a,ns,h1,h2,h3,h4,h5⟩:=b.hnd j ok e2
   exact ⟨a,ns,h1,k.out a _ h2 (nec j hij a (by rw [h4]; simp)),h3,h4,h5⟩
 ·rcases mem h with ⟨_,h⟩ | ⟨hij,h⟩
  ·exact ⟨(r.dom a h).1,(r.dom a h).2,.inl ((hA a h).elim (h0 a) fun z=>z.1),hA2 a h⟩
  ·obtain ⟨q1,q2,q3,q4⟩:=b.dm j a h
   rw [upd_ne (nec j hij a h)]
   exact ⟨q1,q2,q3,fun z=>q4 (hU a z)⟩
 ·rcases mem h1 with ⟨e1,h1⟩ | ⟨n1,h1⟩
  ·rcases mem h2 with ⟨e2,h2⟩ | ⟨n2,h2⟩
   ·rw [← e1,← e2]
   ·rcases hA a h1 with z | z
    ·exact absurd (b.dis i k2 a z h2) n2
    ·exact absurd ⟨k2,h2⟩ z.2.1
  ·rcases mem h2 with ⟨e2,h2⟩ | ⟨n2,h2⟩
   ·rcases hA a h2 with z | z
    ·exact absurd (b.dis i j a z h1) n1
    ·exact absurd ⟨j,h1⟩ z.2.1
   ·exact b.dis j k2 a h1 h2
 ·by_cases hij:i=j
  ·rw [← hij,os_eq]; exact nd
  ·rw [os_ne hij]; exact b.nod j
 ·refine k.out a oa (b.kp.out a oa z n) fun q=>?_
  subst q
  rw [h0 a hc] at z
  cases z
 ·by_cases hac:a=c
  ·rw [hac,upd_same]; exact fun z=>(nomatch z)
  ·rw [upd_ne hac]; exact b.dmn a z
theorem SQ'.putIn {P:Program} {w:World} {U:Addr→Prop} {d d':D} {v:V} {A':List Addr} {c:Addr} {o:HO} (b:SQ' P w (C.u U) σ H β own) (e:β[i]?=some (some (.own d))) (hσ:σ[i]?=some (some v)) (hc:c ∈ own i)
  (r:Own P w (upd H c o) d' v A') (nd:A'.Nodup) (hA:∀ a ∈ A',a ∈ own i∨(C.H0 a=none∧¬ Wn own a∧U a)):SQ' P w C.z σ (upd H c o) (β.set i (some (.own d'))) (ownSet own i A') :=
 b.putU (U2:=fun _=>False) e hσ hc r nd hA (fun _ z=>z.elim) fun _ _ z=>z
theorem sn_put {A':List Addr} {c:Addr} {o:HO} {U:Addr→Prop} (n:Sn Z H (Wn own)) (m:∀ a,U a→Z.1 a=none) (hc:Wn own c) (hoc:∃ oc,H c=some oc∧∀ xs,oc≠.tup xs) (hA:∀ a ∈ A',a ∈ own i∨(C.H0 a=none∧¬ Wn own a∧U a)):Sn Z (upd H c o) (Wn (ownSet own i A')):=by
 obtain ⟨oc,h1,h2⟩:=hoc
 have u:=Sn.upd (o':=o) n h1 h2 hc
 exact ⟨fun b hq15=>by
  obtain ⟨j,hj⟩:=hq15
  by_cases hij:i=j
  ·rw [← hij,os_eq] at hj
   rcases hA b hj with z | z
   ·exact n.w b ⟨i,z⟩
   ·exact .inr (m b z.2.2)
  ·rw [os_ne hij] at hj; exact n.w b ⟨j,hj⟩,u.k,u.d⟩
theorem SQ'.lstAt {P:Program} {w:World} {ds:List D} (b:SQ' P w C σ H β own) (e:β[i]?=some (some (.own (.lst ds)))):∃ a vs A',σ[i]?=some (some (.ref a))∧H a=some (.lst vs)∧own i=a::A'∧Owns P w H ds vs A':=by
 obtain ⟨v,h1,⟨a,vs,A',rfl,h2,h3,h4⟩,_⟩:=b.ow i _ e
 exact ⟨a,vs,A',h1,h2,h3,h4⟩
variable {px ap cp:Pos}
theorem pb_append (he:∀ U,PQ X (C.u U) p e φ) (hN:X.N[i]?=some x:=by rfl) (hv:Vis X.env.scope x:=by first | exact .inl rfl | exact .inr (.inl rfl) | exact .inr (.inr rfl)) (hd:(x == ("__debug__" : Str))=false:=by decide) (hcd:(x == ("__classdict__" : Str))=false:=by decide)
  (hbase:attributeBase (.Name x px) "append" X.env (eval (.Name x px) X.env)=eval (.Name x px) X.env:=by rfl)
  (hfew:((backTo cp (starEach [e] X.env)).all (fun x=>!x.1) && (backToKw cp (keywordEach [] X.env)).all (fun x=>x.1.isSome) && decide ([e].length+([]:List Keyword).length+(if ([]:List Keyword).isEmpty then 0 else 1) < 30))=true:=by rfl)
  (hline:(ap.endLine == cp.line)=true:=by rfl) (hs:starEach [e] X.env=(false,eval e X.env)::starEach [] X.env:=by rfl) (hplain:(backTo cp (starEach [] X.env)).any (·.1)=false:=by rfl)
  (hsw:swapsWith (.Call (.Attribute (.Name x px) "append" ap) [e] [] cp) none pos.line X.env=pure false:=by rfl) :
  PB X C (.Expr (.Call (.Attribute (.Name x px) "append" ap) [e] [] cp) pos) (fun E β=>(∃ ds,β[i]?=some (some (.own (.lst ds))))∧φ β fun d k β'=>kFl k d∧∃ ds,β'[i]?=some (some (.own (.lst ds)))∧ds.length < sizeLine∧E.nx (β'.set i (some (.own (.lst (ds++[d])))))):=by
 refine ⟨fun E E' β l hq16=>by obtain ⟨h1,q⟩:=hq16; exact ⟨h1,(he fun _=>False).mono _ _ _ (fun d k β' hq17=>by obtain ⟨f,ds,h1,h2,q⟩:=hq17; exact ⟨f,ds,h1,h2,l.nx _ q⟩) q⟩,fun pins s σ H D I ⟨Z,E,β,⟨own,sq,n⟩,⟨⟨ds0,hb⟩,q⟩,ok⟩=>?_⟩
 refine ps_expr (pos:=pos) (pe_bm (apos:=ap) (cpos:=cp) PySem.F.plainAttrs_list PySem.F.slot_list_append PySem.F.type_list_append mt_append (pe_var (pos:=px) hN hv hd hcd) (pa_cons (he fun a=>H a=none).pe pa_nil hs) hbase hfew hline hs hplain) hsw pins s σ H D I ?_
 obtain ⟨a,vs,A',h1,h2,h3,h4⟩:=sq.lstAt hb
 refine ⟨.ref a,h1,.inl ⟨rfl,vs,SqL.of h2⟩,tQ.of (he fun a=>H a=none) (sq.withU (C:=C.z) (U:=fun a=>H a=none) fun a z=>z) q fun d k β' v H1 own1 ⟨f,ds,hb',hl,q⟩ o r=>?_⟩
 obtain ⟨a',vs',A1,g1,g2,g3,g4⟩:=o.sq.lstAt hb'
 rw [h1] at g1
 cases g1
 obtain ⟨A,r1,r2,r3⟩:=r.fl f
 have ha:a ∈ own1 i:=by rw [g3]; simp
 have nd:(a::(A1++A)).Nodup:=by
  have q:=o.sq.nod i
  rw [g3] at q
  refine List.nodup_cons.mpr ⟨fun z=>?_,List.nodup_append.mpr ⟨(List.nodup_cons.mp q).2,r2,fun x hx y hy e=>?_⟩⟩
  ·rcases List.mem_append.mp z with z | z
   ·exact (List.nodup_cons.mp q).1 z
   ·exact (r3 a z).2.1 ⟨i,ha⟩
  ·subst e
   exact (r3 x hy).2.1 ⟨i,by rw [g3]; simp [hx]⟩
 have hA:∀ b ∈ a::(A1++A),b ∈ own1 i∨(C.H0 b=none∧¬ Wn own1 b∧H b=none):=fun b hb=>by
  rcases List.mem_cons.mp hb with rfl | hb
  ·exact .inl ha
  ·rcases List.mem_append.mp hb with hb | hb
   ·exact .inl (by rw [g3]; simp [hb])
   ·exact .inr ⟨(r3 b hb).2.2,(r3 b hb).2.1,(r3 b hb).1⟩
 have kt:∀ b xs,H1 b=some (.tup xs)→upd H1 a (.lst (vs'++[v])) b=some (.tup xs):=fun b xs z=>by
  rw [upd_ne (fun z'=>by rw [z',g2] at z; cases z)]; exact z
 have ne1:∀ c ∈ A1,c≠a:=fun c hc z=>by
  have q:=o.sq.nod i
  rw [g3] at q
  exact (List.nodup_cons.mp q).1 (by rw [← z]; exact hc)
 have ne2:∀ c ∈ A,c≠a:=fun c hc z=>(r3 c hc).2.1 ⟨i,by rw [z]; exact ha⟩
 have r':Own X.prog X.w (upd H1 a (.lst (vs'++[v]))) (.lst (ds++[d])) (.ref a) (a::(A1++A)) :=
  ⟨a,vs'++[v],A1++A,rfl,upd_same,rfl,(g4.keep kt fun c hc oc ec=>by rw [upd_ne (ne1 c hc)]; exact ec).append (Owns.one (r1.keep kt fun c hc oc ec=>by rw [upd_ne (ne2 c hc)]; exact ec))⟩
 exact ⟨a,vs',v,rfl,rfl,g2,by rw [g4.length]; exact hl,ok.nx _ _ _ ⟨_,o.sq.putIn hb' h1 ha r' nd hA,sn_put (n.trans o.sn) (fun b z=>n.free z) ⟨i,ha⟩ ⟨_,g2,fun xs z=>by cases z⟩ hA⟩ q⟩
end
end L2.Q
end

noncomputable section
set_option Elab.async false
set_option linter.all false
set_option maxRecDepth 100000
namespace L2.Q
open PySem PySem.Spec PySem.SeqAt PyProof.Rows
abbrev GamQ:=D→Kd→Bet→(Bet→Prop)→Prop
abbrev GamQs:=List D→Kd→Bet→(Bet→Prop)→Prop
structure PBG (X:Cx) (C:Cfg) (tg:Expr) (T:List Nat) (γ:GamQ):Prop where
 mono:∀ d k β R R',(∀ r,R r→R' r)→γ d k β R→γ d k β R'
 pg:PG X tg fun v σ H Q=>∃ own β d k,SQ X C σ H β own∧Rp X (av' C (Wn own) k) H d v∧γ d k β fun β'=>∀ σ' own',SQ X C σ' H β' own'→(∀ a,Wn own' a→Wn own a)→(∀ j,j ∉ T→σ'[j]?=σ[j]?)→Q σ' H
structure PBGs (X:Cx) (C:Cfg) (tgs:List Expr) (T:List Nat) (γ:GamQs):Prop where
 mono:∀ d k β R R',(∀ r,R r→R' r)→γ d k β R→γ d k β R'
 pgs:PGs X tgs fun vs σ H Q=>∃ own β ds k,SQ X C σ H β own∧Rps X (av' C (Wn own) k) H ds vs∧γ ds k β fun β'=>∀ σ' own',SQ X C σ' H β' own'→(∀ a,Wn own' a→Wn own a)→(∀ j,j ∉ T→σ'[j]?=σ[j]?)→Q σ' H
section
variable {X:Cx} {C:Cfg} {tg:Expr} {tgs:List Expr} {γ:GamQ} {γs:GamQs} {T T':List Nat} {pos:Pos} {e:Expr} {φ:PhiQ} {p:Bool}
def gNm (i:Nat):GamQ:=fun d k β R=>kSt d k fun b=>R (β.set i (some b))
theorem pbg_name {i:Nat} {x:Str} (hN:X.N.Nodup) (hi:X.N[i]?=some x:=by rfl) (hx:Loc X.env.scope x:=by first | exact .inl rfl | exact .inr rfl)
  (hf:X.fn x=true∨X.env.scope.names.lookup x=some .local:=by first | exact .inl rfl | exact .inr rfl | assumption):PBG X C (.Name x pos) [i] (gNm i) :=
 ⟨fun d k β R R' h q=>kSt.mono (d:=d) (k:=k) (K:=fun b=>R (β.set i (some b))) (K':=fun b=>R' (β.set i (some b))) (fun _=>h _) q,(pg_name hN hi hx hf).pre fun v σ H Q hq1=>by
  obtain ⟨own,β,d,k,s,r,q⟩:=hq1
  have sne:∀ (v:V) (j:Nat),j ∉ [i]→(σ.set i (some v))[j]?=σ[j]?:=fun v j hj=>set_ne (Ne.symm (by simpa using hj))
  cases k with
  | own=>exact q _ _ (s.setVal (y:=true) r) (fun a h=>wn_set h) (sne v)
  | yng=>exact q _ _ (s.setVal (y:=true) r) (fun a h=>wn_set h) (sne v)
  | old=>exact q _ _ (s.setVal (y:=false) r) (fun a h=>wn_set h) (sne v)
  | bor=>exact q.2 _ _ (s.setVal (y:=true) (RepD.flat q.1 r)) (fun a h=>wn_set h) (sne v)⟩
abbrev sk (k:Kd):D→Kd
 | .int _=>.own
 | .bl _=>.own
 | .non=>.own
 | .str _=>.own
 | _=>k.wk
theorem sk_rep {P:Program} {w:World} {W:Addr→Prop} {H:Hp} {k:Kd} {d:D} {v:V} (r:RepD P w (av' C W k) H d v):RepD P w (av' C W (sk k d)) H d v:=by
 cases d with
 | int i=>exact RepD.flat rfl r
 | bl i=>exact RepD.flat rfl r
 | non=>exact RepD.flat rfl r
 | str i=>exact RepD.flat rfl r
 | _=>exact RepD.anti (fun a z=>z.imp (av_wk a) id) r
def gNil:GamQs:=fun ds _ β R=>ds=[]∧R β
def gCons (γ:GamQ) (γs:GamQs):GamQs:=fun ds k β R=>∃ d r,ds=d::r∧γ d (sk k d) β fun β'=>γs r k β' R
theorem pbgs_nil:PBGs X C [] [] gNil:=⟨fun d k β R R' h q=>⟨q.1,h _ q.2⟩,pgs_nil.pre fun vs σ H Q hq2=>by
 obtain ⟨own,β,ds,k,s,r,e,q⟩:=hq2
 subst e
 exact ⟨r,q σ own s (fun _ z=>z) fun _ _=>rfl⟩⟩
theorem pbgs_cons (h1:PBG X C tg T γ) (h2:PBGs X C tgs T' γs) (hs:(assignEach (tg::tgs) X.env).map (·.2)=assign tg X.env::(assignEach tgs X.env).map (·.2):=by rfl):PBGs X C (tg::tgs) (T++T') (gCons γ γs) :=
 ⟨fun ds k β R R' h hq3=>by obtain ⟨d,r,e,q⟩:=hq3; exact ⟨d,r,e,h1.mono _ _ β _ _ (fun β' q=>h2.mono r k β' _ _ h q) q⟩,
  (pgs_cons h1.pg h2.pgs hs).pre fun vs σ H Q hq4=>by
    obtain ⟨own,β,ds,k,s,rr,d,r,e,q⟩:=hq4
    subst e
    obtain ⟨v,vr,rfl,rv,rvr⟩:=rr
    exact ⟨v,vr,rfl,own,β,d,_,s,sk_rep rv,h1.mono _ _ β _ _ (fun β' q σ' own' s' w' t'=>⟨own',β',r,k,s',RepDs.anti (avp_mono w' k) rvr,h2.mono r k β' _ _ (fun β2 q2 σ2 own2 s2 w2 t2=>q2 σ2 own2 s2 (fun a z=>w' a (w2 a z)) fun j hj=>(t2 j fun z=>hj (List.mem_append_right _ z)).trans (t' j fun z=>hj (List.mem_append_left _ z))) q⟩) q⟩⟩
def gTp (n:Nat) (γs:GamQs):GamQ:=fun d k β R=>∃ ds,d=.tup ds∧ds.length=n∧γs ds k β R
theorem pbg_tup {k:Nat} {n:Nat} (hc:X.calm=true) (h:PBGs X C tgs T γs) (hn:(assignEach tgs X.env).length=n:=by rfl) (hst:(assignEach tgs X.env).findIdx? (·.1)=none:=by rfl):PBG X C (.Tuple tgs k pos) T (gTp n γs) :=
 ⟨fun d k β R R' hh hq5=>by obtain ⟨ds,e,l,q⟩:=hq5; exact ⟨ds,e,l,h.mono ds k β _ _ hh q⟩,(pg_tup hc h.pgs hn hst).pre fun v σ H Q hq6=>by
  obtain ⟨own,β,d,k,s,r,ds,e,l,q⟩:=hq6
  subst e
  obtain ⟨a,vs,rfl,ha,rs⟩:=r
  exact ⟨a,vs,rfl,SqT.of ha,by rw [rs.length]; exact l,own,β,ds,k,s,rs,q⟩⟩
theorem sn_less {Z:Hp × (Addr→Prop)} {H:Hp} {own own':Nat→List Addr} (n:Sn Z H (Wn own)) (h:∀ a,Wn own' a→Wn own a):Sn Z H (Wn own'):=⟨fun b z=>n.w b (h b z),n.k,n.d⟩
theorem pb_asg (he:PQ X C.z p e φ) (hg:PBG X C.z tg T γ) (hs:swapsWithSole [tg] e pos.line X.env=pure false:=by rfl) (hw:swappedStores [tg] e X.env=pure none:=by rfl)
  (h1:(assignEach [tg] X.env).map (·.2)=[assign tg X.env]:=by rfl):PB X C (.Assign [tg] e pos) (fun E β=>φ β fun d k β'=>γ d k β' E.nx) :=
 ⟨fun E E' β l q=>he.mono _ _ _ (fun d k β' q=>hg.mono _ _ _ _ _ l.nx q) q,(ps_asg he.pe hg.pg hs hw h1).pre fun D σ H ⟨Z,E,β,⟨own,s,n⟩,q,ok⟩=>tQ.of he s q fun d k β' v H' own' q o r =>
  ⟨own',β',d,k,o.sq,RepD.anti (fun a z=>z.elim id fun z=>z.elim) r.rep,hg.mono _ _ _ _ _ (fun β2 q σ2 own2 s2 w2 _=>ok.nx _ _ _ ⟨own2,s2,sn_less (n.trans o.sn) w2⟩ q) q⟩⟩
abbrev kRt (ro:Bool) (k:Kd) (d:D):Prop:=match k,ro with
 | .own,_=>True
 | .yng,false=>True
 | _,_=>d.flat=true
theorem newV_flat {P:Program} {w:World} {W:Addr→Prop} {ro:Bool} {H H':Hp} {d:D} {v:V} (f:d.flat=true) (r:RepD P w W H' d v):NewV P w ro H H' d v:=by
 cases ro with
 | true=>exact ⟨[],own_flat f r,List.nodup_nil,fun c hc=>(nomatch hc)⟩
 | false=>exact RepD.flat f r
theorem newV_of {P:Program} {w:World} {Z:Hp × (Addr→Prop)} {own:Nat→List Addr} {ro:Bool} {H':Hp} {k:Kd} {d:D} {v:V} (f:kRt ro k d) (r:KV P w C Z own H' k d v):NewV P w ro C.H0 H' d v:=by
 cases k with
 | own =>
  cases ro with
  | true=>obtain ⟨A,h1,h2,h3⟩:=r; exact ⟨A,h1,h2,fun c hc=>(h3 c hc).2.2⟩
  | false=>exact RepD.anti (fun a z=>.inr z) r.rep
 | yng =>
  cases ro with
  | true=>exact newV_flat f r.rep
  | false=>exact RepD.anti (fun a z=>.inr z) r.rep
 | old=>cases ro <;> exact newV_flat f r.rep
 | bor=>cases ro <;> exact newV_flat f r.rep
theorem pb_ret (he:PQ X C.z p e φ):PB X C (.Return (some e) pos) (fun E β=>φ β fun d k β'=>kRt C.ro k d∧E.rt d β') :=
 ⟨fun E E' β l q=>he.mono _ _ _ (fun d k β' q=>⟨q.1,l.rt _ _ q.2⟩) q,(ps_ret he.pe).pre fun D σ H hq9=>by obtain ⟨Z,E,β,⟨own,s,n⟩,q,ok⟩:=hq9; exact tQ.of he s q fun d k β' v H' own' q o r=>ok.rt _ _ _ _ _ (o.sb n) (newV_of (C:=C.z) q.1 r) q.2⟩
theorem pb_retV {i:Nat} {x:Str} {px:Pos} (hN:X.N[i]?=some x:=by rfl) (hv:Vis X.env.scope x:=by first | exact .inl rfl | exact .inr (.inl rfl) | exact .inr (.inr rfl)) (hd:(x == ("__debug__" : Str))=false:=by decide) (hcd:(x == ("__classdict__" : Str))=false:=by decide) :
  PB X C (.Return (some (.Name x px)) pos) (fun E β=>∃ d,β[i]?=some (some (.own d))∧E.rt d β) :=
 ⟨fun E E' β l hq10=>by obtain ⟨d,h1,q⟩:=hq10; exact ⟨d,h1,l.rt _ _ q⟩,(ps_ret (pe_var (pos:=px) hN hv hd hcd)).pre fun D σ H hq11=>by
  obtain ⟨Z,E,β,⟨own,s,n⟩,⟨d,h1,q⟩,ok⟩:=hq11
  obtain ⟨v,e1,r,h0⟩:=s.ow i d h1
  refine ⟨_,e1,ok.rt _ _ _ _ _ ⟨own,s,n⟩ ?_ q⟩
  cases hr:C.ro with
  | true=>exact ⟨_,r,s.nod i,h0⟩
  | false=>exact r.rep fun c hc z=>z (h0 c hc)⟩
end
abbrev PhiQI:=Bet→(List D→Kd→Bet→Prop)→Prop
structure PQI (X:Cx) (C:Cfg) (p:Bool) (tg iter:Expr) (ι:PhiQI):Prop where
 mono:∀ β R R',(∀ d k β,R d k β→R' d k β)→ι β R→ι β R'
 pi:PI X tg iter fun σ H R=>∃ β own,SQ X C σ H β own∧ι β fun ds k β'=>∀ J H' own',Out X C σ H own p β' H' own'→ItD X (av C (Wn own') k) J ds H'→R J H'
section
variable {X:Cx} {C:Cfg} {tg e a b:Expr} {φ:PhiQ} {φs:PhiQS} {p:Bool} {pp pos:Pos}
def iLst (φ:PhiQ):PhiQI:=fun β R=>φ β fun d k β'=>∃ ds,d=.lst ds∧R ds k β'
theorem pqi_list (h:PQ X C p e φ):PQI X C p tg e (iLst φ) :=
 ⟨fun β R R' k q=>h.mono β _ _ (fun d kd β' hq12=>by obtain ⟨ds,e,q⟩:=hq12; exact ⟨ds,e,k _ _ _ q⟩) q,(pi_list h.pe).pre fun σ H R ⟨β,own,s,q⟩=>tQ.of h s q fun d k β' v H1 own1 hq14 o1 r1=>by
  obtain ⟨ds,e,q1⟩:=hq14
  subst e
  obtain ⟨a,vs,rfl,h1,n1,q2⟩:=r1.rep
  exact ⟨a,rfl,⟨vs,SqL.of h1⟩,q1 _ _ own1 o1 (itd_list h1 n1 q2)⟩⟩
def iRange1 (φs:PhiQS):PhiQI:=fun β R=>φs β fun ds _ β'=>∃ j:Int,ds=[.int j]∧-(2 ^ 62)≤j∧j < 2 ^ 62∧R (rngD 0 j.toNat) .yng β'
def iRange2 (φs:PhiQS):PhiQI:=fun β R=>φs β fun ds _ β'=>∃ i j:Int,ds=[.int i,.int j]∧(-(2 ^ 62)≤i∧i < 2 ^ 62∧-(2 ^ 62)≤j∧j < 2 ^ 62)∧R (rngD i (j - i).toNat) .yng β'
theorem pqi_range1 (hm:X.mg "range" = none) (ha:PQA X C p [a] φs) (hg:Gl X "range" := by rfl) (hs:starEach [a] X.env=[(false,eval a X.env)]:=by rfl):PQI X C p tg (.Call (.Name "range" pp) [a] [] pos) (iRange1 φs) :=
 ⟨fun β R R' k q=>ha.mono β _ _ (fun d kd β' hq18=>by obtain ⟨j,e,h1,h2,q⟩:=hq18; exact ⟨j,e,h1,h2,k _ _ _ q⟩) q,(pi_range1 hg hm ha.pa hs).pre fun σ H R ⟨β,own,s,q⟩=>tQS.of ha s q fun ds ks β' vs H1 own1 hq20 o1 r1=>by
  obtain ⟨j,e,h1,h2,q1⟩:=hq20
  subst e
  obtain ⟨x,rfl,hx⟩:=args1 r1.reps
  cases hx
  exact ⟨j,rfl,h1,h2,q1 _ _ own1 o1 itd_range⟩⟩
theorem pqi_range2 (hm:X.mg "range" = none) (ha:PQA X C p [a,b] φs) (hg:Gl X "range" := by rfl) (hs:starEach [a,b] X.env=[(false,eval a X.env),(false,eval b X.env)]:=by rfl) (hs2:starEach [b] X.env=[(false,eval b X.env)]:=by rfl) :
  PQI X C p tg (.Call (.Name "range" pp) [a,b] [] pos) (iRange2 φs) :=
 ⟨fun β R R' k q=>ha.mono β _ _ (fun d kd β' hq21=>by obtain ⟨i,j,e,h1,q⟩:=hq21; exact ⟨i,j,e,h1,k _ _ _ q⟩) q,(pi_range2 hg hm ha.pa hs hs2).pre fun σ H R ⟨β,own,s,q⟩=>tQS.of ha s q fun ds ks β' vs H1 own1 hq23 o1 r1=>by
  obtain ⟨i,j,e,h1,q1⟩:=hq23
  subst e
  obtain ⟨x,y,rfl,hx,hy⟩:=args2 r1.reps
  cases hx; cases hy
  exact ⟨i,j,rfl,h1,q1 _ _ own1 o1 itd_range⟩⟩
end
def forI (γ:GamQ) (ψ:Psi) (E:EndsB) (ds:List D) (k:Kd) (β:Bet):Prop:=∃ I:Nat→Bet→Prop,I 0 β∧(∀ i d β,ds[i]?=some d→I i β→γ d (sk k d) β fun β1=>ψ (E.lp (I (i+1))) β1)∧∀ β,I ds.length β→E.nx β
section
variable {X:Cx} {C:Cfg} {tg iter c:Expr} {γ:GamQ} {T:List Nat} {ψ:Psi} {ι:PhiQI} {τ:PhiQB} {body:List Stmt} {pos:Pos} {p:Bool}
theorem forI.mono {E E':EndsB} {ds:List D} {k:Kd} {β:Bet} (hγ:∀ d k β R R',(∀ r,R r→R' r)→γ d k β R→γ d k β R') (hψ:∀ E E' β,Le E E'→ψ E β→ψ E' β) (l:Le E E'):forI γ ψ E ds k β→forI γ ψ E' ds k β:=fun ⟨I,h0,h1,h2⟩ =>
 ⟨I,h0,fun i d β e q=>hγ d _ β _ _ (fun β1 q=>hψ { nx:=I (i+1),rt:=E.rt,bk:=E.nx,ct:=I (i+1) } { nx:=I (i+1),rt:=E'.rt,bk:=E'.nx,ct:=I (i+1) } β1 ⟨fun _ q=>q,l.rt,l.nx,fun _ q=>q⟩ q) (h1 i d β e q),fun β q=>l.nx _ (h2 β q)⟩
theorem av_grow {own own2:Nat→List Addr} {H H2:Hp} {k:Kd} (n:Sn (H,Wn own) H2 (Wn own2)):∀ b,av C (Wn own2) k b→av C (Wn own) k b∨H b=none:=fun b z=>by
 cases k with
 | own=>exact z.elim (fun z=>(n.w b z).imp .inl id) fun z=>.inl (.inr z)
 | yng=>exact z.elim (fun z=>(n.w b z).imp .inl id) fun z=>.inl (.inr z)
 | old=>exact n.w b z
 | bor=>exact z.elim
theorem pb_for (hp:PassesOwn (model X.prog X.w) X.A X.env X.xe) (hc:X.calm=true) (hi:PQI X C.z p tg iter ι) (hg:PBG X C.z tg T γ) (hb:PBs X C body ψ) (hs:∀ x,foldedSetIterable iter X.env x=pure x:=by intro _; rfl) :
  PB X C (.For tg iter body [] pos) (fun E β=>ι β fun ds k β1=>hold k false∧forI γ ψ E ds k β1) :=
 ⟨fun E E' β l q=>hi.mono _ _ _ (fun ds k β1 q=>⟨q.1,q.2.mono hg.mono hb.mono l⟩) q,(ps_for hp hc hi.pi hg.pg hb.ps hs).pre fun D σ H hq25=>by
  obtain ⟨Z,E,β,⟨own,s,n⟩,q,ok⟩:=hq25
  refine ⟨β,own,s,hi.mono _ _ _ (fun ds k β1 ⟨hk,I,i0,i1,i2⟩ J H1 own1 o1 it=>?_) q⟩
  have n':=n.trans o1.sn
  have ig:∀ b,Wn own1 b∨H1 b=none→av C.z (Wn own1) k b∨H1 b=none:=fun b z=>by
   cases k with
   | own=>exact z.imp .inl id
   | yng=>exact z.imp .inl id
   | old=>exact z
   | bor=>exact hk.elim
  have itw:=it (fun b=>av C.z (Wn own1) k b∨H1 b=none) fun b z=>z
  refine ⟨fun i m σ H=>i≤ds.length∧m=ds.length - i∧∃ β,SB X C (H1,Wn own1) σ H β∧I i β,⟨_,Nat.zero_le _,rfl,β1,⟨own1,o1.sq,Sn.refl⟩,i0⟩,?_⟩
  rintro i m σ2 H2 ⟨hi,rfl,β2,⟨own2,s2,n2⟩,hl⟩
  obtain ⟨it1,it2⟩:=itw i H2 (n2.k.mono ig)
  by_cases hlt:i < ds.length
  ·right
   have hd:ds[i]?=some ds[i]:=List.getElem?_eq_getElem hlt
   obtain ⟨go,yl⟩:=it1 _ hd
   refine ⟨go,fun σ' H'=>∃ β,SB X C (H1,Wn own1) σ' H' β∧I (i+1) β,fun σ' H' hq27=>by obtain ⟨β',sb',hl'⟩:=hq27; exact ⟨_,by omega,hlt,rfl,β',sb',hl'⟩,fun x H3 y=>?_⟩
   obtain ⟨s3,r3⟩:=yl x H3 y
   refine ⟨own2,β2,_,_,s2.same s3,sk_rep (C:=C.z) (RepD.anti (fun b z=>av_grow (C:=C) n2 b (z.elim id fun z=>z.elim)) r3),hg.mono _ _ _ _ _ (fun β4 q σ4 own4 s4 w4 _=>?_) (i1 i _ β2 hd hl)⟩
   refine ⟨(H1,Wn own1),_,β4,⟨own4,s4,sn_less (n2.same s3) w4⟩,q,⟨fun σ5 H5 β5 sb5 q5=>⟨β5,sb5,q5⟩,fun σ5 H5 β5 d5 v5 sb5 r5 q5=>?_,fun σ5 H5 β5 sb5 q5=>?_,fun σ5 H5 β5 sb5 q5=>⟨β5,sb5,q5⟩⟩⟩
   ·obtain ⟨own5,s5,n5⟩:=sb5
    exact ok.rt _ _ _ _ _ ⟨own5,s5,n'.trans n5⟩ r5 q5
   ·obtain ⟨own5,s5,n5⟩:=sb5
    exact ok.nx _ _ _ ⟨own5,s5,n'.trans n5⟩ q5
  ·left
   have e:i=ds.length:=by omega
   subst e
   exact ⟨it2 (Nat.le_refl _),ok.nx _ _ _ ⟨own2,s2,n'.trans n2⟩ (i2 β2 hl)⟩⟩
def whileB (τ:PhiQB) (ψ:Psi):Psi:=fun E β=>∃ V:Nat→Bet→Prop,(∃ m,V m β)∧∀ m β,V m β→τ β fun t β1=>if t=true then ψ { nx:=fun β'=>∃ m',m' < m∧V m' β',rt:=E.rt,bk:=E.nx,ct:=fun β'=>∃ m',m' < m∧V m' β' } β1 else E.nx β1
theorem pb_while (hp:PassesOwn (model X.prog X.w) X.A X.env X.xe) (hc:PQT X C.z p c τ) (hb:PBs X C body ψ):PB X C (.While c body [] pos) (whileB τ ψ) :=
 ⟨fun E E' β l ⟨V,h0,h⟩=>⟨V,h0,fun m β v=>hc.mono _ _ _ (fun t β1 q=>by
   cases t
   ·exact l.nx _ q
   ·exact hb.mono { nx:=fun β'=>∃ m',m' < m∧V m' β',rt:=E.rt,bk:=E.nx,ct:=fun β'=>∃ m',m' < m∧V m' β' } { nx:=fun β'=>∃ m',m' < m∧V m' β',rt:=E'.rt,bk:=E'.nx,ct:=fun β'=>∃ m',m' < m∧V m' β' } β1 ⟨fun _ q=>q,l.rt,l.nx,fun _ q=>q⟩ q) (h m β v)⟩,(ps_while hp hc.pt hb.ps).pre fun D σ H hq29=>by
  obtain ⟨Z,E,β,sb,⟨V,⟨m0,v0⟩,h⟩,ok⟩:=hq29
  refine ⟨fun m σ H=>∃ β,SB X C Z σ H β∧V m β,⟨m0,β,sb,v0⟩,fun m σ H ⟨β,⟨own,s,n⟩,v⟩=>?_⟩
  refine tQB.of hc s (h m β v) fun t β1 H1 own1 q o1=>?_
  cases t
  ·exact ok.nx _ _ _ (o1.sb n) q
  ·exact ⟨fun σ' H'=>∃ β',SB X C Z σ' H' β'∧∃ m',m' < m∧V m' β',fun σ' H' hq31=>by obtain ⟨β',sb',m',hm,v'⟩:=hq31; exact ⟨m',hm,β',sb',v'⟩,Z,_,β1,o1.sb n,q,fun σ' H' β' sb' q'=>⟨β',sb',q'⟩,ok.rt,ok.nx,fun σ' H' β' sb' q'=>⟨β',sb',q'⟩⟩⟩
end
def startB (N:List Str) (ds:List D):Bet:=ds.map (fun d=>some (.val false d))++List.replicate (N.length - ds.length) none
def startH (N:List Str) (ok:List Int→Prop) (ds:List D):Bet:=some (.hand ok)::(ds.map (fun d=>some (.val false d))++List.replicate (N.length - (ds.length+1)) none)
section
variable {P:Program} {w:World} {K:PySem.W.Frag} {mg:Str→Option Value} {base:Heap}
theorem rep_none {i n:Nat} {b:B} (h:(List.replicate n (none:Option B))[i]?=some (some b)):False:=by
 rw [List.getElem?_replicate] at h
 split at h <;> cases h
theorem start_get {ds:List D} {n i:Nat} {b:B} (h:(ds.map (fun d=>some (B.val false d))++List.replicate n none)[i]?=some (some b)):∃ d,ds[i]?=some d∧b=.val false d:=by
 by_cases hi:i < ds.length
 ·rw [List.getElem?_append_left (by simpa using hi),List.getElem?_map] at h
  cases q:ds[i]? with
  | none=>rw [q] at h; cases h
  | some d=>rw [q] at h; cases h; exact ⟨d,rfl,rfl⟩
 ·rw [List.getElem?_append_right (by simpa using hi)] at h
  exact (rep_none h).elim
theorem start_val {N:List Str} {vs:List V} {i:Nat} {v:V} (h:vs[i]?=some v):(start N vs)[i]?=some (some v):=by
 unfold start
 rw [List.getElem?_append_left (by simpa using (List.getElem?_eq_some_iff.mp h).1),List.getElem?_map,h]
 rfl
theorem sq_start {N:List Str} {vs:List V} {ds:List D} {H:Hp} {ro:Bool} (r:RepDs P w (fun _=>False) H ds vs):SQ' P w ⟨H,fun _=>False,ro,fun _=>False⟩ (start N vs) H (startB N ds) (fun _=>[]):=by
 refine ⟨?_,fun i y d h=>?_,fun i d h=>?_,fun i ok h=>?_,fun i a h=>(nomatch h),fun i j a h=>(nomatch h),fun i=>List.nodup_nil,Kp.refl,fun _ z=>z,fun i y d h=>by obtain ⟨d',e,e'⟩:=start_get h; cases e'⟩
 ·unfold startB start
  simp [r.length]
 ·obtain ⟨d',e,e'⟩:=start_get h
  cases e'
  obtain ⟨v,e1,e2⟩:=RepDs.get r e
  exact ⟨v,start_val e1,RepD.anti (fun a z=>z.elim (fun hq32=>by obtain ⟨_,q⟩:=hq32; exact (nomatch q)) fun z=>z) e2⟩
 ·obtain ⟨d',e,e'⟩:=start_get h; cases e'
 ·obtain ⟨d',e,e'⟩:=start_get h; cases e'
theorem okQ {x qual:Str} {st:Stmt} {f:Addr} {fd:FuncData} {N ps:List Str} {k:Nat} {F:FD} {ro:Bool} (G:Fun K x qual st f fd) (S:FnScope N ps (defScope st)) (len:∀ ds R,F ds R→ds.length=ps.length)
  (hbody:∀ (cdv:Value) (A:Around) (outer:List Env) (s:Shared) (H:Hp) (E:XK),Room k (A.deeper (envOfC qual (defScope st) s.heap.objs.size f cdv)) →
   ∃ ψ,PBs (cxOf CX0 P w K mg base N qual (defScope st) f cdv A outer s H E).nox ⟨H,fun _=>False,ro,fun _=>False⟩ (defBody st) ψ∧∀ ds R,F ds R→ψ { nx:=fun _=>R .non,rt:=fun d _=>R d } (startB N ds)) :
  FnOk P w K mg base CX0 (k+1) f fd ps (spQ P w ro F):=by
 refine G.ok S (fun vs H Q E h=>?_) (fun cdv A outer s H vs Q E hr h=>?_)
 ·obtain ⟨ds,r,h⟩:=h
  rw [r.length]
  exact len ds _ h
 ·obtain ⟨ds,r,h⟩:=h
  obtain ⟨ψ,hb,hF⟩:=hbody cdv A outer s H E hr
  refine ⟨_,hb.ps,(H,Wn fun _=>[]),_,startB N ds,⟨fun _=>[],sq_start r,Sn.refl⟩,hF ds _ h,fun σ H' β sb q=>?_,fun σ H' β d v sb rr q=>?_,fun _ _ _ _ z=>z.elim,fun _ _ _ _ z=>z.elim⟩
  ·obtain ⟨own,s',n'⟩:=sb
   exact q _ H' (fun b o e=>s'.kp.out b o e (fun z=>z)) (newV_flat (W:=fun _=>False) rfl rfl)
  ·obtain ⟨own,s',n'⟩:=sb
   exact q _ H' (fun b o e=>s'.kp.out b o e (fun z=>z)) rr
theorem sq_startH {N:List Str} {ok:List Int→Prop} {h:Addr} {ns:List Int} {vs:List V} {ds:List D} {H:Hp} {ro:Bool} (hh:H h=some (.lst (ns.map V.int))) (ho:ok ns) (r:RepDs P w (fun a=>a=h) H ds vs) :
  SQ' P w ⟨H,(·=h),ro,fun _=>False⟩ (start N (.ref h::vs)) H (startH N ok ds) (fun i=>if i=0 then [h] else []):=by
 have own0:∀ {i:Nat} {a:Addr},a ∈ (if i=0 then [h] else ([]:List Addr))→i=0∧a=h:=fun {i a} q=>by
  by_cases e:i=0
  ·rw [if_pos e] at q; exact ⟨e,by simpa using q⟩
  ·rw [if_neg e] at q; cases q
 have getv:∀ {i:Nat} {b:B},(startH N ok ds)[i]?=some (some b)→(i=0∧b=.hand ok)∨∃ j d,i=j+1∧ds[j]?=some d∧b=.val false d:=fun {i b} q=>by
  unfold startH at q
  cases i with
  | zero=>simp at q; exact .inl ⟨rfl,q.symm⟩
  | succ i =>
   rw [List.getElem?_cons_succ] at q
   obtain ⟨d,e,e'⟩:=start_get q
   exact .inr ⟨i,d,rfl,e,e'⟩
 refine ⟨?_,fun i y d q=>?_,fun i d q=>?_,fun i ok' q=>?_,fun i a q=>?_,fun i j a h1 h2=>?_,fun i=>?_,Kp.refl,fun _ z=>z,fun i y d q=>(getv q).elim (fun ⟨_,e⟩=>by cases e) (fun ⟨j,d',_,_,e'⟩=>by cases e')⟩
 ·unfold startH start
  simp [r.length]
 ·rcases getv q with ⟨_,e⟩ | ⟨j,d',rfl,e,e'⟩
  ·cases e
  ·cases e'
   obtain ⟨v,e1,e2⟩:=RepDs.get r e
   exact ⟨v,start_val (by simpa using e1),RepD.anti (fun a z=>z.elim (fun hq33=>by obtain ⟨j,q⟩:=hq33; exact (own0 q).2) fun z=>z.elim) e2⟩
 ·rcases getv q with ⟨_,e⟩ | ⟨j,d',_,_,e'⟩
  ·cases e
  ·cases e'
 ·rcases getv q with ⟨e0,e⟩ | ⟨j,d',_,_,e'⟩
  ·cases e
   subst e0
   exact ⟨h,ns,start_val rfl,hh,ho,rfl,.inr rfl⟩
  ·cases e'
 ·obtain ⟨_,rfl⟩:=own0 q
  exact ⟨by rw [hh]; exact fun z=>(nomatch z),fun xs z=>(by rw [hh] at z; cases z),.inr rfl,fun z=>z⟩
 ·rw [(own0 h1).1,(own0 h2).1]
 ·by_cases e:i=0
  ·simp [e]
  ·simp [e]
theorem okQH {x qual:Str} {st:Stmt} {f:Addr} {fd:FuncData} {N ps:List Str} {k:Nat} {F:FD} {ok:List Int→Prop} {ro:Bool} (G:Fun K x qual st f fd) (S:FnScope N ps (defScope st)) (len:∀ ds R,F ds R→ds.length+1=ps.length)
  (hbody:∀ (cdv:Value) (A:Around) (outer:List Env) (s:Shared) (H:Hp) (E:XK) (IO:Addr→Prop),Room k (A.deeper (envOfC qual (defScope st) s.heap.objs.size f cdv)) →
   ∃ ψ,PBs (cxOf CX0 P w K mg base N qual (defScope st) f cdv A outer s H E).nox ⟨H,IO,ro,fun _=>False⟩ (defBody st) ψ∧∀ ds R,F ds R→ψ { nx:=fun _=>False,rt:=fun d β=>β[0]?=some (some (.hand ok))∧R d } (startH N ok ds)) :
  FnOk P w K mg base CX0 (k+1) f fd ps (spQH P w ok ro F):=by
 refine G.ok S (fun vs H Q E h=>?_) (fun cdv A outer s H vs Q E hr h=>?_)
 ·obtain ⟨h,vs',ds,ns,rfl,hh,ho,r,q⟩:=h
  rw [List.length_cons,r.length]
  exact len ds _ q
 ·obtain ⟨h,vs',ds,ns,rfl,hh,ho,r,q⟩:=h
  obtain ⟨ψ,hb,hF⟩:=hbody cdv A outer s H E (·=h) hr
  refine ⟨_,hb.ps,(H,_),_,startH N ok ds,⟨_,sq_startH hh ho r,Sn.refl⟩,hF ds _ q,fun σ H' β sb z=>z.elim,fun σ H' β d v sb rr ⟨b0,q⟩=>?_,fun _ _ _ _ z=>z.elim,fun _ _ _ _ z=>z.elim⟩
  obtain ⟨own,s',n'⟩:=sb
  obtain ⟨a,ns',g1,g2,g3,g4,g5⟩:=s'.hnd 0 ok b0
  have ea:a=h:=g5.elim (fun z=>(z h rfl).elim) fun z=>z
  subst ea
  exact q v H' ns' s'.kp s'.dmn g2 g3 rr
end
end L2.Q
end


noncomputable section
set_option Elab.async false
set_option linter.all false
set_option maxRecDepth 100000
namespace L2
open PySem PySem.Spec PySem.SeqAt PyProof.Rows
theorem PTs.pre {X:Cx} {ifs:List Expr} {t t':TT} (h:PTs X ifs t) (k:∀ σ H Q,t' σ H Q→t σ H Q):PTs X ifs t':=fun pins s σ H Q I q=>h pins s σ H Q I (k σ H Q q)
section
variable {P:Program} {w:World} {H0:Hp} {IO W0:Addr→Prop} {σ:St} {H H':Hp} {β:Bet} {W W':Addr→Prop} {own:Nat→List Addr}
end
section
variable {X:Cx} {C:Cfg} {a elt:Expr} {x:Str} {scope:Scope} {N':List Str} {lk:List (Option Nat)} {ih ih' kx:Nat} {νs:PhiNS} {ν:PhiN} {p pos px tp:Pos}
end
end L2
end

noncomputable section
set_option Elab.async false
set_option linter.all false
set_option maxRecDepth 100000
namespace L2
open PySem PySem.Spec PyProof.Rows
section
variable {X:Cx} {e:Expr} {g:Comprehension} {gs:List Comprehension} {scope:Scope} {N':List Str} {lk:List (Option Nat)} {tg:Addr→TG} {tt:Addr→TT} {wi:TI}
theorem comp_block2 {newAcc:Sem Value} {o:HO} {after:Value→Env→Sem Fin→Sem Fin} {ta:Addr→TAft} (L:Links X scope N' lk) (hc:X.calm=true) (hA:NewAcc X newAcc o)
  (F:∀ acc env,CForm e 0 g acc env (after acc env))
  (hin:∀ a cl C s H ex,PG (compCx X scope N' cl C s H ex) g.target (tg a)∧PTs (compCx X scope N' cl C s H ex) g.ifs (tt a)∧PAft (compCx X scope N' cl C s H ex) (after (.ref a) (compCx X scope N' cl C s H ex).env) (ta a))
  {cl:List (Str × Addr)} (hc1:∀ x,(x,NameKind.free) ∈ scope.names→∃ c,cl.lookup x=some c) (hc2:∀ x c,cl.lookup x=some c→X.env.cells.lookup x=some c)
  {pins:List (Addr × Obj)} {σ:St} {s:Shared} {Q:V→Hp→Prop} {itv:Value} {E:Value→Shared→Prop} {RR:Value→Addr→Result→Shared→Prop}
  (h:PIE X pins σ g.target (fun J H1=>∀ a,H1 a=none→tLoop J (tg a) (tt a) (ta a) (fun _ H'=>Q (.ref a) H') (inSt lk σ) (upd H1 a o)) itv s)
  (hR:∀ a H' C s',Inv X pins σ H' s'→FpOk X pins H' C→(∃ m,s'.heap.Ns C m)→Q (.ref a) H'→RR (.ref a) C (.ok .next) s') :
  wpAny (model X.prog X.w) X.A newAcc (fun acc s₃=>wpAny (model X.prog X.w) X.A (newFunctionEnv scope X.env.globals cl [] X.env.qual none .none (some X.env)) (fun cenv s₄ =>
   codeAny (model X.prog X.w) X.A (.compStart e 0 itv acc { cenv with scope:=relabel scope X.env }) (RR acc cenv.locals) s₄) E s₃) E s:=by
 obtain ⟨it,fp,tn,J,H2,e1,I2,T,st2,f2,hl⟩:=h
 subst e1
 refine hA.ok pins s σ H2 _ E I2 fun a s3 ha hn hk I3=>?_
 refine wpAny_newFunctionEnv L.nocell (by intro y hy; simp at hy) (fun h₁ hns₁ hsb₁=>?_) L.kind
 have hob:∀ b ∈ fp,∃ o,s3.heap.get? b=some o:=fun b hb=>by
  obtain ⟨ob,q,_⟩:=T.obj _ _ st2 b hb
  exact ⟨ob,hk b ob q⟩
 have hba:∀ b ∈ fp,b≠a:=fun b hb=>by
  obtain ⟨ob,q,_⟩:=T.obj _ _ st2 b hb
  exact Nat.ne_of_lt (Nat.lt_of_lt_of_le (Heap.lt_size q) ha)
 have f3:∀ b ∈ fp,FpOk X pins (upd H2 a o) b:=fun b hb=>⟨by rw [upd_ne (hba b hb)]; exact (f2 b hb).1,(f2 b hb).2⟩
 have hk1:∀ b ob,s3.heap.get? b=some ob→h₁.get? b=some ob:=fun b ob q=>hsb₁.extBut b ob (Nat.ne_of_lt (Heap.lt_size q)) (Heap.get?_push_of_some _ q)
 have hns:h₁.Ns s3.heap.objs.size (fun _=>none):=hns₁
 have I4:=inv_comp (t':=s3.toks+([]:List (Str × Value)).length) I3 L f3 hob hc1 hc2 hns hk1
 obtain ⟨g1,g2,g3⟩:=hin a cl s3.heap.objs.size s3 (upd H2 a o) fp
 have f4:∀ b ∈ fp,FpOk (compCx X scope N' cl s3.heap.objs.size s3 (upd H2 a o) fp) [] (upd H2 a o) b:=fun b hb =>
  ⟨(f3 b hb).1,(I4.ok.exf b hb).1,I4.ok.exfs b hb,.inl hb,(I4.ok.exf b hb).2,fun p hp=>absurd (show p ∈ ([]:List (Addr × Obj)) from hp) (by simp)⟩
 have st4:tn 0 h₁:=T.keep 0 _ _ st2 fun b hb ob q=>hk1 b ob (hk b ob q)
 refine codeAny_mono (comp_start (X:=compCx X scope N' cl s3.heap.objs.size s3 (upd H2 a o) fp) rfl hc (F (.ref a) _) g1 g2 g3 T I4 st4 f4 (hl a hn)) fun r s' hr=>?_
 obtain ⟨rfl,σ',H',J',q⟩:=hr
 have I5:Inv X pins σ H' s':=inv_back (C:=s3.heap.objs.size) (h'':=s'.heap) I3 f3 J' (.refl ..)
 refine hR a H' s3.heap.objs.size s' I5 (I3.fpOk (Nat.le_refl _) J'.free) ?_ q
 obtain ⟨m,hm,_⟩:=J'.loc
 exact ⟨m,hm⟩
theorem pe_comp2 {newAcc:Sem Value} {o:HO} {after:Value→Env→Sem Fin→Sem Fin} {ta:Addr→TAft} {pos:Pos} (L:Links X scope N' lk) (hc:X.calm=true) (hA:NewAcc X newAcc o)
  (hev:eval e X.env=comprehension e scope X.env pos newAcc false (eval g.iter X.env)) (hcl:clausesOf e=g::gs)
  (F:∀ acc env,CForm e 0 g acc env (after acc env)) (hi:PI X g.target g.iter wi)
  (hin:∀ a cl C s H ex,PG (compCx X scope N' cl C s H ex) g.target (tg a)∧PTs (compCx X scope N' cl C s H ex) g.ifs (tt a)∧PAft (compCx X scope N' cl C s H ex) (after (.ref a) (compCx X scope N' cl C s H ex).env) (ta a))
  (hs:∀ x,foldedSetIterable g.iter X.env x=pure x) :
  PE X e (fun σ H Q=>wi σ H fun J H1=>∀ a,H1 a=none→tLoop J (tg a) (tt a) (ta a) (fun _ H'=>Q (.ref a) H') (inSt lk σ) (upd H1 a o)):=by
 intro pins s σ H Q I h
 rw [hev]
 obtain ⟨cl,hclos,hc1,hc2⟩:=closureFor_of (env:=X.env) (scope:=scope) fun x hx=>I.ok.has x (L.free x hx)
 refine wpAny_comprehension_free (use:=none) hcl hs hclos L.kind L.names (thn (hi pins s σ H _ I h) fun v s1 h1=>thn h1 fun itv s2 h2=>?_)
 refine comp_block2 (RR:=fun acc C=>compPost (model X.prog X.w) X.A X.xe none (EP X pins σ Q) acc C) L hc hA F hin hc1 hc2 h2 fun a H' C s' I' f ⟨m,hm⟩ q=>?_
 exact ⟨m,hm,fun h' hsb=>⟨.ref a,H',I'.sameBut f hsb,rfl,q⟩⟩
theorem ps_comp2 {newAcc:Sem Value} {o:HO} {after:Value→Env→Sem Fin→Sem Fin} {ta:Addr→TAft} {pos pos' spos:Pos} {y:Str} {i:Nat} (L:Links X scope N' lk) (hc:X.calm=true) (hA:NewAcc X newAcc o)
  (hsw:swapsWith e (some (.Name y pos')) spos.line X.env=pure true)
  (hev:evalThenUse e X.env (assign (.Name y pos') X.env)=(do let _ ← comprehension e scope X.env pos newAcc false (eval g.iter X.env) (some (assign (.Name y pos') X.env)); pure ())) (hcl:clausesOf e=g::gs)
  (hN:X.N.Nodup) (hy:X.N[i]?=some y) (hx:Loc X.env.scope y) (hf:X.fn y=true∨X.env.scope.names.lookup y=some .local)
  (F:∀ acc env,CForm e 0 g acc env (after acc env)) (hi:PI X g.target g.iter wi)
  (hin:∀ a cl C s H ex,PG (compCx X scope N' cl C s H ex) g.target (tg a)∧PTs (compCx X scope N' cl C s H ex) g.ifs (tt a)∧PAft (compCx X scope N' cl C s H ex) (after (.ref a) (compCx X scope N' cl C s H ex).env) (ta a))
  (hs:∀ x,foldedSetIterable g.iter X.env x=pure x) :
  PS X (.Assign [.Name y pos'] e spos) (fun D σ H=>wi σ H fun J H1=>∀ a,H1 a=none→tLoop J (tg a) (tt a) (ta a) (fun _ H'=>D.nx (σ.set i (some (.ref a))) H') (inSt lk σ) (upd H1 a o)):=by
 intro pins s σ H D I h
 rw [exec_Assign_Name_used _ _ _ _ hsw,hev]
 refine wpAny_bind (wpAny_standAt (wpAny_bind (wpAny_bind ?_)))
 obtain ⟨cl,hclos,hc1,hc2⟩:=closureFor_of (env:=X.env) (scope:=scope) fun x hx=>I.ok.has x (L.free x hx)
 refine thn (wpAny_comprehension_free (use:=some (assign (.Name y pos') X.env)) (Q:=fun _ s'=>SP X pins D .next s') hcl hs hclos L.kind L.names (thn (hi pins s σ H _ I h) fun v s1 h1=>thn h1 fun itv s2 h2=>?_)) fun _ s' q=>wpAny_pure (wpAny_pure q)
 refine comp_block2 (Q:=fun v H'=>D.nx (σ.set i (some v)) H') (RR:=fun acc C=>compPost (model X.prog X.w) X.A X.xe (some (assign (.Name y pos') X.env)) (fun _ s'=>SP X pins D .next s') acc C) L hc hA F hin hc1 hc2 h2 fun a H' C s' I' f ⟨m,hm⟩ q=>?_
 show wpAny _ _ (assign (.Name y pos') X.env (.ref a)) _ _ s'
 have hCL:∃ o,s'.heap.get? C=some o:=by obtain ⟨o,_,_,ho,_⟩:=hm; exact ⟨o,ho⟩
 refine wpAny_assign_Name (store_ok2 I' hN hy hx (v:=.ref a) (u:=.ref a) rfl (fun s4 I4 k4=>?_) hf)
 obtain ⟨a4,sb4,ha4⟩:=k4
 have hne:C≠a4:=by
  rcases ha4 with z | z
  ·rw [z]; exact f.2.1
  ·exact (f.2.2.2.2.1 y a4 z).symm
 exact ⟨m,hm.at' (fun o e=>(sb4.2 C hne).trans e),fun h' hsb=>⟨_,H',I4.sameBut f hsb,q⟩⟩
end
end L2
end

noncomputable section
set_option Elab.async false
set_option linter.all false
set_option maxRecDepth 100000
namespace L2.Q
open PySem PySem.Spec PySem.SeqAt PyProof.Rows
def inB:Option B→Option B
 | some (.own d)=>some (.val false d)
 | some (.shl _ d)=>some (.val false d)
 | b=>b
def inBet (lk:List (Option Nat)) (β:Bet):Bet:=lk.map fun l=>match l with | some j=>(match β[j]? with | some b=>inB b | none=>none) | none=>none
def isH:Option (Option B)→Bool
 | some (some (.hand _))=>true
 | _=>false
def inOwn (lk:List (Option Nat)) (β:Bet) (own:Nat→List Addr) (i:Nat):List Addr:=match lk[i]? with
 | some (some j)=>if isH β[j]?=true then own j else []
 | _=>[]
def hndOk:Bet→Bet→Prop
 | [],_=>True
 | some (.hand ok)::a,c=>c.head?=some (some (.hand ok))∧hndOk a c.tail
 | _::a,c=>hndOk a c.tail
theorem hndOk.get:∀ {a c:Bet} {i:Nat} {ok:List Int→Prop},hndOk a c→a[i]?=some (some (.hand ok))→c[i]?=some (some (.hand ok))
 | [],_,_,_,_,e=>by simp at e
 | x::a,c,0,ok,h,e=>by
  simp at e
  subst e
  rw [← List.head?_eq_getElem?]
  exact h.1
 | x::a,c,i+1,ok,h,e=>by
  have h':hndOk a c.tail:=by
   cases x with
   | none=>exact h
   | some x=>cases x <;> first | exact h | exact h.2
  have:=hndOk.get (i:=i) h' (by simpa using e)
  rwa [List.getElem?_tail] at this
section
variable {P:Program} {w:World} {C:Cfg} {σ σ':St} {H H' H1:Hp} {β βi:Bet} {own owni:Nat→List Addr} {lk:List (Option Nat)} {a:Addr}
theorem inOwn_sub {i:Nat} {c:Addr} (h:c ∈ inOwn lk β own i):∃ j,lk[i]?=some (some j)∧isH β[j]?=true∧c ∈ own j:=by
 unfold inOwn at h
 split at h
 ·next j e =>
  by_cases q:isH β[j]?=true
  ·rw [if_pos q] at h; exact ⟨j,e,q,h⟩
  ·rw [if_neg q] at h; cases h
 ·cases h
theorem inOwn_le:∀ c,Wn (inOwn lk β own) c→Wn own c:=fun c ⟨i,h⟩=>let ⟨j,_,_,h⟩:=inOwn_sub h; ⟨j,h⟩
theorem inSt_get {i j:Nat} {v:V} (h:lk[i]?=some (some j)) (e:σ[j]?=some (some v)):(inSt lk σ)[i]?=some (some v):=by
 unfold inSt
 rw [List.getElem?_map,h]
 simp only [Option.map_some]
 rw [e]
theorem inBet_get {i:Nat} {b:B} (h:(inBet lk β)[i]?=some (some b)):∃ j b',lk[i]?=some (some j)∧β[j]?=some (some b')∧inB (some b')=some b:=by
 unfold inBet at h
 rw [List.getElem?_map] at h
 cases q:lk[i]? with
 | none=>rw [q] at h; cases h
 | some l =>
  rw [q] at h
  cases l with
  | none=>cases h
  | some j =>
   simp only [Option.map_some] at h
   cases q2:β[j]? with
   | none=>rw [q2] at h; cases h
   | some b2 =>
    rw [q2] at h
    simp only [Option.some.injEq] at h
    cases b2 with
    | none=>cases h
    | some b'=>exact ⟨j,b',rfl,q2,h⟩
theorem SQ'.enter (s:SQ' P w C σ H β own) (ha:H a=none) (inj:∀ (i i' j:Nat),lk[i]?=some (some j)→lk[i']?=some (some j)→i=i') :
  SQ' P w (C.u fun c=>c=a) (inSt lk σ) (upd H a (.lst [])) (inBet lk β) (inOwn lk β own):=by
 have sm:Same H (upd H a (.lst [])):=Same.new ha
 have na:∀ {i c},c ∈ own i→c≠a:=fun {i c} hc z=>(s.dm i c hc).1 (by rw [z]; exact ha)
 have gr:∀ k,∀ c,av' (C.u fun c=>c=a) (Wn (inOwn lk β own)) k c→av' C (Wn own) k c∨H c=none:=fun k c z=>by
  rcases z with z | z
  ·exact .inl (.inl (av_mono inOwn_le k c z))
  ·exact .inr (by rw [z]; exact ha)
 refine ⟨by unfold inBet inSt; simp,fun i y d e=>?_,fun i d e=>?_,fun i ok e=>?_,fun i c h=>?_,fun i i' c h1 h2=>?_,fun i=>?_,s.kp.trans sm.kp,fun c z e=>s.dmn c z (sm.free e),fun i y d e=>by
  obtain ⟨j,b',e1,e2,e3⟩:=inBet_get e
  cases b' <;> cases e3⟩
 ·obtain ⟨j,b',e1,e2,e3⟩:=inBet_get e
  cases b' with
  | val y' d' =>
   cases e3
   obtain ⟨v,h1,h2⟩:=s.val j y d e2
   exact ⟨v,inSt_get e1 h1,(RepD.grow (gr _) h2).same sm⟩
  | own d' =>
   cases e3
   obtain ⟨v,h1,h2,h3⟩:=s.ow j d e2
   refine ⟨v,inSt_get e1 h1,RepD.same sm (h2.rep fun c hc z=>?_)⟩
   rcases z with z | z
   ·obtain ⟨i',hi'⟩:=z
    obtain ⟨j',q1,q2,q3⟩:=inOwn_sub hi'
    have:=s.dis j j' c hc q3
    subst this
    rw [e2] at q2
    cases q2
   ·exact na hc z
  | hand ok=>cases e3
  | shl y' d' =>
   cases e3
   obtain ⟨v,h1,h2,h3⟩:=s.shl j y' d e2
   refine ⟨v,inSt_get e1 h1,RepD.same sm (h2.rep (fun c hc z=>?_) fun ds vs r=>RepDs.grow (fun c z=>?_) r)⟩
   ·rcases z with z | z
    ·obtain ⟨i',hi'⟩:=z
     obtain ⟨j',q1,q2,q3⟩:=inOwn_sub hi'
     have:=s.dis j j' c hc q3
     subst this
     rw [e2] at q2
     cases q2
    ·exact na hc z
   ·rcases gr _ c z with z | z
    ·refine .inl ?_
     rcases z with z | z
     ·cases y' with
      | true=>exact .inl (.inl z)
      | false=>exact .inl z
     ·exact .inr z
    ·exact .inr z
 ·obtain ⟨j,b',e1,e2,e3⟩:=inBet_get e
  cases b' <;> cases e3
 ·obtain ⟨j,b',e1,e2,e3⟩:=inBet_get e
  cases b' with
  | val y' d'=>cases e3
  | own d'=>cases e3
  | shl y d=>cases e3
  | hand ok' =>
   cases e3
   obtain ⟨h,ns,h1,h2,h3,h4,h5⟩:=s.hnd j ok e2
   refine ⟨h,ns,inSt_get e1 h1,sm _ _ h2,h3,?_,h5⟩
   unfold inOwn
   rw [e1]
   simp only
   rw [e2]
   exact (if_pos rfl).trans h4
 ·obtain ⟨j,q1,q2,q3⟩:=inOwn_sub h
  obtain ⟨g1,g2,g3,g4⟩:=s.dm j c q3
  rw [upd_ne (na q3)]
  exact ⟨g1,g2,g3,na q3⟩
 ·obtain ⟨j,q1,q2,q3⟩:=inOwn_sub h1
  obtain ⟨j',q1',q2',q3'⟩:=inOwn_sub h2
  have:=s.dis j j' c q3 q3'
  subst this
  exact inj _ _ _ q1 q1'
 ·unfold inOwn
  split
  ·next j e =>
   split
   ·exact s.nod j
   ·exact List.nodup_nil
  ·exact List.nodup_nil
theorem SQ'.setU {o:HO} (s:SQ' P w (C.u fun c=>c=a) σ H β own) {oa:HO} (ha:H a=some oa) (ht:∀ xs,oa≠.tup xs) (h0:C.H0 a=none):SQ' P w (C.u fun c=>c=a) σ (upd H a o) β own:=by
 have k:Kp (·=a) H (upd H a o):=kp_upd ha ht
 have na:∀ {i c},c ∈ own i→c≠a:=fun {i c} hc=>(s.dm i c hc).2.2.2
 refine ⟨s.len,fun i y d e=>let ⟨v,h1,h2⟩:=s.val i y d e; ⟨v,h1,h2.keep (k.mono fun c z=>.inr z)⟩,fun i d e=>let ⟨v,h1,h2,h3⟩:=s.ow i d e; ⟨v,h1,h2.keep k.tup (fun c hc oc ec=>k.out c oc ec (na hc)),h3⟩,
  fun i ok e=>?_,fun i c h=>?_,s.dis,s.nod,⟨fun c oc z n=>k.out c oc (s.kp.out c oc z n) fun q=>?_,fun c xs z=>k.tup c xs (s.kp.tup c xs z)⟩,fun c z=>?_,fun i y d e=>let ⟨v,h1,h2,h3⟩:=s.shl i y d e; ⟨v,h1,h2.map (fun c hc oc ec=>k.out c oc ec (na hc)) (fun _ _ r=>r.keep (k.mono fun c z=>.inr z)),h3⟩⟩
 ·obtain ⟨h,ns,h1,h2,h3,h4,h5⟩:=s.hnd i ok e
  exact ⟨h,ns,h1,k.out h _ h2 (na (by rw [h4]; simp)),h3,h4,h5⟩
 ·rw [upd_ne (na h)]
  exact s.dm i c h
 ·rw [q,h0] at z; cases z
 ·by_cases q:c=a
  ·rw [q,upd_same]; exact fun z=>(nomatch z)
  ·rw [upd_ne q]; exact s.dmn c z
theorem SQ'.leave (s:SQ' P w C σ H1 β own) (i:SQ' P w (C.u fun c=>c=a) σ' H' βi owni) (n:Sn (H1,Wn (inOwn lk β own)) H' (Wn owni)) (le:∀ c,Wn owni c→Wn (inOwn lk β own) c)
  (hh:hndOk (inBet lk β) βi) (hσ:∀ (j:Nat) (ok:List Int→Prop) (i:Nat),β[j]?=some (some (B.hand ok))→lk[i]?=some (some j)→σ'[i]?=(inSt lk σ)[i]?):SQ' P w C σ H' β own:=by
 have off:∀ {j c},c ∈ own j→¬ Wn (inOwn lk β own) c→∀ o,H1 c=some o→H' c=some o:=fun {j c} hc nw o e=>n.k.out c o e fun z=>z.elim nw fun z=>(s.dm j c hc).1 z
 have hsep:∀ {j c},c ∈ own j→isH β[j]?=false→¬ Wn (inOwn lk β own) c:=fun {j c} hc q hq2=>by
  obtain ⟨i',hi'⟩:=hq2
  obtain ⟨j',q1,q2,q3⟩:=inOwn_sub hi'
  have:=s.dis j j' c hc q3
  subst this
  rw [q] at q2
  cases q2
 have hN:∀ (j:Nat) (ok:List Int→Prop),β[j]?=some (some (B.hand ok))→∃ a ns,σ[j]?=some (some (V.ref a))∧H' a=some (.lst (ns.map V.int))∧ok ns∧own j=[a]∧((∀ b,¬ C.IO b)∨C.IO a):=fun j ok e=>by
  obtain ⟨h,ns,h1,h2,h3,h4,h5⟩:=s.hnd j ok e
  by_cases q:Wn (inOwn lk β own) h
  ·obtain ⟨i',hi'⟩:=q
   obtain ⟨j',q1,q2,q3⟩:=inOwn_sub hi'
   have:=s.dis j j' h (by rw [h4]; simp) q3
   subst this
   have eB:(inBet lk β)[i']?=some (some (.hand ok)):=by
    unfold inBet
    rw [List.getElem?_map,q1]
    simp only [Option.map_some]
    rw [e]
    rfl
   obtain ⟨h',ns',g1,g2,g3,g4,g5⟩:=i.hnd i' ok (hh.get eB)
   rw [hσ j ok i' e q1,inSt_get q1 h1] at g1
   cases g1
   exact ⟨h,ns',h1,g2,g3,h4,h5⟩
  ·exact ⟨h,ns,h1,off (by rw [h4]; simp) q _ h2,h3,h4,h5⟩
 refine ⟨s.len,fun j y d e=>?_,fun j d e=>?_,hN,fun j c hc=>?_,s.dis,s.nod,i.kp,i.dmn,fun j y d e=>by
  obtain ⟨v,h1,h2,h3⟩:=s.shl j y d e
  refine ⟨v,h1,h2.map (fun c hc o eo=>off hc (hsep hc (by rw [e]; rfl)) o eo) (fun ds vs r=>?_),h3⟩
  have g:RepDs P w (fun c=>av' C (Wn own) (yk y) c∨H1 c=none) H1 ds vs:=RepDs.grow (fun c z=>z) r
  refine RepDs.anti (fun c z=>.inl z) (g.keep (n.k.mono fun c z=>z.imp (fun z=>?_) id))
  cases y with
  | true=>exact .inl (.inl (inOwn_le c z))
  | false=>exact .inl (inOwn_le c z)⟩
 ·obtain ⟨v,h1,h2⟩:=s.val j y d e
  have g:RepD P w (fun c=>av' C (Wn own) (yk y) c∨H1 c=none) H1 d v:=RepD.grow (fun c z=>z) h2
  refine ⟨v,h1,RepD.anti (fun c z=>.inl z) (g.keep (n.k.mono fun c z=>z.imp (fun z=>?_) id))⟩
  cases y with
  | true=>exact .inl (.inl (inOwn_le c z))
  | false=>exact .inl (inOwn_le c z)
 ·obtain ⟨v,h1,h2,h3⟩:=s.ow j d e
  exact ⟨v,h1,h2.keep n.k.tup (fun c hc o eo=>off hc (hsep hc (by rw [e]; rfl)) o eo),h3⟩
 ·obtain ⟨g1,g2,g3,g4⟩:=s.dm j c hc
  by_cases q:Wn (inOwn lk β own) c
  ·obtain ⟨i',hi'⟩:=q
   obtain ⟨j',q1,q2,q3⟩:=inOwn_sub hi'
   have:=s.dis j j' c hc q3
   subst this
   cases e:β[j]? with
   | none=>rw [e] at q2; cases q2
   | some b =>
    rw [e] at q2
    cases b with
    | none=>cases q2
    | some b =>
     cases b with
     | val y d=>cases q2
     | own d=>cases q2
     | shl y d=>cases q2
     | hand ok =>
      obtain ⟨h,ns,k1,k2,k3,k4,k5⟩:=hN j ok e
      rw [k4] at hc
      rw [List.mem_singleton.mp hc] at g3 g4 ⊢
      rw [k2]
      exact ⟨fun z=>(nomatch z),fun xs z=>(by cases z),g3,g4⟩
  ·cases e:H1 c with
   | none=>exact absurd e g1
   | some o=>rw [off hc q o e]; exact ⟨fun z=>(nomatch z),fun xs z=>g2 xs (by rw [e]; exact z),g3,g4⟩
end
def tauT:PhiQB:=fun β R=>R true β
theorem pqts_nil {X:Cx} {C:Cfg}:PTs X [] (tQB X C true tauT):=pts_nil.pre fun σ H Q ⟨β,own,s,q⟩=>q H own (Out.refl s _)
theorem pqts_one {X:Cx} {C:Cfg} {p:Bool} {c:Expr} {τ:PhiQB} (h:PQT X C p c τ):PTs X [c] (tQB X C p τ):=pts_one h.pt
def loopQ (γ:GamQ) (τ:PhiQB) (φ:PhiQ) (ds:List D) (k:Kd) (β0:Bet) (K:List D→Prop):Prop:=∃ I:Nat→Bet→List D→Prop,I 0 β0 [] ∧
 (∀ i d β o,ds[i]?=some d→I i β o→γ d (sk k d) β fun β1=>τ β1 fun t β2=>if t=true then φ β2 fun x kx β3=>kFl kx x∧o.length < sizeLine∧I (i+1) β3 (o++[x]) else I (i+1) β2 o)∧∀ β o,I ds.length β o→hndOk β0 β∧K o
theorem loopQ.mono {γ:GamQ} {τ:PhiQB} {φ:PhiQ} {ds:List D} {k:Kd} {β0:Bet} {K K':List D→Prop} (h:∀ o,K o→K' o) (q:loopQ γ τ φ ds k β0 K):loopQ γ τ φ ds k β0 K':=let ⟨I,h0,h1,h2⟩:=q; ⟨I,h0,h1,fun β o z=>⟨(h2 β o z).1,h _ (h2 β o z).2⟩⟩
section
variable {X:Cx} {C:Cfg} {lk:List (Option Nat)} {γ:GamQ} {τ:PhiQB} {φ:PhiQ} {T:List Nat} {pc pe:Bool}
theorem comp_core {σ:St} {H1:Hp} {β:Bet} {own:Nat→List Addr} {a:Addr} {J:It} {ds:List D} {k:Kd} {K:List D→Prop} {End:Hp→Prop}
  (γm:∀ d k β R R',(∀ r,R r→R' r)→γ d k β R→γ d k β R') (τm:∀ β R R',(∀ d β,R d β→R' d β)→τ β R→τ β R') (φm:∀ β R R',(∀ d k β,R d k β→R' d k β)→φ β R→φ β R')
  (inj:∀ (i i' j:Nat),lk[i]?=some (some j)→lk[i']?=some (some j)→i=i') (hT:∀ i ∈ T,∀ j,lk[i]?≠some (some j))
  (s1:SQ X C σ H1 β own) (ha:H1 a=none) {hp:Bool} (hpp:hp=true→(pc && pe)=true) (hk:hold k hp) (it:ItD X (av C (Wn own) k) J ds H1) (q:loopQ γ τ φ ds k (inBet lk β) K)
  (fin:∀ o H',K o→Out X C σ H1 own (pc && pe) β H' own→KV X.prog X.w C (H1,Wn own) own H' .own (.lst o) (.ref a)→End H') :
  tLoop J (fun v σ H Q=>∃ own β d k,SQ X (C.u fun c=>c=a) σ H β own∧Rp X (av' (C.u fun c=>c=a) (Wn own) k) H d v∧γ d k β fun β'=>∀ σ' own',SQ X (C.u fun c=>c=a) σ' H β' own'→(∀ a,Wn own' a→Wn own a)→(∀ j,j ∉ T→σ'[j]?=σ[j]?)→Q σ' H)
   (tQB X (C.u fun c=>c=a) pc τ) (fun N σ H=>tQ X (C.u fun c=>c=a) pe φ σ H fun v H1=>∃ xs,H1 a=some (.lst xs)∧xs.length < sizeLine∧N σ (upd H1 a (.lst (xs++[v]))))
   (fun _ H'=>End H') (inSt lk σ) (upd H1 a (.lst [])):=by
 obtain ⟨I,i0,i1,i2⟩:=q
 have h0:C.H0 a=none:=Decidable.by_contra fun z=>s1.dmn a z ha
 have sm:Same H1 (upd H1 a (.lst [])):=Same.new ha
 have nWa:∀ c,Wn (inOwn lk β own) c→c≠a:=fun c z e=>by
  obtain ⟨j,hj⟩:=inOwn_le c z
  exact (s1.dm j c hj).1 (by rw [e]; exact ha)
 let S:Nat→St→Hp→Prop:=fun i σ' H'=>∃ βi owni vs o A,SQ X (C.u fun c=>c=a) σ' H' βi owni∧Sn (H1,Wn (inOwn lk β own)) H' (Wn owni)∧(∀ c,Wn owni c→Wn (inOwn lk β own) c)∧H' a=some (.lst vs)∧Owns X.prog X.w H' o vs A∧A.Nodup∧(∀ c ∈ A,H1 c=none∧c≠a) ∧
  ((pc && pe)=true→Same H1 H')∧(∀ j,j ∉ T→σ'[j]?=(inSt lk σ)[j]?)∧I i βi o
 have W':Addr→Prop:=fun b=>av C (Wn own) k b∨H1 b=none
 have itw:=it (fun b=>av C (Wn own) k b∨H1 b=none) fun b z=>z
 have kI:∀ {H':Hp} {owni:Nat→List Addr},Sn (H1,Wn (inOwn lk β own)) H' (Wn owni)→((pc && pe)=true→Same H1 H')→Kp (fun b=>av C (Wn own) k b∨H1 b=none) H1 H':=fun n pu=>by
  cases k with
  | own=>exact n.k.mono fun b z=>z.imp (fun z=>.inl (inOwn_le b z)) id
  | yng=>exact n.k.mono fun b z=>z.imp (fun z=>.inl (inOwn_le b z)) id
  | old=>exact n.k.mono fun b z=>z.imp (inOwn_le b) id
  | bor =>
   cases hp with
   | false=>exact hk.elim
   | true=>exact (pu (hpp rfl)).kp.mono fun b z=>.inr z
 refine ⟨fun i m σ' H'=>i≤ds.length∧m=ds.length - i∧S i σ' H',⟨_,Nat.zero_le _,rfl,inBet lk β,inOwn lk β own,[],[],[],s1.enter ha inj,⟨fun b z=>.inl z,sm.kp,fun b z e=>z (sm.free e)⟩,fun _ z=>z,upd_same,⟨rfl,rfl⟩,List.nodup_nil,fun c hc=>(nomatch hc),fun _=>sm,fun _ _=>rfl,i0⟩,?_⟩
 rintro i m σ2 H2 ⟨hi,rfl,βi,owni,vs,o,A,sq,sn,le,hav,os,nd,nw,pu,st,hl⟩
 obtain ⟨it1,it2⟩:=itw i H2 (kI sn pu)
 by_cases hlt:i < ds.length
 ·right
  have hd:ds[i]?=some ds[i]:=List.getElem?_eq_getElem hlt
  obtain ⟨go,yl⟩:=it1 _ hd
  refine ⟨go,fun σ' H'=>S (i+1) σ' H',fun σ' H' h=>⟨_,by omega,hlt,rfl,h⟩,fun x H3 y=>?_⟩
  obtain ⟨s3,r3⟩:=yl x H3 y
  have avs:∀ {owni:Nat→List Addr},(∀ c,Wn owni c→Wn (inOwn lk β own) c)→∀ c,av' (C.u fun c=>c=a) (Wn owni) k c→av C (Wn own) k c∨H1 c=none:=fun le c z=>z.elim (fun z=>.inl (av_mono (fun c z=>inOwn_le c (le c z)) k c z)) fun z=>.inr (by rw [z]; exact ha)
  refine ⟨owni,βi,_,_,sq.same s3,sk_rep (RepD.anti (avs le) r3),γm _ _ _ _ _ (fun β4 q σ4 own4 s4 w4 t4=>?_) (i1 i _ βi o hd hl)⟩
  have le4:∀ c,Wn own4 c→Wn (inOwn lk β own) c:=fun c z=>le c (w4 c z)
  refine ⟨β4,own4,s4,τm _ _ _ (fun t β5 q H5 own5 o5=>?_) q⟩
  have na5:∀ c,Wn own5 c→Wn (inOwn lk β own) c:=fun c z=>le4 c (o5.le c z)
  have keep5:∀ c,c ∈ a::A→∀ oc,H2 c=some oc→H5 c=some oc:=fun c hc oc e=>by
   refine o5.sn.k.out c oc (s3 c oc e) fun z=>?_
   rcases z with z | z
   ·rcases List.mem_cons.mp hc with rfl | hc
    ·exact nWa _ (le4 _ z) rfl
    ·obtain ⟨j,hj⟩:=inOwn_le c (le4 c z)
     exact (s1.dm j c hj).1 (nw c hc).1
   ·exact absurd ((s3 c oc e).symm.trans z) (fun z=>(nomatch z))
  have kt5:∀ b xs,H2 b=some (.tup xs)→H5 b=some (.tup xs):=fun b xs e=>o5.sn.k.tup b xs (s3 b _ e)
  have os5:Owns X.prog X.w H5 o vs A:=os.keep kt5 fun c hc oc e=>keep5 c (by simp [hc]) oc e
  have sn5:Sn (H1,Wn (inOwn lk β own)) H5 (Wn own5):=(sn_less (sn.same s3) w4).trans o5.sn
  have pu5:(pc && pe)=true→Same H1 H5:=fun z=>((pu z).trans s3).trans (o5.pu (andL z)).1
  have st4:∀ j,j ∉ T→σ4[j]?=(inSt lk σ)[j]?:=fun j hj=>(t4 j hj).trans (st j hj)
  cases t with
  | false=>exact ⟨β5,own5,vs,o,A,o5.sq,sn5,na5,keep5 a (by simp) _ hav,os5,nd,nw,pu5,st4,q⟩
  | true =>
   refine ⟨β5,own5,o5.sq,φm _ _ _ (fun xd kx β6 ⟨f,hz,q⟩ v H6 own6 o6 r6=>?_) q⟩
   obtain ⟨B',r1,r2,r3'⟩:=r6.fl f
   have hav5:H5 a=some (.lst vs):=keep5 a (by simp) _ hav
   have keep6:∀ c,c ∈ a::A→∀ oc,H5 c=some oc→H6 c=some oc:=fun c hc oc e=>by
    refine o6.sn.k.out c oc e fun z=>?_
    rcases z with z | z
    ·rcases List.mem_cons.mp hc with rfl | hc
     ·exact nWa _ (na5 _ z) rfl
     ·obtain ⟨j,hj⟩:=inOwn_le c (na5 c z)
      exact (s1.dm j c hj).1 (nw c hc).1
    ·exact absurd (e.symm.trans z) (fun z=>(nomatch z))
   have hav6:H6 a=some (.lst vs):=keep6 a (by simp) _ hav5
   have os6:Owns X.prog X.w H6 o vs A:=os5.keep o6.sn.k.tup fun c hc oc e=>keep6 c (by simp [hc]) oc e
   have neA:∀ c ∈ A,c≠a:=fun c hc=>(nw c hc).2
   have neB:∀ c ∈ B',c≠a:=fun c hc z=>by rw [z] at hc; exact absurd (hav5.symm.trans (r3' a hc).1) (fun z=>(nomatch z))
   have kt:∀ b xs,H6 b=some (.tup xs)→upd H6 a (.lst (vs++[v])) b=some (.tup xs):=fun b xs z=>by rw [upd_ne (fun z'=>by rw [z',hav6] at z; cases z)]; exact z
   refine ⟨vs,hav6,by rw [os6.length]; exact hz,β6,own6,vs++[v],o++[xd],A++B',o6.sq.setU hav6 (fun xs z=>by cases z) h0,?_,fun c z=>na5 c (o6.le c z),upd_same,?_,?_,fun c hc=>?_,fun z=>?_,st4,q⟩
   ·have m:=sn5.trans o6.sn
    refine ⟨m.w,m.k.trans ((kp_upd hav6 (fun xs z=>by cases z)).mono fun b z=>.inr (by rw [z]; exact ha)),fun b z e=>?_⟩
    by_cases hb:b=a
    ·rw [hb,upd_same] at e; cases e
    ·rw [upd_ne hb] at e; exact m.d b z e
   ·exact (os6.keep kt fun c hc oc e=>by rw [upd_ne (neA c hc)]; exact e).append (Owns.one (r1.keep kt fun c hc oc e=>by rw [upd_ne (neB c hc)]; exact e))
   ·refine List.nodup_append.mpr ⟨nd,r2,fun x hx y hy e=>?_⟩
    subst e
    have:=(r3' x hy).1
    exact (os5.dom x hx).1 this
   ·rcases List.mem_append.mp hc with hc | hc
    ·exact nw c hc
    ·exact ⟨sn5.free (r3' c hc).1,neB c hc⟩
   ·refine fun b ob e=>?_
    rw [upd_ne (fun z'=>by rw [z',ha] at e; cases e)]
    exact (o6.pu (andR z)).1 b ob (pu5 z b ob e)
 ·left
  have e:i=ds.length:=by omega
  subst e
  obtain ⟨hh,q⟩:=i2 βi o hl
  have lv:SQ X C σ H2 β own:=s1.leave sq sn le hh fun j ok i' e1 e2=>st i' fun z=>hT i' z j e2
  refine ⟨it2 (Nat.le_refl _),fin o H2 q ⟨lv,⟨fun b z=>.inl z,sn.k.mono fun b z=>z.imp (inOwn_le b) id,sn.d⟩,fun z=>⟨pu z,rfl⟩,fun _ z=>z⟩ ⟨a::A,⟨a,vs,A,rfl,hav,rfl,os⟩,List.nodup_cons.mpr ⟨fun z=>(nw a z).2 rfl,nd⟩,fun c hc=>?_⟩⟩
  have hc1:H1 c=none:=by
   rcases List.mem_cons.mp hc with rfl | hc
   ·exact ha
   ·exact (nw c hc).1
  exact ⟨hc1,fun hq5=>by obtain ⟨j,hj⟩:=hq5; exact (s1.dm j c hj).1 hc1,Decidable.by_contra fun z=>s1.dmn c z hc1⟩
theorem links_inj {scope:Scope} {N':List Str} (L:Links X scope N' lk) (hN:N'.Nodup):∀ (i i' j:Nat),lk[i]?=some (some j)→lk[i']?=some (some j)→i=i':=fun i i' j h1 h2=>by
 obtain ⟨x,a1,a2,_⟩:=L.link i j h1
 obtain ⟨y,b1,b2,_⟩:=L.link i' j h2
 rw [a2] at b2
 cases b2
 exact (List.getElem?_inj (List.getElem?_eq_some_iff.mp a1).1 hN).mp (a1.trans b1.symm)
def qComp (lk:List (Option Nat)) (ι:PhiQI) (γ:GamQ) (τ:PhiQB) (φ:PhiQ):PhiQ:=fun β R=>ι β fun ds k β1=>hold k false∧loopQ γ τ φ ds k (inBet lk β1) fun o=>R (.lst o) .own β1
variable {scope:Scope} {N':List Str} {tg it1 elt:Expr} {ifs:List Expr} {ι:PhiQI} {pi:Bool} {pos pos' spos:Pos} {y:Str} {i:Nat}
theorem pq_lc (L:Links X scope N' lk) (hN':N'.Nodup) (hT:T.all (fun i=>match lk[i]? with | some (some _)=>false | _=>true)=true) (hc:X.calm=true) (hi:PQI X C pi tg it1 ι)
  (htg:∀ a cl c s H ex,PBG (compCx X scope N' cl c s H ex) (C.u fun c=>c=a) tg T γ) (hts:∀ a cl c s H ex,PTs (compCx X scope N' cl c s H ex) ifs (tQB (compCx X scope N' cl c s H ex) (C.u fun c=>c=a) pc τ)) (τm:∀ β R R',(∀ d β,R d β→R' d β)→τ β R→τ β R')
  (hel:∀ a cl c s H ex,PQ (compCx X scope N' cl c s H ex) (C.u fun c=>c=a) pe elt φ) (γm:∀ d k β R R',(∀ r,R r→R' r)→γ d k β R→γ d k β R') (φm:∀ β R R',(∀ d k β,R d k β→R' d k β)→φ β R→φ β R')
  (hs:∀ x,foldedSetIterable it1 X.env x=pure x:=by intro _; rfl):PQ X C (pi && (pc && pe)) (.ListComp elt [⟨tg,it1,ifs,0⟩] scope pos) (qComp lk ι γ τ φ):=by
 have hT':∀ i ∈ T,∀ j,lk[i]?≠some (some j):=fun i hi j e=>by
  have:=List.all_eq_true.mp hT i hi
  rw [e] at this
  cases this
 refine ⟨fun β R R' k h=>hi.mono β _ _ (fun ds kd β1 q=>⟨q.1,q.2.mono fun o z=>k _ _ _ z⟩) h,?_⟩
 refine (pe_comp2 (g:=⟨tg,it1,ifs,0⟩) (gs:=[]) (tg:=fun a v σ H Q=>∃ own β d k,SQ X (C.u fun c=>c=a) σ H β own∧Rp X (av' (C.u fun c=>c=a) (Wn own) k) H d v∧γ d k β fun β'=>∀ σ' own',SQ X (C.u fun c=>c=a) σ' H β' own'→(∀ a,Wn own' a→Wn own a)→(∀ j,j ∉ T→σ'[j]?=σ[j]?)→Q σ' H)
  (tt:=fun a=>tQB X (C.u fun c=>c=a) pc τ) (ta:=fun a N σ H=>tQ X (C.u fun c=>c=a) pe φ σ H fun v H1=>∃ xs,H1 a=some (.lst xs)∧xs.length < sizeLine∧N σ (upd H1 a (.lst (xs++[v]))))
  L hc new_list rfl rfl (fun _ _=>cf_l1) hi.pi (fun a cl c s H ex=>⟨(htg a cl c s H ex).pg,hts a cl c s H ex,pa_emitL rfl (hel a cl c s H ex).pe⟩) hs).pre fun σ H Q ⟨β,own,s,h⟩=>?_
 refine ⟨β,own,s,hi.mono β _ _ (fun ds k β1 ⟨hk,q⟩ J H1 own1 o1 it a ha=>?_) h⟩
 exact comp_core γm τm φm (links_inj L hN') hT' o1.sq ha (hp:=false) (fun z=>by cases z) hk it q fun o H' q o2 r=>q _ _ own1 (o1.trans o2) (r.later o1.sn)
theorem ps_lc {K:D→Bet→EndsB→Prop} (L:Links X scope N' lk) (hN':N'.Nodup) (hT:T.all (fun i=>match lk[i]? with | some (some _)=>false | _=>true)=true) (hc:X.calm=true) (hi:∀ U,PQI X (C.u U) pi tg it1 ι)
  (htg:∀ U cl c s H ex,PBG (compCx X scope N' cl c s H ex) (C.u U) tg T γ) (hts:∀ U cl c s H ex,PTs (compCx X scope N' cl c s H ex) ifs (tQB (compCx X scope N' cl c s H ex) (C.u U) pc τ)) (τm:∀ β R R',(∀ d β,R d β→R' d β)→τ β R→τ β R')
  (hel:∀ U cl c s H ex,PQ (compCx X scope N' cl c s H ex) (C.u U) pe elt φ) (γm:∀ d k β R R',(∀ r,R r→R' r)→γ d k β R→γ d k β R') (φm:∀ β R R',(∀ d k β,R d k β→R' d k β)→φ β R→φ β R') (o:Bool)
  (hN:X.N.Nodup) (hy:X.N[i]?=some y:=by rfl) (hx:Loc X.env.scope y:=by first | exact .inl rfl | exact .inr rfl) (hf:X.fn y=true∨X.env.scope.names.lookup y=some .local:=by first | exact .inl rfl | exact .inr rfl | assumption)
  (hsw:swapsWith (.ListComp elt [⟨tg,it1,ifs,0⟩] scope pos) (some (.Name y pos')) spos.line X.env=pure true:=by rfl)
  (hev:evalThenUse (.ListComp elt [⟨tg,it1,ifs,0⟩] scope pos) X.env (assign (.Name y pos') X.env)=(do let _ ← comprehension (.ListComp elt [⟨tg,it1,ifs,0⟩] scope pos) scope X.env (firstIterPos [⟨tg,it1,ifs,0⟩] pos) (newList []) false (eval it1 X.env) (some (assign (.Name y pos') X.env)); pure ()):=by first | rfl | exact arm_evalThenUse_ListComp ..)
  (hs:∀ x,foldedSetIterable it1 X.env x=pure x:=by intro _; rfl) :
  PB X C (.Assign [.Name y pos'] (.ListComp elt [⟨tg,it1,ifs,0⟩] scope pos) spos) (fun E β=>qComp lk ι γ τ φ β fun d _ β'=>E.nx (β'.set i (some (match o with | true=>.own d | false=>.val true d)))):=by
 have hT':∀ i ∈ T,∀ j,lk[i]?≠some (some j):=fun i hi j e=>by
  have:=List.all_eq_true.mp hT i hi
  rw [e] at this
  cases this
 refine ⟨fun E E' β l h=>(hi fun _=>False).mono β _ _ (fun ds kd β1 q=>⟨q.1,q.2.mono fun o z=>l.nx _ z⟩) h,fun pins s σ H D I0 ⟨Z,E,β,⟨own,sq,n⟩,h,ok⟩=>?_⟩
 refine ps_comp2 (g:=⟨tg,it1,ifs,0⟩) (gs:=[]) (tg:=fun a v σ H Q=>∃ own β d k,SQ X (C.u fun c=>c=a) σ H β own∧Rp X (av' (C.u fun c=>c=a) (Wn own) k) H d v∧γ d k β fun β'=>∀ σ' own',SQ X (C.u fun c=>c=a) σ' H β' own'→(∀ a,Wn own' a→Wn own a)→(∀ j,j ∉ T→σ'[j]?=σ[j]?)→Q σ' H)
  (tt:=fun a=>tQB X (C.u fun c=>c=a) pc τ) (ta:=fun a N σ H=>tQ X (C.u fun c=>c=a) pe φ σ H fun v H1=>∃ xs,H1 a=some (.lst xs)∧xs.length < sizeLine∧N σ (upd H1 a (.lst (xs++[v]))))
  L hc new_list hsw hev rfl hN hy hx hf (fun _ _=>cf_l1) (hi fun a=>H a=none).pi (fun a cl c s H ex=>⟨(htg _ cl c s H ex).pg,hts _ cl c s H ex,pa_emitL rfl (hel _ cl c s H ex).pe⟩) hs pins s σ H D I0 ?_
 refine ⟨β,own,sq.withU (C:=C.z) (U:=fun a=>H a=none) fun a z=>z,(hi fun _=>False).mono β _ _ (fun ds k β1 ⟨hk,q⟩ J H1 own1 o1 it a ha=>?_) h⟩
 refine comp_core (C:=C.u fun a=>H a=none) γm τm φm (links_inj L hN') hT' o1.sq ha (hp:=false) (fun z=>by cases z) hk it q fun ol H' q o2 r=>?_
 have r':=r.later o1.sn
 have oo:=o1.trans o2
 have m:=n.trans oo.sn
 cases o with
 | false=>exact ok.nx _ _ _ ⟨_,(SQ'.noU oo.sq).setVal (RepD.anti (fun a z=>z.elim id fun z=>z.elim) (KV.rep r')),sn_frz m⟩ q
 | true =>
  obtain ⟨A,h1,h2,h3⟩:=r'
  refine ok.nx _ _ _ ⟨_,oo.sq.setOwn h1 h2 fun c hc=>⟨(h3 c hc).2.2,(h3 c hc).2.1,(h3 c hc).1⟩,?_⟩ q
  exact ⟨fun b hq10=>by
   obtain ⟨j,hj⟩:=hq10
   by_cases hij:i=j
   ·rw [← hij,os_eq] at hj
    exact .inr (n.free (h3 b hj).1)
   ·rw [os_ne hij] at hj
    exact m.w b ⟨j,hj⟩,m.k,m.d⟩
end
end L2.Q
end


noncomputable section
set_option Elab.async false
set_option linter.all false
set_option maxRecDepth 100000
set_option maxHeartbeats 1000000
namespace Zp
open PySem PySem.Spec PyProof.Rows
structure Drw (prog:Program) (w:World) (i l:Addr) (vs:List Value) (St:Nat→Heap→Prop) (Ct:Heap→Prop):Prop where
 obj:∀ k h,St k h→∃ o,h.get? i=some o∧∀ v,o.data≠.cell v
 keep:∀ k h h',St k h→(∀ o,h.get? i=some o→h'.get? i=some o)→St k h'
 kept:∀ h h',Ct h→(∀ o,h.get? l=some o→h'.get? l=some o)→Ct h'
 item:∀ (A:Around) (E:Value→Shared→Prop) (s:Shared) (k:Nat) (x:Value) (Q:Value→Shared→Prop),St k s.heap→Ct s.heap→vs[k]?=some x →
  (∀ h',St (k+1) h'→Heap.SameBut i s.heap h'→Q x { s with heap:=h' })→wpAny (model prog w) A (Builtin.SmallTypes.nextOf (.ref i)) Q E s
 done:∀ (A:Around) (E:Value→Shared→Prop) (s:Shared) (k:Nat) (Q:Value→Shared→Prop),A.handled=none→St k s.heap→Ct s.heap→vs[k]?=none →
  (∀ h' e,Heap.ExtBut i s.heap h'→(∃ o,h'.get? e=some o∧o.cls=.type "StopIteration")→E (.ref e) { s with heap:=h' })→wpAny (model prog w) A (Builtin.SmallTypes.nextOf (.ref i)) Q E s
variable {prog:Program} {w:World}
theorem drw_list {i l:Addr} {vs:List Value}:Drw prog w i l vs (fun k h=>h.IsListIter i l k) (fun h=>h.IsList l vs.toArray) where
 obj:=fun k h ⟨o,a,_,d⟩=>⟨o,a,fun v z=>by rw [d] at z; cases z⟩
 keep:=fun k h h' a k1=>a.at k1
 kept:=fun h h' b k2=>b.at k2
 item:=fun A E s k x Q a b hx q=>wpAny_nextOf_list_item a b (by simpa using hx) fun h' a' sb=>q h' a' sb
 done:=fun A E s k Q hh a b hx q=>wpAny_nextOf_list_end hh a b (by simpa using hx) q
theorem next_tup {A:Around} {E:Value→Shared→Prop} {s:Shared} {i l:Addr} {k:Nat} {its:Array Value} {x:Value} {Q:Value→Shared→Prop} (a:s.heap.IsTupleIter i l k) (b:s.heap.IsTuple l its) (hx:its[k]?=some x)
  (q:∀ h',h'.IsTupleIter i l (k+1)→Heap.SameBut i s.heap h'→Q x { s with heap:=h' }):wpAny (model prog w) A (Builtin.SmallTypes.nextOf (.ref i)) Q E s:=by
 have hT:=a.typeIs
 obtain ⟨oi,gi,ci,di⟩:=a
 obtain ⟨ol,gl,cl,nl,dl⟩:=b
 unfold Builtin.SmallTypes.nextOf
 apply wpAny_bind
 apply wpAny_callSpecial?_slot (name:=Str.ofString "__next__") hT F.slot_tuple_iterator_next
 apply wpAny_call_entry F.slot_tuple_iterator_next hT F.entry_tuple_iterator_next _ (F.args_tuple_iterator_next_1 _)
 change wpAny (model prog w) _ (field (.ref i) 0 >>= _) _ _ s
 apply wpAny_bind; apply wpAny_field gi di (x:=.ref l) rfl
 rw [if_neg (by intro z; cases z)]
 change wpAny (model prog w) _ (field (.ref i) 1 >>= _) _ _ s
 apply wpAny_bind; apply wpAny_field gi di (x:=.int k 0) rfl
 change wpAny (model prog w) _ (seqItems? (.ref l) >>= _) _ _ s
 apply wpAny_bind; apply wpAny_seqItems gl dl
 simp only [Int.toNat_natCast,hx]
 apply wpAny_bind; apply wpAny_setField gi di (by simp)
 refine wpAny_pure ⟨x,rfl,?_⟩
 refine wpAny_pure (q _ ⟨_,Heap.get?_update_self _ gi (Obj.isFreed_of_fields (Obj.data_mapFields di _)),?_,?_⟩ (Heap.SameBut.update ..))
 ·rw [Obj.cls_mapFields]; exact ci
 ·rw [Obj.data_mapFields di]; simp [rawInt]
theorem end_tup {A:Around} {E:Value→Shared→Prop} {s:Shared} {i l:Addr} {k:Nat} {its:Array Value} {Q:Value→Shared→Prop} (hh:A.handled=none) (a:s.heap.IsTupleIter i l k) (b:s.heap.IsTuple l its) (hx:its[k]?=none)
  (q:∀ h' e,Heap.ExtBut i s.heap h'→(∃ o,h'.get? e=some o∧o.cls=.type "StopIteration")→E (.ref e) { s with heap:=h' }):wpAny (model prog w) A (Builtin.SmallTypes.nextOf (.ref i)) Q E s:=by
 have hT:=a.typeIs
 obtain ⟨oi,gi,ci,di⟩:=a
 obtain ⟨ol,gl,cl,nl,dl⟩:=b
 unfold Builtin.SmallTypes.nextOf
 apply wpAny_bind
 apply wpAny_callSpecial?_slot (name:=Str.ofString "__next__") hT F.slot_tuple_iterator_next
 apply wpAny_call_entry F.slot_tuple_iterator_next hT F.entry_tuple_iterator_next _ (F.args_tuple_iterator_next_1 _)
 change wpAny (model prog w) _ (field (.ref i) 0 >>= _) _ _ s
 apply wpAny_bind; apply wpAny_field gi di (x:=.ref l) rfl
 rw [if_neg (by intro z; cases z)]
 change wpAny (model prog w) _ (field (.ref i) 1 >>= _) _ _ s
 apply wpAny_bind; apply wpAny_field gi di (x:=.int k 0) rfl
 change wpAny (model prog w) _ (seqItems? (.ref l) >>= _) _ _ s
 apply wpAny_bind; apply wpAny_seqItems gl dl
 simp only [Int.toNat_natCast,hx]
 apply wpAny_bind; apply wpAny_rule; apply wpAny_bind; apply wpAny_setField gi di (by simp)
 change wpAny (model prog w) _ (newExc (.type "StopIteration") [] >>= _) _ _ _
 apply wpAny_bind; simp only [newExc,newTuple]
 apply wpAny_bind; refine wpAny_newObj_type ?_ (by size_fits)
 apply wpAny_bind (m:=firstArgMember _ _); apply wpAny_of_eq (a:=Value.none)
 ·first | rfl | (simp only [firstArgMember]; rfl)
 refine wpAny_newObj_type ?_ (by size_fits); simp only [raiseNew]
 apply wpAny_bind; apply wpAny_handled
 have hh1:A.in1.handled=none:=hh
 first | rw [hh1] | rw [hh]
 refine wpAny_bind (wpAny_pure (wpAny_throw (q _ _ (((Heap.SameBut.update ..).extBut.push _).push _) ⟨_,Heap.get?_push_size _ rfl,rfl⟩)))
theorem drw_tup {i l:Addr} {vs:List Value}:Drw prog w i l vs (fun k h=>h.IsTupleIter i l k) (fun h=>h.IsTuple l vs.toArray) where
 obj:=fun k h ⟨o,a,_,d⟩=>⟨o,a,fun v z=>by rw [d] at z; cases z⟩
 keep:=fun k h h' ⟨o,a1,a2⟩ k1=>⟨o,k1 o a1,a2⟩
 kept:=fun h h' ⟨o',b1,b2⟩ k2=>⟨o',k2 o' b1,b2⟩
 item:=fun A E s k x Q a b hx q=>next_tup a b (by simpa using hx) fun h' a' sb=>q h' a' sb
 done:=fun A E s k Q hh a b hx q=>end_tup hh a b (by simpa using hx) q
structure Apart (z TI TO i1 i2 l1 l2:Addr):Prop where
 nd:[z,TI,TO,i1,i2].Nodup
 o1:∀ c ∈ [z,TO,i1,i2],l1≠c
 o2:∀ c ∈ [z,TO,i1,i2],l2≠c
section
variable {A:Around} {E:Value→Shared→Prop} {s:Shared} {z TI TO i1 i2 l1 l2:Addr} {vs us:List Value} {S1 S2:Nat→Heap→Prop} {C1 C2:Heap→Prop}
theorem zip_item (P:Apart z TI TO i1 i2 l1 l2) (D1:Drw prog w i1 l1 vs S1 C1) (D2:Drw prog w i2 l2 us S2 C2) {k:Nat} {x y a b:Value} {Q:Option Value→Shared→Prop} (hz:IsZip s.heap z TI TO .none) (hTI:IsPair s.heap TI (.ref i1) (.ref i2)) (hTO:IsPair s.heap TO a b)
  (h1:S1 k s.heap) (h2:S2 k s.heap) (c1:C1 s.heap) (c2:C2 s.heap) (hx:vs[k]?=some x) (hy:us[k]?=some y)
  (q:∀ h',IsZip h' z TI TO (rawInt s.heap.objs.size)→IsPair h' TO x y→S1 (k+1) h'→S2 (k+1) h'→IsPair h' s.heap.objs.size x y→(∀ c o,c ∉ [z,TO,i1,i2]→s.heap.get? c=some o→h'.get? c=some o)→Q (some (.ref s.heap.objs.size)) { s with heap:=h' }) :
  wpAny (model prog w) A (pyNext (.ref z)) Q E s:=by
 have hT:s.TypeIs (.ref z) "zip" := ⟨_,hz,rfl⟩
 obtain ⟨nd,o1,o2⟩:=P
 simp only [List.nodup_cons,List.mem_cons,List.not_mem_nil,or_false,not_or,List.nodup_nil,not_false_eq_true,and_true] at nd
 obtain ⟨⟨zTI,zTO,zi1,zi2⟩,⟨TITO,TIi1,TIi2⟩,⟨TOi1,TOi2⟩,i12⟩:=nd
 have a1:=o1 z (by simp); have a2:=o1 TO (by simp); have a3:=o1 i1 (by simp); have a4:=o1 i2 (by simp)
 have b1:=o2 z (by simp); have b2:=o2 TO (by simp); have b3:=o2 i1 (by simp); have b4:=o2 i2 (by simp)
 unfold pyNext
 apply wpAny_bind; apply wpAny_attempt; apply wpAny_callSpecial?_slot (name:=Str.ofString "__next__") hT F.slot_zip_next
 refine wpAny_call_entry F.slot_zip_next hT F.entry_zip_next ?_ (F.args_zip_next_1 _)
 change wpAny (model prog w) _ (field (.ref z) 2 >>= _) _ _ _
 apply wpAny_bind; apply wpAny_field hz rfl (x:=.bool false) rfl
 change wpAny (model prog w) _ (field (.ref z) 3 >>= _) _ _ _
 apply wpAny_bind; apply wpAny_field hz rfl (x:=.ref TI) rfl
 apply wpAny_bind; apply wpAny_seqItems hTI rfl
 change wpAny (model prog w) _ (Builtin.SmallTypes.ownedTupleIsFree (.ref z) >>= _) _ _ _
 apply wpAny_bind; unfold Builtin.SmallTypes.ownedTupleIsFree
 apply wpAny_bind; apply wpAny_field hz rfl (x:=.none) rfl; apply wpAny_pure
 simp only [if_true]
 apply wpAny_bind; apply wpAny_rule
 apply wpAny_bind; apply wpAny_field hz rfl (x:=.ref TO) rfl
 apply wpAny_bind; refine wpAny_setField_rec hz (by simp) fun g1 y1 e1=>?_
 have z1:IsZip g1 z TI TO .ellipsis:=y1
 apply wpAny_bind
 simp only [List.zipIdx_cons,List.zipIdx_nil,List.forIn_cons,List.forIn_nil]
 apply wpAny_bind; apply wpAny_bind; apply wpAny_onRaise
 change wpAny (model prog w) _ (Builtin.SmallTypes.nextOf (.ref i1) >>= _) _ _ _
 apply wpAny_bind
 refine D1.item _ _ _ k x _ (D1.keep k _ _ h1 (fun o e=>e1.extBut _ _ (Ne.symm zi1) e)) (D1.kept _ _ c1 fun o e=>e1.extBut _ _ a1 e) hx fun g2 s2 e2=>wpAny_pure ?_
 have t2:IsPair g2 TO a b:=e2.extBut _ _ TOi1 (e1.extBut _ _ (Ne.symm zTO) hTO)
 apply wpAny_bind; apply wpAny_seqItems t2 rfl
 apply wpAny_bind; refine wpAny_updateSeq_pair t2 fun g3 y3 e3=>?_
 have t3:IsPair g3 TO x b:=y3
 apply wpAny_bind; refine wpAny_letGo (wpAny_pure ?_)
 apply wpAny_bind; apply wpAny_bind; apply wpAny_onRaise
 change wpAny (model prog w) _ (Builtin.SmallTypes.nextOf (.ref i2) >>= _) _ _ _
 apply wpAny_bind
 have k2:S2 k g3:=D2.keep k _ _ h2 fun o e=>e3.extBut _ _ (Ne.symm TOi2) (e2.extBut _ _ (Ne.symm i12) (e1.extBut _ _ (Ne.symm zi2) e))
 have k3:C2 g3:=D2.kept _ _ c2 fun o e=>e3.extBut _ _ b2 (e2.extBut _ _ b3 (e1.extBut _ _ b1 e))
 refine D2.item _ _ _ k y _ k2 k3 hy fun g4 s4 e4=>wpAny_pure ?_
 have t4:IsPair g4 TO x b:=e4.extBut _ _ TOi2 t3
 apply wpAny_bind; apply wpAny_seqItems t4 rfl
 apply wpAny_bind; refine wpAny_updateSeq_pair t4 fun g5 y5 e5=>?_
 have t5:IsPair g5 TO x y:=y5
 apply wpAny_bind; refine wpAny_letGo (wpAny_pure (wpAny_pure ?_))
 apply wpAny_bind; apply wpAny_seqItems t5 rfl
 apply wpAny_bind; refine wpAny_newTuple ?_
 have hsz:g5.objs.size=s.heap.objs.size:=by rw [e5.1,e4.1,e3.1,e2.1,e1.1]
 have z5:IsZip g5 z TI TO .ellipsis:=e5.extBut _ _ zTO (e4.extBut _ _ zi2 (e3.extBut _ _ zTO (e2.extBut _ _ zi1 z1)))
 have old:∀ c o,c ∉ [z,TO,i1,i2]→s.heap.get? c=some o→g5.get? c=some o:=fun c o hc e=>by
  simp only [List.mem_cons,List.not_mem_nil,or_false,not_or] at hc
  obtain ⟨c1,c2,c3,c4⟩:=hc
  exact e5.extBut _ _ c2 (e4.extBut _ _ c4 (e3.extBut _ _ c2 (e2.extBut _ _ c3 (e1.extBut _ _ c1 e))))
 have n1:S1 (k+1) g5:=D1.keep _ _ _ s2 fun o e=>e5.extBut _ _ (Ne.symm TOi1) (e4.extBut _ _ i12 (e3.extBut _ _ (Ne.symm TOi1) e))
 have n2:S2 (k+1) g5:=D2.keep _ _ _ s4 fun o e=>e5.extBut _ _ (Ne.symm TOi2) e
 have zlt:=Heap.lt_size z5
 change wpAny (model prog w) _ (Builtin.SmallTypes.ownedTupleHandOut (.ref z) (.ref g5.objs.size) >>= _) _ _ _
 apply wpAny_bind; unfold Builtin.SmallTypes.ownedTupleHandOut
 have z6:IsZip (g5.push { cls:=.type "tuple",data:=.seq #[x,y] }) z TI TO .ellipsis:=Heap.get?_push_of_some _ z5
 apply wpAny_bind; refine wpAny_setField_rec z6 (by simp) fun g7 y7 e7=>?_
 have z7:IsZip g7 z TI TO (rawInt g5.objs.size):=y7
 refine wpAny_setField_rec z7 (by simp) fun g8 y8 e8=>?_
 have z8:IsZip g8 z TI TO (rawInt g5.objs.size):=y8
 have up:∀ c o,c≠z→g5.get? c=some o→g8.get? c=some o:=fun c o c1 e=>e8.extBut _ _ c1 (e7.extBut _ _ c1 (Heap.get?_push_of_some _ e))
 have t8:IsPair g8 g5.objs.size x y:=e8.extBut _ _ (Nat.ne_of_gt zlt) (e7.extBut _ _ (Nat.ne_of_gt zlt) (Heap.get?_push_size _ rfl))
 rw [hsz] at z8 t8
 refine wpAny_pure ⟨_,rfl,wpAny_pure ?_⟩
 show Q (some (.ref g5.objs.size)) _
 rw [hsz]
 exact q g8 z8 (up _ _ (Ne.symm zTO) t5) (D1.keep _ _ _ n1 fun o e=>up _ _ (Ne.symm zi1) e) (D2.keep _ _ _ n2 fun o e=>up _ _ (Ne.symm zi2) e) t8 fun c o hc e=>up c o (fun w=>hc (by simp [w])) (old c o hc e)
theorem zip_end (P:Apart z TI TO i1 i2 l1 l2) (D1:Drw prog w i1 l1 vs S1 C1) (D2:Drw prog w i2 l2 us S2 C2) (hh:A.handled=none) {k:Nat} {a b:Value} {Q:Option Value→Shared→Prop} (hz:IsZip s.heap z TI TO .none) (hTI:IsPair s.heap TI (.ref i1) (.ref i2)) (hTO:IsPair s.heap TO a b)
  (h1:S1 k s.heap) (h2:S2 k s.heap) (c1:C1 s.heap) (c2:C2 s.heap) (hx:vs[k]?=none∨us[k]?=none)
  (q:∀ h',(∀ c o,c ∉ [z,TO,i1,i2]→s.heap.get? c=some o→h'.get? c=some o)→Q none { s with heap:=h' }) :
  wpAny (model prog w) A (pyNext (.ref z)) Q E s:=by
 have hT:s.TypeIs (.ref z) "zip" := ⟨_,hz,rfl⟩
 obtain ⟨nd,o1,o2⟩:=P
 simp only [List.nodup_cons,List.mem_cons,List.not_mem_nil,or_false,not_or,List.nodup_nil,not_false_eq_true,and_true] at nd
 obtain ⟨⟨zTI,zTO,zi1,zi2⟩,⟨TITO,TIi1,TIi2⟩,⟨TOi1,TOi2⟩,i12⟩:=nd
 have a1:=o1 z (by simp); have b1:=o2 z (by simp); have b2:=o2 TO (by simp); have b3:=o2 i1 (by simp)
 have oc:∀ {c:Addr},c ∉ [z,TO,i1,i2]→c≠z∧c≠TO∧c≠i1∧c≠i2:=fun hc=>by simpa [not_or] using hc
 have hh1:A.in1.handled=none:=hh
 unfold pyNext
 apply wpAny_bind; apply wpAny_attempt; apply wpAny_callSpecial?_slot (name:=Str.ofString "__next__") hT F.slot_zip_next
 refine wpAny_call_entry F.slot_zip_next hT F.entry_zip_next ?_ (F.args_zip_next_1 _)
 have fin:∀ (h':Heap) (e:Addr),(∀ c o,c ∉ [z,TO,i1,i2]→s.heap.get? c=some o→h'.get? c=some o)→(∃ o,h'.get? e=some o∧o.cls=.type "StopIteration") →
   wpAny (model prog w) A (do if ← isInstance (.ref e) (.type "StopIteration") then pure none else throw (.ref e)) Q E { s with heap:=h' }:=fun h' e hk ⟨o,ho,hc⟩=>by
  apply wpAny_bind; refine wpAny_isInstance (T:="StopIteration") (b:=true) ⟨o,ho,hc⟩ isSubtype_stop ?_
  exact wpAny_pure (q h' hk)
 change wpAny (model prog w) _ (field (.ref z) 2 >>= _) _ _ _
 apply wpAny_bind; apply wpAny_field hz rfl (x:=.bool false) rfl
 change wpAny (model prog w) _ (field (.ref z) 3 >>= _) _ _ _
 apply wpAny_bind; apply wpAny_field hz rfl (x:=.ref TI) rfl
 apply wpAny_bind; apply wpAny_seqItems hTI rfl
 change wpAny (model prog w) _ (Builtin.SmallTypes.ownedTupleIsFree (.ref z) >>= _) _ _ _
 apply wpAny_bind; unfold Builtin.SmallTypes.ownedTupleIsFree
 apply wpAny_bind; apply wpAny_field hz rfl (x:=.none) rfl; apply wpAny_pure
 simp only [if_true]
 apply wpAny_bind; apply wpAny_rule
 apply wpAny_bind; apply wpAny_field hz rfl (x:=.ref TO) rfl
 apply wpAny_bind; refine wpAny_setField_rec hz (by simp) fun g1 y1 e1=>?_
 have z1:IsZip g1 z TI TO .ellipsis:=y1
 apply wpAny_bind
 simp only [List.zipIdx_cons,List.zipIdx_nil,List.forIn_cons,List.forIn_nil]
 apply wpAny_bind; apply wpAny_bind; apply wpAny_onRaise
 change wpAny (model prog w) _ (Builtin.SmallTypes.nextOf (.ref i1) >>= _) _ _ _
 apply wpAny_bind
 have f1:S1 k g1:=D1.keep k _ _ h1 fun o e=>e1.extBut _ _ (Ne.symm zi1) e
 have f2:C1 g1:=D1.kept _ _ c1 fun o e=>e1.extBut _ _ a1 e
 cases ex:vs[k]? with
 | none =>
  refine D1.done _ _ _ k _ hh1 f1 f2 ex fun g2 e e2 he=>?_
  obtain ⟨oe,ge,ce⟩:=he
  have z2:IsZip g2 z TI TO .ellipsis:=e2 _ _ zi1 z1
  have ez:e≠z:=fun w=>by subst w; rw [z2] at ge; cases ge; simp at ce
  refine wpAny_setField_rec z2 (by simp) fun g3 _ e3=>fin g3 e (fun c o hc x=>?_) ⟨oe,e3.extBut _ _ ez ge,ce⟩
  obtain ⟨q1,q2,q3,q4⟩:=oc hc
  exact e3.extBut _ _ q1 (e2 _ _ q3 (e1.extBut _ _ q1 x))
 | some x =>
  have ey:us[k]?=none:=hx.resolve_left (by rw [ex]; intro z; cases z)
  refine D1.item _ _ _ k x _ f1 f2 ex fun g2 s2 e2=>wpAny_pure ?_
  have t2:IsPair g2 TO a b:=e2.extBut _ _ TOi1 (e1.extBut _ _ (Ne.symm zTO) hTO)
  apply wpAny_bind; apply wpAny_seqItems t2 rfl
  apply wpAny_bind; refine wpAny_updateSeq_pair t2 fun g3 y3 e3=>?_
  apply wpAny_bind; refine wpAny_letGo (wpAny_pure ?_)
  apply wpAny_bind; apply wpAny_bind; apply wpAny_onRaise
  change wpAny (model prog w) _ (Builtin.SmallTypes.nextOf (.ref i2) >>= _) _ _ _
  apply wpAny_bind
  have k2:S2 k g3:=D2.keep k _ _ h2 fun o e=>e3.extBut _ _ (Ne.symm TOi2) (e2.extBut _ _ (Ne.symm i12) (e1.extBut _ _ (Ne.symm zi2) e))
  have k3:C2 g3:=D2.kept _ _ c2 fun o e=>e3.extBut _ _ b2 (e2.extBut _ _ b3 (e1.extBut _ _ b1 e))
  refine D2.done _ _ _ k _ hh1 k2 k3 ey fun g4 e e4 he=>?_
  obtain ⟨oe,ge,ce⟩:=he
  have z4:IsZip g4 z TI TO .ellipsis:=e4 _ _ zi2 (e3.extBut _ _ zTO (e2.extBut _ _ zi1 z1))
  have ez:e≠z:=fun w=>by subst w; rw [z4] at ge; cases ge; simp at ce
  refine wpAny_setField_rec z4 (by simp) fun g5 _ e5=>fin g5 e (fun c o hc x=>?_) ⟨oe,e5.extBut _ _ ez ge,ce⟩
  obtain ⟨q1,q2,q3,q4⟩:=oc hc
  exact e5.extBut _ _ q1 (e4 _ _ q4 (e3.extBut _ _ q2 (e2.extBut _ _ q3 (e1.extBut _ _ q1 x))))
end
end Zp
end

noncomputable section
set_option Elab.async false
set_option linter.all false
set_option maxRecDepth 100000
set_option maxHeartbeats 1000000
namespace Zp
open PySem PySem.Spec PyProof.Rows
section
variable {prog:Program} {w:World} {A:Around} {E:Value→Shared→Prop} {s:Shared}
abbrev tH1 (h:Heap) (l1:Addr):Heap:=h.push { cls:=.type "tuple_iterator",data:=.fields #[.ref l1,.int 0 0] }
abbrev tH2 (h:Heap) (l1 l2:Addr):Heap:=(tH1 h l1).push { cls:=.type "tuple_iterator",data:=.fields #[.ref l2,.int 0 0] }
abbrev tH3 (h:Heap) (l1 l2:Addr):Heap:=(tH2 h l1 l2).push { cls:=.type "tuple",data:=.seq #[.ref h.objs.size,.ref (tH1 h l1).objs.size] }
abbrev tH4 (h:Heap) (l1 l2:Addr):Heap:=(tH3 h l1 l2).push { cls:=.type "tuple",data:=.seq #[.none,.none] }
abbrev tH5 (h:Heap) (l1 l2:Addr):Heap:=(tH4 h l1 l2).push { cls:=.type "zip",data:=.fields #[.none,.bool false,.bool false,.ref (tH2 h l1 l2).objs.size,.ref (tH3 h l1 l2).objs.size] }
theorem zip_new_t (l1 l2:Addr) (xs ys:Array Value) :
  Meets (Builtin.«zip.__new__» ⟨[.type "zip",.ref l1,.ref l2],[]⟩) (fun _ R s=>s.heap.IsTuple l1 xs∧s.heap.IsTuple l2 ys∧R (.ok (.ret (.ref (tH4 s.heap l1 l2).objs.size))) { s with heap:=tH5 s.heap l1 l2 }) :=
 .of_wp fun prog w A R s h=>by
  obtain ⟨hp,g,d,tk,os⟩:=s
  obtain ⟨u1,u2,h⟩:=h
  have sub0:=sub_zip
  have m1:Heap.IsTuple (Shared.heap ⟨hp,g,d,tk,os⟩) l1 xs:=u1
  have m2:Heap.IsTuple (Shared.heap ⟨hp.push { cls:=.type "tuple_iterator",data:=.fields #[.ref l1,.int 0 0] },g,d,tk,os⟩) l2 ys:=Heap.IsTuple.push u2 _
  wp_walk using wpAny_pyIter_tuple m1,wpAny_pyIter_tuple m2
  exact ⟨_,rfl,h⟩
theorem zip_tups {l1 l2:Addr} {xs ys:Array Value} {Q:Value→Shared→Prop} (u1:s.heap.IsTuple l1 xs) (u2:s.heap.IsTuple l2 ys)
  (q:∀ h',IsZip h' (s.heap.objs.size+4) (s.heap.objs.size+2) (s.heap.objs.size+3) .none→IsPair h' (s.heap.objs.size+2) (.ref s.heap.objs.size) (.ref (s.heap.objs.size+1))→IsPair h' (s.heap.objs.size+3) .none .none →
   h'.IsTupleIter s.heap.objs.size l1 0→h'.IsTupleIter (s.heap.objs.size+1) l2 0→(∀ c o,s.heap.get? c=some o→h'.get? c=some o)→Q (.ref (s.heap.objs.size+4)) { s with heap:=h' }) :
  wpAny (model prog w) A (call (.type "zip") [.ref l1,.ref l2]) Q E s:=by
 refine callType_new F.called_zip (by decide) (F.typeCall_zip_2 _ _) (F.newCall_zip_2 _ _) (fun obj=>F.args_object_init_3 obj _ _) F.entry_zip_new (zip_new_t l1 l2 xs ys) ⟨u1,u2,?_⟩
 have n1:(tH1 s.heap l1).objs.size=s.heap.objs.size+1:=Heap.size_push ..
 have n2:(tH2 s.heap l1 l2).objs.size=s.heap.objs.size+2:=by rw [Heap.size_push,n1]
 have n3:(tH3 s.heap l1 l2).objs.size=s.heap.objs.size+3:=by rw [Heap.size_push,n2]
 have n4:(tH4 s.heap l1 l2).objs.size=s.heap.objs.size+4:=by rw [Heap.size_push,n3]
 have up:∀ {h:Heap} {o:Obj} {c:Addr} {u:Obj},h.get? c=some u→(h.push o).get? c=some u:=fun e=>Heap.get?_push_of_some _ e
 have w5:(tH5 s.heap l1 l2).get? (tH4 s.heap l1 l2).objs.size=some _:=Heap.get?_push_size _ rfl
 have w4:(tH5 s.heap l1 l2).get? (tH3 s.heap l1 l2).objs.size=some _:=up (Heap.get?_push_size _ rfl)
 have w3:(tH5 s.heap l1 l2).get? (tH2 s.heap l1 l2).objs.size=some _:=up (up (Heap.get?_push_size _ rfl))
 have w2:(tH5 s.heap l1 l2).get? (tH1 s.heap l1).objs.size=some _:=up (up (up (Heap.get?_push_size _ rfl)))
 have w1:(tH5 s.heap l1 l2).get? s.heap.objs.size=some _:=up (up (up (up (Heap.get?_push_size _ rfl))))
 show _∧_
 rw [n2,n3,n4] at w5; rw [n1,n2] at w3; rw [n3] at w4; rw [n1] at w2; rw [n4]
 exact ⟨⟨_,w5,rfl⟩,q _ w5 w3 w4 ⟨_,w1,rfl,rfl⟩ ⟨_,w2,rfl,rfl⟩ fun c o e=>up (up (up (up (up e))))⟩
end
end Zp
namespace L2
open PySem PySem.Spec PySem.SeqAt PyProof.Rows Zp
abbrev Sq2:=Hp→List V→Prop
def Itz (c1 c2:Sq2):It :=
 ⟨fun i H=>∃ xs ys x y,c1 H xs∧c2 H ys∧xs[i]?=some x∧ys[i]?=some y,
  fun i H x H'=>∃ T,H T=none∧x=.ref T∧∀ xs ys,c1 H xs→c2 H ys→∃ a b,xs[i]?=some a∧ys[i]?=some b∧H'=upd H T (.tup [a,b]),
  fun i H=>∃ xs ys,c1 H xs∧c2 H ys∧(xs[i]?=none∨ys[i]?=none)⟩
structure Src (P:Program) (w:World) (K:PySem.W.Frag) (i l:Addr) (c:Sq2) (S:Nat→Heap→Prop):Prop where
 «at»:∀ (X:Cx) (pins:List (Addr × Obj)) (σ:St) (H:Hp) (s:Shared) (xs:List V),X.prog=P→X.w=w→X.K=K→Inv X pins σ H s→c H xs→∃ vs Ct,Vals xs vs∧Drw P w i l vs S Ct∧Ct s.heap
 obj:∀ k h,S k h→∃ o,h.get? i=some o∧∀ v,o.data≠.cell v
 keep:∀ k h h',S k h→(∀ o,h.get? i=some o→h'.get? i=some o)→S k h'
 inj:∀ (H:Hp) (xs ys:List V),c H xs→c H ys→xs=ys
 old:∀ (H:Hp) (xs:List V),c H xs→H l≠none
theorem src_list {P:Program} {w:World} {K:PySem.W.Frag} {i l:Addr}:Src P w K i l (fun H xs=>H l=some (.lst xs)) (fun k h=>h.IsListIter i l k) where
 «at»:=fun X pins σ H s xs hp hw hk I h=>by
  obtain ⟨its,r',pl,_⟩:=I.list (SqL.of h)
  exact ⟨its,_,r',drw_list,pl.isList⟩
 obj:=fun k h ⟨o,a,_,d⟩=>⟨o,a,fun v z=>by rw [d] at z; cases z⟩
 keep:=fun k h h' a k1=>a.at k1
 inj:=fun H xs ys h h'=>by rw [h] at h'; cases h'; rfl
 old:=fun H xs h z=>by rw [h] at z; cases z
theorem src_tup {P:Program} {w:World} {K:PySem.W.Frag} {i l:Addr}:Src P w K i l (fun H xs=>H l=some (.tup xs)) (fun k h=>h.IsTupleIter i l k) where
 «at»:=fun X pins σ H s xs hp hw hk I h=>by
  obtain ⟨its,r',pl,_⟩:=I.tuple (SqT.of h)
  exact ⟨its,_,r',drw_tup,(show s.heap.IsTuple l its.toArray from pl)⟩
 obj:=fun k h ⟨o,a,_,d⟩=>⟨o,a,fun v z=>by rw [d] at z; cases z⟩
 keep:=fun k h h' ⟨o,a1,a2⟩ k1=>⟨o,k1 o a1,a2⟩
 inj:=fun H xs ys h h'=>by rw [h] at h'; cases h'; rfl
 old:=fun H xs h z=>by rw [h] at z; cases z
theorem Inv.turnedT {X:Cx} {pins:List (Addr × Obj)} {σ:St} {H:Hp} {s:Shared} {fp:List Addr} {h':Heap} {x y:V} {u v:Value} (I:Inv X pins σ H s) (hf:∀ b ∈ fp,FpOk X pins H b) (k:∀ c o,c ∉ fp→s.heap.get? c=some o→h'.get? c=some o)
  (rx:RelV x u) (ry:RelV y v) (hT:IsPair h' s.heap.objs.size u v):Inv X pins σ (upd H s.heap.objs.size (.tup [x,y])) { s with heap:=h' }:=by
 have hn:H s.heap.objs.size=none:=I.hok.fresh (Nat.le_refl _)
 have ne:∀ {b:Addr} {o:Obj},s.heap.get? b=some o→b≠s.heap.objs.size:=fun e=>Nat.ne_of_lt (Heap.lt_size e)
 have nt:∀ {b:Addr} {o:HO},H b=some o→b≠s.heap.objs.size:=fun e z=>by rw [z,hn] at e; cases e
 have nf:∀ {b:Addr} {o:HO},H b=some o→b ∉ fp:=fun e z=>by rw [(hf _ z).1] at e; cases e
 refine I.call (g':=s.gens) (t':=s.toks) (d':=s.drawn) (ch:=fp) ⟨fun b o e n _ hc=>k b o hc e,fun b o e n _ hc=>⟨o.slots,k b o hc e⟩,fun b o e n _=>by rw [upd_ne (ne e)]; exact n,fun b o e hc=>⟨o,k b o hc e⟩,
  fun b xs e=>by rw [upd_ne (nt e)]; exact e,fun b o u e=>by rw [upd_ne (nt e)]; exact e,fun b ps e=>⟨#[],by rw [upd_ne (nt e),e]; simp⟩⟩ (fun b u e=>?_) I.bare fun b hb=>?_
 ·by_cases hb:b=s.heap.objs.size
  ·subst hb
   rw [upd_same] at e
   cases e
   exact ⟨by show 2≤sizeLine; decide,[_,_],.cons rx (.cons ry .nil),⟨_,hT,rfl,_,rfl⟩⟩
  ·rw [upd_ne hb] at e
   refine (I.hok b u e).stay (fun c v hc q=>k c v ?_ q) (fun c q=>by rw [upd_ne (nt q)]; exact q) fun c xs q=>by rw [upd_ne (nt q)]; exact q
   rcases hc with z | z
   ·rw [z]; exact nf e
   ·exact nf z
 ·obtain ⟨f0,f1,f2,f3,f4,f5⟩:=hf b hb
  exact ⟨f3,f1,f4,f5⟩
theorem Inv.turnedN {X:Cx} {pins:List (Addr × Obj)} {σ:St} {H:Hp} {s:Shared} {fp:List Addr} {h':Heap} (I:Inv X pins σ H s) (hf:∀ b ∈ fp,FpOk X pins H b) (k:∀ c o,c ∉ fp→s.heap.get? c=some o→h'.get? c=some o):Inv X pins σ H { s with heap:=h' }:=by
 have nf:∀ {b:Addr} {o:HO},H b=some o→b ∉ fp:=fun e z=>by rw [(hf _ z).1] at e; cases e
 refine I.call (g':=s.gens) (t':=s.toks) (d':=s.drawn) (ch:=fp) ⟨fun b o e n _ hc=>k b o hc e,fun b o e n _ hc=>⟨o.slots,k b o hc e⟩,fun b o e n _=>n,fun b o e hc=>⟨o,k b o hc e⟩,fun b xs e=>e,fun b o u e=>e,fun b ps e=>⟨#[],by rw [e]; simp⟩⟩ (fun b u e=>?_) I.bare fun b hb=>?_
 ·refine (I.hok b u e).stay (fun c v hc q=>k c v ?_ q) (fun c q=>q) fun c xs q=>q
  rcases hc with z | z
  ·rw [z]; exact nf e
  ·exact nf z
 ·obtain ⟨f0,f1,f2,f3,f4,f5⟩:=hf b hb
  exact ⟨f3,f1,f4,f5⟩
theorem turn_zip {P:Program} {w:World} {K:PySem.W.Frag} {elts:List Expr} {kk:Nat} {pos:Pos} {z TI TO i1 i2 l1 l2:Addr} {c1 c2:Sq2} {S1 S2:Nat→Heap→Prop} (Ap:Apart z TI TO i1 i2 l1 l2) (s1:Src P w K i1 l1 c1 S1) (s2:Src P w K i2 l2 c2 S2) :
  Turn P w K (.Tuple elts kk pos) (Itz c1 c2) [z,TI,TO,i1,i2] z (fun k h=>IsZip h z TI TO .none∧IsPair h TI (.ref i1) (.ref i2)∧(∃ a b,IsPair h TO a b)∧S1 k h∧S2 k h) where
 mem:=by simp
 obj:=fun k h ⟨h1,h2,⟨a,b,h3⟩,h4,h5⟩ c hc=>by
  simp only [List.mem_cons,List.not_mem_nil,or_false] at hc
  rcases hc with rfl | rfl | rfl | rfl | rfl
  ·exact ⟨_,h1,fun v z=>by cases (show Data.fields _=Data.cell v from z)⟩
  ·exact ⟨_,h2,fun v z=>by cases (show Data.seq _ _=Data.cell v from z)⟩
  ·exact ⟨_,h3,fun v z=>by cases (show Data.seq _ _=Data.cell v from z)⟩
  ·exact s1.obj k h h4
  ·exact s2.obj k h h5
 keep:=fun k h h' ⟨h1,h2,⟨a,b,h3⟩,h4,h5⟩ kp=>⟨kp z (by simp) _ h1,kp TI (by simp) _ h2,⟨a,b,kp TO (by simp) _ h3⟩,s1.keep k h h' h4 (fun o e=>kp i1 (by simp) o e),s2.keep k h h' h5 fun o e=>kp i2 (by simp) o e⟩
 item:=by
  intro X hP hw hK hc i pins s σ H E I hf st hg
  obtain ⟨g1,g2,⟨a,b,g3⟩,g4,g5⟩:=st
  obtain ⟨xs,ys,x,y,hx,hy,ex,ey⟩:=hg
  obtain ⟨vs,C1,r1,D1,k1⟩:=s1.at X pins σ H s xs hP hw hK I hx
  obtain ⟨us,C2,r2,D2,k2⟩:=s2.at X pins σ H s ys hP hw hK I hy
  obtain ⟨u,eu,ru⟩:=r1.get ex
  obtain ⟨v,ev,rv⟩:=r2.get ey
  have sub:∀ c ∈ [z,TO,i1,i2],c ∈ [z,TI,TO,i1,i2]:=fun c hc=>by simp at hc ⊢; rcases hc with h | h | h | h <;> simp [h]
  refine zip_item Ap D1 D2 g1 g2 g3 g4 g5 k1 k2 eu ev fun h' y1 y2 y3 y4 y5 y6=>?_
  have I1:=I.turnedT (fp:=[z,TI,TO,i1,i2]) hf (fun c o hcc e=>y6 c o (fun q=>hcc (sub c q)) e) ru rv y5
  have nT:∀ b ∈ [z,TI,TO,i1,i2],upd H s.heap.objs.size (.tup [x,y]) b=none:=fun b hb=>by
   have:b≠s.heap.objs.size:=by
    have:=(show (∃ o,s.heap.get? b=some o) from by
     simp only [List.mem_cons,List.not_mem_nil,or_false] at hb
     rcases hb with rfl | rfl | rfl | rfl | rfl
     ·exact ⟨_,g1⟩
     ·exact ⟨_,g2⟩
     ·exact ⟨_,g3⟩
     ·exact ⟨_,(s1.obj i _ g4).choose_spec.1⟩
     ·exact ⟨_,(s2.obj i _ g5).choose_spec.1⟩)
    obtain ⟨o,e⟩:=this
    exact Nat.ne_of_lt (Heap.lt_size e)
   rw [upd_ne this]
   exact (hf b hb).1
  have TI':IsPair h' TI (.ref i1) (.ref i2):=y6 TI _ (by
   have:=Ap.nd
   simp only [List.nodup_cons,List.mem_cons,List.not_mem_nil,or_false,not_or] at this ⊢
   obtain ⟨⟨q1,_⟩,⟨q2,q3,q4⟩,_⟩:=this
   exact ⟨Ne.symm q1,q2,q3,q4⟩) g2
  refine ⟨_,rfl,wpAny_letOwnedTupleGo_zip y1 fun h'' z' sb=>?_⟩
  have I2:Inv X pins σ (upd H s.heap.objs.size (.tup [x,y])) { s with heap:=h'' }:=by
   refine I1.turnedN (fp:=[z]) (fun b hb=>?_) fun c o hcc e=>sb.extBut _ _ (by simpa using hcc) e
   have e:b=z:=by simpa using hb
   subst e
   exact ⟨nT b (by simp),(hf b (by simp)).2⟩
  have zne:∀ c ∈ [TI,TO,i1,i2],c≠z:=fun c hc q=>by
   have:=Ap.nd
   rw [List.nodup_cons] at this
   exact this.1 (by rw [← q]; exact hc)
  refine ⟨.ref s.heap.objs.size,_,I2,rfl,⟨s.heap.objs.size,I.hok.fresh (Nat.le_refl _),rfl,fun xs' ys' hx' hy'=>?_⟩,⟨z',sb.extBut _ _ (zne TI (by simp)) TI',⟨_,_,sb.extBut _ _ (zne TO (by simp)) y2⟩,s1.keep _ _ _ y3 (fun o e=>sb.extBut _ _ (zne i1 (by simp)) e),s2.keep _ _ _ y4 fun o e=>sb.extBut _ _ (zne i2 (by simp)) e⟩,nT⟩
  rw [s1.inj H xs' xs hx' hx,s2.inj H ys' ys hy' hy]
  exact ⟨x,y,ex,ey,rfl⟩
 done:=by
  intro X hP hw hK hc i pins s σ H E I hf st hg
  obtain ⟨g1,g2,⟨a,b,g3⟩,g4,g5⟩:=st
  obtain ⟨xs,ys,hx,hy,ex⟩:=hg
  obtain ⟨vs,C1,r1,D1,k1⟩:=s1.at X pins σ H s xs hP hw hK I hx
  obtain ⟨us,C2,r2,D2,k2⟩:=s2.at X pins σ H s ys hP hw hK I hy
  have sub:∀ c ∈ [z,TO,i1,i2],c ∈ [z,TI,TO,i1,i2]:=fun c hc=>by simp at hc ⊢; rcases hc with h | h | h | h <;> simp [h]
  refine zip_end Ap D1 D2 (I.ok.hd hc) g1 g2 g3 g4 g5 k1 k2 (ex.imp (fun q=>r1.none_of q) fun q=>r2.none_of q) fun h' y6=>?_
  exact ⟨rfl,I.turnedN (fp:=[z,TI,TO,i1,i2]) hf fun c o hcc e=>y6 c o (fun q=>hcc (sub c q)) e⟩
 self:=fun A i s Q E ⟨h1,_⟩ q=>wpAny_pyIter_zip h1 q
end L2
end

noncomputable section
set_option Elab.async false
set_option linter.all false
set_option maxRecDepth 100000
namespace L2
open PySem PySem.Spec PySem.SeqAt PyProof.Rows Zp
theorem bt_zip:bootBuiltins "zip" = some (.type "zip"):=by decide +kernel
def zipD:List D→List D→List D
 | a::as,b::bs=>.tup [a,b]::zipD as bs
 | _,_=>[]
theorem zipD_get:∀ {as bs:List D} {i:Nat} {d:D},(zipD as bs)[i]?=some d→∃ a b,as[i]?=some a∧bs[i]?=some b∧d=.tup [a,b]
 | [],_,_,_,h=>by simp [zipD] at h
 | _::_,[],_,_,h=>by simp [zipD] at h
 | a::as,b::bs,0,_,h=>by simp [zipD] at h; exact ⟨a,b,rfl,rfl,h.symm⟩
 | a::as,b::bs,i+1,_,h=>by
  obtain ⟨x,y,h1,h2,h3⟩:=zipD_get (as:=as) (bs:=bs) (i:=i) (by simpa [zipD] using h)
  exact ⟨x,y,by simpa using h1,by simpa using h2,h3⟩
theorem zipD_len:∀ (as bs:List D),(zipD as bs).length=min as.length bs.length
 | [],_=>by simp [zipD]
 | _::_,[]=>by simp [zipD]
 | a::as,b::bs=>by simp [zipD,zipD_len as bs]
section
variable {X:Cx} {W:Addr→Prop} {H:Hp} {l1 l2:Addr} {xs ys:List V} {ds es:List D}
def cSq (t:Bool) (l:Addr):Sq2:=fun H xs=>if t=true then H l=some (.tup xs) else H l=some (.lst xs)
theorem itd_zip (t:Bool) (h1:cSq t l1 H xs) (h2:cSq t l2 H ys) (n1:t=false→¬ W l1) (n2:t=false→¬ W l2) (r1:Rps X W H ds xs) (r2:Rps X W H es ys):ItD X W (Itz (cSq t l1) (cSq t l2)) (zipD ds es) H:=fun W' hW i H' k=>by
 have st:∀ {l:Addr} {xs:List V},cSq t l H xs→(t=false→¬ W l)→cSq t l H' xs:=fun {l xs} h n=>by
  unfold cSq at h ⊢
  cases t with
  | true=>exact k.tup l xs h
  | false=>exact k.out l _ h fun z=>(hW l z).elim (n rfl) fun q=>by rw [show H l=some (HO.lst xs) from h] at q; cases q
 have inj:∀ {l:Addr} {xs ys:List V},cSq t l H' xs→cSq t l H' ys→xs=ys:=fun {l xs ys} a b=>by
  unfold cSq at a b
  cases t with
  | true=>rw [show H' l=some (HO.tup xs) from a] at b; cases b; rfl
  | false=>rw [show H' l=some (HO.lst xs) from a] at b; cases b; rfl
 have q1:=(RepDs.grow hW r1).keep k
 have q2:=(RepDs.grow hW r2).keep k
 constructor
 ·intro d hd
  obtain ⟨a,b,ha,hb,rfl⟩:=zipD_get hd
  obtain ⟨x,ex,rx⟩:=RepDs.get q1 ha
  obtain ⟨y,ey,ry⟩:=RepDs.get q2 hb
  refine ⟨⟨xs,ys,x,y,st h1 n1,st h2 n2,ex,ey⟩,fun v H1 ⟨T,hT,e,yl⟩=>?_⟩
  obtain ⟨x',y',ex',ey',eH⟩:=yl xs ys (st h1 n1) (st h2 n2)
  rw [ex] at ex'; rw [ey] at ey'
  cases ex'; cases ey'
  subst e eH
  exact ⟨Same.new hT,Rp.tupNew hT (.cons rx (.cons ry .nil))⟩
 ·intro hl
  rw [zipD_len] at hl
  have z1:=q1.length
  have z2:=q2.length
  refine ⟨xs,ys,st h1 n1,st h2 n2,?_⟩
  by_cases h:ds.length≤i
  ·exact .inl (List.getElem?_eq_none (by lia))
  ·exact .inr (List.getElem?_eq_none (by lia))
variable {φs:PhiS} {elts:List Expr} {kk:Nat} {tpos:Pos}
def iZip (φs:PhiS):PhiI:=fun ρ R=>φs ρ fun l=>∃ as bs,(l=[.lst as,.lst bs]∨l=[.tup as,.tup bs])∧R (zipD as bs)
theorem src_sq {P:Program} {w:World} {K:PySem.W.Frag} {i l:Addr} (t:Bool):∃ S:Nat→Heap→Prop,Src P w K i l (cSq t l) S∧∀ h,(t=true→h.IsTupleIter i l 0)→(t=false→h.IsListIter i l 0)→S 0 h:=by
 cases t with
 | true=>exact ⟨_,src_tup,fun h a b=>a rfl⟩
 | false=>exact ⟨_,src_list,fun h a b=>b rfl⟩
theorem pvi_zip {a b:Expr} {p pos:Pos} (hm:X.mg "zip" = none) (ha:PVA X [a,b] φs) (hg:Gl X "zip" := by rfl) (hs:starEach [a,b] X.env=[(false,eval a X.env),(false,eval b X.env)]:=by rfl) (hs2:starEach [b] X.env=[(false,eval b X.env)]:=by rfl) :
  PVI X (.Tuple elts kk tpos) (.Call (.Name "zip" p) [a,b] [] pos) (iZip φs):=by
 refine ⟨fun ρ R R' k q=>ha.mono ρ _ _ (fun l ⟨as,bs,e,q⟩=>⟨as,bs,e,k _ q⟩) q,fun pins s σ H R I ⟨W,ρ,se,q⟩=>?_⟩
 refine Call_ (ld_blt I hg hm bt_zip (PyProof.Rows.callWith_type1 (thn (ha.pa pos pins s σ H _ I (tDs.of ha se q fun ds vs H1 h s1 r1=>(⟨ds,h,s1,r1⟩:∃ ds,(∃ as bs,(ds=[.lst as,.lst bs]∨ds=[.tup as,.tup bs])∧∀ J H',Same H H'→ItD X W J (zipD as bs) H'→R J H')∧Same H H1∧Rps X W H1 ds vs)))
  fun us s1 ⟨vs,H1,I1,rv,h⟩=>?_) (by rw [hs,hs2]) (by rw [hs2]; rfl)))
 obtain ⟨ds,⟨as,bs,e,q⟩,sm,r1⟩:=h
 have main:∀ (t:Bool) (l1 l2:Addr) (xs ys:List V),vs=[.ref l1,.ref l2]→cSq t l1 H1 xs→cSq t l2 H1 ys→(t=false→¬ W l1)→(t=false→¬ W l2)→Rps X W H1 as xs→Rps X W H1 bs ys →
   wpAny (model X.prog X.w) X.A (call (.type "zip") us) (fun v s1=>wpAny (model X.prog X.w) X.A (pyIter v) (PIE X pins σ (.Tuple elts kk tpos) R) X.xe s1) X.xe s1:=by
  intro t l1 l2 xs ys ev g1 g2 n1 n2 w1 w2
  subst ev
  have it:=itd_zip t g1 g2 n1 n2 w1 w2
  obtain ⟨v1,v2,rfl,e1,e2⟩:∃ v1 v2,us=[v1,v2]∧RelV (.ref l1) v1∧RelV (.ref l2) v2:=by
   cases rv with
   | cons a rr=>cases rr with
    | cons b rr=>cases rr; exact ⟨_,_,rfl,a,b⟩
  cases e1; cases e2
  have lt1:l1 < s1.heap.objs.size:=I1.hok.lt (o:=if t=true then .tup xs else .lst xs) (by unfold cSq at g1; cases t <;> exact g1)
  have lt2:l2 < s1.heap.objs.size:=I1.hok.lt (o:=if t=true then .tup ys else .lst ys) (by unfold cSq at g2; cases t <;> exact g2)
  have Ap:Apart (s1.heap.objs.size+4) (s1.heap.objs.size+2) (s1.heap.objs.size+3) s1.heap.objs.size (s1.heap.objs.size+1) l1 l2:=by
   generalize s1.heap.objs.size=n at lt1 lt2
   change (l1:Nat) < n at lt1
   change (l2:Nat) < n at lt2
   refine ⟨?_,fun c hc=>?_,fun c hc=>?_⟩
   ·have q:∀ (i j:Nat),i≠j→(n+i:Nat)≠n+j:=fun i j h z=>h (Nat.add_left_cancel z)
    simp only [List.nodup_cons,List.mem_cons,List.not_mem_nil,or_false,not_or,List.nodup_nil,not_false_eq_true,and_true]
    exact ⟨⟨q 4 2 (by decide),q 4 3 (by decide),q 4 0 (by decide),q 4 1 (by decide)⟩,⟨q 2 3 (by decide),q 2 0 (by decide),q 2 1 (by decide)⟩,⟨q 3 0 (by decide),q 3 1 (by decide)⟩,q 0 1 (by decide)⟩
   ·simp only [List.mem_cons,List.not_mem_nil,or_false] at hc
    rcases hc with rfl | rfl | rfl | rfl <;> exact Nat.ne_of_lt (Nat.lt_of_lt_of_le lt1 (by first | exact Nat.le_add_right _ _ | exact Nat.le_refl _))
   ·simp only [List.mem_cons,List.not_mem_nil,or_false] at hc
    rcases hc with rfl | rfl | rfl | rfl <;> exact Nat.ne_of_lt (Nat.lt_of_lt_of_le lt2 (by first | exact Nat.le_add_right _ _ | exact Nat.le_refl _))
  obtain ⟨S1,src1,z1⟩:=src_sq (P:=X.prog) (w:=X.w) (K:=X.K) (i:=s1.heap.objs.size) (l:=l1) t
  obtain ⟨S2,src2,z2⟩:=src_sq (P:=X.prog) (w:=X.w) (K:=X.K) (i:=s1.heap.objs.size+1) (l:=l2) t
  have fin:∀ h',IsZip h' (s1.heap.objs.size+4) (s1.heap.objs.size+2) (s1.heap.objs.size+3) .none→IsPair h' (s1.heap.objs.size+2) (.ref s1.heap.objs.size) (.ref (s1.heap.objs.size+1))→IsPair h' (s1.heap.objs.size+3) .none .none →
    S1 0 h'→S2 0 h'→(∀ c o,s1.heap.get? c=some o→h'.get? c=some o)→wpAny (model X.prog X.w) X.A (pyIter (.ref (s1.heap.objs.size+4))) (PIE X pins σ (.Tuple elts kk tpos) R) X.xe { s1 with heap:=h' }:=fun h' y1 y2 y3 y4 y5 y6=>by
   refine wpAny_pyIter_zip y1 ?_
   have I2:Inv X pins σ H1 { s1 with heap:=h' }:=I1.kept (t':=s1.toks) y6
   refine ⟨_,_,_,_,H1,rfl,I2,turn_zip Ap src1 src2,⟨y1,y2,⟨_,_,y3⟩,y4,y5⟩,fun b hb=>?_,q _ _ sm it⟩
   have hb':s1.heap.objs.size≤b:=by
    simp only [List.mem_cons,List.not_mem_nil,or_false] at hb
    rcases hb with rfl | rfl | rfl | rfl | rfl <;> first | exact Nat.le_add_right _ _ | exact Nat.le_refl _
   exact I1.fpOk hb' (I1.hok.fresh hb')
  cases t with
  | true =>
   obtain ⟨its1,_,p1,_⟩:=I1.tuple (SqT.of (show H1 l1=some (.tup xs) from g1))
   obtain ⟨its2,_,p2,_⟩:=I1.tuple (SqT.of (show H1 l2=some (.tup ys) from g2))
   exact zip_tups (show s1.heap.IsTuple l1 its1.toArray from p1) (show s1.heap.IsTuple l2 its2.toArray from p2) fun h' y1 y2 y3 y4 y5 y6=>fin h' y1 y2 y3 (z1 h' (fun _=>y4) fun z=>by cases z) (z2 h' (fun _=>y5) fun z=>by cases z) y6
  | false =>
   obtain ⟨its1,_,p1,_⟩:=I1.list (SqL.of (show H1 l1=some (.lst xs) from g1))
   obtain ⟨its2,_,p2,_⟩:=I1.list (SqL.of (show H1 l2=some (.lst ys) from g2))
   exact call_zip_2 p1.isList p2.isList fun h' y1 y2 y3 y4 y5 y6 y7=>fin h' y1 y2 y3 (z1 h' (fun z=>by cases z) fun _=>y4) (z2 h' (fun z=>by cases z) fun _=>y5) y7
 rcases e with rfl | rfl
 ·obtain ⟨x,y,rfl,⟨l1,xs,rfl,g1,n1,w1⟩,⟨l2,ys,rfl,g2,n2,w2⟩⟩:=args2 r1
  exact main false l1 l2 xs ys rfl g1 g2 (fun _=>n1) (fun _=>n2) w1 w2
 ·obtain ⟨x,y,rfl,⟨l1,xs,rfl,g1,w1⟩,⟨l2,ys,rfl,g2,w2⟩⟩:=args2 r1
  exact main true l1 l2 xs ys rfl g1 g2 (fun z=>by cases z) (fun z=>by cases z) w1 w2
end
end L2
end


noncomputable section
set_option Elab.async false
set_option linter.all false
set_option maxRecDepth 100000
namespace L2
open PySem PySem.Spec PySem.SeqAt PyProof.Rows
section
variable {X:Cx} {C:Cfg} {tg iter a:Expr} {γ:GamB} {ψ ψ':Psi} {ι:PhiI} {body:List Stmt} {st:Stmt} {pos p px:Pos} {νs:PhiNS}
end
theorem rngD_get {lo:Int} {n i:Nat} {d:D} (h:(rngD lo n)[i]?=some d):i < n∧d=.int (lo+i):=by
 unfold rngD at h
 rw [List.getElem?_map] at h
 have hi:i < n:=by
  by_cases hi:i < n
  ·exact hi
  ·rw [List.getElem?_eq_none (by simpa using hi)] at h; cases h
 rw [List.getElem?_range hi] at h
 cases h
 exact ⟨hi,rfl⟩
theorem rngD_len {lo:Int} {n:Nat}:(rngD lo n).length=n:=by unfold rngD; simp
end L2
end

noncomputable section
set_option Elab.async false
set_option linter.all false
set_option maxRecDepth 100000
namespace L2
open PySem PySem.Spec PySem.SeqAt PyProof.Rows
section
variable {X:Cx} {C:Cfg} {tg it1 tg2 it2 elt a:Expr} {ifs ifs2:List Expr} {x y:Str} {scope:Scope} {N':List Str} {lk:List (Option Nat)} {i ih ih' kx:Nat} {ι ι2:PhiI} {γ γ2:Gam} {τ τ2:PhiB} {φ:Phi} {νs:PhiNS} {ν:PhiN} {p pos px tp pos' spos:Pos}
end
structure Df (K:PySem.W.Frag) (mg:Str→Option Value) (x:Str) (st:Stmt) (ps:List Str) (f:Addr) (fd:FuncData):Prop where
 F:Fun K x x st f fd
 b:Binds K fd ps []
 m:mg x=some (.ref f)
end L2
end

noncomputable section
set_option Elab.async false
set_option linter.all false
set_option maxRecDepth 100000
namespace L2
open PySem PySem.Spec PySem.SeqAt PyProof.Rows
structure Bs (mg:Str→Option Value):Prop where
 max:mg "max" = none
 min:mg "min" = none
 int:mg "int" = none
 range:mg "range" = none
 sorted:mg "sorted" = none
 set:mg "set" = none
 len:mg "len" = none
 list:mg "list" = none
def Tie (n:Int) (t:List Int):Prop:=∃ a b,t=[a,b]∧0≤a∧a < b∧b < n
theorem Tie.ne {n:Int} {t:List Int} (h:Tie n t):t≠[]:=by
 obtain ⟨a,b,rfl,_⟩:=h
 intro z; cases z
def Ties (n:Int) (ts:List (List Int)):Prop:=∀ t ∈ ts,Tie n t
theorem Ties.ne {n:Int} {ts:List (List Int)} (h:Ties n ts):∀ k ∈ ts,k≠[]:=fun k hk=>(h k hk).ne
theorem Ties.nil {n:Int}:Ties n []:=fun _ z=>(nomatch z)
theorem Ties.app {n:Int} {ts us:List (List Int)} (h:Ties n ts) (h':Ties n us):Ties n (ts++us):=fun t ht=>(List.mem_append.mp ht).elim (h t) (h' t)
theorem Ties.one {n:Int} {a b:Int} (h1:0≤a) (h2:a < b) (h3:b < n):Ties n [[a,b]]:=fun t ht=>by
 rw [List.mem_singleton.mp ht]
 exact ⟨a,b,rfl,h1,h2,h3⟩
theorem flats_kD (ts:List (List Int)):D.flats (ts.map kD)=true:=by
 have fi:∀ k:List Int,D.flats (k.map D.int)=true:=fun k=>by
  induction k with
  | nil=>rfl
  | cons i k ih=>show (D.flat (.int i) && D.flats (k.map D.int))=true; rw [ih]; rfl
 induction ts with
 | nil=>rfl
 | cons t ts ih =>
  show (D.flat (kD t) && D.flats (ts.map kD))=true
  rw [ih]
  show (D.flats (t.map D.int) && true)=true
  rw [fi]
  rfl
theorem sortL_ties {ts:List (List Int)} (h:∀ k ∈ ts,k≠[]) (l:ts.length≤1000000):(match [D.lst (ts.map kD)] with | [.lst ds]=>dSortT [.lst ds] | _=>none)=some (.lst ((srt ts).map kD)):=by
 show (match keysD (ts.map kD) with | some ks=>if ks.length≤1000000 then some (D.lst ((srt ks).map kD)) else none | none=>none)=_
 rw [keysD_map h]
 show (if ts.length≤1000000 then some (D.lst ((srt ts).map kD)) else none)=_
 rw [if_pos l]
theorem srt_ties {n:Int} {ts:List (List Int)} (h:Ties n ts):Ties n (srt ts):=fun t ht=>h t ((srt_perm ts).mem_iff.mp ht)
end L2
end

noncomputable section
set_option Elab.async false
set_option linter.all false
set_option maxRecDepth 100000
namespace L2
open PySem PySem.Spec PySem.SeqAt PyProof.Rows
theorem snoc_kD {fs:List (List Int)} {t:List Int}:(fs++[t]).map kD=fs.map kD++[kD t]:=by simp
theorem snoc_int {fs:List Int} {t:Int}:(fs++[t]).map D.int=fs.map D.int++[D.int t]:=by simp
theorem sz2 {a b:D}:[a,b].length≤sizeLine:=by show 2≤sizeLine; decide
theorem sz3 {a b c:D}:[a,b,c].length≤sizeLine:=by show 3≤sizeLine; decide
theorem sz1 {a:D}:[a].length≤sizeLine:=by show 1≤sizeLine; decide
theorem ifT {b:Bool} {p q:Prop} (hb:b=true) (h:p):(if b=true then p else q):=by rw [if_pos hb]; exact h
theorem ifF {b:Bool} {p q:Prop} (hb:b=false) (h:q):(if b=true then p else q):=by rw [hb,if_neg (by simp)]; exact h
theorem ifD {c:Prop} [Decidable c] {p q:Prop} (h1:c→p) (h2:¬ c→q):(if decide c=true then p else q):=by
 by_cases h:c
 ·exact ifT (by simp [h]) (h1 h)
 ·exact ifF (by simp [h]) (h2 h)
theorem ifN {c:Prop} [Decidable c] {p q:Prop} (h1:¬ c→p) (h2:c→q):(if (!decide c)=true then p else q):=by
 by_cases h:c
 ·exact ifF (by simp [h]) (h2 h)
 ·exact ifT (by simp [h]) (h1 h)
theorem pds_map {α:Type} (f:α→D):∀ l:List α,D.pds (l.map f)=l.map fun a=>(f a).pd
 | []=>rfl
 | a::l=>by
  show (f a).pd::D.pds (l.map f)=_
  rw [pds_map f l]
  rfl
theorem all_small {n:Nat}:∀ {xs:List PyData},(∀ x ∈ xs,x.canLay0=true∧x.depth≤n)→PyData.canLayAll0 xs=true∧PyData.depthAll xs≤n
 | [],_=>⟨by simp [PyData.canLayAll0],by simp [PyData.depthAll]⟩
 | x::xs,h=>by
  obtain ⟨h1,h2⟩:=all_small (n:=n) (xs:=xs) fun y hy=>h y (by simp [hy])
  obtain ⟨g1,g2⟩:=h x (by simp)
  refine ⟨by simp [PyData.canLayAll0,h1,g1],?_⟩
  simp only [PyData.depthAll]
  lia
theorem small_tup {n:Nat} {ds:List D} (h:∀ d ∈ ds,d.pd.canLay0=true∧d.pd.depth≤n):(D.tup ds).pd.canLay0=true∧(D.tup ds).pd.depth≤n+1:=by
 have e:D.pds ds=ds.map fun d=>d.pd:=by
  have:=pds_map (fun d:D=>d) ds
  simpa using this
 obtain ⟨h1,h2⟩:=all_small (n:=n) (xs:=D.pds ds) fun x hx=>by
  rw [e] at hx
  obtain ⟨d,hd,rfl⟩:=List.mem_map.mp hx
  exact h d hd
 refine ⟨by simpa [D.pd,PyData.canLay0] using h1,?_⟩
 have:(D.tup ds).pd.depth=PyData.depthAll (D.pds ds)+1:=by simp [D.pd,PyData.depth]
 lia
theorem small_lst {n:Nat} {ds:List D} (h:∀ d ∈ ds,d.pd.canLay0=true∧d.pd.depth≤n):(D.lst ds).pd.canLay0=true∧(D.lst ds).pd.depth≤n+1:=by
 have e:D.pds ds=ds.map fun d=>d.pd:=by
  have:=pds_map (fun d:D=>d) ds
  simpa using this
 obtain ⟨h1,h2⟩:=all_small (n:=n) (xs:=D.pds ds) fun x hx=>by
  rw [e] at hx
  obtain ⟨d,hd,rfl⟩:=List.mem_map.mp hx
  exact h d hd
 refine ⟨by simpa [D.pd,PyData.canLay0] using h1,?_⟩
 have:(D.lst ds).pd.depth=PyData.depthAll (D.pds ds)+1:=by simp [D.pd,PyData.depth]
 lia
theorem small_int (i:Int):(D.int i).pd.canLay0=true∧(D.int i).pd.depth≤1:=⟨by simp [D.pd,PyData.canLay0],by simp [D.pd,PyData.depth]⟩
theorem small_non:D.non.pd.canLay0=true∧D.non.pd.depth≤1:=⟨by simp [D.pd,PyData.canLay0],by simp [D.pd,PyData.depth]⟩
theorem small_bl (b:Bool):(D.bl b).pd.canLay0=true∧(D.bl b).pd.depth≤1:=⟨by simp [D.pd,PyData.canLay0],by simp [D.pd,PyData.depth]⟩
theorem small_kD (t:List Int):(kD t).pd.canLay0=true∧(kD t).pd.depth≤2:=small_tup fun d hd=>by
 obtain ⟨i,_,rfl⟩:=List.mem_map.mp hd
 exact small_int i
theorem small_ties (ts:List (List Int)):(D.lst (ts.map kD)).pd.canLay0=true∧(D.lst (ts.map kD)).pd.depth≤3:=small_lst fun d hd=>by
 obtain ⟨i,_,rfl⟩:=List.mem_map.mp hd
 exact small_kD i
theorem small_ints (ts:List Int):(D.lst (ts.map D.int)).pd.canLay0=true∧(D.lst (ts.map D.int)).pd.depth≤2:=small_lst fun d hd=>by
 obtain ⟨i,_,rfl⟩:=List.mem_map.mp hd
 exact small_int i
theorem shp_of {d:D} {n:Nat} (h:d.pd.canLay0=true∧d.pd.depth≤n) (hn:n≤64:=by decide):d.shp=true:=by
 show (d.pd.canLay0 && decide (d.pd.depth≤64))=true
 rw [h.1,decide_eq_true (by lia)]
 rfl
theorem eqvAll_map {α:Type} [DecidableEq α] {f:α→PyData} (hf:∀ a b,PyData.eqv (f a) (f b)=decide (a=b)):∀ xs ys:List α,PyData.eqvAll (xs.map f) (ys.map f)=decide (xs=ys)
 | [],[]=>by simp [PyData.eqvAll]
 | [],_::_=>by simp [PyData.eqvAll]
 | _::_,[]=>by simp [PyData.eqvAll]
 | x::xs,y::ys=>by
  simp only [List.map_cons,PyData.eqvAll]
  rw [hf,eqvAll_map hf xs ys]
  by_cases h1:x=y
  ·by_cases h2:xs=ys <;> simp [h1,h2]
  ·simp [h1]
theorem eqv_int (i j:Int):PyData.eqv (D.int i).pd (D.int j).pd=decide (i=j):=by
 simp only [D.pd,PyData.eqv]
 by_cases h:i=j <;> simp [h]
theorem eqv_ints (ts us:List Int):PyData.eqv (D.lst (ts.map D.int)).pd (D.lst (us.map D.int)).pd=decide (ts=us):=by
 show PyData.eqv (.list (D.pds (ts.map D.int))) (.list (D.pds (us.map D.int)))=_
 rw [pds_map,pds_map]
 simp only [PyData.eqv]
 exact eqvAll_map eqv_int ts us
theorem dEq_of {a b:D} {c:Bool} (h1:a.shp=true) (h2:b.shp=true) (e:PyData.eqv a.pd b.pd=c):dEq a b=some (.bl c):=by
 unfold dEq
 rw [if_pos ⟨h1,h2⟩,e]
theorem dNe_of {a b:D} {c:Bool} (h1:a.shp=true) (h2:b.shp=true) (e:PyData.eqv a.pd b.pd=c):dNe a b=some (.bl (!c)):=by
 unfold dNe
 rw [if_pos ⟨h1,h2⟩,e]
theorem dEq_int (i j:Int):dEq (.int i) (.int j)=some (.bl (decide (i=j))):=dEq_of (shp_of (small_int i)) (shp_of (small_int j)) (eqv_int i j)
theorem dNe_ints (ts us:List Int):dNe (.lst (ts.map D.int)) (.lst (us.map D.int))=some (.bl (!decide (ts=us))):=dNe_of (shp_of (small_ints ts)) (shp_of (small_ints us)) (eqv_ints ts us)
end L2
end

noncomputable section
set_option Elab.async false
set_option linter.all false
set_option maxRecDepth 100000
namespace L2
open PySem PySem.Spec PySem.SeqAt PyProof.Rows
theorem atN {α:Type} {ds:List α} {i:Nat} {d:α} (h:ds[i]?=some d):atI ds (i:Int)=some d:=by
 have hl:i < ds.length:=(List.getElem?_eq_some_iff.mp h).1
 unfold atI ixN
 rw [if_pos (by lia),if_pos (by lia),Int.toNat_natCast]
 exact h
theorem atI_of {α:Type} {ds:List α} {i:Int} (h0:0≤i) (h1:i < ds.length):∃ d ∈ ds,atI ds i=some d∧ds[i.toNat]?=some d:=by
 have hl:i.toNat < ds.length:=by lia
 refine ⟨ds[i.toNat],List.getElem_mem hl,?_,List.getElem?_eq_getElem hl⟩
 have:=atN (ds:=ds) (i:=i.toNat) (List.getElem?_eq_getElem hl)
 rwa [show ((i.toNat:Nat):Int)=i by lia] at this
theorem dIx_lst {ds:List D} {i:Nat} {d:D} (h:ds[i]?=some d):dIx (.lst ds) (.int (i:Int))=some d:=atN h
theorem pick {ds:List D} {r:Int} {p:D→Prop} (h0:0≤r) (h1:r < ds.length) (h:∀ d ∈ ds,p d):∃ d,dIx (.lst ds) (.int r)=some d∧p d:=by
 obtain ⟨d,hd,e,_⟩:=atI_of h0 h1
 exact ⟨d,e,h d hd⟩
end L2
namespace L2
open PySem PySem.Spec PySem.SeqAt PyProof.Rows
end L2
end

noncomputable section
set_option Elab.async false
set_option linter.all false
set_option maxRecDepth 100000
namespace L2
open PySem PySem.Spec PySem.SeqAt PyProof.Rows
def tyD:D→Option String
 | .non=>some "NoneType"
 | .bl _=>some "bool"
 | .int _=>some "int"
 | .str _=>some "str"
 | .tup _=>some "tuple"
 | .lst _=>some "list"
 | _=>none
section
variable {X:Cx} {W:Addr→Prop} {H:Hp} {pins:List (Addr × Obj)} {σ:St} {s:Shared}
theorem Rp.ty {d:D} {v:V} {T:String} (h:Rp X W H d v) (e:tyD d=some T):TyOf X.K H v (.type T):=by
 cases d with
 | non=>cases h; cases e; exact .non
 | bl b=>cases h; cases e; exact .bl _
 | int b=>cases h; cases e; exact .int _
 | str b=>cases h; cases e; exact .str _
 | tup ds=>obtain ⟨a,vs,rfl,h1,_⟩:=h; cases e; exact .tup h1
 | lst ds=>obtain ⟨a,vs,rfl,h1,_⟩:=h; cases e; exact .lst h1
 | _=>cases e
theorem call_isi2:CallR X (.builtin "isinstance") (fun xs H Q=>∃ x p n1 n2 T k,xs=[x,.ref p]∧H p=some (.tup [.ty n1,.ty n2])∧TyOf X.K H x (.type T)∧PySem.W.kitAny X.K (.type T) [.type n1,.type n2]=some k∧Q (.bl k) H):=by
 intro pins s σ H xs us Q I r h
 obtain ⟨x,p,n1,n2,T,k,rfl,hp,ty,e,q⟩:=h
 obtain ⟨u,w',rfl,r1,r2⟩:=vals2 r
 cases (show w'=Value.ref p from r2)
 obtain ⟨_,its,rv,o,ho,hc,n,hd⟩:=(show ObjOk X.prog X.w H s.heap p (.tup [.ty n1,.ty n2]) from I.hok p _ hp)
 obtain ⟨u1,u2,rfl,e1,e2⟩:∃ u1 u2,its=[u1,u2]∧RelV (.ty n1) u1∧RelV (.ty n2) u2:=by
  cases rv with
  | cons a rr=>cases rr with
   | cons b rr=>cases rr; exact ⟨_,_,rfl,a,b⟩
 cases (show u1=Value.type n1 from e1)
 cases (show u2=Value.type n2 from e2)
 obtain ⟨c,dd,dt,sl⟩:=o
 simp only at hc hd
 subst hc hd
 have fin:∀ tk,EP X pins σ Q (.bool k) { s with toks:=tk }:=fun tk=>⟨.bl k,H,I.tok _,rfl,q⟩
 cases ty with
 | non=>cases (show u=Value.none from r1); exact PySem.W.kia_tup PySem.W.kitx_none I.kIn True.intro ho e (fun z=>nomatch z) fin
 | bl y=>cases (show u=Value.bool y from r1); exact PySem.W.kia_tup PySem.W.kitx_bool I.kIn True.intro ho e (fun z=>nomatch z) fin
 | int i=>obtain ⟨t,q⟩:=(show ∃ t,u=Value.int i t from r1); cases q; exact PySem.W.kia_tup PySem.W.kitx_int I.kIn True.intro ho e (fun z=>nomatch z) fin
 | str y=>obtain ⟨t,q⟩:=(show ∃ t,u=Value.str y t from r1); cases q; exact PySem.W.kia_tup PySem.W.kitx_str I.kIn True.intro ho e (fun z=>nomatch z) fin
 | flt y=>obtain ⟨t,q⟩:=(show ∃ t,u=Value.float y t from r1); cases q; exact PySem.W.kia_tup PySem.W.kitx_float I.kIn True.intro ho e (fun z=>nomatch z) fin
 | @lst a xs ea =>
  cases (show u=Value.ref a from r1)
  obtain ⟨_,_,n,_,h1⟩:=(show ObjOk X.prog X.w H s.heap a (.lst xs) from I.hok a _ ea)
  exact PySem.W.kia_tup PySem.W.kitx_list I.kIn ⟨_,h1,rfl⟩ ho e (fun z=>nomatch z) fin
 | @frz a ob xs ea =>
  cases (show u=Value.ref a from r1)
  obtain ⟨_,_,_,n,_,h1⟩:=(show ObjOk X.prog X.w H s.heap a (.frz ob (.lst xs)) from I.hok a _ ea)
  exact PySem.W.kia_tup PySem.W.kitx_list I.kIn ⟨_,h1,rfl⟩ ho e (fun z=>nomatch z) fin
 | @tup a xs ea =>
  cases (show u=Value.ref a from r1)
  obtain ⟨_,_,_,p⟩:=(show ObjOk X.prog X.w H s.heap a (.tup xs) from I.hok a _ ea)
  obtain ⟨o,h1,h2,_⟩:=p
  exact PySem.W.kia_tup PySem.W.kitx_tuple I.kIn ⟨o,h1,h2⟩ ho e (fun z=>nomatch z) fin
 | @dK a kvs ea =>
  cases (show u=Value.ref a from r1)
  obtain ⟨_,_,vs,_,p⟩:=(show ObjOk X.prog X.w H s.heap a (.dK kvs) from I.hok a _ ea)
  obtain ⟨o,es,ep,h1,h2,_⟩:=p
  exact PySem.W.kia_tup PySem.W.kitx_dict I.kIn ⟨o,h1,h2.1⟩ ho e (fun z=>nomatch z) fin
 | @dT a kvs ea =>
  cases (show u=Value.ref a from r1)
  obtain ⟨_,_,xs,_,o,es,ep,h1,h2,_⟩:=(show ObjOk X.prog X.w H s.heap a (.dT kvs) from I.hok a _ ea)
  exact PySem.W.kia_tup PySem.W.kitx_dict I.kIn ⟨o,h1,h2.1⟩ ho e (fun z=>nomatch z) fin
end
section
variable {X:Cx} {a:Expr} {φ:Phi} {T T2:Str} {n n2:String} {p p2 p3 tp pos:Pos} {x1:Nat}
theorem pv_isi1 (hm:X.mg "isinstance" = none) (ha:PV X a φ) (hT:X.mg T=none) (bT:bootBuiltins T=some (.type n)) (hg:Gl X "isinstance" := by rfl) (hgT:Gl X T:=by rfl) (hnT:T≠"__name__" := by decide) (hdT:(T == ("__debug__" : Str))=false:=by decide)
  (hsp:starEach [a,.Name T p2] X.env=(false,eval a X.env)::starEach [.Name T p2] X.env:=by rfl) (hsp2:starEach [.Name T p2] X.env=(false,eval (.Name T p2) X.env)::starEach [] X.env:=by rfl) (hpl:(backTo pos (starEach [.Name T p2] X.env)).any (·.1)=false:=by rfl) :
  PV X (.Call (.Name "isinstance" p) [a,.Name T p2] [] pos) (fun ρ R=>φ ρ fun d=>∃ t k,tyD d=some t∧PySem.W.kitOne X.K (.type t) (.type n)=some k∧R (.bl k)) :=
 ⟨fun ρ R R' k h=>ha.mono ρ _ _ (fun d ⟨t,b,h1,h2,q⟩=>⟨t,b,h1,h2,k _ q⟩) h,
  (pe_callB call_isi hg hm bt_isi (pa_cons ha.pe (pa_cons (pe_bltn (v:=.ty n) hgT hT bT rfl hnT hdT) pa_nil hsp2) hsp) (he:=hsp) (hpl:=hpl)).pre fun σ H Q ⟨W,ρ,se,h⟩=>tD.of ha se h fun d v H1 ⟨t,k,h1,h2,q⟩ s1 r1 =>
    ⟨v,n,_,k,rfl,r1.ty h1,h2,q _ H1 s1 rfl⟩⟩
theorem pv_isi2 (hm:X.mg "isinstance" = none) (ha:PV X a φ) (hT:X.mg T=none) (bT:bootBuiltins T=some (.type n)) (hT2:X.mg T2=none) (bT2:bootBuiltins T2=some (.type n2)) (hg:Gl X "isinstance" := by rfl) (hgT:Gl X T:=by rfl) (hnT:T≠"__name__" := by decide) (hdT:(T == ("__debug__" : Str))=false:=by decide) (hgT2:Gl X T2:=by rfl) (hnT2:T2≠"__name__" := by decide) (hdT2:(T2 == ("__debug__" : Str))=false:=by decide)
  (hsp:starEach [a,.Tuple [.Name T p2,.Name T2 p3] x1 tp] X.env=(false,eval a X.env)::starEach [.Tuple [.Name T p2,.Name T2 p3] x1 tp] X.env:=by rfl) (hsp2:starEach [.Tuple [.Name T p2,.Name T2 p3] x1 tp] X.env=(false,eval (.Tuple [.Name T p2,.Name T2 p3] x1 tp) X.env)::starEach [] X.env:=by rfl) (hpl:(backTo pos (starEach [.Tuple [.Name T p2,.Name T2 p3] x1 tp] X.env)).any (·.1)=false:=by rfl)
  (hq1:starEach [.Name T p2,.Name T2 p3] X.env=(false,eval (.Name T p2) X.env)::starEach [.Name T2 p3] X.env:=by rfl) (hq2:starEach [.Name T2 p3] X.env=(false,eval (.Name T2 p3) X.env)::starEach [] X.env:=by rfl) :
  PV X (.Call (.Name "isinstance" p) [a,.Tuple [.Name T p2,.Name T2 p3] x1 tp] [] pos) (fun ρ R=>φ ρ fun d=>∃ t k,tyD d=some t∧PySem.W.kitAny X.K (.type t) [.type n,.type n2]=some k∧R (.bl k)) :=
 ⟨fun ρ R R' k h=>ha.mono ρ _ _ (fun d ⟨t,b,h1,h2,q⟩=>⟨t,b,h1,h2,k _ q⟩) h,
  (pe_callB call_isi2 hg hm bt_isi (pa_cons ha.pe (pa_cons (pe_tup (pa_cons (pe_bltn (v:=.ty n) hgT hT bT rfl hnT hdT) (pa_cons (pe_bltn (v:=.ty n2) hgT2 hT2 bT2 rfl hnT2 hdT2) pa_nil hq2) hq1)) pa_nil hsp2) hsp) (he:=hsp) (hpl:=hpl)).pre fun σ H Q ⟨W,ρ,se,h⟩=>tD.of ha se h fun d v H1 ⟨t,k,h1,h2,q⟩ s1 r1 =>
    ⟨by show 2≤sizeLine; decide,fun p hp=>⟨v,p,n,n2,t,k,rfl,upd_same,Rp.ty (X:=X) (r1.same (Same.new hp)) h1,h2,q _ _ (s1.trans (Same.new hp)) rfl⟩⟩⟩
end
theorem kit_ll {K:PySem.W.Frag}:PySem.W.kitOne K (.type "list") (.type "list")=some true:=rfl
theorem kit_tl {K:PySem.W.Frag}:PySem.W.kitOne K (.type "tuple") (.type "list")=some false:=rfl
theorem kit_is {K:PySem.W.Frag}:PySem.W.kitOne K (.type "int") (.type "str")=some false:=rfl
theorem kit_ss {K:PySem.W.Frag}:PySem.W.kitOne K (.type "str") (.type "str")=some true:=rfl
theorem kit_ii {K:PySem.W.Frag}:PySem.W.kitOne K (.type "int") (.type "int")=some true:=rfl
theorem kit_ib {K:PySem.W.Frag}:PySem.W.kitOne K (.type "int") (.type "bool")=some false:=rfl
theorem kit_ilt {K:PySem.W.Frag}:PySem.W.kitAny K (.type "int") [.type "list",.type "tuple"]=some false:=rfl
theorem kit_slt {K:PySem.W.Frag}:PySem.W.kitAny K (.type "str") [.type "list",.type "tuple"]=some false:=rfl
theorem kit_nlt {K:PySem.W.Frag}:PySem.W.kitAny K (.type "NoneType") [.type "list",.type "tuple"]=some false:=rfl
theorem kit_tlt {K:PySem.W.Frag}:PySem.W.kitAny K (.type "tuple") [.type "list",.type "tuple"]=some true:=rfl
theorem kit_llt {K:PySem.W.Frag}:PySem.W.kitAny K (.type "list") [.type "list",.type "tuple"]=some true:=rfl
end L2
end



noncomputable section
set_option Elab.async false
set_option linter.all false
set_option maxRecDepth 100000
namespace L2.Q
open PySem PySem.Spec PySem.SeqAt PyProof.Rows
def allB (β:Bet):Rho:=β.map fun b=>match b with | some (.val _ d)=>some d | some (.own d)=>some d | _=>none
def valB (β:Bet):Rho:=β.map fun b=>match b with | some (.val _ d)=>some d | _=>none
section
variable {P:Program} {w:World} {C:Cfg} {σ:St} {H H':Hp} {β:Bet} {own:Nat→List Addr} {i:Nat}
theorem SQ'.seeA (s:SQ' P w C σ H β own):SE' P w (fun _=>False) σ H (allB β):=⟨fun a z=>z.elim,fun i d e=>by
 unfold allB at e
 rw [List.getElem?_map] at e
 cases q:β[i]? with
 | none=>rw [q] at e; cases e
 | some x =>
  rw [q] at e
  cases x with
  | none=>cases e
  | some x =>
   cases x with
   | val y d'=>cases e; obtain ⟨v,h1,h2⟩:=s.val i y d q; exact ⟨v,h1,h2.anti fun _ z=>z.elim⟩
   | own d'=>cases e; obtain ⟨v,h1,h2,_⟩:=s.ow i d q; exact ⟨v,h1,h2.rep fun _ _ z=>z⟩
   | hand ok=>cases e
   | shl y d=>cases e⟩
theorem SQ'.seeV (s:SQ' P w C σ H β own):SE' P w (av C (Wn own) .old) σ H (valB β):=⟨s.dmK .old,fun i d e=>by
 unfold valB at e
 rw [List.getElem?_map] at e
 cases q:β[i]? with
 | none=>rw [q] at e; cases e
 | some x =>
  rw [q] at e
  cases x with
  | none=>cases e
  | some x =>
   cases x with
   | val y d'=>cases e; obtain ⟨v,h1,h2⟩:=s.val i y d q; exact ⟨v,h1,h2.anti fun a z=>by cases y <;> first | exact .inl z | exact .inl (.inl z)⟩
   | own d'=>cases e
   | hand ok=>cases e
   | shl y d=>cases e⟩
end
section
variable {X:Cx} {C:Cfg} {e tg it:Expr} {φ:Phi} {ι:PhiI}
theorem pq_old (h:PV X e φ):PQ X C true e (fun β R=>φ (allB β) fun d=>d.flat=true∧R d .own β) :=
 ⟨fun β R R' k q=>h.mono _ _ _ (fun d q=>⟨q.1,k _ _ _ q.2⟩) q,h.pe.pre fun σ H Q hq1=>by obtain ⟨β,own,s,q⟩:=hq1; exact tD.of h s.seeA q fun d v H1 hq2 s1 r1=>by obtain ⟨f,q⟩:=hq2; exact q v H1 own ((Out.refl s true).same s1) (KV.flat f r1)⟩
theorem pqi_old (h:PVI X tg it ι):PQI X C true tg it (fun β R=>ι (valB β) fun ds=>R ds .old β) :=
 ⟨fun β R R' k q=>h.mono _ _ _ (fun d q=>k _ _ _ q) q,h.pi.pre fun σ H R hq3=>by obtain ⟨β,own,s,q⟩:=hq3; exact ⟨_,_,s.seeV,h.mono _ _ _ (fun ds q J H' s1 it=>q J H' own ((Out.refl s true).same s1) it) q⟩⟩
end
section
variable {P:Program} {w:World} {C:Cfg} {σ:St} {H:Hp} {β:Bet} {own:Nat→List Addr} {i:Nat} {ok:List Int→Prop} {ns:List Int}
end
section
variable {X:Cx} {C:Cfg} {e:Expr} {φ:PhiQ} {p:Bool} {i:Nat} {x:Str} {pos pos' px ap cp:Pos} {ok:List Int→Prop} {φs:PhiQS}
theorem SQ'.putL {P:Program} {w:World} {σ:St} {H:Hp} {β:Bet} {own:Nat→List Addr} {U U2:Addr→Prop} {ds ds':List D} {vs':List V} {a:Addr} {vs:List V} {A A':List Addr} (s:SQ' P w (C.u U) σ H β own) (e:β[i]?=some (some (.own (.lst ds)))) (h1:σ[i]?=some (some (.ref a))) (h2:H a=some (.lst vs)) (h3:own i=a::A)
  (r:Owns P w H ds' vs' A') (nd:A'.Nodup) (hA:∀ c ∈ A',c ∈ A∨(C.H0 c=none∧¬ Wn own c∧U c)) (hU:∀ a,U2 a→U a) (hA2:∀ c ∈ A',c ∉ A→¬ U2 c) :
  SQ' P w (C.u U2) σ (upd H a (.lst vs')) (β.set i (some (.own (.lst ds')))) (ownSet own i (a::A'))∧∀ c ∈ a::A',c ∈ own i∨(C.H0 c=none∧¬ Wn own c∧U c):=by
 have ha:a ∈ own i:=by rw [h3]; simp
 have nA:a ∉ A:=by have:=s.nod i; rw [h3] at this; exact (List.nodup_cons.mp this).1
 have na:∀ c ∈ A',c≠a:=fun c hc z=>by
  subst z
  rcases hA c hc with z | z
  ·exact nA z
  ·exact z.2.1 ⟨i,ha⟩
 have kt:∀ b xs,H b=some (.tup xs)→upd H a (.lst vs') b=some (.tup xs):=fun b xs z=>by rw [upd_ne (fun z'=>by rw [z',h2] at z; cases z)]; exact z
 have hA':∀ c ∈ a::A',c ∈ own i∨(C.H0 c=none∧¬ Wn own c∧U c):=fun c hc=>by
  rcases List.mem_cons.mp hc with rfl | hc
  ·exact .inl ha
  ·exact (hA c hc).imp (fun z=>by rw [h3]; simp [z]) id
 refine ⟨s.putU e h1 ha ⟨a,vs',A',rfl,upd_same,rfl,r.keep kt fun c hc oc ec=>by rw [upd_ne (na c hc)]; exact ec⟩ (List.nodup_cons.mpr ⟨fun z=>na a z rfl,nd⟩) hA' hU (fun c hc z=>?_),hA'⟩
 rcases List.mem_cons.mp hc with rfl | hc
 ·exact (s.dm i c ha).2.2.2 (hU c z)
 ·by_cases q:c ∈ A
  ·exact (s.dm i c (by rw [h3]; simp [q])).2.2.2 (hU c z)
  ·exact hA2 c hc q z
theorem own_less {own:Nat→List Addr} {i:Nat} {A':List Addr} (h:∀ c ∈ A',c ∈ own i):∀ c,Wn (ownSet own i A') c→Wn own c:=fun c hq8=>by
 obtain ⟨j,hj⟩:=hq8
 by_cases hij:i=j
 ·rw [← hij,os_eq] at hj; exact ⟨i,h c hj⟩
 ·rw [os_ne hij] at hj; exact ⟨j,hj⟩
theorem pop_kv {P:Program} {w:World} {H:Hp} {own:Nat→List Addr} {Z:Hp × (Addr→Prop)} {d:D} {v:V} {A:List Addr} (r:Own P w H d v A) (h:∀ c ∈ A,¬ Wn own c∧C.H0 c=none):KV P w C Z own H (sk .yng d) d v:=by
 have q:RepD P w (av C (Wn own) .yng) H d v:=r.rep fun c hc z=>z.elim (h c hc).1 fun z=>z (h c hc).2
 cases d with
 | int i=>exact KV.flat rfl q
 | bl i=>exact KV.flat rfl q
 | non=>exact KV.flat rfl q
 | str i=>exact KV.flat rfl q
 | _=>exact q
theorem Owns.concat {P:Program} {w:World} {H:Hp} {ds:List D} {d:D} {vs:List V} {A:List Addr} (h:Owns P w H (ds++[d]) vs A):∃ us v A1 A2,vs=us++[v]∧A=A1++A2∧Owns P w H ds us A1∧Own P w H d v A2:=by
 obtain ⟨v,A1,A2,A3,g1,g2,g3,g4,g5⟩:=h.split (i:=ds.length) (d:=d) (by simp)
 rw [List.take_left] at g3
 have e3:Owns P w H [] (vs.drop (ds.length+1)) A3:=by simpa using g5
 have hl:=h.length
 rw [List.length_append,List.length_singleton] at hl
 refine ⟨vs.take ds.length,v,A1,A2,?_,by rw [g2,e3.2,List.append_nil],g3,g4⟩
 have hlt:ds.length < vs.length:=by omega
 have e1:vs=vs.take ds.length++vs.drop ds.length:=(List.take_append_drop _ _).symm
 rw [List.drop_eq_getElem_cons hlt,e3.1] at e1
 have:vs[ds.length]=v:=by
  have:=List.getElem?_eq_getElem hlt
  rw [g1] at this
  exact (Option.some.inj this).symm
 rw [this] at e1
 exact e1
theorem pq_pop (hN:X.N[i]?=some x:=by rfl) (hv:Vis X.env.scope x:=by first | exact .inl rfl | exact .inr (.inl rfl) | exact .inr (.inr rfl)) (hd:(x == ("__debug__" : Str))=false:=by decide) (hcd:(x == ("__classdict__" : Str))=false:=by decide)
  (hbase:attributeBase (.Name x px) "pop" X.env (eval (.Name x px) X.env)=eval (.Name x px) X.env:=by rfl) (hline:(ap.endLine == cp.line)=true:=by rfl) :
  PQ X C false (.Call (.Attribute (.Name x px) "pop" ap) [] [] cp) (fun β R=>∃ ds d,β[i]?=some (some (.own (.lst (ds++[d]))))∧R d (sk .yng d) (β.set i (some (.own (.lst ds))))) :=
 ⟨fun β R R' k hq9=>by obtain ⟨ds,d,h1,q⟩:=hq9; exact ⟨ds,d,h1,k _ _ _ q⟩,(pe_bm0 (apos:=ap) (cpos:=cp) PySem.F.plainAttrs_list PySem.F.slot_list_pop PySem.F.type_list_pop mt_pop (pe_var (pos:=px) hN hv hd hcd) hbase hline).pre fun σ H Q hq10=>by
  obtain ⟨β,own,s,ds,d,hb,q⟩:=hq10
  obtain ⟨a,vs,A,h1,h2,h3,h4⟩:=s.lstAt hb
  obtain ⟨us,v,A1,A2,rfl,rfl,g3,g4⟩:=h4.concat
  have nd:=s.nod i
  rw [h3] at nd
  obtain ⟨nd1,nd2,nd3⟩:=List.nodup_append.mp (List.nodup_cons.mp nd).2
  obtain ⟨s2,hA⟩:=s.putL (C:=C) (U:=C.U) (U2:=C.U) (ds':=ds) (vs':=us) (A':=A1) hb h1 h2 h3 g3 nd1 (fun c hc=>.inl (by simp [hc])) (fun _ z=>z) (fun c hc n=>absurd (by simp [hc]) n)
  have h0:∀ c ∈ own i,C.H0 c=none:=by obtain ⟨_,_,_,h⟩:=s.ow i _ hb; exact h
  have kt:∀ b xs,H b=some (.tup xs)→upd H a (.lst us) b=some (.tup xs):=fun b xs z=>by rw [upd_ne (fun z'=>by rw [z',h2] at z; cases z)]; exact z
  have na:∀ c ∈ A2,c≠a:=fun c hc z=>(List.nodup_cons.mp nd).1 (by rw [← z]; simp [hc])
  have le:∀ c,Wn (ownSet own i (a::A1)) c→Wn own c:=own_less fun c hc=>by rw [h3]; rcases List.mem_cons.mp hc with rfl | hc <;> simp [*]
  refine ⟨.ref a,h1,.inl ⟨rfl,_,SqL.of h2⟩,a,_,v,rfl,rfl,h2,by simp,?_⟩
  rw [List.dropLast_concat]
  refine q v _ _ ⟨s2,?_,fun z=>(nomatch z),le⟩ (pop_kv (C:=C) (g4.keep kt fun c hc oc ec=>by rw [upd_ne (na c hc)]; exact ec) fun c hc=>⟨fun ⟨j,hj⟩=>?_,h0 c (by rw [h3]; simp [hc])⟩)
  ·have u:=Sn.upd (Z:=(H,Wn own)) (o':=.lst us) (Sn.refl (H:=H) (W:=Wn own)) h2 (fun xs z=>by cases z) ⟨i,by rw [h3]; simp⟩
   exact ⟨fun b z=>.inl (le b z),u.k,u.d⟩
  ·by_cases hij:i=j
   ·rw [← hij,os_eq] at hj
    rcases List.mem_cons.mp hj with rfl | hj
    ·exact na _ hc rfl
    ·exact nd3 _ hj _ hc rfl
   ·rw [os_ne hij] at hj
    exact hij (s.dis i j c (by rw [h3]; simp [hc]) hj)⟩
end
end L2.Q
end

noncomputable section
set_option Elab.async false
set_option linter.all false
set_option maxRecDepth 100000
namespace L2.Q
open PySem PySem.Spec PySem.SeqAt PyProof.Rows
section
variable {X:Cx} {C:Cfg} {e k:Expr} {φ φk:PhiQ} {p pk:Bool} {i:Nat} {x:Str} {pos pos' px ap cp:Pos}
theorem ixN_lt {n:Nat} {j:Int} {k:Nat} (h:ixN n j=some k):k < n:=by
 unfold ixN at h
 by_cases h0:0≤j
 ·rw [if_pos h0] at h
  by_cases h1:j < n
  ·rw [if_pos h1] at h; cases h; lia
  ·rw [if_neg h1] at h; cases h
 ·rw [if_neg h0] at h
  by_cases h1:-(n:Int)≤j
  ·rw [if_pos h1] at h; cases h; lia
  ·rw [if_neg h1] at h; cases h
theorem sn_keep {Z:Hp × (Addr→Prop)} {H:Hp} {own:Nat→List Addr} {a:Addr} {o oa:HO} {A':List Addr} {U:Addr→Prop} (n:Sn Z H (Wn own)) (m:∀ a,U a→Z.1 a=none) (h2:H a=some oa) (ht:∀ xs,oa≠.tup xs) (ha:Wn own a) (hA:∀ c ∈ A',c ∈ own i∨(C.H0 c=none∧¬ Wn own c∧U c)):Sn Z (upd H a o) (Wn (ownSet own i A')) :=
 sn_put n m ha ⟨oa,h2,ht⟩ hA
theorem pb_setItem (he:∀ U,PQ X (C.u U) p e φ) (hk:∀ U,PQ X (C.u U) pk k φk) (hN:X.N[i]?=some x:=by rfl) (hv:Vis X.env.scope x:=by first | exact .inl rfl | exact .inr (.inl rfl) | exact .inr (.inr rfl)) (hd:(x == ("__debug__" : Str))=false:=by decide) (hcd:(x == ("__classdict__" : Str))=false:=by decide)
  (ha:∀ v,assign (.Subscript (.Name x px) k pos') X.env v=(do
   let ov ← holding [v] (eval (.Name x px) X.env)
   let iv ← holding [v,ov] (eval k X.env)
   standAt pos'
   holding [v,ov,iv] (setItem ov iv v)
   release [v,ov,iv] []):=by intro _; rfl) (hs:swapsWithSole [.Subscript (.Name x px) k pos'] e pos.line X.env=pure false:=by rfl) (hw:swappedStores [.Subscript (.Name x px) k pos'] e X.env=pure none:=by rfl)
  (h1:(assignEach [.Subscript (.Name x px) k pos'] X.env).map (·.2)=[assign (.Subscript (.Name x px) k pos') X.env]:=by rfl) :
  PB X C (.Assign [.Subscript (.Name x px) k pos'] e pos) (fun E β=>φ β fun d kd β1=>kFl kd d∧(∃ ds,β1[i]?=some (some (.own (.lst ds))))∧φk β1 fun jd _ β2=>∃ ds j m,jd=.int j∧β2[i]?=some (some (.own (.lst ds)))∧ixN ds.length j=some m∧E.nx (β2.set i (some (.own (.lst (ds.set m d)))))):=by
 refine ⟨fun E E' β l q=>(he fun _=>False).mono _ _ _ (fun d kd β1 hq10=>by obtain ⟨f,h0,q⟩:=hq10; exact ⟨f,h0,(hk fun _=>False).mono _ _ _ (fun jd _ β2 hq11=>by obtain ⟨ds,j,m,h1,h2,h3,q⟩:=hq11; exact ⟨ds,j,m,h1,h2,h3,l.nx _ q⟩) q⟩) q,fun pins s σ H De I ⟨Z,E,β,⟨own,sq,n⟩,q,ok⟩=>?_⟩
 refine ps_asg (he fun a=>H a=none).pe (pg_sub (pe_var (pos:=px) hN hv hd hcd) (hk fun a=>H a=none).pe set_list ha) hs hw h1 pins s σ H De I ?_
 refine tQ.of (he fun a=>H a=none) (sq.withU (C:=C.z) (U:=fun a=>H a=none) fun a z=>z) q fun d kd β1 v H1 own1 ⟨f,⟨ds0,hb0⟩,q⟩ o r=>?_
 obtain ⟨a0,vs0,A0,z1,z2,z3,z4⟩:=o.sq.lstAt hb0
 refine ⟨.ref a0,z1,tQ.of (hk fun a=>H a=none) o.sq q fun jd kj β2 jv H2 own2 ⟨ds,j,m,e1,hb,hj,q⟩ o2 r2=>?_⟩
 subst e1
 cases r2.rep
 obtain ⟨A,r1,rn,r3⟩:=(r.fl f).held (by intro z; cases z) o2.sn
 obtain ⟨a,vs,A',g1,g2,g3,g4⟩:=o2.sq.lstAt hb
 rw [z1] at g1
 cases g1
 have hml:m < ds.length:=ixN_lt hj
 have hm:ds[m]?=some ds[m]:=List.getElem?_eq_getElem hml
 obtain ⟨v0,B1,B2,B3,k1,rfl,k3,k4,k5⟩:=g4.split hm
 have nd:=o2.sq.nod i
 rw [g3] at nd
 obtain ⟨nd1,nd2,nd3⟩:=List.nodup_append.mp (List.nodup_cons.mp nd).2
 obtain ⟨nd4,nd5,nd6⟩:=List.nodup_append.mp nd2
 have hmv:m < vs.length:=by rw [g4.length]; exact ixN_lt hj
 have ow:Owns X.prog X.w H2 (ds.set m d) (vs.set m v) (B1++(A++B3)):=by
  rw [List.set_eq_take_append_cons_drop,if_pos (ixN_lt hj),List.set_eq_take_append_cons_drop,if_pos hmv]
  exact k3.append ⟨v,_,A,B3,rfl,rfl,r1,k5⟩
 have off:∀ c ∈ A,∀ c' ∈ B1++(B2++B3),c≠c':=fun c hc c' hc' z=>(r3 c hc).2.1 ⟨i,by rw [g3,z]; simp only [List.mem_cons]; exact .inr hc'⟩
 have ndn:(B1++(A++B3)).Nodup:=List.nodup_append.mpr ⟨nd1,List.nodup_append.mpr ⟨rn,nd5,fun x hx y hy=>off x hx y (by simp [hy])⟩,fun x hx y hy z=>by
  rcases List.mem_append.mp hy with hy | hy
  ·exact off y hy x (by simp [hx]) z.symm
  ·exact nd3 x hx y (List.mem_append_right _ hy) z⟩
 obtain ⟨s2,hA⟩:=o2.sq.putL (C:=C) (U:=fun a=>H a=none) (U2:=fun _=>False) (ds':=ds.set m d) (vs':=vs.set m v) (A':=B1++(A++B3)) hb z1 g2 g3 ow ndn (fun c hc=>by
  rcases List.mem_append.mp hc with hc | hc
  ·exact .inl (by simp [hc])
  ·rcases List.mem_append.mp hc with hc | hc
   ·exact .inr ⟨(r3 c hc).2.2,(r3 c hc).2.1,(r3 c hc).1⟩
   ·exact .inl (by simp [hc])) (fun _ z=>z.elim) (fun c hc n z=>z)
 exact ⟨a0,vs,j,m,rfl,rfl,g2,by rw [g4.length]; exact hj,ok.nx _ _ _ ⟨_,s2,sn_keep ((n.trans o.sn).trans o2.sn) (fun b z=>n.free z) g2 (fun xs z=>by cases z) ⟨i,by rw [g3]; simp⟩ hA⟩ q⟩
end
end L2.Q
end

noncomputable section
set_option Elab.async false
set_option linter.all false
set_option maxRecDepth 100000
namespace L2
open PySem PySem.Spec PySem.SeqAt PyProof.Rows
section
variable {X:Cx}
end
namespace Q
section
variable {P:Program} {w:World} {C:Cfg} {σ:St} {H:Hp} {β:Bet} {own:Nat→List Addr} {lk:List (Option Nat)} {a:Addr}
theorem SQ'.enterS {o:HO} (ho:∀ xs,o≠.tup xs) (s:SQ' P w C σ H β own) (ha:H a=none) (inj:∀ (i i' j:Nat),lk[i]?=some (some j)→lk[i']?=some (some j)→i=i') :
  SQ' P w (C.u fun c=>c=a) (inSt lk σ) (upd H a o) (inBet lk β) (inOwn lk β own):=by
 have h0:C.H0 a=none:=Decidable.by_contra fun z=>s.dmn a z ha
 have q:=(s.enter ha inj).setU (o:=o) upd_same (fun xs z=>by cases z) h0
 have e:upd (upd H a (.lst [])) a o=upd H a o:=by
  funext b
  by_cases hb:b=a
  ·rw [hb,upd_same,upd_same]
  ·rw [upd_ne hb,upd_ne hb,upd_ne hb]
 rwa [e] at q
end
section
variable {X:Cx} {C:Cfg} {lk:List (Option Nat)} {γ:GamQ} {τ:PhiQB} {φ:PhiQ} {T:List Nat} {pc pe:Bool}
variable {scope:Scope} {N':List Str} {tg it1 elt:Expr} {ifs:List Expr} {ι:PhiQI} {pi:Bool} {pos:Pos}
end
end Q
end L2
end

noncomputable section
set_option Elab.async false
set_option linter.all false
set_option maxRecDepth 100000
namespace L2.Q
open PySem PySem.Spec PySem.SeqAt PyProof.Rows
abbrev mkD (l:Bool) (ds:List D):D:=match l with | true=>.lst ds | false=>.tup ds
section
variable {P:Program} {w:World} {H:Hp} {A:List Addr} {v:V} {ds:List D} {l:Bool}
theorem own_item {m:Nat} {es:List D} (r:Own P w H (mkD l ds) v A) (nd:A.Nodup) (hm:ds[m]?=some (.lst es)):∃ a vs c us B,v=.ref a∧H a=some (match l with | true=>.lst vs | false=>.tup vs)∧vs.length=ds.length∧vs[m]?=some (.ref c)∧H c=some (.lst us)∧c ∈ A∧Owns P w H es us B∧(∀ x ∈ B,x ∈ A∧x≠c)∧B.Nodup ∧
  ∀ es' us' B',Owns P w H es' us' B'→B'.Nodup→(∀ x ∈ B',x ∈ B∨x ∉ A)→(∀ x ∈ B',x≠c)→∃ A',Own P w (upd H c (.lst us')) (mkD l (ds.set m (.lst es'))) v A'∧A'.Nodup∧∀ x ∈ A',x ∈ A∨x ∈ B':=by
 have core:∀ {vs:List V} {A:List Addr},A.Nodup→Owns P w H ds vs A→∃ c us B,vs[m]?=some (.ref c)∧H c=some (.lst us)∧c ∈ A∧Owns P w H es us B∧(∀ x ∈ B,x ∈ A∧x≠c)∧B.Nodup ∧
   ∀ es' us' B',Owns P w H es' us' B'→B'.Nodup→(∀ x ∈ B',x ∈ B∨x ∉ A)→(∀ x ∈ B',x≠c)→∃ A',Owns P w (upd H c (.lst us')) (ds.set m (.lst es')) vs A'∧A'.Nodup∧(∀ x ∈ A',x ∈ A∨x ∈ B'):=fun {vs A} nd os=>by
  have hl:=os.length
  have hmd:m < ds.length:=(List.getElem?_eq_some_iff.mp hm).1
  obtain ⟨u,A1,A2,A3,g1,rfl,g3,⟨c,us,B,rfl,h2,rfl,h4⟩,g5⟩:=os.split hm
  obtain ⟨nd1,nd2,nd3⟩:=List.nodup_append.mp nd
  obtain ⟨nd4,nd5,nd6⟩:=List.nodup_append.mp nd2
  have ncB:=(List.nodup_cons.mp nd4).1
  refine ⟨c,us,B,g1,h2,by simp,h4,fun x hx=>⟨by simp [hx],fun z=>ncB (by rw [← z]; exact hx)⟩,(List.nodup_cons.mp nd4).2,fun es' us' B' o' n' hb' hc'=>?_⟩
  have kt:∀ b xs,H b=some (.tup xs)→upd H c (.lst us') b=some (.tup xs):=fun b xs z=>by rw [upd_ne (fun z'=>by rw [z',h2] at z; cases z)]; exact z
  have n1:∀ x ∈ A1,x≠c:=fun x hx z=>nd3 x hx c (by simp) z
  have n3:∀ x ∈ A3,x≠c:=fun x hx z=>nd6 c (by simp) x hx z.symm
  have off:∀ x ∈ B',x ∉ A1∧x ∉ A3:=fun x hx=>by
   rcases hb' x hx with z | z
   ·exact ⟨fun q=>nd3 x q x (by simp [z]) rfl,fun q=>nd6 x (by simp [z]) x q rfl⟩
   ·exact ⟨fun q=>z (by simp [q]),fun q=>z (by simp [q])⟩
  have hmv:m < vs.length:=by omega
  have ev:vs=vs.take m++V.ref c::vs.drop (m+1):=by
   have e1:vs=vs.take m++vs.drop m:=(List.take_append_drop _ _).symm
   rw [List.drop_eq_getElem_cons hmv] at e1
   have:vs[m]=V.ref c:=by
    have:=List.getElem?_eq_getElem hmv
    rw [g1] at this
    exact (Option.some.inj this).symm
   rwa [this] at e1
  refine ⟨A1++((c::B')++A3),?_,List.nodup_append.mpr ⟨nd1,List.nodup_append.mpr ⟨List.nodup_cons.mpr ⟨fun z=>hc' c z rfl,n'⟩,nd5,fun x hx y hy=>?_⟩,fun x hx y hy z=>?_⟩,fun x hx=>?_⟩
  ·rw [List.set_eq_take_append_cons_drop,if_pos hmd]
   have q:Owns P w (upd H c (.lst us')) (ds.take m++.lst es'::ds.drop (m+1)) (vs.take m++.ref c::vs.drop (m+1)) (A1++((c::B')++A3)) :=
    (g3.keep kt fun x hx oc ec=>by rw [upd_ne (n1 x hx)]; exact ec).append ⟨.ref c,_,c::B',A3,rfl,rfl,⟨c,us',B',rfl,upd_same,rfl,o'.keep kt fun x hx oc ec=>by rw [upd_ne (hc' x hx)]; exact ec⟩,g5.keep kt fun x hx oc ec=>by rw [upd_ne (n3 x hx)]; exact ec⟩
   rw [← ev] at q
   exact q
  ·intro z
   subst z
   rcases List.mem_cons.mp hx with rfl | hx
   ·exact n3 _ hy rfl
   ·exact (off x hx).2 hy
  ·subst z
   rcases List.mem_append.mp hy with hy | hy
   ·rcases List.mem_cons.mp hy with rfl | hy
    ·exact n1 _ hx rfl
    ·exact (off x hy).1 hx
   ·exact nd3 x hx x (by simp [hy]) rfl
  ·rcases List.mem_append.mp hx with hx | hx
   ·exact .inl (by simp [hx])
   ·rcases List.mem_append.mp hx with hx | hx
    ·rcases List.mem_cons.mp hx with rfl | hx
     ·exact .inl (by simp)
     ·exact .inr hx
    ·exact .inl (by simp [hx])
 cases l with
 | true =>
  obtain ⟨a,vs,A',rfl,h2,rfl,h4⟩:=r
  obtain ⟨na,nd'⟩:=List.nodup_cons.mp nd
  obtain ⟨c,us,B,q1,q2,q3,q4,q5,q6,q7⟩:=core nd' h4
  have ca:c≠a:=fun z=>na (by rw [← z]; exact q3)
  refine ⟨a,vs,c,us,B,rfl,h2,h4.length,q1,q2,by simp [q3],q4,fun x hx=>⟨by simp [(q5 x hx).1],(q5 x hx).2⟩,q6,fun es' us' B' o' n' hb' hc'=>?_⟩
  obtain ⟨A2,g1,g2,g3⟩:=q7 es' us' B' o' n' (fun x hx=>(hb' x hx).imp id fun z q=>z (by simp [q])) hc'
  refine ⟨a::A2,⟨a,vs,A2,rfl,by rw [upd_ne ca.symm]; exact h2,rfl,g1⟩,List.nodup_cons.mpr ⟨fun z=>?_,g2⟩,fun x hx=>?_⟩
  ·rcases g3 a z with z | z
   ·exact na z
   ·rcases hb' a z with z | z
    ·exact na (q5 a z).1
    ·exact z (by simp)
  ·rcases List.mem_cons.mp hx with rfl | hx
   ·exact .inl (by simp)
   ·exact (g3 x hx).imp (fun z=>by simp [z]) id
 | false =>
  obtain ⟨a,vs,rfl,h2,h4⟩:=r
  obtain ⟨c,us,B,q1,q2,q3,q4,q5,q6,q7⟩:=core nd h4
  have ca:a≠c:=fun z=>by rw [z,q2] at h2; cases h2
  refine ⟨a,vs,c,us,B,rfl,h2,h4.length,q1,q2,q3,q4,q5,q6,fun es' us' B' o' n' hb' hc'=>?_⟩
  obtain ⟨A2,g1,g2,g3⟩:=q7 es' us' B' o' n' hb' hc'
  exact ⟨A2,⟨a,vs,rfl,by rw [upd_ne ca]; exact h2,g1⟩,g2,g3⟩
end
section
variable {X:Cx} {C:Cfg} {e k:Expr} {φ φk:PhiQ} {i:Nat} {x:Str} {pos pos' px kp ap cp:Pos}
theorem pb_appendAt (l:Bool) (he:∀ U,PQ X (C.u U) true e φ) (hk:∀ U,PQ X (C.u U) true k φk) (hN:X.N[i]?=some x:=by rfl) (hv:Vis X.env.scope x:=by first | exact .inl rfl | exact .inr (.inl rfl) | exact .inr (.inr rfl)) (hd:(x == ("__debug__" : Str))=false:=by decide) (hcd:(x == ("__classdict__" : Str))=false:=by decide)
  (hix:PlainIx k:=by exact fun _ _=>rfl)
  (hbase:attributeBase (.Subscript (.Name x px) k kp) "append" X.env (eval (.Subscript (.Name x px) k kp) X.env)=eval (.Subscript (.Name x px) k kp) X.env:=by rfl)
  (hfew:((backTo cp (starEach [e] X.env)).all (fun x=>!x.1) && (backToKw cp (keywordEach [] X.env)).all (fun x=>x.1.isSome) && decide ([e].length+([]:List Keyword).length+(if ([]:List Keyword).isEmpty then 0 else 1) < 30))=true:=by rfl)
  (hline:(ap.endLine == cp.line)=true:=by rfl) (hs:starEach [e] X.env=(false,eval e X.env)::starEach [] X.env:=by rfl) (hplain:(backTo cp (starEach [] X.env)).any (·.1)=false:=by rfl)
  (hsw:swapsWith (.Call (.Attribute (.Subscript (.Name x px) k kp) "append" ap) [e] [] cp) none pos.line X.env=pure false:=by rfl) :
  PB X C (.Expr (.Call (.Attribute (.Subscript (.Name x px) k kp) "append" ap) [e] [] cp) pos) (fun E β=>(∃ d0,β[i]?=some (some (.own d0)))∧φk β fun jd _ β1=>∃ ds j m es,jd=.int j∧β1[i]?=some (some (.own (mkD l ds)))∧ixN ds.length j=some m∧ds[m]?=some (.lst es)∧φ β1 fun d kd β2=>kFl kd d∧β2[i]?=some (some (.own (mkD l ds)))∧es.length < sizeLine∧E.nx (β2.set i (some (.own (mkD l (ds.set m (.lst (es++[d]))))))) ):=by
 refine ⟨fun E E' β l ⟨q0,q⟩=>⟨q0,(hk fun _=>False).mono _ _ _ (fun jd _ β1 ⟨ds,j,m,es,h1,h2,h3,h4,q⟩=>⟨ds,j,m,es,h1,h2,h3,h4,(he fun _=>False).mono _ _ _ (fun d kd β2 ⟨g1,g2,g3,q⟩=>⟨g1,g2,g3,l.nx _ q⟩) q⟩) q⟩,fun pins s σ H De I ⟨Z,E,β,⟨own,sq,n⟩,⟨⟨d0,hd0⟩,q⟩,ok⟩=>?_⟩
 have ix:IxR X (fun x y H Q=>rIxL X.K x y H Q∨rIxT X.K x y H Q):=fun value slice pins s σ H x y v u Q I rx ry h hs=>h.elim (fun h=>ix_list value slice pins s σ H x y v u Q I rx ry h hs) fun h=>ix_tup value slice pins s σ H x y v u Q I rx ry h hs
 refine ps_expr (pos:=pos) (pe_bm (apos:=ap) (cpos:=cp) PySem.F.plainAttrs_list PySem.F.slot_list_append PySem.F.type_list_append mt_append (pe_ix (pos:=kp) ix (pe_var (pos:=px) hN hv hd hcd) (hk fun a=>H a=none).pe hix) (pa_cons (he fun a=>H a=none).pe pa_nil hs) hbase hfew hline hs hplain) hsw pins s σ H De I ?_
 have sqU:=sq.withU (C:=C.z) (U:=fun a=>H a=none) fun a z=>z
 obtain ⟨v0,hv0,_,_⟩:=sq.ow i d0 hd0
 refine ⟨v0,hv0,tQ.of (hk fun a=>H a=none) sqU q fun jd kk β1 kv H1 own1 ⟨ds,j,m,es,e1,hb,hj,hm,q⟩ o r=>?_⟩
 subst e1
 cases r.rep
 obtain ⟨v,hv1,ow,h0⟩:=o.sq.ow i _ hb
 rw [hv0] at hv1
 cases hv1
 obtain ⟨a,vs,c,us,B,rfl,q1,q2,q3,q4,q5,q6,q7,q8,q9⟩:=own_item ow (o.sq.nod i) hm
 have at1:atI vs j=some (.ref c):=by unfold atI; rw [q2,hj]; exact q3
 have nxt:tyV X.K "list" (.ref c) H1∧tCons (tQ X (C.u fun a=>H a=none) true φ) tNil σ H1 fun xs H2=>rAppend (.ref c) xs H2 fun _ H1=>De.nx σ H1:=by
  refine ⟨.inl ⟨rfl,us,SqL.of q4⟩,tQ.of (he fun a=>H a=none) o.sq q fun d kd β2 v2 H2 own2 ⟨f,hb2,hl,q⟩ o2 r2=>?_⟩
  obtain ⟨s2,e2⟩:=o2.pu rfl
  obtain ⟨v',hv',ow2,h02⟩:=o2.sq.ow i _ hb2
  rw [hv0] at hv'
  cases hv'
  obtain ⟨a',vs',c',us',B',ea,p1,p2,p3,p4,p5,p6,p7,p8,p9⟩:=own_item ow2 (o2.sq.nod i) hm
  cases ea
  have e3:=s2 _ _ q1
  rw [p1] at e3
  have ev:vs'=vs:=by cases l <;> (cases e3; rfl)
  subst ev
  rw [q3] at p3
  cases p3
  have e4:=s2 _ _ q4
  rw [p4] at e4
  cases e4
  obtain ⟨A,r1,rn,r3⟩:=r2.fl f
  have offA:∀ x ∈ A,x ∉ own2 i:=fun x hx z=>(r3 x hx).2.1 ⟨i,z⟩
  obtain ⟨A',g1,g2,g3⟩:=p9 (es++[d]) (us++[v2]) (B'++A) (p6.append (Owns.one r1)) (List.nodup_append.mpr ⟨p8,rn,fun x hx y hy z=>offA y hy (by rw [← z]; exact (p7 x hx).1)⟩)
   (fun x hx=>(List.mem_append.mp hx).imp id (offA x)) (fun x hx z=>by
    rcases List.mem_append.mp hx with hx | hx
    ·exact (p7 x hx).2 z
    ·exact offA x hx (by rw [z]; exact p5))
  have hA:∀ x ∈ A',x ∈ own2 i∨(C.H0 x=none∧¬ Wn own2 x∧H x=none):=fun x hx=>by
   rcases g3 x hx with z | z
   ·exact .inl z
   ·rcases List.mem_append.mp z with z | z
    ·exact .inl (p7 x z).1
    ·exact .inr ⟨(r3 x z).2.2,(r3 x z).2.1,o.sn.free (r3 x z).1⟩
  exact ⟨c,us,v2,rfl,rfl,p4,by rw [p6.length]; exact hl,ok.nx _ _ _ ⟨_,o2.sq.putIn (C:=C) (U:=fun a=>H a=none) hb2 hv0 p5 g1 g2 hA,sn_put ((n.trans o.sn).trans o2.sn) (fun b z=>n.free z) ⟨i,p5⟩ ⟨_,p4,fun xs z=>by cases z⟩ hA⟩ q⟩
 cases l with
 | true=>exact .inl ⟨a,vs,j,.ref c,rfl,rfl,SqL.of q1,at1,nxt⟩
 | false=>exact .inr ⟨a,vs,j,.ref c,rfl,rfl,SqT.of q1,at1,nxt⟩
end
end L2.Q
end

noncomputable section
set_option Elab.async false
set_option linter.all false
set_option maxRecDepth 100000
namespace L2
open PySem PySem.Spec PySem.SeqAt PyProof.Rows
theorem ifB {b:Bool} {p q:Prop} (h1:b=true→p) (h2:b=false→q):(if b=true then p else q):=by
 cases b
 ·exact ifF rfl (h2 rfl)
 ·exact ifT rfl (h1 rfl)
end L2
end

noncomputable section
set_option Elab.async false
set_option linter.all false
set_option maxRecDepth 100000
namespace L2
open PySem PySem.Spec PySem.SeqAt PyProof.Rows
structure Bs2 (mg:Str→Option Value):Prop extends Bs mg where
 isi:mg "isinstance" = none
 tuple:mg "tuple" = none
 str:mg "str" = none
 bool:mg "bool" = none
 zip:mg "zip" = none
 enumerate:mg "enumerate" = none
theorem bt_str:bootBuiltins "str" = some (.type "str"):=by decide +kernel
theorem zipD_self {ds:List D} {d:D} (h:d ∈ zipD ds ds):∃ a ∈ ds,d=.tup [a,a]:=by
 obtain ⟨i,hi⟩:=List.mem_iff_getElem?.mp h
 obtain ⟨a,b,h1,h2,rfl⟩:=zipD_get hi
 rw [h1] at h2
 cases h2
 exact ⟨a,List.mem_of_getElem? h1,rfl⟩
inductive Leaf:D→Prop
 | int (i:Int):Leaf (.int i)
 | str (s:Str) (h:PyData.strOk s=true):Leaf (.str s)
 | non:Leaf .non
theorem small_str (x:Str) (h:PyData.strOk x=true):(D.str x).pd.canLay0=true∧(D.str x).pd.depth≤1:=⟨by simp [D.pd,PyData.canLay0,h],by simp [D.pd,PyData.depth]⟩
theorem dEq_self {d:D} {n:Nat} (h:d.pd.canLay0=true∧d.pd.depth≤n) (hn:n≤64:=by decide):dEq d d=some (.bl true):=dEq_of (shp_of h hn) (shp_of h hn) (eqv_refl _ h.1)
theorem dNe_self {d:D} {n:Nat} (h:d.pd.canLay0=true∧d.pd.depth≤n) (hn:n≤64:=by decide):dNe d d=some (.bl false):=dNe_of (shp_of h hn) (shp_of h hn) (eqv_refl _ h.1)
end L2
end

noncomputable section
set_option Elab.async false
set_option linter.all false
set_option maxRecDepth 100000
namespace L2.Q
open PySem PySem.Spec PySem.SeqAt PyProof.Rows
structure PQTs (X:Cx) (C:Cfg) (p:Bool) (ifs:List Expr) (τ:PhiQB):Prop where
 mono:∀ β R R',(∀ d β,R d β→R' d β)→τ β R→τ β R'
 pt:PTs X ifs (tQB X C p τ)
theorem ts_nil {X:Cx} {C:Cfg}:PQTs X C true [] tauT:=⟨fun _ _ _ k h=>k _ _ h,pqts_nil⟩
theorem ts_one {X:Cx} {C:Cfg} {p:Bool} {c:Expr} {τ:PhiQB} (h:PQT X C p c τ):PQTs X C p [c] τ:=⟨h.mono,pqts_one h⟩
section
variable {X:Cx} {C:Cfg} {lk:List (Option Nat)} {γ:GamQ} {τ:PhiQB} {φ:PhiQ} {T:List Nat} {pc pe pi:Bool} {scope:Scope} {N':List Str} {tg it1 elt:Expr} {ifs:List Expr} {ι:PhiQI} {pos pos' spos:Pos} {y:Str} {i:Nat}
theorem lcA (N':List Str) (lk:List (Option Nat)) (L:linksB X.env.scope.names X.N scope N' lk=true) (hN':N'.Nodup) (hc:X.calm=true) (hi:PQI X C pi tg it1 ι)
  (htg:∀ U cl c s H ex,PBG (compCx X scope N' cl c s H ex) (C.u U) tg T γ) (hts:∀ U cl c s H ex,PQTs (compCx X scope N' cl c s H ex) (C.u U) pc ifs τ) (hel:∀ U cl c s H ex,PQ (compCx X scope N' cl c s H ex) (C.u U) pe elt φ)
  (hT:T.all (fun i=>match lk[i]? with | some (some _)=>false | _=>true)=true:=by rfl) (hs:∀ x,foldedSetIterable it1 X.env x=pure x:=by intro _; rfl):PQ X C (pi && (pc && pe)) (.ListComp elt [⟨tg,it1,ifs,0⟩] scope pos) (qComp lk ι γ τ φ) :=
 pq_lc (Links.of L) hN' hT hc hi (fun a=>htg _) (fun a cl c s H ex=>(hts _ cl c s H ex).pt) (hts (fun _=>False) [] 0 X.s₀ X.H₀ []).mono (fun a=>hel _) (htg (fun _=>False) [] 0 X.s₀ X.H₀ []).mono (hel (fun _=>False) [] 0 X.s₀ X.H₀ []).mono hs
theorem sLcA (o:Bool) (N':List Str) (lk:List (Option Nat)) (L:linksB X.env.scope.names X.N scope N' lk=true) (hN':N'.Nodup) (hc:X.calm=true) (hi:∀ U,PQI X (C.u U) pi tg it1 ι)
  (htg:∀ U cl c s H ex,PBG (compCx X scope N' cl c s H ex) (C.u U) tg T γ) (hts:∀ U cl c s H ex,PQTs (compCx X scope N' cl c s H ex) (C.u U) pc ifs τ) (hel:∀ U cl c s H ex,PQ (compCx X scope N' cl c s H ex) (C.u U) pe elt φ)
  (hN:X.N.Nodup) (hT:T.all (fun i=>match lk[i]? with | some (some _)=>false | _=>true)=true:=by rfl) (hy:X.N[i]?=some y:=by rfl) (hx:Loc X.env.scope y:=by first | exact .inl rfl | exact .inr rfl) (hf:X.fn y=true∨X.env.scope.names.lookup y=some .local:=by first | exact .inl rfl | exact .inr rfl | assumption)
  (hsw:swapsWith (.ListComp elt [⟨tg,it1,ifs,0⟩] scope pos) (some (.Name y pos')) spos.line X.env=pure true:=by rfl)
  (hev:evalThenUse (.ListComp elt [⟨tg,it1,ifs,0⟩] scope pos) X.env (assign (.Name y pos') X.env)=(do let _ ← comprehension (.ListComp elt [⟨tg,it1,ifs,0⟩] scope pos) scope X.env (firstIterPos [⟨tg,it1,ifs,0⟩] pos) (newList []) false (eval it1 X.env) (some (assign (.Name y pos') X.env)); pure ()):=by first | rfl | exact arm_evalThenUse_ListComp ..)
  (hs:∀ x,foldedSetIterable it1 X.env x=pure x:=by intro _; rfl) :
  PB X C (.Assign [.Name y pos'] (.ListComp elt [⟨tg,it1,ifs,0⟩] scope pos) spos) (fun E β=>qComp lk ι γ τ φ β fun d _ β'=>E.nx (β'.set i (some (match o with | true=>.own d | false=>.val true d)))) :=
 ps_lc (K:=fun _ _ _=>True) (Links.of L) hN' hT hc hi htg (fun U cl c s H ex=>(hts U cl c s H ex).pt) (hts (fun _=>False) [] 0 X.s₀ X.H₀ []).mono hel (htg (fun _=>False) [] 0 X.s₀ X.H₀ []).mono (hel (fun _=>False) [] 0 X.s₀ X.H₀ []).mono o hN hy hx hf hsw hev hs
theorem ix_m:IxR X (rD2M X dIx NF):=fun value slice pins s σ H x y v u Q I rx ry ⟨W,d1,d2,d,hd,r1,r2,e,q⟩ hs =>
 ix_dIx value slice pins s σ H x y v u Q I rx ry ⟨W,d1,d2,d,hd,r1,r2,e,fun v H' s r=>q v H' s r fun f=>RepD.flat f r⟩ hs
end
section
variable {P:Program} {w:World} {K:PySem.W.Frag} {mg:Str→Option Value} {base:Heap} {k:Nat} {f:Addr} {fd:FuncData} {ps:List Str}
end
end L2.Q
end

noncomputable section
set_option Elab.async false
set_option linter.all false
set_option maxRecDepth 100000
namespace L2.Q
open PySem PySem.Spec PySem.SeqAt PyProof.Rows
inductive Dp:Nat→D→Prop
 | leaf {n:Nat} {d:D} (h:Leaf d):Dp n d
 | tup {n:Nat} {es:List D} (l:es.length≤1000) (h:∀ x ∈ es,Dp n x):Dp (n+1) (.tup es)
 | lst {n:Nat} {es:List D} (l:es.length≤1000) (h:∀ x ∈ es,Dp n x):Dp (n+1) (.lst es)
theorem Dp.int {n:Nat} {i:Int}:Dp n (.int i):=.leaf (.int i)
def fSameQ (n:Nat):FD:=fun ds R=>∃ d,ds=[d,d]∧Dp n d∧R (.bl true)
theorem fSameQ.mono {n:Nat}:Mono (fSameQ n):=fun ds R R' k ⟨d,e,h,q⟩=>⟨d,e,h,k _ q⟩
end L2.Q
end

noncomputable section
set_option Elab.async false
set_option linter.all false
set_option maxRecDepth 100000
namespace L2.Q
open PySem PySem.Spec PySem.SeqAt PyProof.Rows
theorem cutV_ints (ns:List Int) (lo hi:Option Int):∃ ms:List Int,cutV (ns.map V.int) lo hi=ms.map V.int∧ms.length≤ns.length:=by
 refine ⟨(ns.drop (HT.sIx (ns.map V.int).length 0 lo)).take (HT.sIx (ns.map V.int).length (ns.map V.int).length hi - HT.sIx (ns.map V.int).length 0 lo),?_,?_⟩
 ·unfold cutV
  rw [List.map_take,List.map_drop]
 ·rw [List.length_take,List.length_drop]
  omega
section
variable {P:Program} {w:World}
theorem reps_ints {W:Addr→Prop} {H:Hp}:∀ ns:List Int,RepDs P w W H (ns.map D.int) (ns.map V.int)
 | []=>rfl
 | n::ns=>⟨_,_,rfl,rfl,reps_ints ns⟩
theorem sq_none {N:List Str} {vs:List V} {H H':Hp} {n:Nat} {ro:Bool} {U:Addr→Prop} (hl:(L2.start N vs).length=n) (sm:Same H H'):SQ' P w ⟨H,fun _=>False,ro,U⟩ (L2.start N vs) H' (List.replicate n none) (fun _=>[]) :=
 ⟨by rw [hl,List.length_replicate],fun i y d h=>(rep_none h).elim,fun i d h=>(rep_none h).elim,fun i ok h=>(rep_none h).elim,fun i a h=>(nomatch h),fun i j a h=>(nomatch h),fun i=>List.nodup_nil,sm.kp,fun a z e=>z (sm.free e),fun i y d h=>(rep_none h).elim⟩
theorem rt_bl {ro:Bool} {H H':Hp} {b:Bool} {v:V} (h:NewV P w ro H H' (.bl b) v):v=.bl b:=by
 cases ro with
 | true=>obtain ⟨A,h1,_⟩:=h; exact h1.1
 | false=>exact h
end
end L2.Q
end


noncomputable section
set_option Elab.async false
set_option linter.all false
set_option maxRecDepth 100000
namespace L2
open PySem PySem.Spec PySem.SeqAt PyProof.Rows
abbrev rowD (n:Int) (rows:List (List Int)):D:=.tup [.int n,.lst (rows.map kD)]
theorem small_row (n:Int) (rows:List (List Int)):(rowD n rows).pd.canLay0=true∧(rowD n rows).pd.depth≤4:=small_tup fun d hd=>by
 rcases List.mem_cons.mp hd with rfl | hd
 ·exact ⟨(small_int n).1,Nat.le_trans (small_int n).2 (by decide)⟩
 ·rw [List.mem_singleton.mp hd]; exact small_ties rows
end L2
end



noncomputable section
set_option Elab.async false
set_option linter.all false
set_option maxRecDepth 100000
namespace L2.Q
open PySem PySem.Spec PySem.SeqAt PyProof.Rows
def okP (ns:List Int):Prop:=∃ x y z:Int,ns=[x,y,z]∧0≤x
def fPot:FD:=fun ds R=>∃ c:Int,ds=[.int c]∧∀ ns,okP ns→R (.lst (ns.map D.int))
theorem fPot.mono:Mono fPot:=fun ds R R' k ⟨c,e,q⟩=>⟨c,e,fun ns o=>k _ (q ns o)⟩
section
variable {P:Program} {w:World} {H:Hp} {h:Addr}
theorem own_ints {H:Hp}:∀ ns:List Int,Owns P w H (ns.map D.int) (ns.map V.int) []
 | []=>⟨rfl,rfl⟩
 | n::ns=>⟨_,_,[],[],rfl,rfl,⟨rfl,rfl⟩,own_ints ns⟩
theorem put_kp {xs ys:List V} (e:H h=some (.lst xs)):Kp (·=h) H (upd H h (.lst ys)):=⟨fun b u hb nb=>by rw [upd_ne nb]; exact hb,fun b xs' hb=>by rw [upd_ne fun z=>by rw [z,e] at hb; cases hb]; exact hb⟩
theorem put_dm {ys:List V}:∀ c,H c≠none→upd H h (.lst ys) c≠none:=fun c hc=>by
 by_cases z:c=h
 ·rw [z,upd_same]; exact fun z=>(nomatch z)
 ·rw [upd_ne z]; exact hc
theorem new_int {H':Hp} {r:Int}:NewV P w true H H' (.int r) (.int r):=newV_flat (W:=fun _=>False) rfl rfl
end
end L2.Q
end

noncomputable section
set_option Elab.async false
set_option linter.all false
set_option maxRecDepth 100000
set_option maxHeartbeats 4000000
namespace K37
open PySem L2 L2.Q
def top (i:Nat):Stmt:=PySem.Challenge.pw_archrow_k37_fewest_cuts.main.body.getD i (.Pass ⟨0,0,0,0⟩)
abbrev s_stretches_rising:Stmt:=top 1
abbrev s_partners_of:Stmt:=top 2
abbrev s_greatest_table:Stmt:=top 3
abbrev s_number_with:Stmt:=top 4
abbrev s_least_number:Stmt:=top 5
abbrev s_table_of:Stmt:=top 7
abbrev s_one_each:Stmt:=top 8
abbrev s_fewest_cuts:Stmt:=top 10
abbrev s_is_whole:Stmt:=top 11
abbrev s_ends_from:Stmt:=top 12
abbrev s_law_pot:Stmt:=top 14
abbrev s_law_take:Stmt:=top 15
abbrev s_law_planted:Stmt:=top 16
abbrev s_law_row:Stmt:=top 17
abbrev s_law_copied:Stmt:=top 18
abbrev s_law_wholes:Stmt:=top 19
abbrev s_law_same:Stmt:=top 20
abbrev s_law:Stmt:=top 21
section
variable {P:Program} {w:World} {K:PySem.W.Frag} {mg:Str→Option Value} {base:Heap}
theorem sc_law_pot:FnScope ["cell"] ["cell"] (defScope s_law_pot):=⟨rfl,rfl,rfl,by decide +kernel,rfl,by decide +kernel,by decide +kernel⟩
theorem ok_pot {f:Addr} {fd:FuncData} (F:Fun K "_law_pot" "_law_pot" s_law_pot f fd) (B:Bs mg):FnOk P w K mg base CX0 1 f fd ["cell"] (spQ P w true fPot):=by
 refine F.ok sc_law_pot (fun vs H Q E h=>?_) (fun cdv A outer s H vs Q E hr h=>?_)
 ·obtain ⟨ds,r,c,rfl,_⟩:=h
  obtain ⟨x,rr,rfl,_,hr⟩:=r
  cases (show rr=[] from hr)
  rfl
 ·obtain ⟨ds,r,c,rfl,q⟩:=h
  obtain ⟨x,rr,rfl,hx,hr'⟩:=r
  cases (show rr=[] from hr')
  cases (show x=V.int c from hx)
  refine ⟨_,pss_one (ps_ret (pe_lst (pa_cons (pe_callB (call_max2 rfl) (by rfl) B.max bt_max (pa_cons pe_int (pa_cons (pe_op op_sub (pv 0) (pe_op op_pow pe_int pe_int)) pa_nil)))
   (pa_cons (pe_op op_mod (pv 0) pe_int) (pa_cons pe_int pa_nil))))),?_⟩
  refine ⟨_,rfl,_,_,rfl,rfl,pow18,_,_,rfl,rfl,_,_,rfl,?_⟩
  refine ⟨_,rfl,_,_,rfl,rfl,(by show (0:Int) < 99999999977; decide),(by show 3≤sizeLine; decide),fun p hp=>?_⟩
  refine q [_,_,_] ⟨_,_,_,rfl,?_⟩ _ _ (Same.new hp) ⟨[p],⟨p,_,[],rfl,upd_same,rfl,own_ints [_,_,_]⟩,by simp,fun c hc=>by rw [List.mem_singleton.mp hc]; exact hp⟩
  split <;> omega
theorem sc_law_take:FnScope ["pot","many","found","number"] ["pot","many"] (defScope s_law_take):=⟨rfl,rfl,rfl,by decide +kernel,rfl,by decide +kernel,by decide +kernel⟩
theorem ok_take {f:Addr} {fd:FuncData} (F:Fun K "_law_take" "_law_take" s_law_take f fd):FnOk P w K mg base CX0 1 f fd ["pot","many"] (spQH P w okP true fTake):=by
 refine F.ok sc_law_take (fun vs H Q E h=>?_) (fun cdv A outer s H vs Q E hr h=>?_)
 ·obtain ⟨h,vs',ds,ns,rfl,_,_,r,n,rfl,_⟩:=h
  obtain ⟨x,rr,rfl,_,hr⟩:=r
  cases (show rr=[] from hr)
  rfl
 ·obtain ⟨h,vs',ds,ns,rfl,e,⟨x,y,z,rfl,x0⟩,r,n,rfl,n0,n1,q⟩:=h
  obtain ⟨x',rr,rfl,hx',hr'⟩:=r
  cases (show rr=[] from hr')
  cases (show x'=V.int n from hx')
  have hx:H h=some (.lst [.int x,.int y,.int z]):=e
  refine ⟨_,pss_cons (ps_if (pt_cmpR op_gt (pe_ix ix_list (pv 0) pe_int (fun _ _=>rfl)) pe_int (nomark _))
    (pss_cons (ps_set (i:=2) sc_law_take.nd rfl (Or.inl rfl) (pe_op op_mod (pe_ix ix_list (pv 0) pe_int (fun _ _=>rfl)) (pv 1)))
    (pss_cons (ps_asg (pe_op op_fdivB (pe_ix ix_list (pv 0) pe_int (fun _ _=>rfl)) (pv 1)) (pg_sub (pv 0) pe_int set_list))
    (pss_one (ps_ret (pv 2))))) pss_nil)
   (pss_cons (ps_asg (pe_op op_add (pe_ix ix_list (pv 0) pe_int (fun _ _=>rfl)) pe_int) (pg_sub (pv 0) pe_int set_list))
   (pss_cons (ps_set (i:=3) sc_law_take.nd rfl (Or.inl rfl) (pe_op op_mod (pe_op op_add (pe_ix ix_list (pv 0) pe_int (fun _ _=>rfl)) (pe_op op_mul pe_int (pe_ix ix_list (pv 0) pe_int (fun _ _=>rfl)))) pe_int))
   (pss_cons (ps_set (i:=3) sc_law_take.nd rfl (Or.inl rfl) (pe_op op_mod (pe_op op_mul (pv 3) (pv 3)) pe_int))
   (pss_cons (ps_set (i:=3) sc_law_take.nd rfl (Or.inl rfl) (pe_op op_mod (pe_op op_mul (pv 3) (pe_op op_add (pv 3) pe_int)) pe_int))
   (pss_one (ps_ret (pe_op op_mod (pe_op op_fdivB (pv 3) pe_int) (pv 1)))))))),?_⟩
  refine ⟨_,rfl,h,_,_,_,rfl,rfl,SqL.of hx,rfl,_,_,rfl,rfl,_,rfl,?_⟩
  refine iteD (fun hp=>?_) (fun hp=>?_)
  ·refine ⟨_,rfl,h,_,_,_,rfl,rfl,SqL.of hx,rfl,_,rfl,_,_,rfl,rfl,n0,?_⟩
   refine ⟨_,rfl,h,_,_,_,rfl,rfl,SqL.of hx,rfl,_,rfl,_,_,rfl,rfl,CDivB.of n0 n1,?_⟩
   refine ⟨_,rfl,h,_,_,0,rfl,rfl,hx,rfl,?_⟩
   have m:=mod_lt' (a:=x) n0
   exact ⟨_,rfl,q _ m.1 m.2 _ _ [x / n,y,z] (put_kp hx) put_dm upd_same ⟨_,_,_,rfl,Int.ediv_nonneg x0 (Int.le_of_lt n0)⟩ new_int⟩
  ·refine ⟨_,rfl,h,_,_,_,rfl,rfl,SqL.of hx,rfl,_,_,rfl,rfl,?_⟩
   refine ⟨_,rfl,h,_,_,2,rfl,rfl,hx,rfl,?_⟩
   have hy:upd H h (.lst ([V.int x,V.int y,V.int z].set 2 (V.int (z+1)))) h=some (.lst [V.int x,V.int y,V.int (z+1)]):=upd_same
   refine ⟨_,rfl,h,_,_,_,rfl,rfl,SqL.of hy,rfl,_,rfl,h,_,_,_,rfl,rfl,SqL.of hy,rfl,_,_,rfl,rfl,.inl ⟨by decide,by decide⟩,_,_,rfl,rfl,_,_,rfl,rfl,(by show (0:Int) < 99999999947; decide),?_⟩
   have m1:=mod_lt' (a:=y+700001 * (z+1)) (b:=99999999947) (by decide)
   refine ⟨_,rfl,_,rfl,_,_,rfl,rfl,.inl ⟨Int.lt_of_lt_of_le (by decide) m1.1,Int.lt_trans m1.2 (by decide)⟩,_,_,rfl,rfl,(by show (0:Int) < 99999999821; decide),?_⟩
   have m2:=mod_lt' (a:=(y+700001 * (z+1)) % 99999999947 * ((y+700001 * (z+1)) % 99999999947)) (b:=99999999821) (by decide)
   refine ⟨_,rfl,_,rfl,_,_,rfl,rfl,_,_,rfl,rfl,.inl ⟨Int.lt_of_lt_of_le (by decide) m2.1,Int.lt_trans m2.2 (by decide)⟩,_,_,rfl,rfl,(by show (0:Int) < 9999999967; decide),?_⟩
   refine ⟨_,rfl,_,_,rfl,rfl,CDivB.of (by decide) (by decide),_,rfl,_,_,rfl,rfl,n0,?_⟩
   have m:=fun a:Int=>mod_lt' (a:=a) n0
   exact q _ (m _).1 (m _).2 _ _ [x,y,z+1] (put_kp hx) put_dm upd_same ⟨_,_,_,rfl,x0⟩ new_int
end
end K37
end

noncomputable section
set_option Elab.async false
set_option linter.all false
set_option maxRecDepth 100000
set_option maxHeartbeats 4000000
namespace L2
open PySem PySem.Spec PyProof.Rows
section
variable {κ:Type} [DecidableEq κ]
def valV (kvs:List (κ × V)) (k:κ):Option V:=(kvs.find? fun kv=>decide (kv.1=k)).map (·.2)
def putK (kvs:List (κ × V)) (k:κ) (v:V):List (κ × V) :=
 if (kvs.any fun kv=>decide (kv.1=k))=true then kvs.map (fun kv=>if kv.1=k then (kv.1,v) else kv) else kvs++[(k,v)]
theorem valV_pos {p:κ × V} {r:List (κ × V)} {k:κ} (e:p.1=k):valV (p::r) k=some p.2:=by simp [valV,List.find?_cons,e]
theorem valV_neg {p:κ × V} {r:List (κ × V)} {k:κ} (e:¬ p.1=k):valV (p::r) k=valV r k:=by simp [valV,List.find?_cons,e]
theorem valV_any (k:κ):∀ kvs:List (κ × V),(kvs.any fun kv=>decide (kv.1=k))=(valV kvs k).isSome
 | []=>rfl
 | p::r=>by
  rw [List.any_cons]
  by_cases e:p.1=k
  ·simp only [valV_pos e,decide_eq_true e,Bool.true_or,Option.isSome_some]
  ·rw [valV_neg e,decide_eq_false e,Bool.false_or]; exact valV_any k r
theorem length_putK (kvs:List (κ × V)) (k:κ) (v:V):(putK kvs k v).length≤kvs.length+1:=by
 unfold putK
 split
 ·rw [List.length_map]; lia
 ·rw [List.length_append,List.length_cons,List.length_nil]; lia
theorem putK_new {kvs:List (κ × V)} {k:κ} (v:V) (h:valV kvs k=none):putK kvs k v=kvs++[(k,v)]:=by
 unfold putK
 rw [valV_any,h]
 exact if_neg (by decide)
theorem RelO.isSome_eq {o:Option V} {u:Option Value} (r:RelO o u):o.isSome=u.isSome:=by
 cases o with
 | none=>cases u with
  | none=>rfl
  | some _=>exact (show False from r).elim
 | some _=>cases u with
  | none=>exact (show False from r).elim
  | some _=>rfl
theorem KV.val {kvs:List (κ × V)} {vs:List (κ × Value)} (r:KV kvs vs) (k:κ):RelO (valV kvs k) (valueAt vs k):=by
 unfold KV at r
 induction r with
 | nil=>exact True.intro
 | @cons p q ps qs h t ih =>
  obtain ⟨h1,h2⟩:=h
  by_cases e:p.1=k
  ·have e':q.1=k:=h1.symm.trans e
   have b:valueAt (q::qs) k=some q.2:=by simp [valueAt,List.find?_cons,e']
   rw [valV_pos e,b]; exact h2
  ·have e':¬ q.1=k:=fun z=>e (h1.trans z)
   have b:valueAt (q::qs) k=valueAt qs k:=by simp [valueAt,List.find?_cons,e']
   rw [valV_neg e,b]; exact ih
theorem KV.any {kvs:List (κ × V)} {vs:List (κ × Value)} (r:KV kvs vs) (k:κ):(kvs.any fun kv=>decide (kv.1=k))=vs.any fun kv=>decide (kv.1=k):=by
 unfold KV at r
 induction r with
 | nil=>rfl
 | cons h t ih=>rw [List.any_cons,List.any_cons,ih,h.1]
theorem KV.repl {kvs:List (κ × V)} {vs:List (κ × Value)} (r:KV kvs vs) (k:κ) {y:V} {u:Value} (ry:RelV y u) :
  KV (kvs.map fun kv=>if kv.1=k then (kv.1,y) else kv) (vs.map fun kv=>if kv.1=k then (kv.1,u) else kv):=by
 unfold KV at r ⊢
 induction r with
 | nil=>exact .nil
 | @cons p q ps qs h t ih =>
  rw [List.map_cons,List.map_cons]
  refine .cons ?_ ih
  obtain ⟨h1,h2⟩:=h
  by_cases e:p.1=k
  ·rw [if_pos e,if_pos (h1.symm.trans e)]; exact ⟨h1,ry⟩
  ·rw [if_neg e,if_neg (fun z=>e (h1.trans z))]; exact ⟨h1,h2⟩
theorem KV.put {kvs:List (κ × V)} {vs:List (κ × Value)} (r:KV kvs vs) (k:κ) {y:V} {u:Value} (ry:RelV y u):KV (putK kvs k y) (stored vs k u):=by
 unfold putK stored
 rw [r.any k]
 by_cases e:(vs.any fun kv=>decide (kv.1=k))=true
 ·rw [if_pos e,if_pos e]; exact r.repl k ry
 ·rw [if_neg e,if_neg e]; exact Paired.snoc r ⟨rfl,ry⟩
theorem KV.length {kvs:List (κ × V)} {vs:List (κ × Value)} (r:KV kvs vs):kvs.length=vs.length:=Paired.length r
end
theorem kV_is {P:Program} {w:World} {k:Key} {u:Value} (r:RelV (kV k) u):(mixKind P w).is k u=true:=by
 cases k with
 | inl i=>obtain ⟨t,e⟩:=(show ∃ t,u=Value.int i t from r); subst e; exact mixKind_int P w i t
 | inr x=>obtain ⟨t,e⟩:=(show ∃ t,u=Value.str x t from r); subst e; exact mixKind_str P w x t
theorem items_are {P:Program} {w:World}:∀ {ks:List Key} {us:List Value},Vals (ks.map kV) us→ItemsAre (mixKind P w) ks us
 | [],_,r=>by rw [List.map_nil] at r; cases r; exact .nil
 | k::ks,_,r=>by
  rw [List.map_cons] at r
  cases r with
  | cons h t=>exact .cons (kV_is h) (items_are t)
abbrev KT (H:Hp):List (List Key × V)→List (List Key × Addr × Value)→Prop:=Paired fun p q=>p.1=q.1∧H q.2.1=some (.tup (p.1.map kV))∧RelV p.2 q.2.2
theorem KT.val {H:Hp} {kvs:List (List Key × V)} {xs:List (List Key × Addr × Value)} (r:KT H kvs xs) (k:List Key):RelO (valV kvs k) ((atKey xs k).map (·.2)):=by
 induction r with
 | nil=>exact True.intro
 | @cons p q ps qs h t ih =>
  obtain ⟨h1,_,h2⟩:=h
  by_cases e:p.1=k
  ·have e':q.1=k:=h1.symm.trans e
   have b:atKey (q::qs) k=some q.2:=by simp [atKey,List.find?_cons,e']
   rw [valV_pos e,b]; exact h2
  ·have e':¬ q.1=k:=fun z=>e (h1.trans z)
   have b:atKey (q::qs) k=atKey qs k:=by simp [atKey,List.find?_cons,e']
   rw [valV_neg e,b]; exact ih
theorem KT.repl {H:Hp} {kvs:List (List Key × V)} {xs:List (List Key × Addr × Value)} (r:KT H kvs xs) (k:List Key) {y:V} {u:Value} (ry:RelV y u) :
  KT H (kvs.map fun kv=>if kv.1=k then (kv.1,y) else kv) (xs.map (putAt k u)):=by
 induction r with
 | nil=>exact .nil
 | @cons p q ps qs h t ih =>
  rw [List.map_cons,List.map_cons]
  refine .cons ?_ ih
  obtain ⟨h1,h2,h3⟩:=h
  unfold putAt
  by_cases e:p.1=k
  ·rw [if_pos e,if_pos (h1.symm.trans e)]; exact ⟨h1,h2,ry⟩
  ·rw [if_neg e,if_neg (fun z=>e (h1.trans z))]; exact ⟨h1,h2,h3⟩
theorem KT.put {H:Hp} {kvs:List (List Key × V)} {xs:List (List Key × Addr × Value)} (r:KT H kvs xs) (k:List Key) {b:Addr} {y:V} {u:Value} (hb:H b=some (.tup (k.map kV))) (ry:RelV y u) :
  KT H (putK kvs k y) (storedH xs k b u):=by
 have e:(kvs.any fun kv=>decide (kv.1=k))=(atKey xs k).isSome:=by
  rw [valV_any,(r.val k).isSome_eq,Option.isSome_map]
 unfold putK storedH
 rw [e]
 by_cases q:(atKey xs k).isSome=true
 ·rw [if_pos q,if_pos q]; exact r.repl k ry
 ·rw [if_neg q,if_neg q]; exact Paired.snoc r ⟨rfl,hb,ry⟩
theorem KT.keeps {H H':Hp} {kvs:List (List Key × V)} {xs:List (List Key × Addr × Value)} (r:KT H kvs xs) (ht:∀ b ys,H b=some (.tup ys)→H' b=some (.tup ys)):KT H' kvs xs :=
 Paired.mapP r fun _ _ z=>⟨z.1,ht _ _ z.2.1,z.2.2⟩
section
variable {P:Program} {w:World} {H:Hp} {h:Heap} {a:Addr}
theorem rd_of {u:HO} (ok:HOk P w H h) (e:Rd H a u):ObjOk P w H h a u:=e.ok ok
theorem dk_rd {kvs:List (Key × V)} (ok:HOk P w H h) (e:Rd H a (.dK kvs)):kvs.length≤sizeLine∧(a == sysModules)=false∧∃ vs,KV kvs vs∧h.DictOf (mixKind P w) a vs :=
 show ObjOk P w H h a (.dK kvs) from rd_of ok e
theorem dk_of {kvs:List (Key × V)} (ok:HOk P w H h) (e:H a=some (.dK kvs)):kvs.length≤sizeLine∧(a == sysModules)=false∧∃ vs,KV kvs vs∧h.DictOf (mixKind P w) a vs:=dk_rd ok (.inl e)
theorem key_of {ks:List Key} (ok:HOk P w H h) (e:H a=some (.tup (ks.map kV))):(tupleKind (mixKind P w)).is h ks a:=by
 obtain ⟨_,its,r,o,h1,h2,n,h3⟩:=(show ObjOk P w H h a (.tup (ks.map kV)) from ok a _ e)
 exact ⟨o,its.toArray,n,h1,h2,h3,by simpa using items_are r⟩
theorem dt_rd {kvs:List (List Key × V)} (ok:HOk P w H h) (e:Rd H a (.dT kvs)):kvs.length≤sizeLine∧(a == sysModules)=false ∧
  ∃ xs,KT H kvs xs∧h.DictOfH (tupleKind (mixKind P w)) a xs:=by
 obtain ⟨z,y,xs,r,o,es,ep,h1,h2,h3,h4,h5⟩:=(show ObjOk P w H h a (.dT kvs) from rd_of ok e)
 refine ⟨z,y,xs,r,o,es,ep,h1,h2,h3,h4,fun x hx=>?_,h5⟩
 have all:∀ {l:List (List Key × V)} {m:List (List Key × Addr × Value)},KT H l m→∀ x ∈ m,(tupleKind (mixKind P w)).is h x.1 x.2.1:=by
  intro l m q
  induction q with
  | nil=>intro x hx; exact nomatch hx
  | @cons p q ps qs hq t ih =>
   intro x hx
   rcases List.mem_cons.mp hx with e | hx
   ·subst e
    exact key_of ok (by rw [← hq.1]; exact hq.2.1)
   ·exact ih x hx
 exact all r x hx
theorem dt_of {kvs:List (List Key × V)} (ok:HOk P w H h) (e:H a=some (.dT kvs)):kvs.length≤sizeLine∧(a == sysModules)=false ∧
  ∃ xs,KT H kvs xs∧h.DictOfH (tupleKind (mixKind P w)) a xs:=dt_rd ok (.inl e)
end
def DGet (H:Hp) (a:Addr) (y:V) (r:Option V):Prop :=
 (∃ kvs k,Rd H a (.dK kvs)∧y=kV k∧r=valV kvs k)∨∃ kvs k b,Rd H a (.dT kvs)∧y=.ref b∧H b=some (.tup (k.map kV))∧r=valV kvs k
def DPut (H:Hp) (a:Addr) (y v:V) (H':Hp):Prop :=
 (∃ kvs k,H a=some (.dK kvs)∧y=kV k∧kvs.length < sizeLine∧H'=upd H a (.dK (putK kvs k v))) ∨
 ∃ kvs k b,H a=some (.dT kvs)∧y=.ref b∧H b=some (.tup (k.map kV))∧kvs.length < sizeLine∧H'=upd H a (.dT (putK kvs k v))
theorem DGet.k {H:Hp} {a:Addr} {kvs:List (Key × V)} {k:Key} (e:H a=some (.dK kvs)):DGet H a (kV k) (valV kvs k):=.inl ⟨kvs,k,.inl e,rfl,rfl⟩
theorem DGet.t {H:Hp} {a b:Addr} {kvs:List (List Key × V)} {k:List Key} (e:H a=some (.dT kvs)) (eb:H b=some (.tup (k.map kV))):DGet H a (.ref b) (valV kvs k):=.inr ⟨kvs,k,b,.inl e,rfl,eb,rfl⟩
section
variable {X:Cx} {pins:List (Addr × Obj)} {σ:St} {H:Hp} {s:Shared} {a:Addr} {y v:V} {u r:Value} {o:Option V} {A:Around} {E:Value→Shared→Prop}
theorem Inv.big (I:Inv X pins σ H s):sysModules < s.heap.objs.size:=by
 have h:mainGlobals < s.heap.objs.size:=(I.mod.glob.keeps I.bk).lt
 exact Nat.lt_trans (by decide) h
theorem d_getItem {Q:Value→Shared→Prop} (hu:A.units+1 < cLine) (I:Inv X pins σ H s) (g:DGet H a y (some v)) (ry:RelV y u) (h:∀ w' s',Inv X pins σ H s'→RelV v w'→Q w' s') :
  wpAny (model X.prog X.w) A (getItem (.ref a) u) Q E s:=by
 rcases g with ⟨kvs,k,e,ey,l⟩ | ⟨kvs,k,b,e,ey,eb,l⟩
 ·subst ey
  obtain ⟨z,hd,vs,rel,dd⟩:=dk_rd I.hok e
  obtain ⟨w',hw,rw'⟩:=RelO.some_of (v:=v) (o:=valueAt vs k) (by rw [l]; exact rel.val k)
  exact wpAny_getItem_of (kV_is ry) dd.mapOf hw (h w' _ (I.tok _) rw')
 ·subst ey
  cases (show u=Value.ref b from ry)
  obtain ⟨z,hd,xs,rel,dd⟩:=dt_rd I.hok e
  obtain ⟨w',hw,rw'⟩:=RelO.some_of (v:=v) (o:=(atKey xs k).map (·.2)) (by rw [l]; exact rel.val k)
  obtain ⟨p,hp,hp2⟩:=Option.map_eq_some_iff.mp hw
  refine wpAny_getItem_heap (tupleKind_room_in1 hu) (key_of I.hok eb) dd hp ?_
  rw [hp2]
  exact h w' _ (I.tok _) rw'
theorem d_write {h':Heap} {t':Nat} {ob:HO} (I:Inv X pins σ H s) (mu:Mut (H a)) (hs:Heap.SameBut a s.heap h') (he:∃ q,h'.get? a=some q) (new:ObjOk X.prog X.w (upd H a ob) h' a ob) :
  Inv X pins σ (upd H a ob) { s with heap:=h',toks:=t' } :=
 I.write (x:=a) (e:=a) mu (.inl rfl) (fun b q hb z=>(hs.2 b hb).trans z) he new
theorem dk_new {P:Program} {w:World} {H':Hp} {h':Heap} {kvs:List (Key × V)} {vs:List (Key × Value)} (z:kvs.length≤sizeLine) (hd:(a == sysModules)=false) (rel:KV kvs vs) (dd:h'.DictOf (mixKind P w) a vs) :
  ObjOk P w H' h' a (.dK kvs):=⟨z,hd,vs,rel,dd⟩
theorem d_setItem {H':Hp} {Q:Unit→Shared→Prop} (hu:A.units+1 < cLine) (I:Inv X pins σ H s) (g:DPut H a y v H') (ry:RelV y u) (rv:RelV v r) (h:∀ s',Inv X pins σ H' s'→Q () s') :
  wpAny (model X.prog X.w) A (setItem (.ref a) u r) Q E s:=by
 rcases g with ⟨kvs,k,e,ey,l,eH⟩ | ⟨kvs,k,b,e,ey,eb,l,eH⟩
 ·subst ey eH
  obtain ⟨z,hd,vs,rel,dd⟩:=dk_of I.hok e
  have hz:vs.length≤sizeLine:=by rw [← rel.length]; exact z
  have hl:(putK kvs k v).length≤sizeLine:=by have:=length_putK kvs k v; lia
  refine wpAny_setItem_pairs (hsz:=hz) (kV_is ry) dd fun h' dd' hs=>h _ ?_
  have he:∃ q,h'.get? a=some q:=let ⟨q,_,_,hq,_⟩:=dd'; ⟨q,hq⟩
  exact d_write I (by rw [e]; exact True.intro) hs he (dk_new hl hd (rel.put k rv) dd')
 ·subst ey eH
  cases (show u=Value.ref b from ry)
  obtain ⟨z,hd,xs,rel,dd⟩:=dt_of I.hok e
  have hz:xs.length≤sizeLine:=by rw [← Paired.length rel]; exact z
  have hl:(putK kvs k v).length≤sizeLine:=by have:=length_putK kvs k v; lia
  refine wpAny_setItem_heap (hsz:=hz) (tupleKind_room_in1 hu) (key_of I.hok eb) dd fun h' dd' hs=>h _ ?_
  obtain ⟨q,es,ep,hq,h2,h3,h4,_,h5⟩:=dd'
  refine d_write I (by rw [e]; exact True.intro) hs ⟨q,hq⟩ ⟨hl,hd,_,(rel.put k eb rv).keeps fun c ys ec=>?_,q,es,ep,hq,h2,h3,h4,h5⟩
  rw [upd_ne (ne_of ec e (fun z=>nomatch z))]
  exact ec
end
section
variable {X:Cx} {pins:List (Addr × Obj)} {σ:St} {H:Hp} {s:Shared} {a:Addr} {kvs:List (Key × V)} {k:Key} {u:Value} {A:Around} {E:Value→Shared→Prop}
end
theorem dict_typeIs {X:Cx} {pins:List (Addr × Obj)} {σ:St} {H:Hp} {s:Shared} {a:Addr} {y:V} {o:Option V} (I:Inv X pins σ H s) (g:DGet H a y o):s.TypeIs (.ref a) "dict" := by
 rcases g with ⟨kvs,k,e,_,_⟩ | ⟨kvs,k,b,e,_,_,_⟩
 ·obtain ⟨_,_,vs,_,dd⟩:=dk_rd I.hok e
  exact dd.typeIs
 ·obtain ⟨_,_,xs,_,dd⟩:=dt_rd I.hok e
  exact dd.typeIs
def sDPut (td ty tv:TE):TS:=fun D σ H=>tv σ H fun v H1=>td σ H1 fun x H2=>ty σ H2 fun y H3=>∃ a H4,x=.ref a∧DPut H3 a y v H4∧D.nx σ H4
section
variable {X:Cx} {o i e value:Expr} {pos pos' tpos:Pos} {td ty tv:TE}
theorem ps_dput (hu:X.A.units+1 < cLine) (ho:PE X o td) (hi:PE X i ty) (hv:PE X value tv) (hs:swapsWith value (some (.Subscript o i pos')) pos.line X.env=pure false) :
  PS X (.Assign [.Subscript o i pos'] value pos) (sDPut td ty tv):=by
 intro pins s σ H D I h
 refine wpAny_Assign_Subscript (thn (hv pins s σ H _ I h) fun r s1 ⟨v,H1,I1,rv,q1⟩=>thn (ho pins s1 σ H1 _ I1 q1) fun u s2 ⟨x,H2,I2,rx,q2⟩=>thn (hi pins s2 σ H2 _ I2 q2) fun iv s3 ⟨y,H3,I3,ry,a,H4,ex,g,q3⟩=>?_) hs
 subst ex
 obtain rfl:u=Value.ref a:=rx
 exact d_setItem hu I3 g ry rv fun s4 I4=>⟨σ,H4,I4,q3⟩
end
theorem dk_empty {P:Program} {w:World} {H:Hp} (h:Heap) (hb:sysModules < h.objs.size):ObjOk P w H (h.push { cls:=.type "dict",data:=.dict #[] }) h.objs.size (.dK []) :=
 ⟨Nat.zero_le _,beq_eq_false_iff_ne.mpr (Ne.symm (Nat.ne_of_lt hb)),[],.nil,Heap.DictOf.new h⟩
theorem dt_empty {P:Program} {w:World} {H:Hp} (h:Heap) (hb:sysModules < h.objs.size):ObjOk P w H (h.push { cls:=.type "dict",data:=.dict #[] }) h.objs.size (.dT []) :=
 ⟨Nat.zero_le _,beq_eq_false_iff_ne.mpr (Ne.symm (Nat.ne_of_lt hb)),[],.nil,_,#[],0,Heap.get?_push_size _ rfl,⟨rfl,rfl,rfl⟩,rfl,rfl,List.nodup_nil⟩
def tDNewT:TE:=fun _ H Q=>∀ p,H p=none→Q (.ref p) (upd H p (.dT []))
section
variable {X:Cx} {pos:Pos}
theorem pe_dnewT:PE X (.Dict [] [] pos) tDNewT:=fun pins s σ H Q I h =>
 wpAny_Dict_empty ⟨.ref s.heap.objs.size,_,I.laid (a:=s.heap.objs.size) (o:=.dT []) (t':=s.toks) (fun _ _ q=>Heap.get?_push_of_some _ q) (Nat.le_refl _) (dt_empty s.heap I.big),rfl,h _ (I.hok.fresh (Nat.le_refl _))⟩
end
def tPairs:List (TE × TE)→St→Hp→(List (V × V)→Hp→Prop)→Prop
 | [],_,H,Q=>Q [] H
 | (tk,tv)::r,σ,H,Q=>tk σ H fun x H1=>tv σ H1 fun y H2=>tPairs r σ H2 fun ps H3=>Q ((x,y)::ps) H3
abbrev VV:List (V × V)→List (Value × Value)→Prop:=Paired fun p q=>RelV p.1 q.1∧RelV p.2 q.2
def PPs (X:Cx) (pos:Pos) (keys:List (Option Expr)) (values:List Expr) (trs:List (TE × TE)):Prop :=
 ∀ (pins:List (Addr × Obj)) (s:Shared) (σ:St) (H:Hp) (Q:List (V × V)→Hp→Prop),Inv X pins σ H s→tPairs trs σ H Q →
  wpAny (model X.prog X.w) X.A (evalPairs (pairTrees keys values X.env pos)) (fun vs s'=>∃ ps H',Inv X pins σ H' s'∧VV ps vs∧Q ps H') X.xe s
theorem pps_nil {X:Cx} {pos:Pos}:PPs X pos [] [] []:=fun pins s σ H Q I h=>pairTrees_nil_walk ⟨[],H,I,.nil,h⟩
theorem pps_cons {X:Cx} {pos:Pos} {k v:Expr} {ks:List (Option Expr)} {vs:List Expr} {tk tv:TE} {trs:List (TE × TE)} (hk:PE X k tk) (hv:PE X v tv) (hr:PPs X pos ks vs trs) :
  PPs X pos (some k::ks) (v::vs) ((tk,tv)::trs):=fun pins s σ H Q I h =>
 pairTrees_cons_walk (thn (hk pins s σ H _ I h) fun u s1 ⟨x,H1,I1,rx,q1⟩=>thn (hv pins s1 σ H1 _ I1 q1) fun w2 s2 ⟨y,H2,I2,ry,q2⟩ =>
  thn (hr pins s2 σ H2 _ I2 q2) fun ws s3 ⟨ps,H3,I3,rel,q3⟩=>⟨(x,y)::ps,H3,I3,.cons ⟨rx,ry⟩ rel,q3⟩)
def mergeK (kvs more:List (Key × V)):List (Key × V):=more.foldl (fun acc kv=>putK acc kv.1 kv.2) kvs
theorem KV.merge:∀ {more:List (Key × V)} {rs:List (Key × Value)} {kvs:List (Key × V)} {vs:List (Key × Value)},KV more rs→KV kvs vs→KV (mergeK kvs more) (merged vs rs):=by
 intro more rs kvs vs r
 unfold KV at r
 induction r generalizing kvs vs with
 | nil=>intro q; exact q
 | @cons p q ps qs h t ih =>
  intro r0
  have e:KV (putK kvs p.1 p.2) (stored vs q.1 q.2):=by
   have:=r0.put p.1 h.2
   rw [← h.1]; exact this
  exact ih e
theorem length_mergeK:∀ (more kvs:List (Key × V)),(mergeK kvs more).length≤kvs.length+more.length
 | [],kvs=>by show kvs.length≤kvs.length+0; lia
 | p::r,kvs=>by
  have h1:=length_mergeK r (putK kvs p.1 p.2)
  have h2:=length_putK kvs p.1 p.2
  show (mergeK (putK kvs p.1 p.2) r).length≤_
  rw [List.length_cons]; lia
theorem carries_of {P:Program} {w:World}:∀ {kvs:List (Key × V)} {ws:List (Value × Value)},VV (kvs.map fun kv=>(kV kv.1,kv.2)) ws→∃ rs,Carries (mixKind P w) ws rs∧KV kvs rs
 | [],_,r=>by rw [List.map_nil] at r; cases r; exact ⟨[],True.intro,.nil⟩
 | p::kvs,_,r=>by
  rw [List.map_cons] at r
  cases r with
  | @cons a b as bs h t =>
   obtain ⟨rs,c,q⟩:=carries_of (P:=P) (w:=w) t
   obtain ⟨b1,b2⟩:=b
   exact ⟨(p.1,b2)::rs,⟨kV_is h.1,rfl,c⟩,.cons ⟨rfl,h.2⟩ q⟩
def tDisp (trs:List (TE × TE)):TE:=fun σ H Q=>∀ p,H p=none→tPairs trs σ (upd H p (.dK [])) fun ps H2=>H2 p=some (.dK [])∧∃ kvs:List (Key × V),ps=kvs.map (fun kv=>(kV kv.1,kv.2))∧kvs.length≤15∧Q (.ref p) (upd H2 p (.dK (mergeK [] kvs)))
theorem pe_disp {X:Cx} {pos:Pos} {keys:List (Option Expr)} {values:List Expr} {trs:List (TE × TE)} (h:PPs X pos keys values trs) (hall:keys.all (·.isSome)=true) (hl:keys.length=values.length) (h0:keys≠[])
  (h15:keys.length≤15):PE X (.Dict keys values pos) (tDisp trs):=by
 intro pins s σ H Q I q
 have hn:=I.hok.fresh (Nat.le_refl s.heap.objs.size)
 have I1:=I.laid (a:=s.heap.objs.size) (o:=.dK []) (h':=s.heap.push { cls:=.type "dict",data:=.dict #[] }) (t':=s.toks) (fun _ _ q=>Heap.get?_push_of_some _ q) (Nat.le_refl _) (dk_empty s.heap I.big)
 refine wpAny_Dict_walk (knd:=mixKind X.prog X.w) hall hl h0 h15 (thn (h pins _ σ _ _ I1 (q _ hn)) fun ws s2 ⟨ps,H2,I2,rel,e,kvs,ep,lk,q2⟩=>?_)
 subst ep
 obtain ⟨rs,c,rk⟩:=carries_of (P:=X.prog) (w:=X.w) rel
 obtain ⟨z,hd,vs0,r0,dd⟩:=dk_of I2.hok e
 cases r0
 refine ⟨rs,c,dd,fun h' dd' hs=>⟨.ref s.heap.objs.size,_,?_,rfl,q2⟩⟩
 have hz:(mergeK [] kvs).length≤sizeLine:=by
  have h1:=length_mergeK kvs []
  rw [List.length_nil] at h1
  rw [sizeLine_eq]; lia
 have he:∃ q,h'.get? s.heap.objs.size=some q:=let ⟨q,_,_,hq,_⟩:=dd'; ⟨q,hq⟩
 exact d_write I2 (by rw [e]; exact True.intro) hs he (dk_new hz hd (rk.merge .nil) dd')
def IsD (H:Hp) (a:Addr):Prop:=(∃ kvs,Rd H a (.dK kvs))∨∃ kvs,Rd H a (.dT kvs)
theorem isD_at {X:Cx} {pins:List (Addr × Obj)} {σ:St} {H:Hp} {s:Shared} {a:Addr} (I:Inv X pins σ H s) (d:IsD H a) :
  s.TypeIs (.ref a) "dict" ∧ (∀ b,Value.ref a=.ref b→∃ ob,s.heap.get? b=some ob∧ob.dict=none)∧(a == sysModules)=false:=by
 rcases d with ⟨kvs,e⟩ | ⟨kvs,e⟩
 ·obtain ⟨_,hd,vs,_,dd⟩:=dk_rd I.hok e
  refine ⟨dd.typeIs,fun b q=>?_,hd⟩
  cases q
  obtain ⟨ob,_,_,h1,h2,_⟩:=dd
  exact ⟨ob,h1,h2.2.1⟩
 ·obtain ⟨_,hd,xs,_,dd⟩:=dt_rd I.hok e
  refine ⟨dd.typeIs,fun b q=>?_,hd⟩
  cases q
  obtain ⟨ob,_,_,h1,h2,_⟩:=dd
  exact ⟨ob,h1,h2.2.1⟩
section
variable {X:Cx} {pins:List (Addr × Obj)} {σ:St} {H:Hp} {s:Shared} {a:Addr} {y d:V} {u r:Value} {o:Option V} {A:Around} {E:Value→Shared→Prop}
end
section
variable {X:Cx} {o e f:Expr} {apos cpos:Pos} {td ty tx:TE}
end
section
variable {X:Cx} {pins:List (Addr × Obj)} {σ:St} {H:Hp} {s:Shared} {a:Addr} {kvs:List (Key × V)} {A:Around} {E:Value→Shared→Prop}
end
section
variable {X:Cx} {pins:List (Addr × Obj)} {σ:St} {H:Hp} {s:Shared} {a:Addr} {y:V} {u:Value} {A:Around} {E:Value→Shared→Prop}
end
end L2
namespace L2
open PySem PySem.Spec PyProof.Rows
section
variable {X:Cx}
end
section
variable {κ:Type} [DecidableEq κ]
end
end L2
end

noncomputable section
set_option Elab.async false
set_option linter.all false
set_option maxRecDepth 100000
namespace L2.Q
open PySem PySem.Spec PySem.SeqAt PyProof.Rows
theorem _root_.L2.Room.units1 {k:Nat} {A:Around} (r:Room k A):A.units+1 < cLine:=by have:=r.un; omega
def iK (t:List Int):List Key:=t.map Sum.inl
theorem iK_inj {t u:List Int} (h:iK t=iK u):t=u:=by
 unfold iK at h
 induction t generalizing u with
 | nil=>cases u with | nil=>rfl | cons _ _=>cases h
 | cons a t ih =>
  cases u with
  | nil=>cases h
  | cons b u =>
   rw [List.map_cons,List.map_cons] at h
   injection h with h1 h2
   injection h1 with h1
   rw [h1,ih h2]
theorem iK_kV (t:List Int):(iK t).map kV=t.map V.int:=by
 unfold iK
 rw [List.map_map]
 rfl
def dP (ts:List (List Int)) (b:Bool):D:=.dT (ts.map iK) (List.replicate ts.length (.bl b))
def addT (ts:List (List Int)) (t:List Int):List (List Int):=if t ∈ ts then ts else ts++[t]
theorem rep_zip {v:V}:∀ {ks:List (List Key)} {n:Nat},ks.length=n→ks.zip (List.replicate n v)=ks.map fun k=>(k,v)
 | [],_,_=>by simp
 | k::ks,0,h=>by cases h
 | k::ks,n+1,h=>by
  rw [List.replicate_succ,List.zip_cons_cons,rep_zip (Nat.succ.inj h)]
  rfl
theorem put_rep {v:V} {ts:List (List Int)} {t:List Int}:putK ((ts.map iK).map fun k=>(k,v)) (iK t) v=((addT ts t).map iK).map fun k=>(k,v):=by
 unfold putK addT
 have any:(((ts.map iK).map fun k=>(k,v)).any fun kv=>decide (kv.1=iK t))=decide (t ∈ ts):=by
  rw [Bool.eq_iff_iff,List.any_eq_true,decide_eq_true_eq]
  constructor
  ·rintro ⟨kv,h1,h2⟩
   obtain ⟨k,h3,rfl⟩:=List.mem_map.mp h1
   obtain ⟨u,h4,rfl⟩:=List.mem_map.mp h3
   have:=iK_inj (of_decide_eq_true h2)
   rw [← this]; exact h4
  ·intro h
   exact ⟨(iK t,v),List.mem_map.mpr ⟨iK t,List.mem_map.mpr ⟨t,h,rfl⟩,rfl⟩,by simp⟩
 rw [any]
 by_cases h:t ∈ ts
 ·rw [if_pos (by simpa using h),if_pos h,List.map_map]
  refine List.map_congr_left fun k _=>?_
  show (if k=iK t then (k,v) else (k,v))=(k,v)
  split <;> rfl
 ·rw [if_neg (by simpa using h),if_neg h,List.map_append,List.map_append]
  rfl
section
variable {P:Program} {w:World} {H:Hp} {a:Addr}
theorem owns_bl {b:Bool}:∀ {n:Nat},Owns P w H (List.replicate n (.bl b)) (List.replicate n (V.bl b)) []
 | 0=>⟨rfl,rfl⟩
 | n+1=>⟨_,_,[],[],rfl,rfl,⟨rfl,rfl⟩,owns_bl⟩
theorem bl_owns {b:Bool}:∀ {n:Nat} {vs:List V} {A:List Addr},Owns P w H (List.replicate n (.bl b)) vs A→vs=List.replicate n (V.bl b)∧A=[]
 | 0,_,_,h=>h
 | n+1,_,_,⟨v,r,A1,A2,e,eA,h1,h2⟩=>by
  obtain ⟨e1,e2⟩:=h1
  obtain ⟨e3,e4⟩:=bl_owns h2
  rw [e,eA,e1,e2,e3,e4]
  exact ⟨rfl,rfl⟩
theorem own_dP {ts:List (List Int)} {b:Bool} (h:H a=some (.dT ((ts.map iK).map fun k=>(k,V.bl b)))):Own P w H (dP ts b) (.ref a) [a] :=
 ⟨a,List.replicate ts.length (V.bl b),[],rfl,by rw [rep_zip (by simp)]; exact h,by simp,rfl,owns_bl⟩
theorem dP_own {ts:List (List Int)} {b:Bool} {v:V} {A:List Addr} (h:Own P w H (dP ts b) v A):∃ a,v=.ref a∧A=[a]∧H a=some (.dT ((ts.map iK).map fun k=>(k,V.bl b))):=by
 obtain ⟨a,vs,A',e,h1,l,eA,h2⟩:=h
 obtain ⟨e3,e4⟩:=bl_owns h2
 rw [e3,rep_zip (by simp)] at h1
 exact ⟨a,e,by rw [eA,e4],h1⟩
end
section
variable {X:Cx} {C:Cfg} {k:Expr} {φk:PhiQ} {i:Nat} {x:Str} {pos pos' px pc:Pos} {b:Bool}
theorem pq_dnew (b:Bool):PQ X C true (.Dict [] [] pos) (fun β R=>R (dP [] b) .own β) :=
 ⟨fun β R R' k h=>k _ _ _ h,pe_dnewT.pre fun σ H Q h p hp=>by
  obtain ⟨β,own,s,q⟩:=h
  refine q _ _ own ((Out.refl s _).same (Same.new hp)) ⟨[p],own_dP upd_same,by simp,fun c hc=>?_⟩
  rw [List.mem_singleton.mp hc]
  exact ⟨hp,fun z=>s.dmW p z hp,Decidable.by_contra fun z=>s.dmn p z hp⟩⟩
theorem pb_dadd {j} (hu:X.A.units+1 < cLine) (hk:PQ X C.z true k φk) (hN:X.N[i]?=some x:=by rfl) (hv:Vis X.env.scope x:=by first | exact .inl rfl | exact .inr (.inl rfl) | exact .inr (.inr rfl)) (hd:(x == ("__debug__" : Str))=false:=by decide) (hcd:(x == ("__classdict__" : Str))=false:=by decide)
  (hs:swapsWith (.Constant (.bool b) j pc) (some (.Subscript (.Name x px) k pos')) pos.line X.env=pure false:=by rfl) :
  PB X C (.Assign [.Subscript (.Name x px) k pos'] (.Constant (.bool b) j pc) pos) (fun E β=>(∃ ts,β[i]?=some (some (.own (dP ts b))))∧φk β fun jd _ β2=>∃ ts t,jd=kD t∧β2[i]?=some (some (.own (dP ts b)))∧ts.length < sizeLine∧E.nx (β2.set i (some (.own (dP (addT ts t) b))))):=by
 refine ⟨fun E E' β l h=>⟨h.1,hk.mono _ _ _ (fun jd _ β2 h=>by obtain ⟨ts,t,h1,h2,h3,q⟩:=h; exact ⟨ts,t,h1,h2,h3,l.nx _ q⟩) h.2⟩,(ps_dput hu (pe_var (pos:=px) hN hv hd hcd) hk.pe (pe_bl (j:=j) (pos:=pc)) hs).pre fun De σ H h=>?_⟩
 obtain ⟨Z,E,β,⟨own,s0,n⟩,⟨⟨ts0,hb0⟩,q⟩,ok⟩:=h
 obtain ⟨v0,hv0,ow0,_⟩:=s0.ow i _ hb0
 refine ⟨v0,hv0,tQ.of hk s0 q fun jd kk β2 v H1 own1 h o r=>?_⟩
 obtain ⟨ts,t,e1,hb,hl,q⟩:=h
 subst e1
 obtain ⟨v1,hv1,ow,h0⟩:=o.sq.ow i _ hb
 rw [hv0] at hv1
 cases hv1
 obtain ⟨a,rfl,eA,ha⟩:=dP_own ow
 obtain ⟨p,vs,rfl,hp,rv⟩:=r.rep
 have ev:vs=(iK t).map kV:=by
  rw [iK_kV]
  have key:∀ (t:List Int) (vs:List V),RepDs X.prog X.w (av C.z (Wn own1) kk) H1 (t.map D.int) vs→vs=t.map V.int:=fun t=>by
   induction t with
   | nil=>intro vs h; exact h
   | cons y t ih =>
    intro vs h
    obtain ⟨z,r',e1,e2,e3⟩:=h
    rw [e1,ih r' e3,show z=V.int y from e2]
    rfl
  exact key t vs rv
 have hma:a ∈ own1 i:=by rw [eA]; simp
 refine ⟨a,_,rfl,.inr ⟨_,iK t,p,ha,rfl,by rw [← ev]; exact hp,by rw [List.length_map,List.length_map]; exact hl,rfl⟩,?_⟩
 have hA:∀ c ∈ [a],c ∈ own1 i∨(C.H0 c=none∧¬ Wn own1 c∧(fun _=>False) c):=fun c hc=>.inl (by rw [List.mem_singleton.mp hc]; exact hma)
 have r':Own X.prog X.w (upd H1 a (.dT (putK ((ts.map iK).map fun k=>(k,V.bl b)) (iK t) (V.bl b)))) (dP (addT ts t) b) (.ref a) [a]:=own_dP (by rw [put_rep]; exact upd_same)
 exact ok.nx _ _ _ ⟨_,o.sq.putU (C:=C) (U:=fun _=>False) (U2:=fun _=>False) hb hv0 hma r' (by simp) hA (fun _ z=>z) (fun _ _ z=>z),sn_put (C:=C) (n.trans o.sn) (fun _ z=>z.elim) ⟨i,hma⟩ ⟨_,ha,fun xs z=>by cases z⟩ hA⟩ q
end
end L2.Q
end

noncomputable section
set_option Elab.async false
set_option linter.all false
set_option maxRecDepth 100000
namespace Dk
open PySem PySem.Spec PyProof.Rows
section
variable {prog:Program} {w:World} {A:Around} {E:Value→Shared→Prop} {s:Shared}
theorem meets_len (d:Addr) (hd:(d == sysModules)=false) :
  MeetsIn prog w (Builtin.«dict.__len__» ⟨[.ref d],[]⟩) (fun _ R s=>∃ o es ep,s.heap.get? d=some o∧o.data=.dict es ep∧R (.ok (.ret (.int es.size s.toks))) { s with toks:=s.toks+1 }) :=
 .of_wp fun A R s h=>by
  obtain ⟨o,es,ep,ho,hdat,h⟩:=h
  show wpAny _ _ (dictSize d >>= _) _ _ s
  unfold dictSize
  refine wpAny_bind (wpAny_bind (wpAny_dictEntries ho hdat (wpAny_pure ?_)))
  show wpAny _ _ (Builtin.Dict.pendingCount d >>= _) _ _ s
  refine wpAny_bind (wpAny_pendingCount_other hd ?_)
  refine wpAny_ret_mkInt ?_
  rw [Nat.add_zero]
  exact h
theorem len_body {d:Addr} {o:Obj} {es:Array DictEntry} {ep:Nat} {Q:Value→Shared→Prop} (hd:(d == sysModules)=false) (hT:s.TypeIs (.ref d) "dict") (ho:s.heap.get? d=some o) (hdat:o.data=.dict es ep) (hfit:(es.size:Int) < 2 ^ 63)
  (h:Q (.int es.size (s.toks+1)) { s with toks:=s.toks+1+1 }):wpAny (model prog w) A (Builtin.«len» ⟨[.ref d],[]⟩) (fun fin s'=>∃ r,fin=.done (.ret r)∧Q r s') E s:=by
 unfold Builtin.«len»
 refine wpAny_bind (m:=oneArg "len" _) (wpAny_pure ?_)
 refine wpAny_bind (m:=callSpecial? (.ref d) (Str.ofString "__len__")) (wpAny_callSpecial?_slot (name:=Str.ofString "__len__") hT F.slot_dict_len
  (call_meetsIn F.slot_dict_len hT F.entry_dict_len (F.args_dict_len_1 _) (meets_len d hd) ⟨o,es,ep,ho,hdat,?_⟩))
 show wpAny _ _ _ _ _ { s with toks:=s.toks+1 }
 refine wpAny_bind (wpAny_holding (wpAny_pure ?_))
 refine wpAny_bind (wpAny_letGo ?_)
 show wpAny _ _ (if ((es.size:Nat):Int) < 0 then _ else _) _ _ _
 rw [if_neg (by omega)]
 show wpAny _ _ (if ((es.size:Nat):Int) ≥ 2 ^ 63 then _ else _) _ _ _
 rw [if_neg (by omega)]
 exact wpAny_bind (wpAny_mkInt (wpAny_pure ⟨_,rfl,h⟩))
theorem call_len {d:Addr} {o:Obj} {es:Array DictEntry} {ep:Nat} {Q:Value→Shared→Prop} (hd:(d == sysModules)=false) (hT:s.TypeIs (.ref d) "dict") (ho:s.heap.get? d=some o) (hdat:o.data=.dict es ep) (hfit:(es.size:Int) < 2 ^ 63)
  (h:Q (.int es.size (s.toks+1)) { s with toks:=s.toks+1+1 }):wpAny (model prog w) A (call (.builtin "len") [.ref d]) Q E s :=
 Calls.call_function_entry kind_len plain_len entry_len (args_len1 _) (len_body hd hT ho hdat hfit h)
end
end Dk
namespace L2.Q
open PySem PySem.Spec PySem.SeqAt PyProof.Rows
theorem call_dLenP {X:Cx}:CallD X (.builtin "len") (fun ds=>match ds with | [.dT ks _]=>some (.int ks.length) | _=>none):=by
 intro pins s σ H xs us Q I r h
 obtain ⟨W,ds,d,hd,r1,e,q⟩:=h
 match ds,e with
 | [.dT ks es],e =>
  cases e
  obtain ⟨x,rfl,a,vs,rfl,ha,hl,nW,rs⟩:=args1 r1
  obtain ⟨u,rfl,rx⟩:=vals1 r
  cases rx
  have T:=(isD_at I (.inr ⟨_,.inl ha⟩)).1
  obtain ⟨z,y,xs',pr,o,es',ep,h1,h2,h3,h4,h5⟩:=(show ObjOk X.prog X.w H s.heap a (.dT (ks.zip vs)) from I.hok a _ ha)
  have hlen:es'.size=ks.length:=by
   have e1:es'.toList.length=xs'.length:=by rw [h4,List.length_map]
   have e2:(ks.zip vs).length=xs'.length:=by
    clear h4 h5 e1 z
    generalize ks.zip vs=kv at pr
    induction pr with
    | nil=>rfl
    | cons _ _ ih=>simp [ih]
   rw [List.length_zip,← hl,Nat.min_self] at e2
   rw [← Array.length_toList,e1,e2]
  have zk:(ks.zip vs).length=ks.length:=by rw [List.length_zip,← hl,Nat.min_self]
  refine Dk.call_len y T h1 h3 (by rw [hlen,← zk]; rw [sizeLine_eq] at z; omega) ?_
  rw [hlen]
  exact ⟨.int ks.length,H,I.tok _,⟨_,rfl⟩,q _ _ (Same.refl _) rfl⟩
end L2.Q
end

noncomputable section
set_option Elab.async false
set_option linter.all false
set_option maxRecDepth 100000
namespace Dk
open PySem PySem.Spec PyProof.Rows
def At (h:Heap) (d:Addr) (es:Array DictEntry) (ep:Nat):Prop:=∃ o,h.get? d=some o∧o.ExactDict∧o.data=.dict es ep
theorem At.at' {h h':Heap} {d:Addr} {es:Array DictEntry} {ep:Nat} (x:At h d es ep) (e:∀ o,h.get? d=some o→h'.get? d=some o):At h' d es ep:=by
 obtain ⟨o,h1,r⟩:=x
 exact ⟨o,e _ h1,r⟩
theorem At.lt {h:Heap} {d:Addr} {es:Array DictEntry} {ep:Nat} (x:At h d es ep):d < h.objs.size:=by
 obtain ⟨o,h1,_⟩:=x
 exact Heap.lt_size h1
theorem At.typeIs {s:Shared} {d:Addr} {es:Array DictEntry} {ep:Nat} (x:At s.heap d es ep):s.TypeIs (.ref d) "dict" := by
 obtain ⟨o,h1,h2,_⟩:=x
 exact ⟨o,h1,h2.1⟩
section
variable {prog:Program} {w:World} {A:Around} {E:Value→Shared→Prop} {s:Shared} {d it:Addr} {es:Array DictEntry} {i ep:Nat}
theorem iter_dict {Q:Value→Shared→Prop} (hd:(d == sysModules)=false) (hm:At s.heap d es ep)
  (hQ:Q (.ref s.heap.objs.size) { s with heap:=s.heap.push { cls:=.type "dict_keyiterator",data:=.fields #[.ref d,.int 0 0,.int es.size 0,.int ep 0] } }):wpAny (model prog w) A (pyIter (.ref d)) Q E s:=by
 have hT:=hm.typeIs
 obtain ⟨o,ho,hc,hdat⟩:=id hm
 refine wpAny_pyIter_slot hT F.slot_dict_iter (wpAny_call_entry F.slot_dict_iter hT F.entry_dict_iter ?_ (F.args_dict_iter_1 _))
 unfold Builtin.«dict.__iter__»
 refine wpAny_bind ?_
 unfold Builtin.Dict.dictSlotNone
 refine wpAny_bind (wpAny_notOrdered_dict hT ?_)
 show wpAny _ _ (pure (Value.ref d)) _ _ s
 refine wpAny_pure ?_
 show wpAny _ _ (Builtin.Dict.showsAll d >>= _) _ _ s
 unfold Builtin.Dict.showsAll
 rw [if_neg (by rw [hd]; exact Bool.false_ne_true)]
 refine wpAny_bind (wpAny_pure ?_)
 refine wpAny_bind (wpAny_dictEntries ho hdat ?_)
 refine wpAny_bind (wpAny_dictEpoch ho hdat ?_)
 refine wpAny_bind (wpAny_newObj_type (wpAny_pure ⟨_,rfl,"dict_keyiterator",_,⟨_,Heap.get?_push_size _ rfl,rfl⟩,F.slot_dict_keyiterator_next.lookup,?_⟩))
 simpa [rawInt] using hQ
theorem next_item {Q:Option Value→Shared→Prop} (hit:s.heap.IsKeyIter it d i es.size ep) (hm:At s.heap d es ep) (hlt':i < es.size)
  (hQ:∀ h',h'.IsKeyIter it d (i+1) es.size ep→Heap.SameBut it s.heap h'→Q (some es[i].key) { s with heap:=h' }):wpAny (model prog w) A (pyNext (.ref it)) Q E s:=by
 obtain ⟨o,ho,hc,hd⟩:=id hit
 obtain ⟨od,hod,hcd,hdd⟩:=id hm
 unfold pyNext
 refine wpAny_bind (wpAny_attempt (wpAny_callSpecial?_slot (name:=Str.ofString "__next__") hit.typeIs F.slot_dict_keyiterator_next
  (wpAny_call_entry F.slot_dict_keyiterator_next hit.typeIs F.entry_dict_keyiterator_next ?_ (F.args_dict_keyiterator_next_1 _))))
 refine wpAny_bind (wpAny_pure ?_)
 refine wpAny_bind ?_
 refine wpAny_bind ?_
 first | refine wpAny_bind (wpAny_typeNameOfWhole_keyiter hit.typeIs (wpAny_pure ?_)) | refine wpAny_bind (wpAny_typeNameOf_keyiter hit.typeIs (wpAny_pure ?_))
 refine wpAny_bind (wpAny_fieldsOf ho hd ?_)
 have hown:Builtin.Dict_items.ownsTuple "dict_keyiterator" = false:=by decide
 simp only [hown,Bool.false_eq_true,if_false]
 show wpAny _ _ (if (Value.ref d == Value.none)=true then _ else _) _ _ s
 rw [if_neg (show ¬ ((Value.ref d == Value.none)=true) from Bool.false_ne_true)]
 refine wpAny_bind (wpAny_pure ?_)
 refine wpAny_bind (wpAny_dictEntries hod hdd ?_)
 rw [if_neg (by simp)]
 refine wpAny_bind (wpAny_pure ?_)
 refine wpAny_bind (wpAny_dictEpoch hod hdd ?_)
 rw [if_neg (by simp)]
 refine wpAny_pure ?_
 simp only [show ¬ ((i:Int) < 0) from by omega,if_false,Int.toNat_natCast,Array.getElem?_eq_getElem hlt']
 refine wpAny_bind ?_
 first | refine wpAny_bind (wpAny_typeNameOfWhole_keyiter hit.typeIs (wpAny_pure ?_)) | refine wpAny_bind (wpAny_typeNameOf_keyiter hit.typeIs (wpAny_pure ?_))
 refine wpAny_bind (wpAny_isOneOf_keyiter hit.typeIs ?_)
 show wpAny _ _ (setField (.ref it) 1 (rawInt ((i:Int)+1)) >>= _) _ _ s
 refine wpAny_bind (wpAny_setField ho hd (by simp) ?_)
 have hit':(s.heap.update it (Obj.mapFields (·.setIfInBounds 1 (rawInt ((i:Int)+1))))).IsKeyIter it d (i+1) es.size ep :=
  ⟨_,Heap.get?_update_self _ ho (Obj.isFreed_of_fields (Obj.data_mapFields hd _)),(Obj.cls_mapFields ..).trans hc,by rw [Obj.data_mapFields hd]; simp [rawInt]⟩
 refine wpAny_bind (wpAny_holding ?_)
 refine wpAny_bind (wpAny_isOneOf_keyiter (s:={ s with heap:=s.heap.update it (Obj.mapFields (·.setIfInBounds 1 (rawInt ((i:Int)+1)))) }) hit'.typeIs ?_)
 show wpAny _ _ (pure es[i].key) _ _ _
 exact wpAny_pure (wpAny_pure ⟨_,rfl,wpAny_pure (hQ _ hit' (Heap.SameBut.update ..))⟩)
end
end Dk
end

noncomputable section
set_option Elab.async false
set_option linter.all false
set_option maxRecDepth 100000
namespace Dk
open PySem PySem.Spec PyProof.Rows
section
variable {prog:Program} {w:World} {A:Around} {E:Value→Shared→Prop} {s:Shared} {d it:Addr} {es:Array DictEntry} {i ep:Nat}
theorem next_end {Q:Option Value→Shared→Prop} (hh:A.handled=none) (hit:s.heap.IsKeyIter it d i es.size ep) (hm:At s.heap d es ep) (hge:es.size≤i)
  (hQ:∀ h',Heap.ExtBut it s.heap h'→Q none { s with heap:=h' }):wpAny (model prog w) A (pyNext (.ref it)) Q E s:=by
 obtain ⟨o,ho,hc,hd⟩:=id hit
 obtain ⟨od,hod,hcd,hdd⟩:=id hm
 unfold pyNext
 refine wpAny_bind (wpAny_attempt (wpAny_callSpecial?_slot (name:=Str.ofString "__next__") hit.typeIs F.slot_dict_keyiterator_next
  (wpAny_call_entry F.slot_dict_keyiterator_next hit.typeIs F.entry_dict_keyiterator_next ?_ (F.args_dict_keyiterator_next_1 _))))
 refine wpAny_bind (wpAny_pure ?_)
 refine wpAny_bind ?_
 refine wpAny_bind ?_
 first | refine wpAny_bind (wpAny_typeNameOfWhole_keyiter hit.typeIs (wpAny_pure ?_)) | refine wpAny_bind (wpAny_typeNameOf_keyiter hit.typeIs (wpAny_pure ?_))
 refine wpAny_bind (wpAny_fieldsOf ho hd ?_)
 have hown:Builtin.Dict_items.ownsTuple "dict_keyiterator" = false:=by decide
 simp only [hown,Bool.false_eq_true,if_false]
 show wpAny _ _ (if (Value.ref d == Value.none)=true then _ else _) _ _ s
 rw [if_neg (show ¬ ((Value.ref d == Value.none)=true) from Bool.false_ne_true)]
 refine wpAny_bind (wpAny_pure ?_)
 refine wpAny_bind (wpAny_dictEntries hod hdd ?_)
 rw [if_neg (by simp)]
 refine wpAny_bind (wpAny_pure ?_)
 refine wpAny_bind (wpAny_dictEpoch hod hdd ?_)
 rw [if_neg (by simp)]
 refine wpAny_pure ?_
 simp only [show ¬ ((i:Int) < 0) from by omega,if_false,Int.toNat_natCast,Array.getElem?_eq_none hge]
 refine wpAny_bind ?_
 first | refine wpAny_bind (wpAny_typeNameOfWhole_keyiter hit.typeIs (wpAny_pure ?_)) | refine wpAny_bind (wpAny_typeNameOf_keyiter hit.typeIs (wpAny_pure ?_))
 show wpAny _ _ (setField (.ref it) 0 .none >>= _) _ _ s
 refine wpAny_bind (wpAny_setField ho hd (by simp) ?_)
 show wpAny _ _ (newExc (.type "StopIteration") [] >>= _) _ _ _
 refine wpAny_bind ?_
 simp only [newExc,newTuple]
 refine wpAny_bind (wpAny_newObj_type ?_ (by size_fits))
 refine wpAny_bind (m:=firstArgMember _ _) (wpAny_of_eq (a:=Value.none) (by first | rfl | (simp only [firstArgMember]; rfl)) ?_)
 refine wpAny_newObj_type ?_ (by size_fits)
 simp only [raiseNew]
 refine wpAny_bind (wpAny_handled ?_)
 rw [show A.in1.handled=none from hh]
 refine wpAny_bind (wpAny_pure (wpAny_throw ?_))
 refine wpAny_bind (wpAny_isInstance (T:="StopIteration") (b:=true) ⟨_,Heap.get?_push_size _ rfl,rfl⟩ isSubtype_stop ?_)
 exact wpAny_pure (hQ _ (((Heap.SameBut.update ..).extBut.push _).push _))
theorem walks (hh:A.handled=none) (I d:Addr) (hne:d≠I) (es:Array DictEntry) (ep:Nat) :
  Walks prog w A I [I,d] [I] es.size (fun i v=>∃ h:i < es.size,v=es[i].key) (fun i h=>h.IsKeyIter I d i es.size ep∧At h d es ep) where
 sub:=fun b hb=>by simp at hb; simp [hb]
 frame:=fun _ _ _ st hk=>⟨st.1.at fun o e=>hk I (by simp) o e,st.2.at' fun o e=>hk d (by simp) o e⟩
 item:=fun i s Q E hi st hQ=>by
  refine next_item st.1 st.2 hi fun h' hit' hs'=>?_
  exact hQ _ h' s.toks ⟨hi,rfl⟩ ⟨hit',st.2.at' fun o e=>hs'.extBut d o hne e⟩ fun b o hb e=>hs'.extBut b o (fun h=>hb (by simp [h])) e
 done:=fun s Q E st hQ=>next_end hh st.1 st.2 (Nat.le_refl _) fun h' he'=>hQ h' s.toks fun b o hb e=>he' b o (fun h=>hb (by simp [h])) e
 self:=fun _ _ _ _ st hQ=>wpAny_pyIter_keyiter st.1 hQ
theorem src (lo:(d == sysModules)=false):PySem.W.KdlSrc prog w "dict" d d es.size (fun i v=>∃ h:i < es.size,v=es[i].key) (fun h=>At h d es ep) where
 type:=fun _ hm=>hm.typeIs
 there:=fun _ hm=>⟨hm.lt,hm.lt⟩
 keep:=fun _ _ hm hk=>hm.at' fun o e=>hk d (.inl rfl) o e
 notList:=by decide
 notTuple:=by decide
 hint:=fun _ _ _ _ hm hq=>PySem.W.kdl_hint_dict hm.typeIs hq
 iter:=fun _ _ hh hm=>⟨_,_,(fun _ _ hq=>iter_dict lo hm hq),walks hh _ d (Nat.ne_of_lt hm.lt) es ep,⟨⟨_,Heap.get?_push_size _ rfl,rfl,rfl⟩,hm.at' fun o e=>Heap.get?_push_of_some _ e⟩⟩
theorem collect_keys {R:List Value→Shared→Prop} (lo:(d == sysModules)=false) (hm:At s.heap d es ep) (hn:es.size≤sizeLine) (hh:A.handled=none)
  (h:∀ (h':Heap) (tk:Nat),(∀ b o,s.heap.get? b=some o→h'.get? b=some o)→R (es.toList.map (·.key)) { s with heap:=h',toks:=tk }):wpAny (model prog w) A (collect (.ref d)) R E s:=by
 refine PySem.W.kdu_collect (src (es:=es) (ep:=ep) lo) hh hm hn fun h' tk acc hk hacc=>?_
 have e:acc.toList=es.toList.map (·.key):=by
  apply List.ext_getElem?
  intro i
  rw [List.getElem?_map,Array.getElem?_toList,Array.getElem?_toList]
  by_cases hi:i < acc.size
  ·obtain ⟨g1,g2⟩:=hacc.2 i acc[i] (getElem?_pos acc i hi)
   rw [getElem?_pos acc i hi,getElem?_pos es i g1,g2]
   rfl
  ·have:=hacc.1
   rw [Array.getElem?_eq_none (by omega),Array.getElem?_eq_none (by omega)]
   rfl
 rw [e]
 exact h h' tk hk
end
end Dk
end

noncomputable section
set_option Elab.async false
set_option linter.all false
set_option maxRecDepth 100000
namespace L2.Q
open PySem PySem.Spec PySem.SeqAt PyProof.Rows HT
def unK:List Key→Option (List Int)
 | []=>some []
 | .inl i::r=>(unK r).map (i::·)
 | .inr _::_=>none
def unKs:List (List Key)→Option (List (List Int))
 | []=>some []
 | k::r=>match unK k,unKs r with
  | some t,some ts=>some (t::ts)
  | _,_=>none
theorem unK_iK:∀ t:List Int,unK (iK t)=some t
 | []=>rfl
 | i::t=>by
  show (unK (iK t)).map (i::·)=_
  rw [unK_iK t]
  rfl
theorem unKs_map:∀ ts:List (List Int),unKs (ts.map iK)=some ts
 | []=>rfl
 | t::ts=>by
  show (match unK (iK t),unKs (ts.map iK) with | some t,some ts=>some (t::ts) | _,_=>none)=_
  rw [unK_iK,unKs_map ts]
theorem unK_eq:∀ {k:List Key} {t:List Int},unK k=some t→k=iK t
 | [],t,h=>by cases h; rfl
 | .inl i::r,t,h=>by
  obtain ⟨u,h1,h2⟩:=Option.map_eq_some_iff.mp (show (unK r).map (i::·)=some t from h)
  rw [← h2,unK_eq h1]
  rfl
 | .inr _::_,t,h=>by cases h
theorem unKs_eq:∀ {ks:List (List Key)} {ts:List (List Int)},unKs ks=some ts→ks=ts.map iK
 | [],ts,h=>by cases h; rfl
 | k::r,ts,h=>by
  have h:(match unK k,unKs r with | some t,some ts=>some (t::ts) | _,_=>none)=some ts:=h
  cases h1:unK k with
  | none=>rw [h1] at h; cases h
  | some t =>
   cases h2:unKs r with
   | none=>rw [h1,h2] at h; cases h
   | some us =>
    rw [h1,h2] at h
    cases h
    rw [unK_eq h1,unKs_eq h2]
    rfl
def dSortP:List D→Option D
 | [.dT ks _]=>match unKs ks with
  | some ts=>if ts.length≤1000∧(∀ k ∈ ts,k≠[]) then some (.lst ((srt ts).map kD)) else none
  | none=>none
 | _=>none
theorem sort_dP {ts:List (List Int)} {b:Bool} (h:∀ k ∈ ts,k≠[]) (l:ts.length≤1000):dSortP [dP ts b]=some (.lst ((srt ts).map kD)):=by
 show (match unKs (ts.map iK) with | some ts=>if ts.length≤1000∧(∀ k ∈ ts,k≠[]) then some (D.lst ((srt ts).map kD)) else none | none=>none)=_
 rw [unKs_map]
 exact if_pos ⟨l,h⟩
theorem keys_at {H:Hp}:∀ {ts:List (List Int)} {vs:List V} {xs:List (List Key × Addr × Value)},(ts.map iK).length=vs.length →
  Paired (fun (p:List Key × V) (q:List Key × Addr × Value)=>p.1=q.1∧H q.2.1=some (.tup (p.1.map kV))∧RelV p.2 q.2.2) ((ts.map iK).zip vs) xs→∃ us:List (Addr × List Int),xs.map (fun q=>Value.ref q.2.1)=us.map (fun x=>Value.ref x.1)∧us.map (·.2)=ts∧∀ u ∈ us,H u.1=some (.tup (u.2.map V.int))
 | [],vs,xs,_,p=>by cases p; exact ⟨[],rfl,rfl,fun _ z=>(nomatch z)⟩
 | t::ts,[],xs,l,p=>by cases l
 | t::ts,v::vs,xs,l,p=>by
  cases p with
  | cons h r =>
   obtain ⟨us,h1,h2,h3⟩:=keys_at (Nat.succ.inj l) r
   rename_i q xs'
   refine ⟨(q.2.1,t)::us,by rw [List.map_cons,List.map_cons,h1],by rw [List.map_cons,h2],fun u hu=>?_⟩
   rcases List.mem_cons.mp hu with rfl | hu
   ·have:=h.2.1
    rw [iK_kV] at this
    exact this
   ·exact h3 u hu
theorem call_dSortPN {X:Cx} (hc:X.calm=true):CallDN X (.builtin "sorted") dSortP:=by
 intro pins s σ H xs us0 Q I r h
 obtain ⟨W,ds,d,hd,r1,e,q⟩:=h
 match ds,e with
 | [.dT ks fs],e =>
  have e:(match unKs ks with | some ts=>if ts.length≤1000∧(∀ k ∈ ts,k≠[]) then some (D.lst ((srt ts).map kD)) else none | none=>none)=some d:=e
  cases hk:unKs ks with
  | none=>rw [hk] at e; cases e
  | some ts =>
   rw [hk] at e
   obtain ⟨⟨hl,hne⟩,rfl⟩:=ifSome e
   have:=unKs_eq hk
   subst this
   obtain ⟨x,rfl,p,vs,rfl,hp,hlv,nW,rs⟩:=args1 r1
   obtain ⟨u,rfl,rx⟩:=vals1 r
   cases rx
   obtain ⟨z,y,xs',pr,o,es,ep,h1,h2,h3,h4,h5⟩:=(show ObjOk X.prog X.w H s.heap p (.dT ((ts.map iK).zip vs)) from I.hok p _ hp)
   obtain ⟨us,eu,ek,T⟩:=keys_at hlv pr
   have T2:TsOk H us:=fun t ht=>⟨T t ht,hne _ (by rw [← ek]; exact List.mem_map.mpr ⟨t,ht,rfl⟩)⟩
   have ul:us.length=ts.length:=by rw [← ek,List.length_map]
   have ev:es.toList.map (·.key)=us.map fun x=>Value.ref x.1:=by
    rw [h4,List.map_map,← eu]
    rfl
   have esz:es.size=us.length:=by
    have:=congrArg List.length ev
    rw [List.length_map,List.length_map,Array.length_toList] at this
    exact this
   refine TS.sorted_in1 (vs:=us.map fun x=>Value.ref x.1) (kf:=kfOf H) (by rw [List.length_map]; omega) (fun R hR=>Dk.collect_keys (es:=es) (ep:=ep) y ⟨o,h1,h2,h3⟩ (by rw [esz,ul,sizeLine_eq]; omega) (by simp [I.ok.hd hc]) fun h' tk kp=>by rw [ev]; exact hR h' tk kp) (tups_of I.hok T2 (Nat.le_refl _)) fun out h1' h' tk n hp' hs k1 kp ho'=>?_
   ·obtain ⟨e1,e2⟩:=perm_refs T2 hp'
    have zl:out.length=us.length:=by rw [hp'.length_eq,List.length_map]
    have eq:(out.map (gTs H)).map (·.2)=srt ts:=by
     refine srt_eq (by rw [← ek]; exact e2.map _) ?_
     refine List.pairwise_map.mpr (List.pairwise_map.mpr ?_)
     refine hs.imp_of_mem fun {x y} hx hy hh=>?_
     obtain ⟨t,ht,rfl⟩:=List.mem_map.mp (hp'.mem_iff.mp hx)
     obtain ⟨t',ht',rfl⟩:=List.mem_map.mp (hp'.mem_iff.mp hy)
     exact hh
    have I1:Inv X pins σ H { s with heap:=h1',toks:=s.toks }:=I.kept k1
    have hfr:H h1'.objs.size=none:=I1.hok.fresh (Nat.le_refl _)
    have rk:RepDs X.prog X.w W H ((srt ts).map kD) ((out.map (gTs H)).map tRef):=by rw [← eq]; exact reps_keys fun t ht=>(T2 t (e2.mem_iff.mp ht)).1
    refine ⟨.ref h1'.objs.size,_,I1.laid (t':=tk) (o:=.lst ((out.map (gTs H)).map tRef)) kp (Nat.le_refl _) ?_,rfl,q _ _ (Same.new hfr) (Rp.lstNew hd hfr rk) fun f=>newL hfr f rk⟩
    refine ⟨by rw [List.length_map,List.length_map,zl,ul,sizeLine_eq]; omega,out,n,?_,ho'⟩
    have:=refs_vals (out.map (gTs H))
    rw [← e1] at this
    exact this
end L2.Q
end

noncomputable section
set_option Elab.async false
set_option linter.all false
set_option maxRecDepth 100000
set_option maxHeartbeats 4000000
namespace K37
open PySem L2 L2.Q
def fPlanted:FD:=fun ds R=>∃ n:Int,ds=[.int n]∧0≤n∧n≤40∧∀ ts:List (List Int),ts.length≤n.toNat→Ties n ts→R (.lst (ts.map kD))
theorem fPlanted.mono:Mono fPlanted:=fun ds R R' k ⟨n,e,h1,h2,q⟩=>⟨n,e,h1,h2,fun ts a b=>k _ (q ts a b)⟩
def fRowP:FD:=fun ds R=>ds=[]∧∀ (n:Int) ts,0≤n→n≤40→ts.length≤400→Ties n ts→Srtd ts→ts.Nodup→R (.tup [.int n,.lst (ts.map kD)])
theorem fRowP.mono:Mono fRowP:=fun ds R R' k ⟨e,q⟩=>⟨e,fun n ts a b c d f g=>k _ (q n ts a b c d f g)⟩
section
variable {P:Program} {w:World} {K:PySem.W.Frag} {mg:Str→Option Value} {base:Heap}
theorem sc_law_planted:FnScope ["pot","many","often","pile","found","point","way"] ["pot","many"] (defScope s_law_planted):=⟨rfl,rfl,rfl,by decide +kernel,rfl,by decide +kernel,by decide +kernel⟩
theorem ok_planted {fdPl:Addr} {fddPl:FuncData} (dPl:Df K mg "_law_planted" s_law_planted ["pot","many"] fdPl fddPl) {fdT:Addr} {fddT:FuncData} (dT:Df K mg "_law_take" s_law_take ["pot","many"] fdT fddT) (B:Bs mg):FnOk P w K mg base CX0 2 fdPl fddPl ["pot","many"] (spQH P w okP true fPlanted):=by
 have GT:FnOk P w K mg base CX0 1 _ _ _ (spQH P w okP true fTake):=ok_take dT.F
 refine okQH dPl.F sc_law_planted (fun ds R ⟨n,e,_⟩=>by subst e; rfl) fun cdv A outer s H E IO hr=>⟨_,(pbs_cons (pb_set (i:=2) (pq_ix nok_NF ix_m (pq_lst (pqa_cons pq_int (pqa_cons pq_int (pqa_cons pq_int pqa_nil)))) (pq_draw (ih:=0) fTake.mono GT (hr.mono (by decide)) dT.m dT.F.kp dT.b (pqa_cons pq_int pqa_nil))) sc_law_planted.nd)
    (pbs_cons (pb_setO (i:=3) (fun _=>(pq_lst pqa_nil)) sc_law_planted.nd)
    (pbs_cons (pb_setO (i:=4) (fun _=>(pq_lst pqa_nil)) sc_law_planted.nd)
    (pbs_cons (pb_for PassesOwn.never rfl (pqi_range1 B.range (pqa_cons (pq_var (i:=1)) pqa_nil)) (pbg_name (i:=5) sc_law_planted.nd) (pbs_cons (pb_set (i:=6) (pq_draw (ih:=0) fTake.mono GT (hr.mono (by decide)) dT.m dT.F.kp dT.b (pqa_cons (pq_op nok_NL op_dAddN pq_int (pq_var (i:=2))) pqa_nil)) sc_law_planted.nd)
    (pbs_one (pb_if (PQW.t (pqw_or (PQW.t (pqw_and (pqt_cmp nok_NF (OpD.m (op_dEq hr.units)) (pq_var (i:=6)) pq_int) (pqw_and1 (pqt_cmp nok_NF (OpD.m (op_dNe hr.units)) (pq_var (i:=3)) (pq_lst pqa_nil))))) (pqw_or1 (PQW.t (pqw_and (pqt_cmp nok_NF (OpD.m op_dGt) (pq_callB nok_NF (CallD.m call_dLen) B.len bt_len (pqa_cons (pq_var (i:=3)) pqa_nil)) (pq_op nok_NF (OpD.m op_dSub) (pq_op nok_NF (OpD.m op_dSub) (pq_var (i:=1)) (pq_var (i:=5))) pq_int)) (pqw_and1 (pqt_cmp nok_NF (OpD.m (op_dNe hr.units)) (pq_var (i:=3)) (pq_lst pqa_nil)))))))) (pbs_one (pb_append (i:=4) (fun _=>(pq_tup (pqa_cons (pq_pop (i:=3)) (pqa_cons (pq_var (i:=5)) pqa_nil)))))) (pbs_one (pb_if (pqt_cmp nok_NF (OpD.m op_dLt) (pq_var (i:=6)) pq_int) (pbs_one (pb_append (i:=3) (fun _=>(pq_var (i:=5))))) pbs_nil))))))
    (pbs_one (pb_ret (pq_callB nok_NL call_dSortLN B.sorted bt_sorted (pqa_cons (pq_var (i:=4)) pqa_nil)))))))),fun ds R h=>?_⟩
 obtain ⟨n,rfl,n0,n1,q⟩:=h
 refine ⟨trivial,trivial,trivial,sz3,trivial,rfl,trivial,rfl,trivial,3,rfl,by omega,by omega,fun r r0 r1=>pick r0 (by simpa using r1) fun d hd=>?_⟩
 obtain ⟨m,rfl,m0,m1⟩:∃ m:Int,d=.int m∧0≤m∧m≤4:=by
  simp only [List.mem_cons,List.not_mem_nil,or_false] at hd
  rcases hd with rfl | rfl | rfl
  ·exact ⟨0,rfl,by omega,by omega⟩
  ·exact ⟨1,rfl,by omega,by omega⟩
  ·exact ⟨4,rfl,by omega,by omega⟩
 refine ⟨Nat.zero_le _,trivial,Nat.zero_le _,trivial,_,rfl,trivial,n,rfl,by omega,by omega,trivial,?_⟩
 refine ⟨fun i β=>∃ (ps:List Int) (fs:List (List Int)) (x5 x6:Option Q.B),β=[some (.hand okP),some (.val false (.int n)),some (.val true (.int m)),some (.own (.lst (ps.map D.int))),some (.own (.lst (fs.map kD))),x5,x6]∧fs.length≤i∧ps.length≤i∧i≤n.toNat∧Ties n fs∧(∀ p ∈ ps,0≤p∧p < i),⟨[],[],_,_,rfl,Nat.le_refl _,Nat.le_refl _,Nat.zero_le _,Ties.nil,fun _ z=>(nomatch z)⟩,?_,?_⟩
 ·rintro i d β hd ⟨ps,fs,x5,x6,rfl,h1,h2,h3,h4,h5⟩
  obtain ⟨hi,rfl⟩:=rngD_get hd
  refine ⟨rfl,trivial,_,rfl,_,rfl,trivial,rfl,trivial,_,rfl,by omega,by omega,fun r r0 r1=>?_⟩
  refine (fun (pop:ps≠[]→_) (els:_)=>(fun second=>⟨_,rfl,trivial,_,dEq_int _ _,_,rfl,ifD (fun _=>⟨_,rfl,trivial,Nat.zero_le _,_,dNe_ints ps [],_,rfl,ifN (fun hp=>ifT rfl (pop hp)) (fun hp=>second)⟩) (fun _=>ifF rfl second)⟩)
   ⟨_,rfl,trivial,_,rfl,trivial,_,rfl,trivial,_,rfl,_,rfl,trivial,_,rfl,_,rfl,_,rfl,ifD (fun _=>⟨_,rfl,trivial,Nat.zero_le _,_,dNe_ints ps [],_,rfl,ifN (fun hp=>pop hp) (fun hp=>els)⟩) (fun _=>ifF rfl els)⟩) ?_ ?_
  ·intro hp
   obtain ⟨qs,p,rfl⟩:∃ qs p,ps=qs++[p]:=⟨ps.dropLast,ps.getLast hp,(List.dropLast_concat_getLast hp).symm⟩
   have hpp:=h5 p (by simp)
   rw [List.length_append,List.length_singleton] at h2
   refine ⟨⟨_,rfl⟩,qs.map D.int,.int p,by simp,trivial,_,rfl,trivial,sz2,trivial,fs.map kD,rfl,by rw [List.length_map,sizeLine_eq]; omega,?_⟩
   refine ⟨qs,fs++[[p,0+(i:Int)]],_,_,by rw [snoc_kD]; rfl,by simp; omega,by omega,by omega,h4.app (Ties.one (by omega) (by omega) (by omega)),fun x hx=>?_⟩
   have:=h5 x (by simp [hx])
   omega
  ·refine ⟨_,rfl,trivial,_,rfl,_,rfl,ifD (fun _=>?_) (fun _=>⟨ps,fs,_,_,rfl,by omega,by omega,by omega,h4,fun p hp=>by have:=h5 p hp; omega⟩)⟩
   refine ⟨⟨_,rfl⟩,_,rfl,trivial,_,rfl,by rw [List.length_map,sizeLine_eq]; omega,?_⟩
   refine ⟨ps++[0+(i:Int)],fs,_,_,by rw [snoc_int]; rfl,by omega,by simp; omega,by omega,h4,fun p hp=>?_⟩
   rcases List.mem_append.mp hp with z | z
   ·have:=h5 p z; omega
   ·rw [List.mem_singleton.mp z]; omega
 ·rintro β ⟨ps,fs,x5,x6,rfl,h1,h2,h3,h4,h5⟩
  rw [rngD_len] at h1
  refine ⟨_,rfl,trivial,_,sortL_ties h4.ne (by omega),.inl ⟨flats_kD _,trivial,rfl,q _ ?_ (srt_ties h4)⟩⟩
  rw [(srt_perm fs).length_eq]
  exact h1
theorem sc_law_row:FnScope ["pot","many","found","tie","reach","k","a","b"] ["pot"] (defScope s_law_row):=⟨rfl,rfl,rfl,by decide +kernel,rfl,by decide +kernel,by decide +kernel⟩
theorem ok_row {fdR:Addr} {fddR:FuncData} (dR:Df K mg "_law_row" s_law_row ["pot"] fdR fddR) {fdT:Addr} {fddT:FuncData} (dT:Df K mg "_law_take" s_law_take ["pot","many"] fdT fddT) {fdPl:Addr} {fddPl:FuncData} (dPl:Df K mg "_law_planted" s_law_planted ["pot","many"] fdPl fddPl) (B:Bs mg):FnOk P w K mg base CX0 3 fdR fddR ["pot"] (spQH P w okP true fRowP):=by
 have GT:FnOk P w K mg base CX0 1 _ _ _ (spQH P w okP true fTake):=ok_take dT.F
 have GPl:FnOk P w K mg base CX0 2 _ _ _ (spQH P w okP true fPlanted):=ok_planted dPl dT B
 refine okQH dR.F sc_law_row (fun ds R ⟨e,_⟩=>by subst e; rfl) fun cdv A outer s H E IO hr=>⟨_,(pbs_cons (pb_set (i:=1) (pq_draw (ih:=0) fTake.mono GT (hr.mono (by decide)) dT.m dT.F.kp dT.b (pqa_cons (pq_ix nok_NF ix_m (pq_lst (pqa_cons pq_int (pqa_cons pq_int (pqa_cons pq_int pqa_nil)))) (pq_draw (ih:=0) fTake.mono GT (hr.mono (by decide)) dT.m dT.F.kp dT.b (pqa_cons pq_int pqa_nil))) pqa_nil)) sc_law_row.nd)
    (pbs_cons (pb_setO (i:=2) (fun _=>(pq_dnew true)) sc_law_row.nd)
    (pbs_mid (pb_if (pqt_cmp nok_NF (OpD.m (op_dEq hr.units)) (pq_draw (ih:=0) fTake.mono GT (hr.mono (by decide)) dT.m dT.F.kp dT.b (pqa_cons pq_int pqa_nil)) pq_int) (pbs_one (pb_for PassesOwn.never rfl (pqi_list (pq_draw (ih:=0) fPlanted.mono GPl (hr.mono (by decide)) dPl.m dPl.F.kp dPl.b (pqa_cons (pq_var (i:=1)) pqa_nil))) (pbg_name (i:=3) sc_law_row.nd) (pbs_one (pb_dadd (i:=2) hr.units1 (pq_var (i:=3)))))) pbs_nil)
    (pbs_cons (pb_set (i:=4) (pq_ix nok_NF ix_m (pq_lst (pqa_cons pq_int (pqa_cons pq_int pqa_nil))) (pq_draw (ih:=0) fTake.mono GT (hr.mono (by decide)) dT.m dT.F.kp dT.b (pqa_cons pq_int pqa_nil))) sc_law_row.nd)
    (pbs_cons (pb_for PassesOwn.never rfl (pqi_range1 B.range (pqa_cons (pq_op nok_NF (OpD.m op_dMul) (pq_draw (ih:=0) fTake.mono GT (hr.mono (by decide)) dT.m dT.F.kp dT.b (pqa_cons (pq_ix nok_NF ix_m (pq_lst (pqa_cons pq_int (pqa_cons pq_int (pqa_cons pq_int pqa_nil)))) (pq_draw (ih:=0) fTake.mono GT (hr.mono (by decide)) dT.m dT.F.kp dT.b (pqa_cons pq_int pqa_nil))) pqa_nil)) (pq_callTy nok_NF (CallD.m call_dInt) B.int bt_int (pqa_cons (pq_cmp nok_NF (OpD.m op_dGt) (pq_var (i:=1)) pq_int) pqa_nil))) pqa_nil)) (pbg_name (i:=5) sc_law_row.nd) (pbs_cons (pb_set (i:=6) (pq_draw (ih:=0) fTake.mono GT (hr.mono (by decide)) dT.m dT.F.kp dT.b (pqa_cons (pq_op nok_NF (OpD.m op_dSub) (pq_var (i:=1)) pq_int) pqa_nil)) sc_law_row.nd)
    (pbs_cons (pb_set (i:=7) (pq_op nok_NL op_dAddN (pq_op nok_NL op_dAddN (pq_var (i:=6)) pq_int) (pq_draw (ih:=0) fTake.mono GT (hr.mono (by decide)) dT.m dT.F.kp dT.b (pqa_cons (pq_callB nok_NF (CallD.m (call_dMin2 rfl)) B.min bt_min (pqa_cons (pq_var (i:=4)) (pqa_cons (pq_op nok_NF (OpD.m op_dSub) (pq_op nok_NF (OpD.m op_dSub) (pq_var (i:=1)) pq_int) (pq_var (i:=6))) pqa_nil))) pqa_nil))) sc_law_row.nd)
    (pbs_one (pb_if (pqt_cmp nok_NF (OpD.m op_dLt) (pq_callB nok_NF (CallD.m call_dLenP) B.len bt_len (pqa_cons (pq_var (i:=2)) pqa_nil)) pq_int) (pbs_one (pb_dadd (i:=2) hr.units1 (pq_tup (pqa_cons (pq_var (i:=6)) (pqa_cons (pq_var (i:=7)) pqa_nil))))) pbs_nil)))))
    (pbs_one (pb_ret (pq_tup (pqa_cons (pq_var (i:=1)) (pqa_cons (pq_callB nok_NL (call_dSortPN rfl) B.sorted bt_sorted (pqa_cons (pq_var (i:=2)) pqa_nil)) pqa_nil)))))))))),fun ds R h=>?_⟩
 obtain ⟨rfl,q⟩:=h
 refine ⟨rfl,trivial,trivial,trivial,sz3,trivial,rfl,trivial,rfl,trivial,3,rfl,by omega,by omega,fun r r0 r1=>pick r0 (by simpa using r1) fun d hd=>?_⟩
 obtain ⟨m,rfl,m0,m1⟩:∃ m:Int,d=.int m∧0 < m∧m≤41:=by
  simp only [List.mem_cons,List.not_mem_nil,or_false] at hd
  rcases hd with rfl | rfl | rfl
  ·exact ⟨9,rfl,by omega,by omega⟩
  ·exact ⟨17,rfl,by omega,by omega⟩
  ·exact ⟨41,rfl,by omega,by omega⟩
 refine ⟨trivial,rfl,trivial,m,rfl,m0,by omega,fun n n0 n1=>⟨trivial,?_⟩⟩
 have add:∀ {ts:List (List Int)} {t:List Int},ts.Nodup→Ties n ts→Tie n t→(addT ts t).Nodup∧Ties n (addT ts t)∧(addT ts t).length≤ts.length+1:=fun {ts t} h1 h2 h3=>by
  unfold addT
  split
  ·exact ⟨h1,h2,by omega⟩
  ·next hn =>
   refine ⟨List.nodup_append.mpr ⟨h1,by simp,fun x hx y hy z=>?_⟩,fun u hu=>?_,by simp⟩
   ·rw [List.mem_singleton.mp hy] at z
    exact hn (by rw [← z]; exact hx)
   ·rcases List.mem_append.mp hu with z | z
    ·exact h2 u z
    ·rw [List.mem_singleton.mp z]; exact h3
 refine ⟨fun β=>∃ (ts:List (List Int)) (x3:Option Q.B),β=[some (.hand okP),some (.val true (.int n)),some (.own (dP ts true)),x3,none,none,none,none]∧ts.Nodup∧Ties n ts∧ts.length≤40,?_,?_⟩
 ·refine ⟨rfl,trivial,rfl,trivial,2,rfl,by omega,by omega,fun r r0 r1=>⟨trivial,_,dEq_int _ _,_,rfl,ifD (fun _=>?_) (fun _=>⟨[],_,rfl,List.nodup_nil,Ties.nil,by simp⟩)⟩⟩
  refine ⟨rfl,_,rfl,trivial,rfl,trivial,n,rfl,n0,by omega,fun us ul ut=>⟨_,rfl,trivial,?_⟩⟩
  refine ⟨fun i β=>∃ (ts:List (List Int)) (x3:Option Q.B),β=[some (.hand okP),some (.val true (.int n)),some (.own (dP ts true)),x3,none,none,none,none]∧ts.Nodup∧Ties n ts∧ts.length≤i,⟨[],_,rfl,List.nodup_nil,Ties.nil,by simp⟩,?_,?_⟩
  ·rintro i d β hd ⟨ts,x3,rfl,h1,h2,h3⟩
   rw [List.getElem?_map] at hd
   obtain ⟨t,et,rfl⟩:=Option.map_eq_some_iff.mp hd
   have hi:i < us.length:=(List.getElem?_eq_some_iff.mp et).1
   obtain ⟨g1,g2,g3⟩:=add h1 h2 (ut t (List.mem_of_getElem? et))
   exact ⟨⟨_,rfl⟩,_,rfl,ts,t,rfl,rfl,by rw [sizeLine_eq]; omega,_,_,rfl,g1,g2,by omega⟩
  ·rintro β ⟨ts,x3,rfl,h1,h2,h3⟩
   rw [List.length_map] at h3
   exact ⟨ts,_,rfl,h1,h2,by omega⟩
 rintro β ⟨ts,x3,rfl,h1,h2,h3⟩
 refine ⟨trivial,trivial,sz2,trivial,rfl,trivial,rfl,trivial,2,rfl,by omega,by omega,fun r r0 r1=>pick r0 (by simpa using r1) fun d hd=>?_⟩
 obtain ⟨rc,rfl,rc0,rc1⟩:∃ m:Int,d=.int m∧0 < m∧m≤41:=by
  simp only [List.mem_cons,List.not_mem_nil,or_false] at hd
  rcases hd with rfl | rfl
  ·exact ⟨4,rfl,by omega,by omega⟩
  ·exact ⟨41,rfl,by omega,by omega⟩
 refine ⟨rfl,trivial,trivial,trivial,sz3,trivial,rfl,trivial,rfl,trivial,3,rfl,by omega,by omega,fun r r0 r1=>pick r0 (by simpa using r1) fun d hd=>?_⟩
 obtain ⟨mm,rfl,mm0,mm1⟩:∃ m:Int,d=.int m∧0 < m∧m≤301:=by
  simp only [List.mem_cons,List.not_mem_nil,or_false] at hd
  rcases hd with rfl | rfl | rfl
  ·exact ⟨9,rfl,by omega,by omega⟩
  ·exact ⟨40,rfl,by omega,by omega⟩
  ·exact ⟨301,rfl,by omega,by omega⟩
 refine ⟨trivial,rfl,trivial,mm,rfl,mm0,by omega,fun c c0 c1=>?_⟩
 have emul:dMul (.int c) (.int (if decide (n > 1)=true then 1 else 0))=some (.int (c * (if decide (n > 1)=true then 1 else 0))):=by
  show (if CMul c _ then some _ else none)=_
  rw [if_pos (show CMul c (if decide (n > 1)=true then 1 else 0) from .inl ⟨by omega,by omega⟩)]
 have hj:0≤c * (if decide (n > 1)=true then 1 else 0)∧c * (if decide (n > 1)=true then 1 else 0)≤300∧(¬ n > 1→c * (if decide (n > 1)=true then 1 else 0)=0):=by
  by_cases hn:n > 1
  ·simp [hn]; omega
  ·simp [hn]
 generalize c * (if decide (n > 1)=true then 1 else 0)=j at emul hj
 refine ⟨trivial,_,rfl,trivial,_,rfl,trivial,_,rfl,_,emul,trivial,j,rfl,by omega,by omega,trivial,?_⟩
 refine ⟨fun i β=>∃ (ts:List (List Int)) (x3 x5 x6 x7:Option Q.B),β=[some (.hand okP),some (.val true (.int n)),some (.own (dP ts true)),x3,some (.val true (.int rc)),x5,x6,x7]∧ts.Nodup∧Ties n ts∧ts.length≤40+i,⟨ts,_,_,_,_,rfl,h1,h2,by omega⟩,?_,?_⟩
 ·rintro i d β hd ⟨ts,x3,x5,x6,x7,rfl,h1,h2,h3⟩
  obtain ⟨hi,rfl⟩:=rngD_get hd
  have hn:n > 1:=Decidable.by_contra fun z=>by have:=hj.2.2 z; omega
  refine ⟨rfl,_,rfl,trivial,_,rfl,trivial,rfl,trivial,_,rfl,by omega,by omega,fun a a0 a1=>?_⟩
  refine ⟨_,rfl,trivial,_,rfl,trivial,rfl,_,rfl,trivial,_,rfl,trivial,_,rfl,trivial,_,rfl,_,rfl,trivial,_,rfl,trivial,rfl,trivial,_,rfl,by split <;> omega,by split <;> omega,fun r r0 r1=>⟨_,rfl,?_⟩⟩
  have hb:a+1+r < n:=by split at r1 <;> omega
  refine ⟨_,rfl,trivial,_,rfl,trivial,_,rfl,_,rfl,ifD (fun _=>?_) (fun _=>⟨ts,_,_,_,_,rfl,h1,h2,by omega⟩)⟩
  obtain ⟨g1,g2,g3⟩:=add h1 h2 (t:=[a,a+1+r]) ⟨_,_,rfl,by omega,by omega,by omega⟩
  exact ⟨⟨_,rfl⟩,_,rfl,trivial,_,rfl,trivial,sz2,ts,[a,a+1+r],rfl,rfl,by rw [sizeLine_eq]; omega,_,_,_,_,_,rfl,g1,g2,by omega⟩
 ·rintro β ⟨ts,x3,x5,x6,x7,rfl,h1,h2,h3⟩
  rw [rngD_len] at h3
  refine ⟨_,rfl,trivial,_,rfl,trivial,_,sort_dP h2.ne (by omega),.inl ⟨flats_kD _,trivial,sz2,trivial,rfl,q n (srt ts) n0 (by omega) (by rw [(srt_perm ts).length_eq]; omega) (srt_ties h2) (srt_srtd ts) ((srt_perm ts).nodup_iff.mpr h1)⟩⟩
end
end K37
end

noncomputable section
set_option Elab.async false
set_option linter.all false
set_option maxRecDepth 100000
namespace L2
open PySem PySem.Spec PySem.SeqAt PyProof.Rows
theorem bt_sum:bootBuiltins "sum" = some (.builtin "sum"):=by decide +kernel
def D.int?:D→Option Int
 | .int i=>some i
 | _=>none
def D.lst?:D→Option (List D)
 | .lst ds=>some ds
 | _=>none
theorem D.int?_eq {d:D} {i:Int} (h:d.int?=some i):d=.int i:=by
 cases d <;> first | (cases h; rfl) | cases h
theorem D.lst?_eq {d:D} {ds:List D} (h:d.lst?=some ds):d=.lst ds:=by
 cases d <;> first | (cases h; rfl) | cases h
def dInts:List D→Option (List Int)
 | []=>some []
 | d::ds=>d.int?.bind fun i=>(dInts ds).map (i::·)
theorem dInts_eq:∀ {ds:List D} {ns:List Int},dInts ds=some ns→ds=ns.map D.int
 | [],_,h=>by cases h; rfl
 | d::ds,ns,h=>by
  obtain ⟨i,h1,h2⟩:=Option.bind_eq_some_iff.mp h
  obtain ⟨ms,h3,rfl⟩:=Option.map_eq_some_iff.mp h2
  rw [D.int?_eq h1,dInts_eq h3]
  rfl
theorem dInts_map:∀ ns:List Int,dInts (ns.map D.int)=some ns
 | []=>rfl
 | n::ns=>by
  show (some n).bind (fun i=>(dInts (ns.map D.int)).map (i::·))=_
  rw [dInts_map ns]
  rfl
def dOfInts (f:List Int→Option Int):List D→Option D
 | [d]=>d.lst?.bind fun ds=>(dInts ds).bind fun ns=>(f ns).map D.int
 | _=>none
theorem dOfInts_eq {f:List Int→Option Int} {ds:List D} {d:D} (h:dOfInts f ds=some d):∃ ns i,ds=[.lst (ns.map D.int)]∧f ns=some i∧d=.int i:=by
 cases ds with
 | nil=>cases h
 | cons x r =>
  cases r with
  | cons _ _=>cases h
  | nil =>
   obtain ⟨es,h1,h2⟩:=Option.bind_eq_some_iff.mp h
   obtain ⟨ns,h3,h4⟩:=Option.bind_eq_some_iff.mp h2
   obtain ⟨i,h5,rfl⟩:=Option.map_eq_some_iff.mp h4
   exact ⟨ns,i,by rw [D.lst?_eq h1,dInts_eq h3],h5,rfl⟩
theorem dOfInts_of {f:List Int→Option Int} {ns:List Int} {i:Int} (h:f ns=some i):dOfInts f [.lst (ns.map D.int)]=some (.int i):=by
 show (some (ns.map D.int)).bind (fun ds=>(dInts ds).bind fun ns=>(f ns).map D.int)=_
 rw [Option.bind_some,dInts_map,Option.bind_some,h]
 rfl
def maxI:List Int→Option Int
 | []=>none
 | n::ns=>some (ns.foldl max n)
def minI:List Int→Option Int
 | []=>none
 | n::ns=>some (ns.foldl min n)
theorem foldl_max_spec:∀ (ns:List Int) (n:Int),(ns.foldl max n ∈ n::ns)∧∀ x ∈ n::ns,x≤ns.foldl max n
 | [],n=>⟨by simp,fun x hx=>by simp at hx; rw [hx]; exact Int.le_refl _⟩
 | m::ns,n=>by
  obtain ⟨h1,h2⟩:=foldl_max_spec ns (max n m)
  have hm:max n m≤ns.foldl max (max n m):=h2 _ (by simp)
  refine ⟨?_,fun x hx=>?_⟩
  ·rw [List.foldl_cons]
   rcases List.mem_cons.mp h1 with h | h
   ·rw [h]
    by_cases q:n≤m
    ·rw [show max n m=m by omega]; simp
    ·rw [show max n m=n by omega]; simp
   ·simp [h]
  ·rw [List.foldl_cons]
   rcases List.mem_cons.mp hx with rfl | hx
   ·omega
   ·rcases List.mem_cons.mp hx with rfl | hx
    ·omega
    ·exact h2 x (by simp [hx])
theorem foldl_min_spec:∀ (ns:List Int) (n:Int),(ns.foldl min n ∈ n::ns)∧∀ x ∈ n::ns,ns.foldl min n≤x
 | [],n=>⟨by simp,fun x hx=>by simp at hx; rw [hx]; exact Int.le_refl _⟩
 | m::ns,n=>by
  obtain ⟨h1,h2⟩:=foldl_min_spec ns (min n m)
  have hm:ns.foldl min (min n m)≤min n m:=h2 _ (by simp)
  refine ⟨?_,fun x hx=>?_⟩
  ·rw [List.foldl_cons]
   rcases List.mem_cons.mp h1 with h | h
   ·rw [h]
    by_cases q:n≤m
    ·rw [show min n m=n by omega]; simp
    ·rw [show min n m=m by omega]; simp
   ·simp [h]
  ·rw [List.foldl_cons]
   rcases List.mem_cons.mp hx with rfl | hx
   ·omega
   ·rcases List.mem_cons.mp hx with rfl | hx
    ·omega
    ·exact h2 x (by simp [hx])
section
variable {X:Cx}
theorem vals_intsA:∀ {ns:List Int} {us:List Value},Vals (ns.map V.int) us→∃ xs:Array (Int × Tok),us.toArray=intItems xs∧xs.toList.map (·.1)=ns
 | [],_,h=>by cases h; exact ⟨#[],by simp [intItems],rfl⟩
 | n::ns,_,h=>by
  cases h with
  | cons h1 h2 =>
   obtain ⟨t,rfl⟩:=h1
   obtain ⟨xs,e1,e2⟩:=vals_intsA h2
   refine ⟨⟨(n,t)::xs.toList⟩,?_,by simp [e2]⟩
   have:=congrArg Array.toList e1
   simp [intItems] at this ⊢
   exact this
theorem numAt_get {xs:Array (Int × Tok)} {ns:List Int} (e:xs.toList.map (·.1)=ns) (i:Nat):numAt xs i=ns.getD i 0:=by
 subst e
 unfold numAt
 rw [List.getD_eq_getElem?_getD,List.getElem?_map,Array.getElem?_toList]
theorem at_ints {xs:Array (Int × Tok)} {ns:List Int} (e:xs.toList.map (·.1)=ns) {i:Nat} {v:Value} (h:(intItems xs)[i]?=some v):RelV (.int (ns.getD i 0)) v:=by
 obtain ⟨t,rfl⟩:=intItems_at h
 exact ⟨t,by rw [numAt_get e]⟩
theorem ints_size {xs:Array (Int × Tok)} {ns:List Int} (e:xs.toList.map (·.1)=ns):xs.size=ns.length:=by rw [← e]; simp
theorem call_dSum (hc:X.calm=true):CallD X (.builtin "sum") (dOfInts fun ns=>some ns.sum):=by
 intro pins s σ H xs us Q I r h
 obtain ⟨W,ds,d,hd,r1,e,q⟩:=h
 obtain ⟨ns,i,rfl,e1,rfl⟩:=dOfInts_eq e
 cases e1
 obtain ⟨x,rfl,p,vs,rfl,h1,n1,q1⟩:=args1 r1
 obtain ⟨u,rfl,ru⟩:=vals1 r
 cases ru
 rw [reps_ints q1] at h1
 obtain ⟨its,r2,ht,hz⟩:=I.list (SqL.of h1)
 obtain ⟨ys,e1,e2⟩:=vals_intsA r2
 refine sum_intListG (I.ok.hd hc) (xs:=ys) (by rw [← e1]; exact ht.isList) fun h' tk t' k=>⟨.int ns.sum,H,I.kept k,⟨t',?_⟩,q _ _ (Same.refl _) rfl⟩
 rw [preSum_eq,List.take_of_length_le (by simp),e2]
theorem call_dMax (hc:X.calm=true):CallD X (.builtin "max") (dOfInts maxI):=by
 intro pins s σ H xs us Q I r h
 obtain ⟨W,ds,d,hd,r1,e,q⟩:=h
 obtain ⟨ns,i,rfl,e1,rfl⟩:=dOfInts_eq e
 obtain ⟨x,rfl,p,vs,rfl,h1,n1,q1⟩:=args1 r1
 obtain ⟨u,rfl,ru⟩:=vals1 r
 cases ru
 rw [reps_ints q1] at h1
 obtain ⟨its,r2,ht,hz⟩:=I.list (SqL.of h1)
 obtain ⟨ys,e1',e2⟩:=vals_intsA r2
 have hs:=ints_size e2
 cases ns with
 | nil=>cases e1
 | cons n ns =>
  rw [List.length_cons] at hs
  refine max_intList (I.ok.hd hc) (xs:=ys) (by rw [← e1']; exact ht.isList) (by omega) fun v h' tk hv k=>⟨.int i,H,I.kept k,?_,q _ _ (Same.refl _) rfl⟩
  have hr:=at_ints e2 hv
  obtain ⟨g1,g2⟩:=argBest_gt (numAt ys) (ys.size - 1)
  generalize argBest (fun i j=>decide (numAt ys i > numAt ys j)) (ys.size - 1)=b at *
  have hb:b < (n::ns).length:=by rw [List.length_cons]; omega
  have:(n::ns).getD b 0=i:=by
   cases e1
   obtain ⟨f1,f2⟩:=foldl_max_spec ns n
   have hle:∀ x ∈ n::ns,x≤(n::ns).getD b 0:=fun x hx=>by
    obtain ⟨j,hj,rfl⟩:=List.getElem_of_mem hx
    have:=g2 j (by rw [List.length_cons] at hj; omega)
    rw [numAt_get e2,numAt_get e2] at this
    rw [List.getD_eq_getElem?_getD,List.getElem?_eq_getElem hj] at this
    exact this
   have hmem:(n::ns).getD b 0 ∈ n::ns:=by
    rw [List.getD_eq_getElem?_getD,List.getElem?_eq_getElem hb]
    exact List.getElem_mem hb
   have:=hle _ f1
   have:=f2 _ hmem
   omega
  rw [← this]
  exact hr
theorem call_dMin (hc:X.calm=true):CallD X (.builtin "min") (dOfInts minI):=by
 intro pins s σ H xs us Q I r h
 obtain ⟨W,ds,d,hd,r1,e,q⟩:=h
 obtain ⟨ns,i,rfl,e1,rfl⟩:=dOfInts_eq e
 obtain ⟨x,rfl,p,vs,rfl,h1,n1,q1⟩:=args1 r1
 obtain ⟨u,rfl,ru⟩:=vals1 r
 cases ru
 rw [reps_ints q1] at h1
 obtain ⟨its,r2,ht,hz⟩:=I.list (SqL.of h1)
 obtain ⟨ys,e1',e2⟩:=vals_intsA r2
 have hs:=ints_size e2
 cases ns with
 | nil=>cases e1
 | cons n ns =>
  rw [List.length_cons] at hs
  refine min_intList (I.ok.hd hc) (xs:=ys) (by rw [← e1']; exact ht.isList) (by omega) fun v h' tk hv k=>⟨.int i,H,I.kept k,?_,q _ _ (Same.refl _) rfl⟩
  have hr:=at_ints e2 hv
  obtain ⟨g1,g2⟩:=argBest_lt (numAt ys) (ys.size - 1)
  generalize argBest (fun i j=>decide (numAt ys i < numAt ys j)) (ys.size - 1)=b at *
  have hb:b < (n::ns).length:=by rw [List.length_cons]; omega
  have:(n::ns).getD b 0=i:=by
   cases e1
   obtain ⟨f1,f2⟩:=foldl_min_spec ns n
   have hle:∀ x ∈ n::ns,(n::ns).getD b 0≤x:=fun x hx=>by
    obtain ⟨j,hj,rfl⟩:=List.getElem_of_mem hx
    have:=g2 j (by rw [List.length_cons] at hj; omega)
    rw [numAt_get e2,numAt_get e2] at this
    rw [List.getD_eq_getElem?_getD (l:=n::ns) (i:=j),List.getElem?_eq_getElem hj] at this
    exact this
   have hmem:(n::ns).getD b 0 ∈ n::ns:=by
    rw [List.getD_eq_getElem?_getD,List.getElem?_eq_getElem hb]
    exact List.getElem_mem hb
   have:=hle _ f1
   have:=f2 _ hmem
   omega
  rw [← this]
  exact hr
end
end L2
end

noncomputable section
set_option Elab.async false
set_option linter.all false
set_option maxRecDepth 100000
namespace L2.Q
open PySem PySem.Spec PySem.SeqAt PyProof.Rows
def dA (kvs:List (List Int × D)):D:=.dT (kvs.map fun p=>iK p.1) (kvs.map (·.2))
def valA (kvs:List (List Int × D)) (t:List Int):Option D:=(kvs.find? fun p=>decide (p.1=t)).map (·.2)
def _root_.L2.D.isDT:D→Option (List (List Key) × List D)
 | .dT ks ds=>some (ks,ds)
 | _=>none
theorem isDT_eq {d:D} {ks:List (List Key)} {ds:List D} (h:d.isDT=some (ks,ds)):d=.dT ks ds:=by
 cases d <;> first | (cases h; rfl) | cases h
def valK (ks:List (List Key)) (ds:List D) (k:List Key):Option D:=((ks.zip ds).find? fun p=>decide (p.1=k)).map (·.2)
theorem isT_eq' {d:D} {es:List D} (h:d.isT=some es):d=.tup es:=by
 cases d <;> first | (cases h; rfl) | cases h
def dKey (a b:D):Option ((List (List Key) × List D) × List Int):=a.isDT.bind fun p=>b.isT.bind fun es=>(dInts es).map fun t=>(p,t)
theorem dKey_eq {a b:D} {ks:List (List Key)} {ds:List D} {t:List Int} (h:dKey a b=some ((ks,ds),t)):a=.dT ks ds∧b=.tup (t.map D.int):=by
 obtain ⟨p,h1,h2⟩:=Option.bind_eq_some_iff.mp h
 obtain ⟨es,h3,h4⟩:=Option.bind_eq_some_iff.mp h2
 obtain ⟨t',h5,h6⟩:=Option.map_eq_some_iff.mp h4
 cases h6
 exact ⟨isDT_eq h1,by rw [isT_eq' h3,dInts_eq h5]⟩
theorem dKey_of {kvs:List (List Int × D)} {t:List Int}:dKey (dA kvs) (.tup (t.map D.int))=some ((kvs.map fun p=>iK p.1,kvs.map (·.2)),t):=by
 show (some _).bind (fun p=>(some (t.map D.int)).bind fun es=>(dInts es).map fun t=>(p,t))=_
 rw [Option.bind_some,Option.bind_some,dInts_map]
 rfl
theorem valK_A {t:List Int}:∀ {kvs:List (List Int × D)},valK (kvs.map fun p=>iK p.1) (kvs.map (·.2)) (iK t)=valA kvs t
 | []=>rfl
 | p::kvs=>by
  have ih:=valK_A (t:=t) (kvs:=kvs)
  unfold valK valA at *
  rw [List.map_cons,List.map_cons,List.zip_cons_cons,List.find?_cons,List.find?_cons]
  by_cases h:p.1=t
  ·rw [decide_eq_true (congrArg iK h),decide_eq_true h]; rfl
  ·rw [decide_eq_false (fun z=>h (iK_inj z)),decide_eq_false h]; exact ih
def dGetT (a b:D):Option D:=(dKey a b).bind fun z=>valK z.1.1 z.1.2 (iK z.2)
theorem dGetT_A {kvs:List (List Int × D)} {t:List Int}:dGetT (dA kvs) (.tup (t.map D.int))=valA kvs t:=by
 unfold dGetT
 rw [dKey_of,Option.bind_some]
 exact valK_A
section
variable {P:Program} {w:World} {W:Addr→Prop} {H:Hp}
theorem reps_at {k:List Key}:∀ {ks:List (List Key)} {ds:List D} {vs:List V},ks.length=vs.length→RepDs P w W H ds vs→(valV (ks.zip vs) k).isSome=(valK ks ds k).isSome∧∀ d,valK ks ds k=some d→∃ v,valV (ks.zip vs) k=some v∧RepD P w W H d v
 | [],ds,vs,_,_=>by
  unfold valV valK
  rw [List.zip_nil_left,List.zip_nil_left]
  exact ⟨rfl,fun d h=>by cases h⟩
 | k'::ks,[],_,l,h=>by rw [show _=([]:List V) from h] at l; cases l
 | k'::ks,d::ds,_,l,⟨v,r,e,h1,h2⟩=>by
  subst e
  obtain ⟨i1,i2⟩:=reps_at (k:=k) (ks:=ks) (Nat.succ.inj l) h2
  unfold valV valK at *
  rw [List.zip_cons_cons,List.zip_cons_cons,List.find?_cons,List.find?_cons]
  by_cases hk:k'=k
  ·rw [decide_eq_true hk]
   exact ⟨rfl,fun d' e=>by cases e; exact ⟨v,rfl,h1⟩⟩
  ·rw [decide_eq_false hk]
   exact ⟨i1,i2⟩
end
section
variable {X:Cx}
theorem key_at {W:Addr→Prop} {H:Hp} {a b:D} {x y:V} {ks:List (List Key)} {ds:List D} {t:List Int} (h:dKey a b=some ((ks,ds),t)) (r1:Rp X W H a x) (r2:Rp X W H b y):∃ p vs,x=.ref p∧DGet H p y (valV (ks.zip vs) (iK t))∧ks.length=vs.length∧RepDs X.prog X.w W H ds vs:=by
 obtain ⟨rfl,rfl⟩:=dKey_eq h
 obtain ⟨p,vs,rfl,e1,l,n,rs⟩:=r1
 obtain ⟨q,us,rfl,e2,rt⟩:=r2
 rw [L2.reps_ints rt] at e2
 exact ⟨p,vs,rfl,DGet.t e1 (by rw [iK_kV]; exact e2),l,rs⟩
theorem ixd_m (hu:X.A.units+1 < cLine):IxR X (rD2M X dGetT NF):=by
 intro value slice pins s σ H x y v u Q I rx ry h hs
 obtain ⟨W,d1,d2,d,hd,r1,r2,e,q⟩:=h
 obtain ⟨⟨⟨ks,ds⟩,t⟩,h1,h2⟩:=Option.bind_eq_some_iff.mp e
 obtain ⟨p,vs,rfl,g,l,rs⟩:=key_at h1 r1 r2
 obtain ⟨w',hw,rw'⟩:=(reps_at l rs).2 d h2
 rw [hw] at g
 cases (show v=Value.ref p from rx)
 exact tail_any (dict_typeIs I g) PySem.F.slot_dict_getitem.lookup (d_getItem hu I g ry fun u' s' I' r'=>⟨w',H,I',r',q w' H (Same.refl _) rw' fun f=>RepD.flat f rw'⟩) hs
end
theorem own_dA {P:Program} {w:World} {H:Hp} {kvs:List (List Int × D)} {a:Addr} {vs:List V} {A:List Addr} (h:H a=some (.dT ((kvs.map fun p=>iK p.1).zip vs))) (o:Owns P w H (kvs.map (·.2)) vs A):Own P w H (dA kvs) (.ref a) (a::A) :=
 ⟨a,vs,A,rfl,h,by rw [List.length_map,o.length,List.length_map],rfl,o⟩
theorem valV_A {P:Program} {w:World} {H:Hp} {kvs:List (List Int × D)} {vs:List V} {A:List Addr} {t:List Int} (o:Owns P w H (kvs.map (·.2)) vs A) (h:valA kvs t=none):valV ((kvs.map fun p=>iK p.1).zip vs) (iK t)=none:=by
 have:=(reps_at (k:=iK t) (ks:=kvs.map fun p=>iK p.1) (W:=fun _=>False) (by rw [List.length_map,o.length,List.length_map]) (o.rep fun c _ z=>z)).1
 rw [valK_A,h] at this
 exact Option.isNone_iff_eq_none.mp (by rw [← Option.not_isSome,this]; rfl)
section
variable {X:Cx} {C:Cfg} {k e:Expr} {φ φk:PhiQ} {i:Nat} {x:Str} {pos pos' px pc:Pos} {p pk:Bool}
theorem pq_dnewA:PQ X C true (.Dict [] [] pos) (fun β R=>R (dA []) .own β) :=
 ⟨fun β R R' k h=>k _ _ _ h,pe_dnewT.pre fun σ H Q h p hp=>by
  obtain ⟨β,own,s,q⟩:=h
  refine q _ _ own ((Out.refl s _).same (Same.new hp)) ⟨[p],own_dA (kvs:=[]) (vs:=[]) upd_same ⟨rfl,rfl⟩,by simp,fun c hc=>?_⟩
  rw [List.mem_singleton.mp hc]
  exact ⟨hp,fun z=>s.dmW p z hp,Decidable.by_contra fun z=>s.dmn p z hp⟩⟩
theorem pb_dput (hu:X.A.units+1 < cLine) (he:∀ U,PQ X (C.u U) p e φ) (hk:∀ U,PQ X (C.u U) pk k φk) (hN:X.N[i]?=some x:=by rfl) (hv:Vis X.env.scope x:=by first | exact .inl rfl | exact .inr (.inl rfl) | exact .inr (.inr rfl)) (hd:(x == ("__debug__" : Str))=false:=by decide) (hcd:(x == ("__classdict__" : Str))=false:=by decide)
  (hs:swapsWith e (some (.Subscript (.Name x px) k pos')) pos.line X.env=pure false:=by rfl) :
  PB X C (.Assign [.Subscript (.Name x px) k pos'] e pos) (fun E β=>φ β fun d kd β1=>kFl kd d∧(∃ kvs,β1[i]?=some (some (.own (dA kvs))))∧φk β1 fun jd _ β2=>∃ kvs t,jd=.tup (t.map D.int)∧β2[i]?=some (some (.own (dA kvs)))∧valA kvs t=none∧kvs.length < sizeLine∧E.nx (β2.set i (some (.own (dA (kvs++[(t,d)])))))):=by
 refine ⟨fun E E' β l q=>(he fun _=>False).mono _ _ _ (fun d kd β1 h=>by obtain ⟨f,h0,q⟩:=h; exact ⟨f,h0,(hk fun _=>False).mono _ _ _ (fun jd _ β2 h=>by obtain ⟨kvs,t,h1,h2,h3,h4,q⟩:=h; exact ⟨kvs,t,h1,h2,h3,h4,l.nx _ q⟩) q⟩) q,fun pins s σ H De I ⟨Z,E,β,⟨own,sq,n⟩,q,ok⟩=>?_⟩
 refine ps_dput hu (pe_var (pos:=px) hN hv hd hcd) (hk fun a=>H a=none).pe (he fun a=>H a=none).pe hs pins s σ H De I ?_
 refine tQ.of (he fun a=>H a=none) (sq.withU (C:=C.z) (U:=fun a=>H a=none) fun a z=>z) q fun d kd β1 v H1 own1 ⟨f,⟨kvs0,hb0⟩,q⟩ o r=>?_
 obtain ⟨v0,hv0,ow0,_⟩:=o.sq.ow i _ hb0
 refine ⟨v0,hv0,tQ.of (hk fun a=>H a=none) o.sq q fun jd kj β2 jv H2 own2 ⟨kvs,t,e1,hb,hn,hl,q⟩ o2 r2=>?_⟩
 subst e1
 obtain ⟨A,r1,rn,r3⟩:=(r.fl f).held (by intro z; cases z) o2.sn
 obtain ⟨v1,hv1,ow,h0⟩:=o2.sq.ow i _ hb
 rw [hv0] at hv1
 cases hv1
 obtain ⟨a,vs,A',rfl,ha,l,eA,os⟩:=ow
 obtain ⟨b,us,rfl,hb1,rt⟩:=r2.rep
 rw [L2.reps_ints rt] at hb1
 have hma:a ∈ own2 i:=by rw [eA]; simp
 have nd:=o2.sq.nod i
 rw [eA] at nd
 have hnew:putK ((kvs.map fun p=>iK p.1).zip vs) (iK t) v=((kvs++[(t,d)]).map fun p=>iK p.1).zip (vs++[v]):=by
  rw [putK_new v (valV_A os hn),List.map_append,List.zip_append l]
  rfl
 refine ⟨a,_,rfl,.inr ⟨_,iK t,b,ha,rfl,by rw [iK_kV]; exact hb1,by rw [List.length_zip,← l,Nat.min_self,List.length_map]; exact hl,rfl⟩,?_⟩
 have kt:∀ c xs,H2 c=some (.tup xs)→upd H2 a (.dT (putK ((kvs.map fun p=>iK p.1).zip vs) (iK t) v)) c=some (.tup xs):=fun c xs z=>by rw [upd_ne (fun z'=>by rw [z',ha] at z; cases z)]; exact z
 have naA:∀ c ∈ A',c≠a:=fun c hc z=>(List.nodup_cons.mp nd).1 (z ▸ hc)
 have nA:∀ c ∈ A,c≠a:=fun c hc z=>(r3 c hc).2.1 ⟨i,by rw [z]; exact hma⟩
 have r':Own X.prog X.w (upd H2 a (.dT (putK ((kvs.map fun p=>iK p.1).zip vs) (iK t) v))) (dA (kvs++[(t,d)])) (.ref a) (a::(A'++A)):=by
  refine own_dA (vs:=vs++[v]) (by rw [upd_same,hnew]) ?_
  rw [List.map_append]
  exact (os.keep kt fun c hc oc z=>by rw [upd_ne (naA c hc)]; exact z).append (Owns.one (r1.keep kt fun c hc oc z=>by rw [upd_ne (nA c hc)]; exact z))
 have ndn:(a::(A'++A)).Nodup:=by
  refine List.nodup_cons.mpr ⟨fun z=>?_,List.nodup_append.mpr ⟨(List.nodup_cons.mp nd).2,rn,fun c hc c' hc' z=>(r3 c' hc').2.1 ⟨i,by rw [eA,← z]; simp [hc]⟩⟩⟩
  rcases List.mem_append.mp z with z | z
  ·exact naA a z rfl
  ·exact nA a z rfl
 have hA:∀ c ∈ a::(A'++A),c ∈ own2 i∨(C.H0 c=none∧¬ Wn own2 c∧(fun a=>H a=none) c):=fun c hc=>by
  rcases List.mem_cons.mp hc with rfl | hc
  ·exact .inl hma
  ·rcases List.mem_append.mp hc with hc | hc
   ·exact .inl (by rw [eA]; simp [hc])
   ·exact .inr ⟨(r3 c hc).2.2,(r3 c hc).2.1,(r3 c hc).1⟩
 exact ok.nx _ _ _ ⟨_,o2.sq.putU (C:=C) (U:=fun a=>H a=none) (U2:=fun _=>False) hb hv0 hma r' ndn hA (fun _ z=>z.elim) (fun _ _ z=>z),sn_put (C:=C) ((n.trans o.sn).trans o2.sn) (fun b z=>n.free z) ⟨i,hma⟩ ⟨_,ha,fun xs z=>by cases z⟩ hA⟩ q
end
end L2.Q
end

noncomputable section
set_option Elab.async false
set_option linter.all false
set_option maxRecDepth 100000
namespace L2
open PySem PySem.Spec PySem.SeqAt PyProof.Rows
def Itn (lo:Int) (n:Nat):It:=⟨fun i _=>i < n,fun i H x H'=>H'=H∧x=.int (lo - i),fun i _=>n≤i⟩
theorem turn_rangeN {P:Program} {w:World} {K:PySem.W.Frag} {tg:Expr} (it:Addr) (lo:Int) (n:Nat):Turn P w K tg (Itn lo n) [it] it (fun i h=>IsRangeIter h it (lo+(i:Nat) * (-1)) ((n:Int) - (i:Nat)) (-1)) where
 mem:=by simp
 obj:=fun i h st b hb=>by
  have e:b=it:=by simpa using hb
  subst e
  exact ⟨_,st,fun v z=>by
   have z':Data.fields _=Data.cell v:=z
   cases z'⟩
 keep:=fun i h h' st k=>k it (by simp) _ st
 item:=by
  intro X hP hw hK hc i pins s σ H E I hf st hg
  subst hP hw hK
  obtain ⟨f0,f1,f2,f3,f4,f5⟩:=hf it (by simp)
  have W:=Walks.range (prog:=X.prog) (w:=X.w) (I.ok.hd hc) it lo (-1) n
  refine W.item i s _ _ hg st fun v h' tk hv st' kk=>?_
  obtain ⟨t,rfl⟩:=hv
  have I1:Inv X pins σ H { s with heap:=h',toks:=tk }:=I.turned (fun b o hb e=>kk b o (by simpa using hb) e) f0 f1 f3 f4 f5
  refine ⟨_,rfl,go_of (s:={ s with heap:=h',toks:=tk }) (n:="range_iterator") st' rfl rfl (by decide) ⟨.int (lo - i),H,I1,⟨t,?_⟩,⟨rfl,rfl⟩,st',fun b hb=>(hf b hb).1⟩⟩
  rw [Int.mul_neg,Int.mul_one]
  rfl
 done:=by
  intro X hP hw hK hc i pins s σ H E I hf st hg
  subst hP hw hK
  obtain ⟨f0,f1,f2,f3,f4,f5⟩:=hf it (by simp)
  exact wpAny_pyNext_range_end (I.ok.hd hc) st (by have:n≤i:=hg; omega) fun h' eb=>⟨rfl,I.turned (t':=s.toks) (fun b o hb e=>eb b o hb e) f0 f1 f3 f4 f5⟩
 self:=fun _ _ _ _ _ st h=>wpAny_pyIter_rangeiter st h
theorem rangeSize_neg (a b:Int):Builtin.Range.rangeSize a b (-1)=if b < a then a - b else 0:=by
 unfold Builtin.Range.rangeSize
 rw [if_neg (by decide)]
 by_cases h:b < a
 ·rw [if_pos h,if_pos h,show -(-1:Int)=1 by decide,Int.ediv_one]; omega
 ·rw [if_neg h,if_neg h]
theorem small_neg {a b:Int} (ha:-(2 ^ 62)≤a) (ha':a < 2 ^ 62) (hb:-(2 ^ 62)≤b) (hb':b < 2 ^ 62):Builtin.Range.small a b (-1)=true:=by
 unfold Builtin.Range.small
 rw [rangeSize_neg]
 simp only [Builtin.Range.rangeFitsLong,Bool.and_eq_true,Bool.or_eq_true,decide_eq_true_eq,beq_iff_eq,show ¬ ((-1:Int) > 0) by decide,if_false]
 split <;> omega
section
variable {X:Cx} {tg:Expr}
theorem range_itN {pins:List (Addr × Obj)} {σ:St} {H:Hp} {s:Shared} {R:It→Hp→Prop} {E:Value→Shared→Prop} {lo hi:Int} {t u v:Tok} {tk:Nat} (I:Inv X pins σ H s) (h1:-(2 ^ 62)≤lo) (h2:lo < 2 ^ 62) (h3:-(2 ^ 62)≤hi) (h4:hi < 2 ^ 62)
  (q:R (Itn lo (lo - hi).toNat) H):wpAny (model X.prog X.w) X.A (pyIter (.ref s.heap.objs.size)) (PIE X pins σ tg R) E { s with heap:=s.heap.push { cls:=.type "range",data:=.fields #[.int lo t,.int hi u,.int (-1) v] },toks:=tk }:=by
 refine wpAny_pyIter_range (IsRange.new ..) (small_neg h1 h2 h3 h4) ?_
 have I1:Inv X pins σ H { s with heap:=s.heap.push { cls:=.type "range",data:=.fields #[.int lo t,.int hi u,.int (-1) v] },toks:=tk }:=I.kept fun b o e=>Heap.get?_push_of_some _ e
 refine ⟨(s.heap.push { cls:=.type "range",data:=.fields #[.int lo t,.int hi u,.int (-1) v] }).objs.size,[(s.heap.push { cls:=.type "range",data:=.fields #[.int lo t,.int hi u,.int (-1) v] }).objs.size],_,_,H,rfl,
  I1.kept (t':=tk) fun b o e=>Heap.get?_push_of_some _ e,turn_rangeN _ lo (lo - hi).toNat,?_,fun b hb=>?_,q⟩
 ·have e1:lo+((0:Nat):Int) * (-1)=lo:=by simp
  have e2:(((lo - hi).toNat:Nat):Int) - ((0:Nat):Int)=Builtin.Range.rangeSize lo hi (-1):=by rw [rangeSize_neg]; split <;> omega
  show IsRangeIter _ _ (lo+((0:Nat):Int) * (-1)) ((((lo - hi).toNat:Nat):Int) - ((0:Nat):Int)) (-1)
  rw [e1,e2]
  exact Heap.get?_push_size _ rfl
 ·have e:b=(s.heap.push { cls:=.type "range",data:=.fields #[.int lo t,.int hi u,.int (-1) v] }).objs.size:=by simpa using hb
  subst e
  exact I1.fpOk (Nat.le_refl _) (I1.hok.fresh (Nat.le_refl _))
def iRngN (ta:TA):TI:=fun σ H R=>ta σ H fun vs H1=>∃ i j:Int,vs=[.int i,.int j,.int (-1)]∧(-(2 ^ 62)≤i∧i < 2 ^ 62∧-(2 ^ 62)≤j∧j < 2 ^ 62)∧R (Itn i (i - j).toNat) H1
theorem pi_rangeN {a b c:Expr} {ta:TA} {p pos:Pos} (hg:Gl X "range") (hm:X.mg "range" = none) (ha:PA X [a,b,c] ta) (hs:starEach [a,b,c] X.env=[(false,eval a X.env),(false,eval b X.env),(false,eval c X.env)]:=by rfl) (hs2:starEach [b,c] X.env=[(false,eval b X.env),(false,eval c X.env)]:=by rfl) :
  PI X tg (.Call (.Name "range" p) [a,b,c] [] pos) (iRngN ta):=by
 intro pins s σ H R I h
 refine Call_ (ld_blt I hg hm boot_range (PyProof.Rows.callWith_type1 (thn (ha pos pins s σ H _ I h) fun us s1 ⟨vs,H1,I1,r1,q1⟩=>?_) (by rw [hs,hs2]) (by rw [hs2]; rfl)))
 obtain ⟨i,j,e,⟨q1,q2,q3,q4⟩,q⟩:=q1
 subst e
 cases r1 with
 | cons r rr =>
  cases rr with
  | cons r' rr =>
   cases rr with
   | cons r'' rr =>
    cases rr
    obtain ⟨t,rfl⟩:=r
    obtain ⟨t',rfl⟩:=r'
    obtain ⟨t'',rfl⟩:=r''
    exact call_range_3 (by decide) (range_itN I1 q1 q2 q3 q4 q) (.inl (PyProof.noPylong_of_log2 (by decide +kernel)))
def rngN (hi:Int) (n:Nat):List D:=(List.range n).map fun (k:Nat)=>D.int (hi - (k:Int))
theorem rngN_get {hi:Int} {n i:Nat} {d:D} (h:(rngN hi n)[i]?=some d):i < n∧d=.int (hi - i):=by
 unfold rngN at h
 rw [List.getElem?_map] at h
 by_cases hi:i < n
 ·rw [List.getElem?_range hi] at h
  cases h
  exact ⟨hi,rfl⟩
 ·rw [List.getElem?_eq_none (by simpa using hi)] at h; cases h
theorem rngN_len {hi:Int} {n:Nat}:(rngN hi n).length=n:=by unfold rngN; simp
theorem itd_rangeN {W:Addr→Prop} {H:Hp} {lo:Int} {n:Nat}:ItD X W (Itn lo n) (rngN lo n) H:=fun _ _ i H' k=>by
 constructor
 ·intro d hd
  obtain ⟨hi,rfl⟩:=rngN_get hd
  refine ⟨hi,fun x H1 y=>?_⟩
  obtain ⟨rfl,rfl⟩:=y
  exact ⟨Same.refl _,rfl⟩
 ·intro hl
  rw [rngN_len] at hl
  exact hl
end
end L2
namespace L2.Q
open PySem PySem.Spec PySem.SeqAt PyProof.Rows
section
variable {X:Cx} {C:Cfg} {tg a b c:Expr} {φs:PhiQS} {p:Bool} {pp pos:Pos}
def iRangeN (φs:PhiQS):PhiQI:=fun β R=>φs β fun ds _ β'=>∃ i j:Int,ds=[.int i,.int j,.int (-1)]∧(-(2 ^ 62)≤i∧i < 2 ^ 62∧-(2 ^ 62)≤j∧j < 2 ^ 62)∧R (rngN i (i - j).toNat) .yng β'
theorem args3 {W:Addr→Prop} {H:Hp} {a b c:D} {xs:List V} (h:Rps X W H [a,b,c] xs):∃ x y z,xs=[x,y,z]∧Rp X W H a x∧Rp X W H b y∧Rp X W H c z:=by
 obtain ⟨x,r,rfl,hx,y,r',rfl,hy,z,r'',rfl,hz,hr⟩:=h
 cases hr
 exact ⟨x,y,z,rfl,hx,hy,hz⟩
theorem pqi_range3 (hm:X.mg "range" = none) (ha:PQA X C p [a,b,c] φs) (hg:Gl X "range" := by rfl) (hs:starEach [a,b,c] X.env=[(false,eval a X.env),(false,eval b X.env),(false,eval c X.env)]:=by rfl) (hs2:starEach [b,c] X.env=[(false,eval b X.env),(false,eval c X.env)]:=by rfl) :
  PQI X C p tg (.Call (.Name "range" pp) [a,b,c] [] pos) (iRangeN φs) :=
 ⟨fun β R R' k q=>ha.mono β _ _ (fun d kd β' h=>by obtain ⟨i,j,e,h1,q⟩:=h; exact ⟨i,j,e,h1,k _ _ _ q⟩) q,(pi_rangeN hg hm ha.pa hs hs2).pre fun σ H R h=>by
  obtain ⟨β,own,s,q⟩:=h
  refine tQS.of ha s q fun ds ks β' vs H1 own1 h o1 r1=>?_
  obtain ⟨i,j,e,h1,q1⟩:=h
  subst e
  obtain ⟨x,y,z,rfl,hx,hy,hz⟩:=args3 r1.reps
  cases hx; cases hy; cases hz
  exact ⟨i,j,rfl,h1,q1 _ _ own1 o1 itd_rangeN⟩⟩
end
end L2.Q
end

noncomputable section
set_option Elab.async false
set_option linter.all false
set_option maxRecDepth 100000
namespace L2.Q
open PySem PySem.Spec PySem.SeqAt PyProof.Rows
structure PQN (X:Cx) (C:Cfg) (tg iter:Expr) (ι:PhiQI):Prop where
 mono:∀ β R R',(∀ d k β,R d k β→R' d k β)→ι β R→ι β R'
 pi:PI X tg iter fun σ H R=>∃ β own,SQ X C σ H β own∧ι β fun ds k β'=>∀ J H',Same H H'→SQ X C σ H' β' own→ItD X (av' C (Wn own) k) J ds H'→R J H'
section
variable {X:Cx} {C:Cfg} {tg a b c:Expr} {φs:PhiQS} {pp pos:Pos} {i:Nat} {x:Str}
theorem pqn_range2 (hm:X.mg "range" = none) (ha:PQA X C true [a,b] φs) (hg:Gl X "range" := by rfl) (hs:starEach [a,b] X.env=[(false,eval a X.env),(false,eval b X.env)]:=by rfl) (hs2:starEach [b] X.env=[(false,eval b X.env)]:=by rfl) :
  PQN X C tg (.Call (.Name "range" pp) [a,b] [] pos) (iRange2 φs) :=
 ⟨fun β R R' k q=>ha.mono β _ _ (fun d kd β' h=>by obtain ⟨i,j,e,h1,q⟩:=h; exact ⟨i,j,e,h1,k _ _ _ q⟩) q,(pi_range2 hg hm ha.pa hs hs2).pre fun σ H R h=>by
  obtain ⟨β,own,s,q⟩:=h
  refine tQS.of ha s q fun ds ks β' vs H1 own1 h o1 r1=>?_
  obtain ⟨i,j,e,h1,q1⟩:=h
  subst e
  obtain ⟨s1,rfl⟩:=o1.pu rfl
  obtain ⟨x,y,rfl,hx,hy⟩:=args2 r1.reps
  cases hx; cases hy
  exact ⟨i,j,rfl,h1,q1 _ _ s1 o1.sq itd_range⟩⟩
end
structure SC (X:Cx) (C:Cfg) (W0:Addr→Prop) (T:List Nat) (σ0:St) (H1:Hp) (a:Addr) (Hb:Hp) (Wb:Addr→Prop) (Ac:Hp→Prop) (β:Bet) (σ':St) (H':Hp) (own:Nat→List Addr):Prop where
 sq:SQ X (C.u fun c=>c=a) σ' H' β own
 sn:Sn (H1,W0) H' (Wn own)
 le:∀ c,Wn own c→Wb c
 ac:Ac H'
 pu:Same H1 H'
 bs:∀ b ob,b≠a→Hb b=some ob→H' b=some ob
 st:∀ j,j ∉ T→σ'[j]?=σ0[j]?
abbrev SCE {α:Type} (X:Cx) (C:Cfg) (W0:Addr→Prop) (T:List Nat) (σ0:St) (H1:Hp) (a:Addr) (Hb:Hp) (Wb:Addr→Prop) (Ac:α→Hp→Prop) (β:Bet) (o:α) (σ':St) (H':Hp):Prop:=∃ own,SC X C W0 T σ0 H1 a Hb Wb (Ac o) β σ' H' own
structure AcOk {α:Type} (a:Addr) (Ac:α→Hp→Prop):Prop where
 same:∀ o H H',Same H H'→Ac o H→Ac o H'
 notup:∀ o H xs,Ac o H→H a≠some (.tup xs)
abbrev tgN (X:Cx) (C:Cfg) (a:Addr) (T:List Nat) (γ:GamQ):TG:=fun v σ H Q=>∃ own β d k,SQ X (C.u fun c=>c=a) σ H β own∧Rp X (av' (C.u fun c=>c=a) (Wn own) k) H d v∧γ d k β fun β'=>∀ σ' own',SQ X (C.u fun c=>c=a) σ' H β' own'→(∀ a,Wn own' a→Wn own a)→(∀ j,j ∉ T→σ'[j]?=σ[j]?)→Q σ' H
abbrev taN (X:Cx) (C:Cfg) (a:Addr) (φ:PhiQ):TAft:=fun N σ H=>tQ X (C.u fun c=>c=a) true φ σ H fun v H1=>∃ xs,H1 a=some (.lst xs)∧xs.length < sizeLine∧N σ (upd H1 a (.lst (xs++[v])))
section
variable {α:Type} {X:Cx} {C:Cfg} {W0:Addr→Prop} {T Tg:List Nat} {σ0:St} {H1:Hp} {a:Addr} {Hb:Hp} {Wb:Addr→Prop} {γ:GamQ} {τ:PhiQB} {φ:PhiQ} {Ac:α→Hp→Prop}
theorem SC.next {o:α} (hA:AcOk a Ac) {β β':Bet} {σ σ':St} {H H':Hp} {own own':Nat→List Addr} (s:SC X C W0 T σ0 H1 a Hb Wb (Ac o) β σ H own) (sq:SQ X (C.u fun c=>c=a) σ' H' β' own') (w:∀ c,Wn own' c→Wn own c) (sm:Same H H') (t:∀ j,j ∉ T→σ'[j]?=σ[j]?) :
  SC X C W0 T σ0 H1 a Hb Wb (Ac o) β' σ' H' own' :=
 ⟨sq,sn_less (s.sn.same sm) w,fun c z=>s.le c (w c z),hA.same o _ _ sm s.ac,s.pu.trans sm,fun b ob n e=>sm _ _ (s.bs b ob n e),fun j hj=>(t j hj).trans (s.st j hj)⟩
theorem SC.put {A:Hp→Prop} {A':Hp→Prop} (h0:C.H0 a=none) (ha:H1 a=none) {β:Bet} {σ:St} {H:Hp} {own:Nat→List Addr} {oa ob:HO} (s:SC X C W0 T σ0 H1 a Hb Wb A β σ H own) (e:H a=some oa) (nt:∀ xs,oa≠.tup xs) (q:A' (upd H a ob)) :
  SC X C W0 T σ0 H1 a Hb Wb A' β σ (upd H a ob) own:=by
 refine ⟨s.sq.setU e nt h0,⟨s.sn.w,s.sn.k.trans ((kp_upd e nt).mono fun b z=>.inr (by rw [z]; exact ha)),fun b z e=>?_⟩,s.le,q,fun b o e=>?_,fun b o n e=>?_,s.st⟩
 ·by_cases hb:b=a
  ·rw [hb,upd_same] at e; cases e
  ·rw [upd_ne hb] at e; exact s.sn.d b z e
 ·rw [upd_ne (fun z'=>by rw [z',ha] at e; cases e)]
  exact s.pu b o e
 ·rw [upd_ne n]
  exact s.bs b o n e
def AcL (P:Program) (w:World) (H1:Hp) (a:Addr) (o:List D) (H:Hp):Prop:=∃ vs A,H a=some (.lst vs)∧Owns P w H o vs A∧A.Nodup∧∀ c ∈ A,H1 c=none∧c≠a
theorem acL_ok {P:Program} {w:World}:AcOk a (AcL P w H1 a):=⟨fun o H H' s h=>by
  obtain ⟨vs,A,h1,h2,h3,h4⟩:=h
  exact ⟨vs,A,s _ _ h1,h2.keep (fun b xs e=>s _ _ e) fun c _ oc e=>s _ _ e,h3,h4⟩,fun o H xs h z=>by
  obtain ⟨vs,A,h1,_⟩:=h
  rw [h1] at z; cases z⟩
def emitQ (φ:PhiQ) (o:List D) (β:Bet) (N:Bet→List D→Prop):Prop:=φ β fun x kx β3=>kFl kx x∧o.length < sizeLine∧N β3 (o++[x])
theorem sc_emit (h0:C.H0 a=none) (ha:H1 a=none) (φm:∀ β R R',(∀ d k β,R d k β→R' d k β)→φ β R→φ β R') {β:Bet} {o:List D} {σ:St} {H:Hp} {N:Bet→List D→Prop} (s:SCE X C W0 T σ0 H1 a Hb Wb (AcL X.prog X.w H1 a) β o σ H) (q:emitQ φ o β N) :
  taN X C a φ (fun σ' H'=>∃ β' o',SCE X C W0 T σ0 H1 a Hb Wb (AcL X.prog X.w H1 a) β' o' σ' H'∧N β' o') σ H:=by
 obtain ⟨own,s⟩:=s
 refine ⟨β,own,s.sq,φm _ _ _ (fun xd kx β6 ⟨f,hz,q⟩ v H6 own6 o6 r6=>?_) q⟩
 obtain ⟨sm,rfl⟩:=o6.pu rfl
 have s6:=s.next acL_ok (o6.sq) (fun _ z=>z) sm (fun _ _=>rfl)
 obtain ⟨B',r1,r2,r3⟩:=r6.fl f
 obtain ⟨vs,A,at',os,nd,nw⟩:=s.ac
 have hav6:H6 a=some (.lst vs):=sm _ _ at'
 have neB:∀ c ∈ B',c≠a:=fun c hc z=>by rw [z] at hc; exact absurd (at'.symm.trans (r3 a hc).1) (fun z=>(nomatch z))
 have kt:∀ b xs,H6 b=some (.tup xs)→upd H6 a (.lst (vs++[v])) b=some (.tup xs):=fun b xs z=>by rw [upd_ne (fun z'=>by rw [z',hav6] at z; cases z)]; exact z
 refine ⟨vs,hav6,by rw [os.length]; exact hz,β6,o++[xd],⟨own6,s6.put h0 ha hav6 (fun xs z=>by cases z) ⟨vs++[v],A++B',upd_same,?_,?_,fun c hc=>?_⟩⟩,q⟩
 ·exact (os.keep (fun b xs e=>kt b xs (sm _ _ e)) fun c hc oc e=>by rw [upd_ne (nw c hc).2]; exact sm _ _ e).append (Owns.one (r1.keep kt fun c hc oc e=>by rw [upd_ne (neB c hc)]; exact e))
 ·refine List.nodup_append.mpr ⟨nd,r2,fun x hx y hy e=>?_⟩
  subst e
  exact (os.dom x hx).1 (r3 x hy).1
 ·rcases List.mem_append.mp hc with hc | hc
  ·exact nw c hc
  ·exact ⟨s.sn.free (r3 c hc).1,neB c hc⟩
def loopN {α:Type} (γ:GamQ) (τ:PhiQB) (Af:α→Bet→(Bet→α→Prop)→Prop) (ds:List D) (k:Kd) (β0:Bet) (o0:α) (F:Bet→α→Prop):Prop:=∃ I:Nat→Bet→α→Prop,I 0 β0 o0 ∧
 (∀ i d β o,ds[i]?=some d→I i β o→γ d (sk k d) β fun β1=>τ β1 fun t β2=>if t=true then Af o β2 (I (i+1)) else I (i+1) β2 o)∧∀ β o,I ds.length β o→F β o
theorem loopN.mono {Af:α→Bet→(Bet→α→Prop)→Prop} {ds:List D} {k:Kd} {β0:Bet} {o0:α} {F F':Bet→α→Prop} (h:∀ β o,F β o→F' β o) (q:loopN γ τ Af ds k β0 o0 F):loopN γ τ Af ds k β0 o0 F':=by
 obtain ⟨I,h0,h1,h2⟩:=q
 exact ⟨I,h0,h1,fun β o z=>h _ _ (h2 β o z)⟩
theorem sc_loop (hA:AcOk a Ac) (hT:∀ j ∈ Tg,j ∈ T) (γm:∀ d k β R R',(∀ r,R r→R' r)→γ d k β R→γ d k β R') (τm:∀ β R R',(∀ d β,R d β→R' d β)→τ β R→τ β R') {J:It} {ds:List D} {k:Kd} {Af:α→Bet→(Bet→α→Prop)→Prop} {ta:TAft} {F:Bet→α→Prop} {End:St→Hp→Prop} {β0:Bet} {o0:α} {σ1:St} {Hs:Hp}
  (it:∀ i β o σ' H',SCE X C W0 T σ0 H1 a Hb Wb Ac β o σ' H'→(∀ d,ds[i]?=some d→J.go i H'∧∀ x H3,J.yld i H' x H3→Same H' H3∧∀ own,(∀ c,Wn own c→Wb c)→RepD X.prog X.w (av' (C.u fun c=>c=a) (Wn own) k) H3 d x)∧(ds.length≤i→J.stop i H'))
  (hta:∀ β o σ' H' N,SCE X C W0 T σ0 H1 a Hb Wb Ac β o σ' H'→Af o β N→ta (fun σ'' H''=>∃ β' o',SCE X C W0 T σ0 H1 a Hb Wb Ac β' o' σ'' H''∧N β' o') σ' H')
  (s0:SCE X C W0 T σ0 H1 a Hb Wb Ac β0 o0 σ1 Hs) (q:loopN γ τ Af ds k β0 o0 F) (fin:∀ β o σ' H',SCE X C W0 T σ0 H1 a Hb Wb Ac β o σ' H'→F β o→End σ' H') :
  tLoop J (tgN X C a Tg γ) (tQB X (C.u fun c=>c=a) true τ) ta End σ1 Hs:=by
 obtain ⟨I,i0,i1,i2⟩:=q
 refine ⟨fun i m σ' H'=>i≤ds.length∧m=ds.length - i∧∃ β o,SCE X C W0 T σ0 H1 a Hb Wb Ac β o σ' H'∧I i β o,⟨_,Nat.zero_le _,rfl,β0,o0,s0,i0⟩,?_⟩
 rintro i m σ2 H2 ⟨hi,rfl,β,o,sE,hl⟩
 obtain ⟨it1,it2⟩:=it i β o σ2 H2 sE
 by_cases hlt:i < ds.length
 ·right
  have hd:ds[i]?=some ds[i]:=List.getElem?_eq_getElem hlt
  obtain ⟨go,yl⟩:=it1 _ hd
  refine ⟨go,fun σ' H'=>∃ β' o',SCE X C W0 T σ0 H1 a Hb Wb Ac β' o' σ' H'∧I (i+1) β' o',fun σ' H' h=>⟨_,by omega,hlt,rfl,h⟩,fun x H3 y=>?_⟩
  obtain ⟨s3,r3⟩:=yl x H3 y
  obtain ⟨own,s⟩:=sE
  refine ⟨own,β,_,_,s.sq.same s3,sk_rep (r3 own s.le),γm _ _ _ _ _ (fun β4 q σ4 own4 s4 w4 t4=>?_) (i1 i _ β o hd hl)⟩
  have sc4:=s.next hA s4 w4 s3 fun j hj=>t4 j fun z=>hj (hT j z)
  refine ⟨β4,own4,s4,τm _ _ _ (fun t β5 q H5 own5 o5=>?_) q⟩
  obtain ⟨sm5,rfl⟩:=o5.pu rfl
  have sc5:=sc4.next hA o5.sq (fun _ z=>z) sm5 fun _ _=>rfl
  cases t with
  | false=>exact ⟨β5,o,⟨_,sc5⟩,q⟩
  | true=>exact hta β5 o σ4 H5 _ ⟨_,sc5⟩ q
 ·left
  have e:i=ds.length:=by omega
  subst e
  exact ⟨it2 (Nat.le_refl _),fin β o σ2 H2 sE (i2 β o hl)⟩
def nestQ {α:Type} (ι:PhiQI) (γ:GamQ) (τ:PhiQB) (Af:α→Bet→(Bet→α→Prop)→Prop) (o:α) (β:Bet) (N:Bet→α→Prop):Prop:=ι β fun ds k β1=>loopN γ τ Af ds k β1 o N
theorem sc_nest (hA:AcOk a Ac) {ι:PhiQI} (hT:∀ j ∈ Tg,j ∈ T) (γm:∀ d k β R R',(∀ r,R r→R' r)→γ d k β R→γ d k β R') (τm:∀ β R R',(∀ d β,R d β→R' d β)→τ β R→τ β R') {Af:α→Bet→(Bet→α→Prop)→Prop} {ta:TAft}
  (hta:∀ Hb Wb β o σ' H' N,SCE X C W0 T σ0 H1 a Hb Wb Ac β o σ' H'→Af o β N→ta (fun σ'' H''=>∃ β' o',SCE X C W0 T σ0 H1 a Hb Wb Ac β' o' σ'' H''∧N β' o') σ' H')
  (ιm:∀ β R R',(∀ d k β,R d k β→R' d k β)→ι β R→ι β R') {β:Bet} {o:α} {σ:St} {H:Hp} {N:Bet→α→Prop} (s:SCE X C W0 T σ0 H1 a Hb Wb Ac β o σ H) (q:nestQ ι γ τ Af o β N) :
  ∃ β own,SQ X (C.u fun c=>c=a) σ H β own∧ι β fun ds k β'=>∀ J H',Same H H'→SQ X (C.u fun c=>c=a) σ H' β' own→ItD X (av' (C.u fun c=>c=a) (Wn own) k) J ds H' →
   tLoop J (tgN X C a Tg γ) (tQB X (C.u fun c=>c=a) true τ) ta (fun σ' H'=>∃ β' o',SCE X C W0 T σ0 H1 a Hb Wb Ac β' o' σ' H'∧N β' o') σ H':=by
 obtain ⟨own,s⟩:=s
 refine ⟨β,own,s.sq,ιm _ _ _ (fun ds k β1 q J H' sm sq itd=>?_) q⟩
 have s1:=s.next hA sq (fun _ z=>z) sm fun _ _=>rfl
 have hu:av' (C.u fun c=>c=a) (Wn own) k a:=.inr rfl
 refine sc_loop (Hb:=H') (Wb:=Wn own) hA hT γm τm (fun i βx ox σx Hx sx=>?_) (fun βx ox σx Hx Nx sx qx=>hta _ _ _ _ _ _ _ sx qx) ⟨own,⟨s1.sq,s1.sn,fun _ z=>z,s1.ac,s1.pu,fun _ _ _ e=>e,s1.st⟩⟩ q fun βx ox σx Hx sx hx=>?_
 ·obtain ⟨ownx,sx⟩:=sx
  have kp:Kp (fun b=>av' (C.u fun c=>c=a) (Wn own) k b∨H' b=none) H' Hx:=⟨fun b ob e n=>sx.bs b ob (fun z=>n (.inl (by rw [z]; exact hu))) e,fun b xs e=>sx.bs b _ (fun z=>hA.notup _ _ _ s1.ac (by rw [← z]; exact e)) e⟩
  obtain ⟨g1,g2⟩:=itd (fun b=>av' (C.u fun c=>c=a) (Wn own) k b∨H' b=none) (fun b z=>z) i Hx kp
  refine ⟨fun d hd=>?_,g2⟩
  obtain ⟨go,yl⟩:=g1 d hd
  refine ⟨go,fun x H3 y=>?_⟩
  obtain ⟨s3,r3⟩:=yl x H3 y
  exact ⟨s3,fun own' le'=>RepD.anti (fun b z=>.inl (avp_mono le' k b z)) r3⟩
 ·obtain ⟨ownx,sx⟩:=sx
  exact ⟨βx,ox,⟨ownx,⟨sx.sq,sx.sn,fun c z=>s.le c (sx.le c z),sx.ac,sx.pu,fun b ob n e=>sx.bs b ob n (s1.bs b ob n e),sx.st⟩⟩,hx⟩
theorem sc_first {lk:List (Option Nat)} {σ:St} {β:Bet} {own:Nat→List Addr} {oa:HO} (hA:AcOk a Ac) {Af:α→Bet→(Bet→α→Prop)→Prop} {ta:TAft} {J:It} {ds:List D} {k:Kd} {o0:α} {K:α→Prop} {End:Hp→Prop}
  (γm:∀ d k β R R',(∀ r,R r→R' r)→γ d k β R→γ d k β R') (τm:∀ β R R',(∀ d β,R d β→R' d β)→τ β R→τ β R') (hTg:∀ j ∈ Tg,j ∈ T)
  (inj:∀ (i i' j:Nat),lk[i]?=some (some j)→lk[i']?=some (some j)→i=i') (hT:∀ i ∈ T,∀ j,lk[i]?≠some (some j))
  (s1:SQ X C σ H1 β own) (ha:H1 a=none) (hk:hold k false) (it:ItD X (av C (Wn own) k) J ds H1) (a0:Ac o0 (upd H1 a oa)) (ent:SQ X (C.u fun c=>c=a) (inSt lk σ) (upd H1 a oa) (inBet lk β) (inOwn lk β own))
  (hta:∀ Hb Wb β' o σ' H' N,C.H0 a=none→SCE X C (Wn (inOwn lk β own)) T (inSt lk σ) H1 a Hb Wb Ac β' o σ' H'→Af o β' N→ta (fun σ'' H''=>∃ β' o',SCE X C (Wn (inOwn lk β own)) T (inSt lk σ) H1 a Hb Wb Ac β' o' σ'' H''∧N β' o') σ' H')
  (q:loopN γ τ Af ds k (inBet lk β) o0 fun βf o=>hndOk (inBet lk β) βf∧K o)
  (fin:∀ o H',K o→Out X C σ H1 own true β H' own→Ac o H'→End H') :
  tLoop J (tgN X C a Tg γ) (tQB X (C.u fun c=>c=a) true τ) ta (fun _ H'=>End H') (inSt lk σ) (upd H1 a oa):=by
 have h0:C.H0 a=none:=Decidable.by_contra fun z=>s1.dmn a z ha
 have sm:Same H1 (upd H1 a oa):=Same.new ha
 refine sc_loop (W0:=Wn (inOwn lk β own)) (T:=T) (σ0:=inSt lk σ) (H1:=H1) (Hb:=H1) (Wb:=Wn (inOwn lk β own)) hA hTg γm τm (fun i βx ox σx Hx sx=>?_) (fun βx ox σx Hx Nx sx qx=>hta _ _ _ _ _ _ _ h0 sx qx)
  ⟨inOwn lk β own,⟨ent,⟨fun b z=>.inl z,sm.kp,fun b z e=>z (sm.free e)⟩,fun _ z=>z,a0,sm,fun b ob n e=>sm _ _ e,fun _ _=>rfl⟩⟩ q fun βx ox σx Hx sx hx=>?_
 ·obtain ⟨ownx,sx⟩:=sx
  have kI:Kp (fun b=>av C (Wn own) k b∨H1 b=none) H1 Hx:=sx.pu.kp
  obtain ⟨g1,g2⟩:=it (fun b=>av C (Wn own) k b∨H1 b=none) (fun b z=>z) i Hx kI
  refine ⟨fun d hd=>?_,g2⟩
  obtain ⟨go,yl⟩:=g1 d hd
  refine ⟨go,fun x H3 y=>?_⟩
  obtain ⟨s3,r3⟩:=yl x H3 y
  exact ⟨s3,fun own' le'=>RepD.anti (fun c z=>z.elim (fun z=>.inl (av_mono (fun c z=>inOwn_le c (le' c z)) k c z)) fun z=>.inr (by rw [z]; exact ha)) r3⟩
 ·obtain ⟨ownx,sx⟩:=sx
  obtain ⟨hh,hK⟩:=hx
  have lv:SQ X C σ Hx β own:=s1.leave sx.sq sx.sn sx.le hh fun j ok i' e1 e2=>sx.st i' fun z=>hT i' z j e2
  exact fin ox Hx hK ⟨lv,⟨fun b z=>.inl z,sx.sn.k.mono fun b z=>z.imp (inOwn_le b) id,sx.sn.d⟩,fun z=>⟨sx.pu,rfl⟩,fun _ z=>z⟩ sx.ac
end
theorem acL_kv {X:Cx} {C:Cfg} {σ:St} {H1 H':Hp} {β:Bet} {own:Nat→List Addr} {a:Addr} {o:List D} (s1:SQ X C σ H1 β own) (ha:H1 a=none) (h:AcL X.prog X.w H1 a o H'):KV X.prog X.w C (H1,Wn own) own H' .own (.lst o) (.ref a):=by
 obtain ⟨vs,A,at',os,nd,nw⟩:=h
 refine ⟨a::A,⟨a,vs,A,rfl,at',rfl,os⟩,List.nodup_cons.mpr ⟨fun z=>(nw a z).2 rfl,nd⟩,fun c hc=>?_⟩
 have hc1:H1 c=none:=by
  rcases List.mem_cons.mp hc with rfl | hc
  ·exact ha
  ·exact (nw c hc).1
 exact ⟨hc1,fun h=>by obtain ⟨j,hj⟩:=h; exact (s1.dm j c hj).1 hc1,Decidable.by_contra fun z=>s1.dmn c z hc1⟩
def qComp2 (lk:List (Option Nat)) (ι:PhiQI) (γ:GamQ) (τ:PhiQB) (ι2:PhiQI) (γ2:GamQ) (τ2:PhiQB) (φ:PhiQ):PhiQ:=fun β R=>ι β fun ds k β1=>hold k false∧loopN γ τ (nestQ ι2 γ2 τ2 (emitQ φ)) ds k (inBet lk β1) [] fun βf o=>hndOk (inBet lk β1) βf∧R (.lst o) .own β1
section
variable {X:Cx} {C:Cfg} {lk:List (Option Nat)} {γ γ2:GamQ} {τ τ2:PhiQB} {φ:PhiQ} {T T2:List Nat}
variable {scope:Scope} {tg it1 tg2 it2 elt:Expr} {ifs ifs2:List Expr} {ι ι2:PhiQI} {pi:Bool} {pos pos' spos:Pos} {y:Str} {i:Nat}
theorem lcB (N':List Str) (lk:List (Option Nat)) (L:linksB X.env.scope.names X.N scope N' lk=true) (hN':N'.Nodup) (hc:X.calm=true) (hi:PQI X C pi tg it1 ι)
  (htg:∀ a cl c s H ex,PBG (compCx X scope N' cl c s H ex) (C.u fun c=>c=a) tg T γ) (hts:∀ a cl c s H ex,PQTs (compCx X scope N' cl c s H ex) (C.u fun c=>c=a) true ifs τ)
  (hi2:∀ a cl c s H ex,PQN (compCx X scope N' cl c s H ex) (C.u fun c=>c=a) tg2 it2 ι2)
  (htg2:∀ a cl c s H ex,PBG (compCx X scope N' cl c s H ex) (C.u fun c=>c=a) tg2 T2 γ2) (hts2:∀ a cl c s H ex,PQTs (compCx X scope N' cl c s H ex) (C.u fun c=>c=a) true ifs2 τ2)
  (hel:∀ a cl c s H ex,PQ (compCx X scope N' cl c s H ex) (C.u fun c=>c=a) true elt φ) (hT:(T++T2).all (fun i=>match lk[i]? with | some (some _)=>false | _=>true)=true:=by rfl)
  (hs:∀ x,foldedSetIterable it1 X.env x=pure x:=by intro _; rfl) (hs2:∀ cl c s H ex x,foldedSetIterable it2 (compCx X scope N' cl c s H ex).env x=pure x:=by intro _ _ _ _ _ _; rfl):PQ X C pi (.ListComp elt [⟨tg,it1,ifs,0⟩,⟨tg2,it2,ifs2,0⟩] scope pos) (qComp2 lk ι γ τ ι2 γ2 τ2 φ):=by
 have L:=Links.of L
 have hT':∀ i ∈ T++T2,∀ j,lk[i]?≠some (some j):=fun i hi j e=>by
  have:=List.all_eq_true.mp hT i hi
  rw [e] at this
  cases this
 have ax:Addr:=0
 have cl0:List (Str × Addr):=[]
 have γm:=(htg 0 [] 0 X.s₀ X.H₀ []).mono
 have τm:=(hts 0 [] 0 X.s₀ X.H₀ []).mono
 have γm2:=(htg2 0 [] 0 X.s₀ X.H₀ []).mono
 have τm2:=(hts2 0 [] 0 X.s₀ X.H₀ []).mono
 have φm:=(hel 0 [] 0 X.s₀ X.H₀ []).mono
 have ιm:=(hi2 0 [] 0 X.s₀ X.H₀ []).mono
 refine ⟨fun β R R' k h=>hi.mono β _ _ (fun ds kd β1 q=>⟨q.1,q.2.mono fun _ _ z=>⟨z.1,k _ _ _ z.2⟩⟩) h,?_⟩
 refine (pe_comp2 (g:=⟨tg,it1,ifs,0⟩) (gs:=[⟨tg2,it2,ifs2,0⟩]) (tg:=fun a=>tgN X C a T γ) (tt:=fun a=>tQB X (C.u fun c=>c=a) true τ)
  (ta:=fun a N σ H=>∃ β own,SQ X (C.u fun c=>c=a) σ H β own∧ι2 β fun ds k β'=>∀ J H',Same H H'→SQ X (C.u fun c=>c=a) σ H' β' own→ItD X (av' (C.u fun c=>c=a) (Wn own) k) J ds H' →
   tLoop J (tgN X C a T2 γ2) (tQB X (C.u fun c=>c=a) true τ2) (taN X C a φ) N σ H')
  L hc new_list rfl rfl (fun _ _=>cf_l20) hi.pi (fun a cl c s H ex=>⟨(htg a cl c s H ex).pg,(hts a cl c s H ex).pt,pa_nest (X:=compCx X scope N' cl c s H ex) (g':=⟨tg2,it2,ifs2,0⟩) rfl hc cf_l21 (hi2 a cl c s H ex).pi (htg2 a cl c s H ex).pg (hts2 a cl c s H ex).pt (pa_emitL (X:=compCx X scope N' cl c s H ex) rfl (hel a cl c s H ex).pe) (hs2 cl c s H ex)⟩) hs).pre fun σ H Q h=>?_
 obtain ⟨β,own,s,h⟩:=h
 refine ⟨β,own,s,hi.mono β _ _ (fun ds k β1 h J H1 own1 o1 it a ha=>?_) h⟩
 obtain ⟨hk,q⟩:=h
 refine sc_first (T:=T++T2) (acL_ok (P:=X.prog) (w:=X.w) (H1:=H1)) γm τm (fun j hj=>List.mem_append_left _ hj) (links_inj L hN') hT' o1.sq ha hk it ⟨[],[],upd_same,(show Owns _ _ _ [] [] [] from ⟨rfl,rfl⟩),List.nodup_nil,fun c hc=>(nomatch hc)⟩ (o1.sq.enter ha (links_inj L hN'))
  (fun Hb Wb βx ox σx Hx Nx h0 sx qx=>sc_nest acL_ok (fun j hj=>List.mem_append_right _ hj) γm2 τm2 (fun Hb Wb βy oy σy Hy Ny sy qy=>sc_emit h0 ha φm sy qy) ιm sx qx) q fun o H' q o2 r=>?_
 refine q _ _ own1 ⟨o2.sq,o1.sn.trans o2.sn,fun z=>⟨(o1.pu z).1.trans (o2.pu rfl).1,(o1.pu z).2⟩,o1.le⟩ ((acL_kv o1.sq ha r).later o1.sn)
end
end L2.Q
end

noncomputable section
set_option Elab.async false
set_option linter.all false
set_option maxRecDepth 100000
namespace L2
open PySem PySem.Spec PySem.SeqAt PyProof.Rows
section
variable {X:Cx}
theorem new_dictT:NewAcc X newDict (.dT []) :=
 ⟨fun pins s σ H Q E I h=>wpAny_newObj_type (h _ _ (Nat.le_refl _) I.fresh (fun b o e=>Heap.get?_push_of_some _ e) (I.laid (t':=s.toks) (fun _ _ q=>Heap.get?_push_of_some _ q) (Nat.le_refl _) (dt_empty _ I.big)))⟩
theorem pa_emitD {k v:Expr} {tk tv:TE} {a:Addr} (hx:X.xe=fun _ _=>False) (hu:X.A.units < cLine) (hk:PE X k tk) (hv:PE X v tv) :
  PAft X (thenK (emitD k v (.ref a) X.env)) (fun N σ H=>tk σ H fun y H1=>tv σ H1 fun v H2=>∃ kvs key b,H2 a=some (.dT kvs)∧y=.ref b∧H2 b=some (.tup (key.map kV))∧kvs.length < sizeLine∧N σ (upd H2 a (.dT (putK kvs key v)))):=by
 intro pins s σ H N kk Q E I h hN
 unfold thenK emitD
 refine wpAny_bind (wpAny_bind (thn (nox_any hx (hk pins s σ H _ I h)) fun u s1 ⟨y,H1,I1,r1,q⟩=>?_))
 refine wpAny_bind (wpAny_holding (thn (nox_any hx (hv pins s1 σ H1 _ I1 q)) fun w' s2 ⟨v,H2,I2,r2,kvs,key,b,e,ey,eb,l,q2⟩=>?_))
 subst ey
 cases (show u=Value.ref b from r1)
 refine wpAny_bind (wpAny_standAt (wpAny_holding ?_))
 obtain ⟨z,hd,xs,rel,dd⟩:=dt_of I2.hok e
 have hz:xs.length≤sizeLine:=by rw [← Paired.length rel]; exact z
 have hl:(putK kvs key v).length≤sizeLine:=by have:=length_putK kvs key v; omega
 refine wpAny_dictSet_heap (hsz:=hz) (knd:=tupleKind (mixKind X.prog X.w)) hu (key_of I2.hok eb) dd fun h' dd' hs=>hN σ _ _ ?_ q2
 obtain ⟨q,es,ep,hq,h2,h3,h4,_,h5⟩:=dd'
 refine d_write I2 (by rw [e]; exact True.intro) hs ⟨q,hq⟩ ⟨hl,hd,_,(rel.put key eb r2).keeps fun c ys ec=>?_,q,es,ep,hq,h2,h3,h4,h5⟩
 rw [upd_ne (ne_of ec e (fun z=>nomatch z))]
 exact ec
end
end L2
namespace L2.Q
open PySem PySem.Spec PySem.SeqAt PyProof.Rows
def AcD (P:Program) (w:World) (a:Addr) (o:List (List Int × D)) (H:Hp):Prop:=∃ vs,H a=some (.dT ((o.map fun p=>iK p.1).zip vs))∧Owns P w H (o.map (·.2)) vs []
theorem acD_ok {P:Program} {w:World} {a:Addr}:AcOk a (AcD P w a):=⟨fun o H H' s h=>by
  obtain ⟨vs,h1,h2⟩:=h
  exact ⟨vs,s _ _ h1,h2.keep (fun b xs e=>s _ _ e) fun c hc=>(nomatch hc)⟩,fun o H xs h z=>by
  obtain ⟨vs,h1,_⟩:=h
  rw [h1] at z; cases z⟩
abbrev taD (X:Cx) (C:Cfg) (a:Addr) (φk φ:PhiQ):TAft:=fun N σ H=>tQ X (C.u fun c=>c=a) true φk σ H fun y H1=>tQ X (C.u fun c=>c=a) true φ σ H1 fun v H2=>∃ kvs key b,H2 a=some (.dT kvs)∧y=.ref b∧H2 b=some (.tup (key.map kV))∧kvs.length < sizeLine∧N σ (upd H2 a (.dT (putK kvs key v)))
def emitDQ (φk φ:PhiQ) (o:List (List Int × D)) (β:Bet) (N:Bet→List (List Int × D)→Prop):Prop:=φk β fun kd _ β2=>φ β2 fun x _ β3=>∃ t,kd=.tup (t.map D.int)∧x.flat=true∧valA o t=none∧o.length < sizeLine∧N β3 (o++[(t,x)])
section
variable {X:Cx} {C:Cfg} {W0:Addr→Prop} {T:List Nat} {σ0:St} {H1:Hp} {a:Addr} {Hb:Hp} {Wb:Addr→Prop} {φ φk:PhiQ}
theorem sc_emitD (h0:C.H0 a=none) (ha:H1 a=none) (φkm:∀ β R R',(∀ d k β,R d k β→R' d k β)→φk β R→φk β R') (φm:∀ β R R',(∀ d k β,R d k β→R' d k β)→φ β R→φ β R') {β:Bet} {o:List (List Int × D)} {σ:St} {H:Hp} {N:Bet→List (List Int × D)→Prop} (s:SCE X C W0 T σ0 H1 a Hb Wb (AcD X.prog X.w a) β o σ H) (q:emitDQ φk φ o β N) :
  taD X C a φk φ (fun σ' H'=>∃ β' o',SCE X C W0 T σ0 H1 a Hb Wb (AcD X.prog X.w a) β' o' σ' H'∧N β' o') σ H:=by
 obtain ⟨own,s⟩:=s
 refine ⟨β,own,s.sq,φkm _ _ _ (fun kd kk β5 q v5 H5 own5 o5 r5=>?_) q⟩
 obtain ⟨sm5,rfl⟩:=o5.pu rfl
 refine ⟨β5,_,o5.sq,φm _ _ _ (fun xd kx β6 ⟨t,e1,f,hn,hz,q2⟩ v H6 own6 o6 r6=>?_) q⟩
 obtain ⟨sm,rfl⟩:=o6.pu rfl
 have s6:=s.next acD_ok o6.sq (fun _ z=>z) (sm5.trans sm) (fun _ _=>rfl)
 subst e1
 obtain ⟨b,us,rfl,hb,rt⟩:=r5.rep
 rw [L2.reps_ints rt] at hb
 obtain ⟨vs,at',os⟩:=s6.ac
 have r6':Own X.prog X.w H6 xd v []:=own_flat f r6.rep
 have l:(o.map fun p=>iK p.1).length=vs.length:=by rw [List.length_map,os.length,List.length_map]
 have hnew:putK ((o.map fun p=>iK p.1).zip vs) (iK t) v=((o++[(t,xd)]).map fun p=>iK p.1).zip (vs++[v]):=by
  rw [putK_new v (valV_A os hn),List.map_append,List.zip_append l]
  rfl
 have kt:∀ c xs,H6 c=some (.tup xs)→upd H6 a (.dT (putK ((o.map fun p=>iK p.1).zip vs) (iK t) v)) c=some (.tup xs):=fun c xs z=>by rw [upd_ne (fun z'=>by rw [z',at'] at z; cases z)]; exact z
 refine ⟨_,iK t,b,at',rfl,by rw [iK_kV]; exact sm _ _ hb,by rw [List.length_zip,← l,Nat.min_self,List.length_map]; exact hz,β6,o++[(t,xd)],⟨_,s6.put h0 ha at' (fun xs z=>by cases z) ⟨vs++[v],by rw [upd_same,hnew],?_⟩⟩,q2⟩
 rw [List.map_append]
 exact (os.keep kt (A:=[]) fun c hc=>by cases hc).append (Owns.one (r6'.keep kt (A:=[]) fun c hc=>by cases hc))
end
def qCompD (lk:List (Option Nat)) (ι:PhiQI) (γ:GamQ) (τ:PhiQB) (φk φ:PhiQ):PhiQ:=fun β R=>ι β fun ds k β1=>hold k false∧loopN γ τ (emitDQ φk φ) ds k (inBet lk β1) [] fun βf o=>hndOk (inBet lk β1) βf∧R (dA o) .own β1
section
variable {X:Cx} {C:Cfg} {lk:List (Option Nat)} {γ:GamQ} {τ:PhiQB} {φ φk:PhiQ} {T:List Nat}
variable {scope:Scope} {tg it1 ke elt:Expr} {ifs:List Expr} {ι:PhiQI} {pi:Bool} {pos pos' spos:Pos} {y:Str} {i:Nat}
theorem dcA (hu:X.A.units < cLine) (N':List Str) (lk:List (Option Nat)) (L:linksB X.env.scope.names X.N scope N' lk=true) (hN':N'.Nodup) (hc:X.calm=true) (hi:PQI X C pi tg it1 ι)
  (htg:∀ a cl c s H ex,PBG (compCx X scope N' cl c s H ex) (C.u fun c=>c=a) tg T γ) (hts:∀ a cl c s H ex,PQTs (compCx X scope N' cl c s H ex) (C.u fun c=>c=a) true ifs τ)
  (hke:∀ a cl c s H ex,PQ (compCx X scope N' cl c s H ex) (C.u fun c=>c=a) true ke φk) (hel:∀ a cl c s H ex,PQ (compCx X scope N' cl c s H ex) (C.u fun c=>c=a) true elt φ) (hT:T.all (fun i=>match lk[i]? with | some (some _)=>false | _=>true)=true:=by rfl)
  (hs:∀ x,foldedSetIterable it1 X.env x=pure x:=by intro _; rfl):PQ X C pi (.DictComp ke elt [⟨tg,it1,ifs,0⟩] scope pos) (qCompD lk ι γ τ φk φ):=by
 have L:=Links.of L
 have hT':∀ i ∈ T,∀ j,lk[i]?≠some (some j):=fun i hi j e=>by
  have:=List.all_eq_true.mp hT i hi
  rw [e] at this
  cases this
 have γm:=(htg 0 [] 0 X.s₀ X.H₀ []).mono
 have τm:=(hts 0 [] 0 X.s₀ X.H₀ []).mono
 have φm:=(hel 0 [] 0 X.s₀ X.H₀ []).mono
 have φkm:=(hke 0 [] 0 X.s₀ X.H₀ []).mono
 refine ⟨fun β R R' k h=>hi.mono β _ _ (fun ds kd β1 q=>⟨q.1,q.2.mono fun _ _ z=>⟨z.1,k _ _ _ z.2⟩⟩) h,?_⟩
 refine (pe_comp2 (g:=⟨tg,it1,ifs,0⟩) (gs:=[]) (tg:=fun a=>tgN X C a T γ) (tt:=fun a=>tQB X (C.u fun c=>c=a) true τ) (ta:=fun a=>taD X C a φk φ)
  L hc new_dictT rfl rfl (fun _ _=>cf_d1) hi.pi (fun a cl c s H ex=>⟨(htg a cl c s H ex).pg,(hts a cl c s H ex).pt,pa_emitD (X:=compCx X scope N' cl c s H ex) rfl hu (hke a cl c s H ex).pe (hel a cl c s H ex).pe⟩) hs).pre fun σ H Q h=>?_
 obtain ⟨β,own,s,h⟩:=h
 refine ⟨β,own,s,hi.mono β _ _ (fun ds k β1 h J H1 own1 o1 it a ha=>?_) h⟩
 obtain ⟨hk,q⟩:=h
 refine sc_first (T:=T) (acD_ok (P:=X.prog) (w:=X.w)) γm τm (fun j hj=>hj) (links_inj L hN') hT' o1.sq ha hk it ⟨[],upd_same,(show Owns _ _ _ [] [] [] from ⟨rfl,rfl⟩)⟩ (o1.sq.enterS (fun xs z=>by cases z) ha (links_inj L hN'))
  (fun Hb Wb βx ox σx Hx Nx h0 sx qx=>sc_emitD h0 ha φkm φm sx qx) q fun o H' q o2 r=>?_
 refine q _ _ own1 ⟨o2.sq,o1.sn.trans o2.sn,fun z=>⟨(o1.pu z).1.trans (o2.pu rfl).1,(o1.pu z).2⟩,o1.le⟩ ?_
 obtain ⟨vs,at',os⟩:=r
 refine ⟨[a],own_dA at' os,by simp,fun c hc=>?_⟩
 rw [List.mem_singleton.mp hc]
 exact ⟨Decidable.by_contra fun z=>o1.sn.d a z ha,fun h=>by obtain ⟨j,hj⟩:=h; exact (o1.sq.dm j a hj).1 ha,Decidable.by_contra fun z=>o1.sq.dmn a z ha⟩
end
end L2.Q
end

noncomputable section
set_option Elab.async false
set_option linter.all false
namespace Mx
structure Sr (α:Type) where
 zero:α
 one:α
 add:α→α→α
 mul:α→α→α
structure Sr.Ok {α:Type} (S:Sr α):Prop where
 ac:∀ a b,S.add a b=S.add b a
 aa:∀ a b c,S.add (S.add a b) c=S.add a (S.add b c)
 za:∀ a,S.add S.zero a=a
 mc:∀ a b,S.mul a b=S.mul b a
 ma:∀ a b c,S.mul (S.mul a b) c=S.mul a (S.mul b c)
 om:∀ a,S.mul S.one a=a
 zm:∀ a,S.mul S.zero a=S.zero
 di:∀ a b c,S.mul a (S.add b c)=S.add (S.mul a b) (S.mul a c)
section
variable {α:Type} (S:Sr α)
def sumR (n:Nat) (f:Nat→α):α:=match n with
 | 0=>S.zero
 | n+1=>S.add (sumR n f) (f n)
def F (u:α) (w:Nat→Nat→α):Nat→Nat→Nat→α
 | 0,_,_=>S.one
 | _+1,0,_=>S.one
 | n+1,len+1,i=>S.add (S.mul u (F u w n len (i+1))) (sumR S len fun r=>S.mul (w i (i+1+r)) (S.mul (F u w n r (i+1)) (F u w n (len - 1 - r) (i+r+2))))
def G (u:α) (w:Nat→Nat→α):Nat→Nat→Nat→α
 | 0,_,_=>S.one
 | _+1,0,_=>S.one
 | n+1,len+1,i=>S.add (S.mul u (G u w n len i)) (sumR S len fun r=>S.mul (w (i+r) (i+len)) (S.mul (G u w n r i) (G u w n (len - 1 - r) (i+r+1))))
end
section
variable {α:Type} {S:Sr α}
theorem sumR_congr {f g:Nat→α}:∀ {n:Nat},(∀ r,r < n→f r=g r)→sumR S n f=sumR S n g
 | 0,_=>rfl
 | n+1,h=>by
  unfold sumR
  rw [sumR_congr fun r hr=>h r (Nat.lt_succ_of_lt hr),h n (Nat.lt_succ_self n)]
variable (O:S.Ok)
include O
theorem Sr.Ok.a4 (a b c d:α):S.add (S.add a b) (S.add c d)=S.add (S.add a c) (S.add b d):=by
 rw [O.aa,O.aa,← O.aa b c d,O.ac b c,O.aa c b d]
theorem Sr.Ok.az (a:α):S.add a S.zero=a:=by rw [O.ac,O.za]
theorem Sr.Ok.mz (a:α):S.mul a S.zero=S.zero:=by rw [O.mc,O.zm]
theorem Sr.Ok.mo (a:α):S.mul a S.one=a:=by rw [O.mc,O.om]
theorem Sr.Ok.mlc (a b c:α):S.mul a (S.mul b c)=S.mul b (S.mul a c):=by rw [← O.ma,O.mc a b,O.ma]
theorem sumR_add {f g:Nat→α}:∀ {n:Nat},sumR S n (fun r=>S.add (f r) (g r))=S.add (sumR S n f) (sumR S n g)
 | 0=>(O.za _).symm
 | n+1=>by unfold sumR; rw [sumR_add,O.a4]
theorem sumR_mul {f:Nat→α} {a:α}:∀ {n:Nat},sumR S n (fun r=>S.mul a (f r))=S.mul a (sumR S n f)
 | 0=>(O.mz _).symm
 | n+1=>by unfold sumR; rw [sumR_mul,O.di]
theorem sumR_front {f:Nat→α}:∀ {n:Nat},sumR S (n+1) f=S.add (f 0) (sumR S n fun r=>f (r+1))
 | 0=>by show S.add S.zero (f 0)=S.add (f 0) S.zero; rw [O.ac]
 | n+1=>by
  show S.add (sumR S (n+1) f) (f (n+1))=S.add (f 0) (S.add (sumR S n fun r=>f (r+1)) (f (n+1)))
  rw [sumR_front,O.aa]
theorem sumR_tri {A:Nat→Nat→α}:∀ {m:Nat},sumR S m (fun r=>sumR S (m - 1 - r) fun s=>A r (r+1+s))=sumR S m fun t=>sumR S t fun q=>A q t
 | 0=>rfl
 | m+1=>by
  show S.add (sumR S m fun r=>sumR S (m+1 - 1 - r) fun s=>A r (r+1+s)) (sumR S (m+1 - 1 - m) fun s=>A m (m+1+s))=S.add (sumR S m fun t=>sumR S t fun q=>A q t) (sumR S m fun q=>A q m)
  rw [show m+1 - 1 - m=0 by omega,← sumR_tri (m:=m),show sumR S 0 (fun s=>A m (m+1+s))=S.zero from rfl,O.az,← sumR_add O]
  refine sumR_congr fun r hr=>?_
  rw [show m+1 - 1 - r=(m - 1 - r)+1 by omega]
  show S.add _ (A r (r+1+(m - 1 - r)))=_
  rw [show r+1+(m - 1 - r)=m by omega]
omit O in
theorem F_fuel {u:α} {w:Nat→Nat→α}:∀ {n m len i:Nat},len≤n→len≤m→F S u w n len i=F S u w m len i
 | 0,0,_,_,_,_=>rfl
 | 0,m+1,0,_,_,_=>rfl
 | 0,m+1,len+1,_,h,_=>by omega
 | n+1,0,0,_,_,_=>rfl
 | n+1,0,len+1,_,_,h=>by omega
 | n+1,m+1,0,_,_,_=>rfl
 | n+1,m+1,len+1,i,h1,h2=>by
  unfold F
  rw [F_fuel (n:=n) (m:=m) (by omega) (by omega)]
  congr 1
  refine sumR_congr fun r hr=>?_
  rw [F_fuel (n:=n) (m:=m) (len:=r) (by omega) (by omega),F_fuel (n:=n) (m:=m) (len:=len - 1 - r) (by omega) (by omega)]
omit O in
theorem G_fuel {u:α} {w:Nat→Nat→α}:∀ {n m len i:Nat},len≤n→len≤m→G S u w n len i=G S u w m len i
 | 0,0,_,_,_,_=>rfl
 | 0,m+1,0,_,_,_=>rfl
 | 0,m+1,len+1,_,h,_=>by omega
 | n+1,0,0,_,_,_=>rfl
 | n+1,0,len+1,_,_,h=>by omega
 | n+1,m+1,0,_,_,_=>rfl
 | n+1,m+1,len+1,i,h1,h2=>by
  unfold G
  rw [G_fuel (n:=n) (m:=m) (by omega) (by omega)]
  congr 1
  refine sumR_congr fun r hr=>?_
  rw [G_fuel (n:=n) (m:=m) (len:=r) (by omega) (by omega),G_fuel (n:=n) (m:=m) (len:=len - 1 - r) (by omega) (by omega)]
end
def fA {α:Type} (S:Sr α) (u:α) (w:Nat→Nat→α) (len i:Nat):α:=F S u w len len i
def gA {α:Type} (S:Sr α) (u:α) (w:Nat→Nat→α) (len i:Nat):α:=G S u w len len i
section
variable {α:Type} {S:Sr α} {u:α} {w:Nat→Nat→α}
theorem fA_zero {i:Nat}:fA S u w 0 i=S.one:=rfl
theorem gA_zero {i:Nat}:gA S u w 0 i=S.one:=rfl
theorem fA_succ {len i:Nat}:fA S u w (len+1) i=S.add (S.mul u (fA S u w len (i+1))) (sumR S len fun r=>S.mul (w i (i+1+r)) (S.mul (fA S u w r (i+1)) (fA S u w (len - 1 - r) (i+r+2)))):=by
 show F S u w (len+1) (len+1) i=_
 unfold F
 congr 1
 refine sumR_congr fun r hr=>?_
 rw [F_fuel (n:=len) (m:=r) (len:=r) (by omega) (by omega),F_fuel (n:=len) (m:=len - 1 - r) (len:=len - 1 - r) (by omega) (by omega)]
 rfl
theorem gA_succ {len i:Nat}:gA S u w (len+1) i=S.add (S.mul u (gA S u w len i)) (sumR S len fun r=>S.mul (w (i+r) (i+len)) (S.mul (gA S u w r i) (gA S u w (len - 1 - r) (i+r+1)))):=by
 show G S u w (len+1) (len+1) i=_
 unfold G
 congr 1
 refine sumR_congr fun r hr=>?_
 rw [G_fuel (n:=len) (m:=r) (len:=r) (by omega) (by omega),G_fuel (n:=len) (m:=len - 1 - r) (len:=len - 1 - r) (by omega) (by omega)]
 rfl
theorem fA_gA (O:S.Ok):∀ (len i:Nat),fA S u w len i=gA S u w len i:=by
 intro len
 induction len using Nat.strongRecOn with
 | _ len ih =>
 intro i
 match len,ih with
 | 0,_=>rfl
 | 1,_=>rw [fA_succ,gA_succ]; rfl
 | m+2,ih =>
  have h:∀ l,l < m+2→∀ j,gA S u w l j=fA S u w l j:=fun l hl j=>(ih l hl j).symm
  have fl:∀ l,l+1 < m+2→∀ j,fA S u w (l+1) j=S.add (S.mul u (fA S u w l j)) (sumR S l fun r=>S.mul (w (j+r) (j+l)) (S.mul (fA S u w r j) (fA S u w (l - 1 - r) (j+r+1)))):=fun l hl j=>by
   rw [ih (l+1) hl j,gA_succ,h l (by omega)]
   congr 1
   refine sumR_congr fun r hr=>?_
   rw [h r (by omega),h (l - 1 - r) (by omega)]
  rw [fA_succ,gA_succ,h (m+1) (by omega)]
  have L1:S.mul u (fA S u w (m+1) (i+1))=S.add (S.mul u (S.mul u (fA S u w m (i+1)))) (sumR S m fun s=>S.mul u (S.mul (w (i+1+s) (i+1+m)) (S.mul (fA S u w s (i+1)) (fA S u w (m - 1 - s) (i+1+s+1))))):=by
   rw [fl m (by omega),O.di,sumR_mul O]
  have L2:sumR S (m+1) (fun r=>S.mul (w i (i+1+r)) (S.mul (fA S u w r (i+1)) (fA S u w (m+1 - 1 - r) (i+r+2)))) =
    S.add (S.add (sumR S m fun r=>S.mul u (S.mul (w i (i+1+r)) (S.mul (fA S u w r (i+1)) (fA S u w (m - 1 - r) (i+r+2)))))
     (sumR S m fun r=>sumR S (m - 1 - r) fun s=>S.mul (S.mul (w i (i+1+r)) (fA S u w r (i+1))) (S.mul (w (i+(r+1+s)+1) (i+m+1)) (S.mul (fA S u w ((r+1+s) - 1 - r) (i+r+2)) (fA S u w (m - 1 - (r+1+s)) (i+(r+1+s)+2))))))
     (S.mul (w i (i+1+m)) (fA S u w m (i+1))):=by
   show S.add (sumR S m _) _=_
   congr 1
   ·rw [← sumR_add O]
    refine sumR_congr fun r hr=>?_
    rw [show m+1 - 1 - r=(m - 1 - r)+1 by omega,fl (m - 1 - r) (by omega),O.di,O.di]
    congr 1
    ·rw [O.mlc (fA S u w r (i+1)) u,O.mlc (w i (i+1+r)) u]
    ·rw [← O.ma,← sumR_mul O]
     refine sumR_congr fun s hs=>?_
     congr 2
     ·rw [show i+r+2+s=i+(r+1+s)+1 by omega,show i+r+2+(m - 1 - r)=i+m+1 by omega]
     ·rw [show r+1+s - 1 - r=s by omega,show m - 1 - r - 1 - s=m - 1 - (r+1+s) by omega,show i+r+2+s+1=i+(r+1+s)+2 by omega]
   ·dsimp only
    rw [show m+1 - 1 - m=0 by omega,fA_zero,O.mo]
  have R1:S.mul u (fA S u w (m+1) i)=S.add (S.mul u (S.mul u (fA S u w m (i+1)))) (sumR S m fun r=>S.mul u (S.mul (w i (i+1+r)) (S.mul (fA S u w r (i+1)) (fA S u w (m - 1 - r) (i+r+2))))):=by
   rw [fA_succ,O.di,sumR_mul O]
  have R2:sumR S (m+1) (fun r=>S.mul (w (i+r) (i+(m+1))) (S.mul (gA S u w r i) (gA S u w (m+1 - 1 - r) (i+r+1)))) =
    S.add (S.mul (w i (i+1+m)) (fA S u w m (i+1))) (S.add (sumR S m fun s=>S.mul u (S.mul (w (i+1+s) (i+1+m)) (S.mul (fA S u w s (i+1)) (fA S u w (m - 1 - s) (i+1+s+1)))))
     (sumR S m fun t=>sumR S t fun q=>S.mul (S.mul (w i (i+1+q)) (fA S u w q (i+1))) (S.mul (w (i+t+1) (i+m+1)) (S.mul (fA S u w (t - 1 - q) (i+q+2)) (fA S u w (m - 1 - t) (i+t+2)))))):=by
   rw [sumR_front O]
   congr 1
   ·rw [gA_zero,O.om,h _ (by omega),show i+0=i by omega,show m+1 - 1 - 0=m by omega,show i+(m+1)=i+1+m by omega]
   ·rw [← sumR_add O]
    refine sumR_congr fun t ht=>?_
    rw [h (t+1) (by omega),h _ (by omega),fA_succ,O.mc (S.add _ _),O.di,O.di]
    congr 1
    ·rw [O.mc (fA S u w (m+1 - 1 - (t+1)) (i+(t+1)+1)),O.ma u,O.mlc _ u,show m+1 - 1 - (t+1)=m - 1 - t by omega,show i+(t+1)=i+1+t by omega,show i+(m+1)=i+1+m by omega]
    ·rw [← O.ma,← sumR_mul O]
     refine sumR_congr fun q hq=>?_
     rw [show m+1 - 1 - (t+1)=m - 1 - t by omega,show i+(t+1)+1=i+t+2 by omega,show i+(t+1)=i+t+1 by omega,show i+(m+1)=i+m+1 by omega]
     generalize w (i+t+1) (i+m+1)=a
     generalize fA S u w (m - 1 - t) (i+t+2)=b
     generalize w i (i+1+q)=c
     generalize fA S u w q (i+1)=d
     generalize fA S u w (t - 1 - q) (i+q+2)=e
     rw [O.mc (S.mul a b),O.ma c,O.ma c,O.ma d,O.mlc d e]
     congr 1
     rw [O.mlc e d]
     congr 1
     rw [O.mlc e a]
  rw [L1,L2,R1,R2,sumR_tri O (A:=fun r t=>S.mul (S.mul (w i (i+1+r)) (fA S u w r (i+1))) (S.mul (w (i+t+1) (i+m+1)) (S.mul (fA S u w (t - 1 - r) (i+r+2)) (fA S u w (m - 1 - t) (i+t+2)))))]
  generalize S.mul u (S.mul u (fA S u w m (i+1)))=a
  generalize (sumR S m fun s=>S.mul u (S.mul (w (i+1+s) (i+1+m)) (S.mul (fA S u w s (i+1)) (fA S u w (m - 1 - s) (i+1+s+1)))))=b
  generalize (sumR S m fun r=>S.mul u (S.mul (w i (i+1+r)) (S.mul (fA S u w r (i+1)) (fA S u w (m - 1 - r) (i+r+2)))))=c
  generalize (sumR S m fun t=>sumR S t fun q=>S.mul (S.mul (w i (i+1+q)) (fA S u w q (i+1))) (S.mul (w (i+t+1) (i+m+1)) (S.mul (fA S u w (t - 1 - q) (i+q+2)) (fA S u w (m - 1 - t) (i+t+2)))))=d
  generalize S.mul (w i (i+1+m)) (fA S u w m (i+1))=e
  rw [O.aa,O.aa,O.aa,← O.aa b,O.ac b c,O.aa c b,O.ac d e,← O.aa b e,O.ac b e,O.aa e b]
end
end Mx
end



noncomputable section
set_option Elab.async false
set_option linter.all false
set_option maxRecDepth 100000
namespace L2.Q
open PySem PySem.Spec PySem.SeqAt PyProof.Rows
structure Bs3 (mg:Str→Option Value):Prop extends Bs2 mg where
 sum:mg "sum" = none
def tI (p:Nat × Nat):List Int:=[(p.1:Int),(p.2:Int)]
theorem tI_inj {p q:Nat × Nat} (h:tI p=tI q):p=q:=by
 unfold tI at h
 injection h with h1 h2
 injection h2 with h2 _
 exact Prod.ext (Int.ofNat.inj h1) (Int.ofNat.inj h2)
def tsD (ps:List (Nat × Nat)):D:=.lst (ps.map fun p=>kD (tI p))
def rwD (n:Nat) (ps:List (Nat × Nat)):D:=.tup [.int n,tsD ps]
structure OkR (n:Nat) (ps:List (Nat × Nat)):Prop where
 lt:∀ p ∈ ps,p.1 < p.2∧p.2 < n
 nd:ps.Nodup
 le:n≤80
 sm:ps.length≤400
theorem ties_nat {n:Int} {ts:List (List Int)} (n0:0≤n) (h:Ties n ts):∃ ps:List (Nat × Nat),ts=ps.map tI∧∀ p ∈ ps,p.1 < p.2∧p.2 < n.toNat:=by
 induction ts with
 | nil=>exact ⟨[],rfl,fun _ z=>(nomatch z)⟩
 | cons t ts ih =>
  obtain ⟨ps,e,q⟩:=ih fun u hu=>h u (by simp [hu])
  obtain ⟨a,b,rfl,h1,h2,h3⟩:=h t (by simp)
  refine ⟨(a.toNat,b.toNat)::ps,?_,fun p hp=>?_⟩
  ·rw [List.map_cons,← e]
   congr 1
   show [a,b]=[((a.toNat:Nat):Int),((b.toNat:Nat):Int)]
   rw [Int.toNat_of_nonneg h1,Int.toNat_of_nonneg (by omega)]
  ·rcases List.mem_cons.mp hp with rfl | hp
   ·exact ⟨by show a.toNat < b.toNat; omega,by show b.toNat < n.toNat; omega⟩
   ·exact q p hp
theorem row_nat {n:Int} {ts:List (List Int)} (n0:0≤n) (n1:n≤80) (l:ts.length≤400) (h:Ties n ts) (nd:ts.Nodup):∃ (m:Nat) (ps:List (Nat × Nat)),OkR m ps∧n=m∧ts=ps.map tI∧D.tup [.int n,.lst (ts.map kD)]=rwD m ps:=by
 obtain ⟨ps,e,q⟩:=ties_nat n0 h
 refine ⟨n.toNat,ps,⟨q,?_,by omega,by rw [e,List.length_map] at l; exact l⟩,by omega,e,?_⟩
 ·rw [e] at nd
  exact (List.pairwise_map.mp nd).imp fun z e=>z (congrArg tI e)
 ·unfold rwD tsD
  rw [e,List.map_map,Int.toNat_of_nonneg n0]
  rfl
def intsD (l:List Nat):List D:=l.map fun (k:Nat)=>D.int (k:Int)
def prt (ps:List (Nat × Nat)) (i:Nat):List Nat:=(ps.filter fun p=>decide (p.1=i)).map (·.2)
theorem mem_prt {ps:List (Nat × Nat)} {i k:Nat}:k ∈ prt ps i ↔ (i,k) ∈ ps:=by
 unfold prt
 rw [List.mem_map]
 constructor
 ·rintro ⟨p,hp,rfl⟩
  obtain ⟨h1,h2⟩:=List.mem_filter.mp hp
  rw [← of_decide_eq_true h2]
  exact h1
 ·intro h
  exact ⟨(i,k),List.mem_filter.mpr ⟨h,by simp⟩,rfl⟩
def ptD (n:Nat) (ps:List (Nat × Nat)):D:=.lst ((List.range n).map fun i=>.lst (intsD (prt ps i)))
def wD (ps:List (Nat × Nat)) (w:Nat × Nat→Int):D:=dA (ps.map fun p=>(tI p,.int (w p)))
theorem val_wD {ps:List (Nat × Nat)} {w:Nat × Nat→Int} {p:Nat × Nat} (h:p ∈ ps):valA (ps.map fun p=>(tI p,.int (w p))) (tI p)=some (.int (w p)):=by
 unfold valA
 induction ps with
 | nil=>cases h
 | cons q ps ih =>
  rw [List.map_cons,List.find?_cons]
  by_cases e:q=p
  ·rw [e,decide_eq_true rfl]; rfl
  ·rw [decide_eq_false fun z=>e (tI_inj z)]
   exact ih ((List.mem_cons.mp h).resolve_left fun z=>e z.symm)
theorem none_wD {ps:List (Nat × Nat)} {w:Nat × Nat→Int} {p:Nat × Nat} (h:p ∉ ps):valA (ps.map fun p=>(tI p,.int (w p))) (tI p)=none:=by
 unfold valA
 rw [Option.map_eq_none_iff,List.find?_eq_none]
 intro x hx
 obtain ⟨q,hq,rfl⟩:=List.mem_map.mp hx
 simp only [decide_eq_true_eq]
 intro e
 exact h (tI_inj e ▸ hq)
theorem get_wD {ps:List (Nat × Nat)} {w:Nat × Nat→Int} {i k:Nat} (h:(i,k) ∈ ps):dGetT (wD ps w) (.tup [.int (i:Int),.int (k:Int)])=some (.int (w (i,k))):=by
 have:=dGetT_A (kvs:=ps.map fun p=>(tI p,D.int (w p))) (t:=tI (i,k))
 rw [val_wD h] at this
 exact this
theorem rng_get {α:Type} {n i:Nat} {f:Nat→α} (h:i < n):((List.range n).map f)[i]?=some (f i):=by
 rw [List.getElem?_map,List.getElem?_range h]
 rfl
theorem ixInt {ds:List D} {x:Int} {i:Nat} {d:D} (hx:x=(i:Int)) (h:ds[i]?=some d):dIx (.lst ds) (.int x)=some d:=by rw [hx]; exact dIx_lst h
theorem ixPt {n:Nat} {ps:List (Nat × Nat)} {x:Int} {i:Nat} (hx:x=(i:Int)) (h:i < n):dIx (ptD n ps) (.int x)=some (.lst (intsD (prt ps i))):=ixInt hx (rng_get h)
def tRow (L:Nat) (T:Nat→Int):List D:=(List.range L).map fun l=>.int (T l)
def tabD (n:Nat) (L:Nat→Nat) (T:Nat→Nat→Int):D:=.lst ((List.range (n+1)).map fun i=>.lst (tRow (L i) fun l=>T l i))
theorem ixRow {L:Nat} {T:Nat→Int} {x:Int} {l:Nat} (hx:x=(l:Int)) (h:l < L):dIx (.lst (tRow L T)) (.int x)=some (.int (T l)):=ixInt hx (rng_get h)
theorem ixTab {n:Nat} {L:Nat→Nat} {T:Nat→Nat→Int} {x:Int} {i:Nat} (hx:x=(i:Int)) (h:i≤n):dIx (tabD n L T) (.int x)=some (.lst (tRow (L i) fun l=>T l i)):=ixInt hx (rng_get (by omega))
def lnum (ps:List (Nat × Nat)) (w:Nat × Nat→Int) (T:Nat→Nat→Int) (i j:Nat):Int:=(maxI ((((prt ps i).filter fun k=>decide (k < j)).map fun k=>w (i,k)+T (k - i - 1) (i+1)+T (j - k - 1) (k+1))++[T (j - i - 1) (i+1)])).getD 0
theorem maxI_some {l:List Int} {x:Int}:maxI (l++[x])=some ((maxI (l++[x])).getD 0):=by
 cases l with
 | nil=>rfl
 | cons a l=>rfl
theorem lnum_congr {ps:List (Nat × Nat)} {w:Nat × Nat→Int} {T T':Nat→Nat→Int} {i j:Nat} (hp:∀ p ∈ ps,p.1 < p.2) (hj:i < j) (h:∀ l,l < j - i→∀ a,T l a=T' l a):lnum ps w T i j=lnum ps w T' i j:=by
 unfold lnum
 have e:((prt ps i).filter fun k=>decide (k < j)).map (fun k=>w (i,k)+T (k - i - 1) (i+1)+T (j - k - 1) (k+1))=((prt ps i).filter fun k=>decide (k < j)).map fun k=>w (i,k)+T' (k - i - 1) (i+1)+T' (j - k - 1) (k+1):=by
  refine List.map_congr_left fun k hk=>?_
  obtain ⟨h1,h2⟩:=List.mem_filter.mp hk
  have h3:=hp _ (mem_prt.mp h1)
  have h4:=of_decide_eq_true h2
  dsimp only at h3
  rw [h _ (by omega),h _ (by omega)]
 rw [e,h (j - i - 1) (by omega)]
def tWf (ps:List (Nat × Nat)) (w:Nat × Nat→Int):Nat→Nat→Nat→Int
 | 0,_,_=>0
 | _+1,0,_=>0
 | n+1,l+1,i=>lnum ps w (tWf ps w n) i (i+l+1)
theorem tWf_fuel {ps:List (Nat × Nat)} {w:Nat × Nat→Int} (hp:∀ p ∈ ps,p.1 < p.2):∀ {n m l i:Nat},l≤n→l≤m→tWf ps w n l i=tWf ps w m l i
 | 0,0,_,_,_,_=>rfl
 | 0,m+1,0,_,_,_=>rfl
 | 0,m+1,l+1,_,h,_=>by omega
 | n+1,0,0,_,_,_=>rfl
 | n+1,0,l+1,_,_,h=>by omega
 | n+1,m+1,0,_,_,_=>rfl
 | n+1,m+1,l+1,i,h1,h2=>by
  unfold tWf
  exact lnum_congr hp (by omega) fun l' hl a=>tWf_fuel hp (by omega) (by omega)
def tW (ps:List (Nat × Nat)) (w:Nat × Nat→Int) (l i:Nat):Int:=tWf ps w l l i
theorem tW_succ {ps:List (Nat × Nat)} {w:Nat × Nat→Int} (hp:∀ p ∈ ps,p.1 < p.2) {l i:Nat}:tW ps w (l+1) i=lnum ps w (tW ps w) i (i+l+1):=by
 show tWf ps w (l+1) (l+1) i=_
 unfold tWf
 exact lnum_congr hp (by omega) fun l' hl a=>tWf_fuel hp (by omega) (by omega)
def rowS (n a:Nat):List (Nat × Nat):=(List.range (a+1)).map fun b=>(n - 1 - a,n - a+b)
def strR (n:Nat):List (Nat × Nat):=(List.range n).flatMap (rowS n)
def prD (p:Nat × Nat):D:=.tup [.int (p.1:Int),.int (p.2:Int)]
def restS (n a b:Nat):List (Nat × Nat):=(rowS n a).drop b++((List.range n).drop (a+1)).flatMap (rowS n)
theorem restS_next {n a b:Nat} (h:b≤a):restS n a b=(n - 1 - a,n - a+b)::restS n a (b+1):=by
 unfold restS rowS
 rw [List.drop_eq_getElem_cons (by rw [List.length_map,List.length_range]; omega)]
 simp
theorem drop_flat {n a:Nat} (h:a < n):((List.range n).drop a).flatMap (rowS n)=restS n a 0:=by
 unfold restS
 rw [List.drop_eq_getElem_cons (by rw [List.length_range]; exact h)]
 simp
theorem restS_end {n a:Nat} (h:a+1 < n):restS n a (a+1)=restS n (a+1) 0:=by
 rw [← drop_flat h]
 unfold restS rowS
 simp
theorem restS_last {n a:Nat} (h:n≤a+1):restS n a (a+1)=[]:=by
 unfold restS rowS
 rw [List.drop_eq_nil_of_le (by simp),List.drop_eq_nil_of_le (by simpa using h)]
 rfl
theorem strR_rest {n:Nat} (h:0 < n):strR n=restS n 0 0:=by rw [← drop_flat h]; rfl
end L2.Q
end

noncomputable section
set_option Elab.async false
set_option linter.all false
set_option maxRecDepth 100000
namespace L2.Q
open PySem PySem.Spec PySem.SeqAt PyProof.Rows
theorem loop1A {α:Type} {γ:GamQ} {τ:PhiQB} {φ:PhiQ} {l:List α} {f:α→D} {k:Kd} {cap:Bet} {K:List D→Prop} (t:α→Bool) (g:α→D) (h0:hndOk cap cap) (hl:l.length≤sizeLine)
  (h:∀ x ∈ l,∀ (x0:Option B) (o:List D) (J:Bet→List D→Prop),o.length < sizeLine→(t x=true→∀ x0,J (x0::cap) (o++[g x]))→(t x=false→∀ x0,J (x0::cap) o)→γ (f x) (sk k (f x)) (x0::cap) fun β1=>τ β1 fun t β2=>if t=true then φ β2 fun x kx β3=>kFl kx x∧o.length < sizeLine∧J β3 (o++[x]) else J β2 o)
  (q:K ((l.filter t).map g)):loopQ γ τ φ (l.map f) k (none::cap) K:=by
 refine ⟨fun i β o=>i≤l.length∧(∃ x0,β=x0::cap)∧o=((l.take i).filter t).map g,⟨Nat.zero_le _,⟨_,rfl⟩,rfl⟩,?_,?_⟩
 ·rintro i d β o hd ⟨hi,⟨x0,rfl⟩,rfl⟩
  rw [List.getElem?_map] at hd
  obtain ⟨x,hx,rfl⟩:=Option.map_eq_some_iff.mp hd
  have hlt:i < l.length:=(List.getElem?_eq_some_iff.mp hx).1
  have hle:(((l.take i).filter t).map g).length < sizeLine:=by
   rw [List.length_map]
   have:=List.length_filter_le t (l.take i)
   rw [List.length_take] at this
   omega
  have e:l.take (i+1)=l.take i++[x]:=by rw [List.take_add_one,hx]; rfl
  refine h x (List.mem_of_getElem? hx) x0 _ (fun β o=>i+1≤l.length∧(∃ x0,β=x0::cap)∧o=((l.take (i+1)).filter t).map g) hle (fun ht x0=>?_) fun ht x0=>?_
  ·exact ⟨hlt,⟨_,rfl⟩,by rw [e,List.filter_append,List.map_append,List.filter_cons,if_pos ht]; rfl⟩
  ·exact ⟨hlt,⟨_,rfl⟩,by rw [e,List.filter_append,List.map_append,List.filter_cons,if_neg (by rw [ht]; simp)]; simp⟩
 ·rintro β o ⟨_,⟨x0,rfl⟩,rfl⟩
  rw [List.length_map,List.take_length]
  exact ⟨h0,q⟩
theorem loop1B {α:Type} {γ:GamQ} {τ:PhiQB} {φ:PhiQ} {l:List α} {f:α→D} {k:Kd} {cap:Bet} {K:List D→Prop} (t:α→Bool) (g:α→D) (h0:hndOk cap cap) (hl:l.length≤sizeLine)
  (h:∀ x ∈ l,∀ (x0 x1:Option B) (o:List D) (J:Bet→List D→Prop),o.length < sizeLine→(t x=true→∀ x0 x1,J (x0::x1::cap) (o++[g x]))→(t x=false→∀ x0 x1,J (x0::x1::cap) o)→γ (f x) (sk k (f x)) (x0::x1::cap) fun β1=>τ β1 fun t β2=>if t=true then φ β2 fun x kx β3=>kFl kx x∧o.length < sizeLine∧J β3 (o++[x]) else J β2 o)
  (q:K ((l.filter t).map g)):loopQ γ τ φ (l.map f) k (none::none::cap) K:=by
 refine ⟨fun i β o=>i≤l.length∧(∃ x0 x1,β=x0::x1::cap)∧o=((l.take i).filter t).map g,⟨Nat.zero_le _,⟨_,_,rfl⟩,rfl⟩,?_,?_⟩
 ·rintro i d β o hd ⟨hi,⟨x0,x1,rfl⟩,rfl⟩
  rw [List.getElem?_map] at hd
  obtain ⟨x,hx,rfl⟩:=Option.map_eq_some_iff.mp hd
  have hlt:i < l.length:=(List.getElem?_eq_some_iff.mp hx).1
  have hle:(((l.take i).filter t).map g).length < sizeLine:=by
   rw [List.length_map]
   have:=List.length_filter_le t (l.take i)
   rw [List.length_take] at this
   omega
  have e:l.take (i+1)=l.take i++[x]:=by rw [List.take_add_one,hx]; rfl
  refine h x (List.mem_of_getElem? hx) x0 x1 _ (fun β o=>i+1≤l.length∧(∃ x0 x1,β=x0::x1::cap)∧o=((l.take (i+1)).filter t).map g) hle (fun ht x0 x1=>?_) fun ht x0 x1=>?_
  ·exact ⟨hlt,⟨_,_,rfl⟩,by rw [e,List.filter_append,List.map_append,List.filter_cons,if_pos ht]; rfl⟩
  ·exact ⟨hlt,⟨_,_,rfl⟩,by rw [e,List.filter_append,List.map_append,List.filter_cons,if_neg (by rw [ht]; simp)]; simp⟩
 ·rintro β o ⟨_,⟨x0,x1,rfl⟩,rfl⟩
  rw [List.length_map,List.take_length]
  exact ⟨h0,q⟩
theorem filter_true {α:Type} {l:List α}:l.filter (fun _=>true)=l:=List.filter_eq_self.mpr fun _ _=>rfl
theorem dAdd_lst {a b:List D} (h:a.length+b.length≤1000000):dAdd (.lst a) (.lst b)=some (.lst (a++b)):=by
 show (if a.length+b.length≤sizeLine then _ else _)=_
 rw [if_pos (Nat.le_trans h (by decide))]
theorem flats_int {α:Type} {f:α→Int}:∀ {l:List α},D.flats (l.map fun x=>D.int (f x))=true
 | []=>rfl
 | _::l=>flats_int (l:=l)
theorem flats_app:∀ {a b:List D},D.flats a=true→D.flats b=true→D.flats (a++b)=true
 | [],_,_,h=>h
 | d::a,b,h,h'=>by
  have f':(d.flat && D.flats a)=true:=h
  rw [Bool.and_eq_true] at f'
  show (d.flat && D.flats (a++b))=true
  rw [f'.1,flats_app f'.2 h']
  rfl
theorem max_ints {α:Type} {f:α→Int} {l:List α} {x:Int}:dOfInts maxI [.lst ((l.map fun k=>D.int (f k))++[D.int x])]=some (.int ((maxI (l.map f++[x])).getD 0)):=by
 have e:(l.map fun k=>D.int (f k))++[D.int x]=(l.map f++[x]).map D.int:=by simp
 rw [e]
 exact dOfInts_of maxI_some
theorem nd_take {α:Type} {l:List α} {m:Nat} {x:α} (h:l.Nodup) (hx:l[m]?=some x):x ∉ l.take m:=fun z=>by
 obtain ⟨i,hi⟩:=List.mem_iff_getElem?.mp z
 rw [List.getElem?_take] at hi
 split at hi
 ·next hlt =>
  have:=(List.getElem?_inj (List.getElem?_eq_some_iff.mp hi).1 h).mp (hi.trans hx.symm)
  omega
 ·cases hi
def fStr:FD:=fun ds R=>∃ n:Nat,ds=[.int n]∧n≤80∧R (.lst ((strR n).map prD))
theorem fStr.mono:Mono fStr:=fun ds R R' k h=>by obtain ⟨n,e,h1,q⟩:=h; exact ⟨n,e,h1,k _ q⟩
def fPart:FD:=fun ds R=>∃ n ps,ds=[rwD n ps]∧OkR n ps∧R (ptD n ps)
theorem fPart.mono:Mono fPart:=fun ds R R' k h=>by obtain ⟨n,ps,e,h1,q⟩:=h; exact ⟨n,ps,e,h1,k _ q⟩
def fNumW:FD:=fun ds R=>∃ (n:Nat) (ps:List (Nat × Nat)) (w:Nat × Nat→Int) (L:Nat→Nat) (T:Nat→Nat→Int) (i k j:Nat),ds=[wD ps w,tabD n L T,.int i,.int k,.int j]∧(i,k) ∈ ps∧i < k∧k < j∧j≤n∧k - i - 1 < L (i+1)∧j - k - 1 < L (k+1) ∧
 R (.int (w (i,k)+T (k - i - 1) (i+1)+T (j - k - 1) (k+1)))
theorem fNumW.mono:Mono fNumW:=fun ds R R' k h=>by obtain ⟨n,ps,w,L,T,i,k',j,e,h1,h2,h3,h4,h5,h6,q⟩:=h; exact ⟨n,ps,w,L,T,i,k',j,e,h1,h2,h3,h4,h5,h6,k _ q⟩
def fLeast:FD:=fun ds R=>∃ (n:Nat) (ps:List (Nat × Nat)) (w:Nat × Nat→Int) (L:Nat→Nat) (T:Nat→Nat→Int) (i j:Nat),ds=[ptD n ps,wD ps w,tabD n L T,.int i,.int j]∧OkR n ps∧i < j∧j≤n∧(∀ a,i < a→a≤n→n+1 - a≤L a)∧R (.int (lnum ps w T i j))
theorem fLeast.mono:Mono fLeast:=fun ds R R' k h=>by obtain ⟨n,ps,w,L,T,i,j,e,h1,h2,h3,h4,q⟩:=h; exact ⟨n,ps,w,L,T,i,j,e,h1,h2,h3,h4,k _ q⟩
abbrev fullT (n:Nat) (T:Nat→Nat→Int):D:=tabD n (fun i=>n+1 - i) T
def fGreat:FD:=fun ds R=>∃ (n:Nat) (ps:List (Nat × Nat)) (w:Nat × Nat→Int),ds=[rwD n ps,wD ps w]∧OkR n ps∧R (fullT n (tW ps w))
theorem fGreat.mono:Mono fGreat:=fun ds R R' k h=>by obtain ⟨n,ps,w,e,h1,q⟩:=h; exact ⟨n,ps,w,e,h1,k _ q⟩
def w1:Nat × Nat→Int:=fun _=>1
def fOne:FD:=fun ds R=>∃ (n:Nat) (ps:List (Nat × Nat)),ds=[rwD n ps]∧OkR n ps∧R (wD ps w1)
theorem fOne.mono:Mono fOne:=fun ds R R' k h=>by obtain ⟨n,ps,e,h1,q⟩:=h; exact ⟨n,ps,e,h1,k _ q⟩
def fTable:FD:=fun ds R=>∃ (n:Nat) (ps:List (Nat × Nat)),ds=[rwD n ps]∧OkR n ps∧R (fullT n (tW ps w1))
theorem fTable.mono:Mono fTable:=fun ds R R' k h=>by obtain ⟨n,ps,e,h1,q⟩:=h; exact ⟨n,ps,e,h1,k _ q⟩
theorem sz_le {n:Nat} (h:n≤1000):n≤sizeLine:=Nat.le_trans h (by decide)
theorem sz_lt {n:Nat} (h:n≤1000):n < sizeLine:=Nat.lt_of_le_of_lt h (by decide)
theorem ixNn {n i:Nat} {x:Int} (hx:x=(i:Int)) (h:i < n):ixN n x=some i:=by
 subst hx
 unfold ixN
 rw [if_pos (by omega),if_pos (by omega)]
 simp
theorem set_rng {α:Type} {n i:Nat} {f:Nat→α} {y:α} (h:i < n):((List.range n).map f).set i y=(List.range n).map fun k=>if k=i then y else f k:=by
 refine List.ext_getElem? fun k=>?_
 rw [List.getElem?_set]
 by_cases hk:k < n
 ·rw [rng_get hk,rng_get hk,List.length_map,List.length_range]
  by_cases e:i=k
  ·rw [if_pos e,if_pos (e ▸ hk),if_pos e.symm]
  ·rw [if_neg e,if_neg (Ne.symm e)]
 ·rw [List.getElem?_eq_none (l:=(List.range n).map f) (by simpa using hk),List.getElem?_eq_none (l:=(List.range n).map fun k=>if k=i then y else f k) (by simpa using hk),if_neg (by omega)]
theorem set_pt {n i k:Nat} {ps:List (Nat × Nat)} (h:i < n):((List.range n).map fun j=>D.lst (intsD (prt ps j))).set i (.lst (intsD (prt ps i)++[D.int k]))=(List.range n).map fun j=>D.lst (intsD (prt (ps++[(i,k)]) j)):=by
 rw [set_rng h]
 refine List.map_congr_left fun j _=>?_
 unfold prt intsD
 rw [List.filter_append,List.map_append,List.map_append]
 by_cases e:j=i
 ·rw [if_pos e,e]; simp
 ·rw [if_neg e,List.filter_cons,if_neg (by simpa using Ne.symm e)]; simp
theorem prt_len {ps:List (Nat × Nat)} {i:Nat}:(prt ps i).length≤ps.length:=by
 unfold prt
 rw [List.length_map]
 exact List.length_filter_le _ _
def lenT (n a b:Nat) (i:Nat):Nat:=if n - 1 - a < i then n+1 - i else if i=n - 1 - a then b+1 else 1
theorem set_tab {n a b:Nat} {T:Nat→Nat→Int} (ha:a < n) (hb:b≤a) :
  ((List.range (n+1)).map fun i=>D.lst (tRow (lenT n a b i) fun l=>T l i)).set (n - 1 - a) (.lst (tRow (b+1) (fun l=>T l (n - 1 - a))++[D.int (T (b+1) (n - 1 - a))]))=(List.range (n+1)).map fun i=>D.lst (tRow (lenT n a (b+1) i) fun l=>T l i):=by
 rw [set_rng (by omega)]
 refine List.map_congr_left fun i _=>?_
 unfold lenT
 by_cases e:i=n - 1 - a
 ·rw [if_pos e,e,if_neg (by omega),if_pos rfl]
  unfold tRow
  rw [List.range_succ (n:=b+1),List.map_append]
  rfl
 ·rw [if_neg e,if_neg e,if_neg e]
theorem lenT_next {n a:Nat} (h:a+1 < n) (i:Nat) (hi:i≤n):lenT n a (a+1) i=lenT n (a+1) 0 i:=by
 unfold lenT
 by_cases h1:n - 1 - a < i
 ·rw [if_pos h1,if_pos (by omega)]
 ·rw [if_neg h1]
  by_cases h2:i=n - 1 - a
  ·rw [if_pos h2,if_pos (by omega)]; omega
  ·rw [if_neg h2,if_neg (by omega)]
   split <;> rfl
theorem lenT_end {n a:Nat} (h:n=a+1) (i:Nat) (hi:i≤n):lenT n a (a+1) i=n+1 - i:=by
 unfold lenT
 split
 ·rfl
 ·split <;> omega
theorem lenT_start {n:Nat} (h:0 < n) (i:Nat) (hi:i≤n):lenT n 0 0 i=1:=by
 unfold lenT
 split
 ·omega
 ·split <;> rfl
theorem tab_congr {n:Nat} {L L':Nat→Nat} {T:Nat→Nat→Int} (h:∀ i,i≤n→L i=L' i):tabD n L T=tabD n L' T:=by
 unfold tabD
 congr 1
 refine List.map_congr_left fun i hi=>?_
 rw [h i (by have:=List.mem_range.mp hi; omega)]
def DoneT (n idx:Nat) (L:Nat→Nat):Prop:=(n=0∧L 0=1)∨∃ a b,a < n∧b≤a+1∧(∀ i,i≤n→L i=lenT n a b i)∧(strR n).drop idx=restS n a b
theorem doneT_start {n:Nat}:DoneT n 0 fun _=>1:=by
 rcases Nat.eq_zero_or_pos n with h | h
 ·exact .inl ⟨h,rfl⟩
 ·exact .inr ⟨0,0,h,Nat.zero_le _,fun i hi=>(lenT_start h i hi).symm,strR_rest h⟩
theorem doneT_end {n:Nat} {L:Nat→Nat} (h:DoneT n (strR n).length L):∀ i,i≤n→L i=n+1 - i:=by
 rcases h with ⟨rfl,h⟩ | ⟨a,b,h1,h2,h3,h4⟩
 ·intro i hi
  rw [show i=0 by omega,h]
 ·intro i hi
  rw [List.drop_length] at h4
  have hb:b=a+1:=by
   rcases Nat.lt_or_ge a b with q | q
   ·omega
   ·rw [restS_next q] at h4; cases h4
  have ha:n=a+1:=by
   rcases Nat.lt_or_ge (a+1) n with q | q
   ·rw [hb,restS_end q,restS_next (Nat.zero_le _)] at h4; cases h4
   ·omega
  rw [h3 i hi,hb]
  exact lenT_end ha i hi
theorem doneT_step {n idx:Nat} {L:Nat→Nat} {p:Nat × Nat} (h:DoneT n idx L) (hp:(strR n)[idx]?=some p):∃ a b,a < n∧b≤a∧p=(n - 1 - a,n - a+b)∧(∀ i,i≤n→L i=lenT n a b i)∧(strR n).drop (idx+1)=restS n a (b+1):=by
 have hd:(strR n).drop idx=p::(strR n).drop (idx+1):=by
  obtain ⟨h1,h2⟩:=List.getElem?_eq_some_iff.mp hp
  rw [List.drop_eq_getElem_cons h1,h2]
 rcases h with ⟨rfl,h⟩ | ⟨a,b,h1,h2,h3,h4⟩
 ·cases hp
 ·have key:∃ a b,a < n∧b≤a∧(∀ i,i≤n→L i=lenT n a b i)∧(strR n).drop idx=restS n a b:=by
   rcases Nat.lt_or_ge a b with q | q
   ·have e:b=a+1:=by omega
    rcases Nat.lt_or_ge (a+1) n with q2 | q2
    ·exact ⟨a+1,0,q2,Nat.zero_le _,fun i hi=>by rw [h3 i hi,e,lenT_next q2 i hi],by rw [h4,e,restS_end q2]⟩
    ·rw [h4,e,restS_last q2] at hd; cases hd
   ·exact ⟨a,b,h1,q,h3,h4⟩
  obtain ⟨a,b,h1,h2,h3,h4⟩:=key
  rw [h4,restS_next h2] at hd
  injection hd with e1 e2
  exact ⟨a,b,h1,h2,e1.symm,h3,e2.symm⟩
theorem rowS_len {n a:Nat}:(rowS n a).length=a+1:=by unfold rowS; simp
theorem rowS_take {n a b:Nat} (h:b < a+1):(rowS n a).take (b+1)=(rowS n a).take b++[(n - 1 - a,n - a+b)]:=by
 rw [List.take_add_one]
 unfold rowS
 rw [rng_get h]
 rfl
theorem rowS_all {n a:Nat}:(rowS n a).take (a+1)=rowS n a:=List.take_of_length_le (by rw [rowS_len]; exact Nat.le_refl _)
theorem flat_len {n:Nat}:∀ a:Nat,a≤n→(((List.range n).take a).flatMap (rowS n)).length≤a * a
 | 0,_=>by simp
 | a+1,h=>by
  have:=flat_len (n:=n) a (by omega)
  rw [List.take_add_one,List.getElem?_range (show a < n by omega),List.flatMap_append,List.length_append]
  have e:((some a).toList.flatMap (rowS n)).length=a+1:=by simp [rowS_len]
  rw [e,Nat.mul_add,Nat.add_mul]
  omega
theorem str_size {n a b:Nat} (hn:n≤80) (ha:a < n) (hb:b < a+1):(((List.range n).take a).flatMap (rowS n)).length+((rowS n a).take b).length < sizeLine:=by
 have h1:=flat_len (n:=n) a (by omega)
 have h2:((rowS n a).take b).length≤b:=by rw [List.length_take]; exact Nat.min_le_left _ _
 have h3:a * a≤80 * 80:=Nat.mul_le_mul (by omega) (by omega)
 have h4:80 * 80+80 < sizeLine:=by decide
 omega
end L2.Q
end

noncomputable section
set_option Elab.async false
set_option linter.all false
set_option maxRecDepth 100000
set_option maxHeartbeats 4000000
namespace K37
open PySem L2 L2.Q
section
variable {P:Program} {w:World} {K:PySem.W.Frag} {mg:Str→Option Value} {base:Heap}
theorem sc_stretches_rising:FnScope ["many"] ["many"] (defScope s_stretches_rising):=⟨rfl,rfl,rfl,by decide +kernel,rfl,by decide +kernel,by decide +kernel⟩
theorem ok_strR {fdSt:Addr} {fddSt:FuncData} (dSt:Df K mg "stretches_rising" s_stretches_rising ["many"] fdSt fddSt) (B:Bs3 mg):FnOk P w K mg base CX0 1 fdSt fddSt ["many"] (spQ P w true fStr):=by
 refine okQ dSt.F sc_stretches_rising (fun ds R ⟨n,e,_⟩=>by subst e; rfl) fun cdv A outer s H E hr=>⟨_,(pbs_one (pb_ret (lcB ["i","j","many"] [none,none,some 0] (by rfl) (by decide:(["i","j","many"]:List Str).Nodup) rfl (pqi_range3 B.range (pqa_cons (pq_op nok_NF (OpD.m op_dSub) (pq_var (i:=0)) pq_int) (pqa_cons (pq_un un_dNeg pq_int) (pqa_cons (pq_un un_dNeg pq_int) pqa_nil)))) (fun _ _ _ _ _ _=>(pbg_name (i:=0) (by decide:(["i","j","many"]:List Str).Nodup))) (fun _ _ _ _ _ _=>ts_nil) (fun _ _ _ _ _ _=>(pqn_range2 B.range (pqa_cons (pq_op nok_NL op_dAddN (pq_var (i:=0)) pq_int) (pqa_cons (pq_op nok_NL op_dAddN (pq_var (i:=2)) pq_int) pqa_nil)))) (fun _ _ _ _ _ _=>(pbg_name (i:=1) (by decide:(["i","j","many"]:List Str).Nodup))) (fun _ _ _ _ _ _=>ts_nil) (fun _ _ _ _ _ _=>(pq_tup (pqa_cons (pq_var (i:=0)) (pqa_cons (pq_var (i:=1)) pqa_nil))))))),fun ds R h=>?_⟩
 obtain ⟨n,rfl,hn,q⟩:=h
 refine ⟨_,rfl,trivial,_,rfl,trivial,_,rfl,rfl,trivial,_,rfl,rfl,trivial,(n:Int) - 1,-1,rfl,⟨by omega,by omega,by omega,by omega⟩,trivial,?_⟩
 have en:((n:Int) - 1 - -1).toNat=n:=by omega
 rw [en]
 refine ⟨fun a β o=>a≤n∧(∃ x0 x1,β=[x0,x1,some (.val false (.int n))])∧o=(((List.range n).take a).flatMap (rowS n)).map prD,⟨Nat.zero_le _,⟨_,_,rfl⟩,rfl⟩,?_,?_⟩
 ·rintro a d β o hd ⟨ha,⟨x0,x1,rfl⟩,rfl⟩
  obtain ⟨ha',rfl⟩:=rngN_get hd
  have e1:(n:Int) - 1 - a=((n - 1 - a:Nat):Int):=by omega
  rw [e1]
  refine ⟨_,rfl,trivial,_,rfl,trivial,_,rfl,trivial,_,rfl,trivial,((n - 1 - a:Nat):Int)+1,(n:Int)+1,rfl,⟨by omega,by omega,by omega,by omega⟩,?_⟩
  have e2:((n:Int)+1 - (((n - 1 - a:Nat):Int)+1)).toNat=a+1:=by omega
  rw [e2]
  refine ⟨fun b β o=>b≤a+1∧(∃ x1,β=[some (.val true (.int ((n - 1 - a:Nat):Int))),x1,some (.val false (.int n))])∧o=(((List.range n).take a).flatMap (rowS n)++(rowS n a).take b).map prD,⟨Nat.zero_le _,⟨_,rfl⟩,by simp⟩,?_,?_⟩
  ·rintro b d β o hd ⟨hb,⟨x1,rfl⟩,rfl⟩
   obtain ⟨hb',rfl⟩:=rngD_get hd
   refine ⟨_,rfl,trivial,_,rfl,trivial,sz2,trivial,?_,hb',⟨_,rfl⟩,?_⟩
   ·rw [List.length_map,List.length_append]
    exact str_size hn ha' hb'
   ·rw [show ((n - 1 - a:Nat):Int)+1+(b:Int)=((n - a+b:Nat):Int) by omega,rowS_take hb',← List.append_assoc,List.map_append,List.map_append,List.map_append]
    rfl
  ·rintro β o ⟨_,⟨x1,rfl⟩,rfl⟩
   refine ⟨ha',⟨_,_,rfl⟩,?_⟩
   rw [rngD_len,rowS_all,List.take_add_one,List.getElem?_range ha',List.flatMap_append]
   simp
 ·rintro β o ⟨_,⟨x0,x1,rfl⟩,rfl⟩
  rw [rngN_len,List.take_of_length_le (by simp)]
  exact ⟨trivial,trivial,q⟩
theorem sc_partners_of:FnScope ["row","many","ties","partners","a","b"] ["row"] (defScope s_partners_of):=⟨rfl,rfl,rfl,by decide +kernel,rfl,by decide +kernel,by decide +kernel⟩
theorem ok_part {fdPt:Addr} {fddPt:FuncData} (dPt:Df K mg "partners_of" s_partners_of ["row"] fdPt fddPt) (B:Bs3 mg):FnOk P w K mg base CX0 1 fdPt fddPt ["row"] (spQ P w true fPart):=by
 refine okQ dPt.F sc_partners_of (fun ds R ⟨n,ps,e,_⟩=>by subst e; rfl) fun cdv A outer s H E hr=>⟨_,(pbs_cons (pb_asg (pq_var (i:=0)) (pbg_tup (n:=2) rfl (pbgs_cons (pbg_name (i:=1) sc_partners_of.nd) (pbgs_cons (pbg_name (i:=2) sc_partners_of.nd) pbgs_nil))))
    (pbs_cons (sLcA (i:=3) true ["point"] [none] (by rfl) (by decide:(["point"]:List Str).Nodup) rfl (fun _=>(pqi_range1 B.range (pqa_cons (pq_var (i:=1)) pqa_nil))) (fun _ _ _ _ _ _=>(pbg_name (i:=0) (by decide:(["point"]:List Str).Nodup))) (fun _ _ _ _ _ _=>ts_nil) (fun _ _ _ _ _ _=>(pq_lst pqa_nil)) sc_partners_of.nd)
    (pbs_cons (pb_for PassesOwn.never rfl (pqi_list (pq_var (i:=2))) (pbg_tup (n:=2) rfl (pbgs_cons (pbg_name (i:=4) sc_partners_of.nd) (pbgs_cons (pbg_name (i:=5) sc_partners_of.nd) pbgs_nil))) (pbs_one (pb_appendAt (i:=3) true (fun _=>(pq_var (i:=5))) (fun _=>(pq_var (i:=4))))))
    (pbs_one (pb_retV (i:=3)))))),fun ds R h=>?_⟩
 obtain ⟨n,ps,rfl,ok,q⟩:=h
 have hn:=ok.le
 refine ⟨_,rfl,_,rfl,rfl,_,_,rfl,_,_,rfl,rfl,_,rfl,trivial,n,rfl,by omega,by omega,trivial,?_⟩
 rw [Int.toNat_natCast]
 refine loop1A (fun _=>true) (fun _=>.lst []) trivial (by rw [List.length_range]; exact sz_le (by omega)) (fun x hx x0 o J ho h1 _=>⟨Nat.zero_le _,trivial,ho,h1 rfl _⟩) ?_
 rw [filter_true]
 refine ⟨_,rfl,_,rfl,trivial,?_⟩
 refine ⟨fun m β=>∃ x4 x5,β=[some (.val false (rwD n ps)),some (.val true (.int n)),some (.val false (tsD ps)),some (.own (ptD n (ps.take m))),x4,x5],⟨_,_,rfl⟩,?_,?_⟩
 ·rintro m d β hd ⟨x4,x5,rfl⟩
  rw [List.getElem?_map] at hd
  obtain ⟨p,hp,rfl⟩:=Option.map_eq_some_iff.mp hd
  obtain ⟨h1,h2⟩:=ok.lt p (List.mem_of_getElem? hp)
  refine ⟨_,rfl,rfl,_,_,rfl,_,_,rfl,rfl,⟨_,rfl⟩,_,rfl,_,_,_,_,rfl,rfl,by rw [List.length_map,List.length_range]; exact ixNn rfl (show p.1 < n by omega),rng_get (show p.1 < n by omega),_,rfl,trivial,rfl,?_,?_⟩
  ·unfold Q.intsD
   rw [List.length_map]
   have:=prt_len (ps:=ps.take m) (i:=p.1)
   rw [List.length_take] at this
   have:=ok.sm
   exact sz_lt (by omega)
  ·refine ⟨some (.val true (.int p.1)),some (.val true (.int p.2)),?_⟩
   have e:ps.take (m+1)=ps.take m++[(p.1,p.2)]:=by rw [List.take_add_one,hp]; rfl
   rw [set_pt (show p.1 < n by omega),e]
   rfl
 ·rintro β ⟨x4,x5,rfl⟩
  rw [List.length_map,List.take_length]
  exact ⟨_,rfl,q⟩
theorem sc_number_with:FnScope ["worth","table","i","k","j"] ["worth","table","i","k","j"] (defScope s_number_with):=⟨rfl,rfl,rfl,by decide +kernel,rfl,by decide +kernel,by decide +kernel⟩
theorem ok_numW {fdNw:Addr} {fddNw:FuncData} (dNw:Df K mg "number_with" s_number_with ["worth","table","i","k","j"] fdNw fddNw):FnOk P w K mg base CX0 1 fdNw fddNw ["worth","table","i","k","j"] (spQ P w true fNumW):=by
 refine okQ dNw.F sc_number_with (fun ds R ⟨n,ps,w,L,T,i,k,j,e,_⟩=>by subst e; rfl) fun cdv A outer s H E hr=>⟨_,(pbs_one (pb_ret (pq_op nok_NL op_dAddN (pq_op nok_NL op_dAddN (pq_ix nok_NF (ixd_m hr.units1) (pq_var (i:=0)) (pq_tup (pqa_cons (pq_var (i:=2)) (pqa_cons (pq_var (i:=3)) pqa_nil)))) (pq_ix nok_NF ix_m (pq_ix nok_NF ix_m (pq_var (i:=1)) (pq_op nok_NL op_dAddN (pq_var (i:=2)) pq_int)) (pq_op nok_NF (OpD.m op_dSub) (pq_op nok_NF (OpD.m op_dSub) (pq_var (i:=3)) (pq_var (i:=2))) pq_int))) (pq_ix nok_NF ix_m (pq_ix nok_NF ix_m (pq_var (i:=1)) (pq_op nok_NL op_dAddN (pq_var (i:=3)) pq_int)) (pq_op nok_NF (OpD.m op_dSub) (pq_op nok_NF (OpD.m op_dSub) (pq_var (i:=4)) (pq_var (i:=3))) pq_int))))),fun ds R h=>?_⟩
 obtain ⟨n,ps,w,L,T,i,k,j,rfl,hm,h1,h2,h3,h4,h5,q⟩:=h
 exact ⟨_,rfl,trivial,_,rfl,trivial,_,rfl,trivial,sz2,_,get_wD hm,trivial,_,rfl,trivial,_,rfl,trivial,_,rfl,_,ixTab (i:=i+1) (by omega) (by omega),.inr ⟨trivial,_,rfl,trivial,_,rfl,_,rfl,trivial,_,rfl,_,ixRow (l:=k - i - 1) (by omega) h4,_,rfl,trivial,
  _,rfl,trivial,_,rfl,trivial,_,rfl,_,ixTab (i:=k+1) (by omega) (by omega),.inr ⟨trivial,_,rfl,trivial,_,rfl,_,rfl,trivial,_,rfl,_,ixRow (l:=j - k - 1) (by omega) h5,_,rfl,trivial,q⟩⟩⟩
theorem sc_least_number:FnScope ["partners","worth","table","i","j","numbers"] ["partners","worth","table","i","j"] (defScope s_least_number):=⟨rfl,rfl,rfl,by decide +kernel,rfl,by decide +kernel,by decide +kernel⟩
theorem ok_least {fdLn:Addr} {fddLn:FuncData} (dLn:Df K mg "least_number" s_least_number ["partners","worth","table","i","j"] fdLn fddLn) {fdNw:Addr} {fddNw:FuncData} (dNw:Df K mg "number_with" s_number_with ["worth","table","i","k","j"] fdNw fddNw) (B:Bs3 mg):FnOk P w K mg base CX0 2 fdLn fddLn ["partners","worth","table","i","j"] (spQ P w true fLeast):=by
 have GNw:FnOk P w K mg base CX0 1 _ _ _ (spQ P w true fNumW):= ok_numW dNw
 refine okQ dLn.F sc_least_number (fun ds R ⟨n,ps,w,L,T,i,j,e,_⟩=>by subst e; rfl) fun cdv A outer s H E hr=>⟨_,(pbs_cons (sLcA (i:=5) false ["k","worth","table","i","j"] [none,some 1,some 2,some 3,some 4] (by rfl) (by decide:(["k","worth","table","i","j"]:List Str).Nodup) rfl (fun _=>(pqi_list (pq_ix nok_NF ix_m (pq_var (i:=0)) (pq_var (i:=3))))) (fun _ _ _ _ _ _=>(pbg_name (i:=0) (by decide:(["k","worth","table","i","j"]:List Str).Nodup))) (fun _ _ _ _ _ _=>(ts_one (pqt_cmp nok_NF (OpD.m op_dLt) (pq_var (i:=0)) (pq_var (i:=4))))) (fun _ _ _ _ _ _=>(pq_call fNumW.mono GNw (hr.mono (by decide)) dNw.m dNw.F.kp dNw.b (pqa_cons (pq_var (i:=1)) (pqa_cons (pq_var (i:=2)) (pqa_cons (pq_var (i:=3)) (pqa_cons (pq_var (i:=0)) (pqa_cons (pq_var (i:=4)) pqa_nil))))))) sc_least_number.nd)
    (pbs_one (pb_ret (pq_callB nok_NF (CallD.m (call_dMax rfl)) B.max bt_max (pqa_cons (pq_op nok_NL op_dAddN (pq_var (i:=5)) (pq_lst (pqa_cons (pq_ix nok_NF ix_m (pq_ix nok_NF ix_m (pq_var (i:=2)) (pq_op nok_NL op_dAddN (pq_var (i:=3)) pq_int)) (pq_op nok_NF (OpD.m op_dSub) (pq_op nok_NF (OpD.m op_dSub) (pq_var (i:=4)) (pq_var (i:=3))) pq_int)) pqa_nil))) pqa_nil))))),fun ds R h=>?_⟩
 obtain ⟨n,ps,w,L,T,i,j,rfl,ok,h1,h2,h3,q⟩:=h
 have hsm:=ok.sm
 have hle:=ok.le
 have hl:((prt ps i).filter fun k=>decide (k < j)).length≤400:=Nat.le_trans (List.length_filter_le _ _) (Nat.le_trans prt_len hsm)
 refine ⟨_,rfl,trivial,_,rfl,_,ixPt rfl (by omega),.inr ⟨_,rfl,trivial,?_⟩⟩
 refine loop1A (fun k=>decide (k < j)) (fun k=>.int (w (i,k)+T (k - i - 1) (i+1)+T (j - k - 1) (k+1))) trivial (sz_le (Nat.le_trans prt_len (by omega))) (fun k hk x0 o J ho j1 j2=>?_) ?_
 ·have hm:=mem_prt.mp hk
  obtain ⟨g1,g2⟩:=ok.lt _ hm
  dsimp only at g1 g2
  refine ⟨_,rfl,trivial,_,rfl,_,rfl,_,rfl,ifD (fun hkj=>?_) (fun hkj=>j2 (by simp; omega) _)⟩
  have hkj':k < j:=by omega
  have a1:=h3 (i+1) (by omega) (by omega)
  have a2:=h3 (k+1) (by omega) (by omega)
  exact ⟨_,rfl,trivial,_,rfl,trivial,_,rfl,trivial,_,rfl,trivial,_,rfl,trivial,n,ps,w,L,T,i,k,j,rfl,hm,g1,hkj',h2,by omega,by omega,trivial,ho,j1 (by simpa using hkj') _⟩
 ·have a1:=h3 (i+1) (by omega) (by omega)
  refine ⟨_,rfl,trivial,_,rfl,trivial,_,rfl,trivial,_,rfl,_,ixTab (i:=i+1) (by omega) (by omega),.inr ⟨trivial,_,rfl,trivial,_,rfl,_,rfl,trivial,_,rfl,_,ixRow (l:=j - i - 1) (by omega) (by omega),trivial,sz1,_,dAdd_lst (by rw [List.length_map]; show _+1≤_; omega),.inl ⟨flats_app flats_int rfl,trivial,_,max_ints,trivial,q⟩⟩⟩
theorem sc_greatest_table:FnScope ["row","worth","many","partners","table","i","j"] ["row","worth"] (defScope s_greatest_table):=⟨rfl,rfl,rfl,by decide +kernel,rfl,by decide +kernel,by decide +kernel⟩
theorem ok_great {fdGt:Addr} {fddGt:FuncData} (dGt:Df K mg "greatest_table" s_greatest_table ["row","worth"] fdGt fddGt) {fdPt:Addr} {fddPt:FuncData} (dPt:Df K mg "partners_of" s_partners_of ["row"] fdPt fddPt) {fdSt:Addr} {fddSt:FuncData} (dSt:Df K mg "stretches_rising" s_stretches_rising ["many"] fdSt fddSt) {fdLn:Addr} {fddLn:FuncData} (dLn:Df K mg "least_number" s_least_number ["partners","worth","table","i","j"] fdLn fddLn) {fdNw:Addr} {fddNw:FuncData} (dNw:Df K mg "number_with" s_number_with ["worth","table","i","k","j"] fdNw fddNw) (B:Bs3 mg):FnOk P w K mg base CX0 3 fdGt fddGt ["row","worth"] (spQ P w true fGreat):=by
 have GPt:FnOk P w K mg base CX0 1 _ _ _ (spQ P w true fPart):= ok_part dPt B
 have GSt:FnOk P w K mg base CX0 1 _ _ _ (spQ P w true fStr):= ok_strR dSt B
 have GLn:FnOk P w K mg base CX0 2 _ _ _ (spQ P w true fLeast):= ok_least dLn dNw B
 refine okQ dGt.F sc_greatest_table (fun ds R ⟨n,ps,w,e,_⟩=>by subst e; rfl) fun cdv A outer s H E hr=>⟨_,(pbs_cons (pb_set (i:=2) (pq_ix nok_NF ix_m (pq_var (i:=0)) pq_int) sc_greatest_table.nd)
    (pbs_cons (pb_set (i:=3) (pq_call fPart.mono GPt (hr.mono (by decide)) dPt.m dPt.F.kp dPt.b (pqa_cons (pq_var (i:=0)) pqa_nil)) sc_greatest_table.nd)
    (pbs_cons (sLcA (i:=4) true ["i"] [none] (by rfl) (by decide:(["i"]:List Str).Nodup) rfl (fun _=>(pqi_range1 B.range (pqa_cons (pq_op nok_NL op_dAddN (pq_var (i:=2)) pq_int) pqa_nil))) (fun _ _ _ _ _ _=>(pbg_name (i:=0) (by decide:(["i"]:List Str).Nodup))) (fun _ _ _ _ _ _=>ts_nil) (fun _ _ _ _ _ _=>(pq_lst (pqa_cons pq_int pqa_nil))) sc_greatest_table.nd)
    (pbs_cons (pb_for PassesOwn.never rfl (pqi_list (pq_call fStr.mono GSt (hr.mono (by decide)) dSt.m dSt.F.kp dSt.b (pqa_cons (pq_var (i:=2)) pqa_nil))) (pbg_tup (n:=2) rfl (pbgs_cons (pbg_name (i:=5) sc_greatest_table.nd) (pbgs_cons (pbg_name (i:=6) sc_greatest_table.nd) pbgs_nil))) (pbs_one (pb_appendAt (i:=4) true (fun _=>(pq_call fLeast.mono GLn (hr.mono (by decide)) dLn.m dLn.F.kp dLn.b (pqa_cons (pq_var (i:=3)) (pqa_cons (pq_var (i:=1)) (pqa_cons (pq_var (i:=4)) (pqa_cons (pq_var (i:=5)) (pqa_cons (pq_var (i:=6)) pqa_nil))))))) (fun _=>(pq_var (i:=5))))))
    (pbs_one (pb_retV (i:=4))))))),fun ds R h=>?_⟩
 obtain ⟨n,ps,w,rfl,ok,q⟩:=h
 have hn:=ok.le
 have hp:∀ p ∈ ps,p.1 < p.2:=fun p hp=>(ok.lt p hp).1
 refine ⟨_,rfl,trivial,_,rfl,_,rfl,trivial,n,ps,rfl,ok,_,rfl,trivial,_,rfl,trivial,(n:Int)+1,rfl,by omega,by omega,trivial,?_⟩
 rw [show ((n:Int)+1).toNat=n+1 by omega]
 refine loop1A (fun _=>true) (fun _=>.lst [.int 0]) trivial (by rw [List.length_range]; exact sz_le (by omega)) (fun x hx x0 o J ho h1 _=>⟨trivial,sz1,trivial,ho,h1 rfl _⟩) ?_
 rw [filter_true]
 refine ⟨_,rfl,trivial,n,rfl,hn,_,rfl,trivial,?_⟩
 refine ⟨fun idx β=>∃ L x5 x6,β=[some (.val false (rwD n ps)),some (.val false (wD ps w)),some (.val true (.int n)),some (.val true (ptD n ps)),some (.own (tabD n L (tW ps w))),x5,x6]∧DoneT n idx L,⟨fun _=>1,_,_,rfl,doneT_start⟩,?_,?_⟩
 ·rintro idx d β hd ⟨L,x5,x6,rfl,dn⟩
  rw [List.getElem?_map] at hd
  obtain ⟨p,hp',rfl⟩:=Option.map_eq_some_iff.mp hd
  obtain ⟨a,b,ha,hb,rfl,hL,hrest⟩:=doneT_step dn hp'
  have eL:tabD n L (tW ps w)=tabD n (lenT n a b) (tW ps w):=tab_congr hL
  have e0:lenT n a b (n - 1 - a)=b+1:=by unfold lenT; rw [if_neg (by omega),if_pos rfl]
  rw [eL]
  refine ⟨_,rfl,rfl,_,_,rfl,_,_,rfl,rfl,⟨_,rfl⟩,_,rfl,_,_,_,_,rfl,rfl,by rw [List.length_map,List.length_range]; exact ixNn rfl (show n - 1 - a < n+1 by omega),rng_get (show n - 1 - a < n+1 by omega),
   _,rfl,trivial,_,rfl,trivial,_,rfl,trivial,_,rfl,trivial,_,rfl,trivial,n,ps,w,lenT n a b,tW ps w,n - 1 - a,n - a+b,rfl,ok,by omega,by omega,fun a' h1 h2=>by unfold lenT; rw [if_pos h1]; exact Nat.le_refl _,trivial,rfl,?_,?_⟩
  ·rw [e0]
   unfold tRow
   rw [List.length_map,List.length_range]
   exact sz_lt (by omega)
  ·refine ⟨lenT n a (b+1),some (.val true (.int ((n - 1 - a:Nat):Int))),some (.val true (.int ((n - a+b:Nat):Int))),?_,.inr ⟨a,b+1,ha,by omega,fun _ _=>rfl,hrest⟩⟩
   have ev:lnum ps w (tW ps w) (n - 1 - a) (n - a+b)=tW ps w (b+1) (n - 1 - a):=by rw [tW_succ hp,show n - 1 - a+b+1=n - a+b by omega]
   rw [ev,e0,set_tab ha hb]
   rfl
 ·rintro β ⟨L,x5,x6,rfl,dn⟩
  rw [List.length_map] at dn
  have e:tabD n L (tW ps w)=fullT n (tW ps w):=tab_congr (doneT_end dn)
  rw [e]
  exact ⟨_,rfl,q⟩
theorem sc_one_each:FnScope ["row"] ["row"] (defScope s_one_each):=⟨rfl,rfl,rfl,by decide +kernel,rfl,by decide +kernel,by decide +kernel⟩
theorem ok_one {fdOe:Addr} {fddOe:FuncData} (dOe:Df K mg "one_each" s_one_each ["row"] fdOe fddOe):FnOk P w K mg base CX0 1 fdOe fddOe ["row"] (spQ P w true fOne):=by
 refine okQ dOe.F sc_one_each (fun ds R ⟨n,ps,e,_⟩=>by subst e; rfl) fun cdv A outer s H E hr=>⟨_,(pbs_one (pb_ret (dcA (Nat.lt_of_succ_lt hr.units1) ["tie"] [none] (by rfl) (by decide:(["tie"]:List Str).Nodup) rfl (pqi_list (pq_ix nok_NF ix_m (pq_var (i:=0)) pq_int)) (fun _ _ _ _ _ _=>(pbg_name (i:=0) (by decide:(["tie"]:List Str).Nodup))) (fun _ _ _ _ _ _=>ts_nil) (fun _ _ _ _ _ _=>(pq_var (i:=0))) (fun _ _ _ _ _ _=>pq_int)))),fun ds R h=>?_⟩
 obtain ⟨n,ps,rfl,ok,q⟩:=h
 have hsm:=ok.sm
 refine ⟨_,rfl,trivial,_,rfl,.inr ⟨_,rfl,trivial,?_⟩⟩
 refine ⟨fun m β o=>m≤ps.length∧(∃ x0,β=[x0])∧o=(ps.take m).map fun p=>(tI p,D.int (w1 p)),⟨Nat.zero_le _,⟨_,rfl⟩,rfl⟩,?_,?_⟩
 ·rintro m d β o hd ⟨hm,⟨x0,rfl⟩,rfl⟩
  rw [List.getElem?_map] at hd
  obtain ⟨p,hp,rfl⟩:=Option.map_eq_some_iff.mp hd
  have hlt:=(List.getElem?_eq_some_iff.mp hp).1
  refine ⟨_,rfl,tI p,rfl,rfl,none_wD (nd_take ok.nd hp),?_,hlt,⟨_,rfl⟩,?_⟩
  ·rw [List.length_map,List.length_take]
   exact sz_lt (by omega)
  ·rw [List.take_add_one,hp,List.map_append]
   rfl
 ·rintro β o ⟨_,⟨x0,rfl⟩,rfl⟩
  rw [List.length_map,List.take_length]
  exact ⟨trivial,trivial,q⟩
theorem sc_table_of:FnScope ["row"] ["row"] (defScope s_table_of):=⟨rfl,rfl,rfl,by decide +kernel,rfl,by decide +kernel,by decide +kernel⟩
theorem ok_table {fdTb:Addr} {fddTb:FuncData} (dTb:Df K mg "table_of" s_table_of ["row"] fdTb fddTb) {fdGt:Addr} {fddGt:FuncData} (dGt:Df K mg "greatest_table" s_greatest_table ["row","worth"] fdGt fddGt) {fdPt:Addr} {fddPt:FuncData} (dPt:Df K mg "partners_of" s_partners_of ["row"] fdPt fddPt) {fdSt:Addr} {fddSt:FuncData} (dSt:Df K mg "stretches_rising" s_stretches_rising ["many"] fdSt fddSt) {fdLn:Addr} {fddLn:FuncData} (dLn:Df K mg "least_number" s_least_number ["partners","worth","table","i","j"] fdLn fddLn) {fdNw:Addr} {fddNw:FuncData} (dNw:Df K mg "number_with" s_number_with ["worth","table","i","k","j"] fdNw fddNw) {fdOe:Addr} {fddOe:FuncData} (dOe:Df K mg "one_each" s_one_each ["row"] fdOe fddOe) (B:Bs3 mg):FnOk P w K mg base CX0 4 fdTb fddTb ["row"] (spQ P w true fTable):=by
 have GGt:FnOk P w K mg base CX0 3 _ _ _ (spQ P w true fGreat):= ok_great dGt dPt dSt dLn dNw B
 have GOe:FnOk P w K mg base CX0 1 _ _ _ (spQ P w true fOne):= ok_one dOe
 refine okQ dTb.F sc_table_of (fun ds R ⟨n,ps,e,_⟩=>by subst e; rfl) fun cdv A outer s H E hr=>⟨_,(pbs_one (pb_ret (pq_call fGreat.mono GGt (hr.mono (by decide)) dGt.m dGt.F.kp dGt.b (pqa_cons (pq_var (i:=0)) (pqa_cons (pq_call fOne.mono GOe (hr.mono (by decide)) dOe.m dOe.F.kp dOe.b (pqa_cons (pq_var (i:=0)) pqa_nil)) pqa_nil))))),fun ds R h=>?_⟩
 obtain ⟨n,ps,rfl,ok,q⟩:=h
 exact ⟨_,rfl,trivial,_,rfl,trivial,n,ps,rfl,ok,trivial,n,ps,w1,rfl,ok,trivial,q⟩
end
end K37
end

noncomputable section
set_option Elab.async false
set_option linter.all false
set_option maxRecDepth 100000
namespace L2
open PySem PySem.Spec PyProof.Rows
def compCxC (X:Cx) (x0:Str) (scope:Scope) (N':List Str) (cl:List (Str × Addr)) (C:Addr) (s:Shared) (H:Hp) (ex:List Addr):Cx :=
 { X with N:=N',s₀:=s,H₀:=H,env:=compEnvC scope ((x0,C+1)::cl) C X.env,outer:=X.stack,stack:=X.stack,ex:=ex,fn:=fun x=>x == x0,pn:=[],xe:=fun _ _=>False }
structure LinksC (X:Cx) (x0:Str) (scope:Scope) (N':List Str) (lk:List (Option Nat)):Prop where
 kind:scope.kind=.function
 one:scope.names.filter (fun x=>x.2 == NameKind.cell)=[(x0,.cell)]
 names:∀ x ∈ scope.names,x.2=.local→scope.names.lookup x.1=some .local
 free:∀ x,(x,NameKind.free) ∈ scope.names→x≠x0∧(X.env.kindOf x=some .cell∨X.env.kindOf x=some .free)
 len:lk.length=N'.length
 link:∀ (i j:Nat),lk[i]?=some (some j)→∃ x,N'[i]?=some x∧X.N[j]?=some x∧(x,NameKind.free) ∈ scope.names∧scope.names.lookup x=some .free
def linksC (outer:List (Str × NameKind)) (N:List Str) (x0:Str) (scope:Scope) (N':List Str) (lk:List (Option Nat)):Bool :=
 (scope.kind == .function) && (scope.names.filter (fun x=>x.2 == NameKind.cell) == [(x0,.cell)]) && scope.names.all (fun x=>(x.2 != .local || scope.names.lookup x.1 == some .local) && (x.2 != .free || x.1 != x0 && (outer.lookup x.1 == some .cell || outer.lookup x.1 == some .free))) &&
 lk.length == N'.length && (List.range lk.length).all fun i=>match lk[i]? with
  | some (some j)=>match N'[i]? with
   | some x=>N[j]? == some x && scope.names.contains (x,.free) && scope.names.lookup x == some .free
   | none=>false
  | _=>true
theorem LinksC.of {X:Cx} {x0:Str} {scope:Scope} {N':List Str} {lk:List (Option Nat)} (h:linksC X.env.scope.names X.N x0 scope N' lk=true):LinksC X x0 scope N' lk:=by
 simp only [linksC,Bool.and_eq_true] at h
 obtain ⟨⟨⟨⟨h1,h0⟩,h2⟩,h3⟩,h4⟩:=h
 rw [List.all_eq_true] at h2 h4
 refine ⟨by simpa using h1,by simpa using h0,fun x hx hl=>?_,fun x hx=>?_,by simpa using h3,fun i j hij=>?_⟩
 ·have:=h2 x hx
  simp only [Bool.and_eq_true] at this
  have q:=this.1
  rw [hl] at q
  simpa using q
 ·have:=h2 _ hx
  simp only [Bool.and_eq_true] at this
  have q:=this.2
  simp only [Bool.or_eq_true,Bool.and_eq_true] at q
  rcases q with q | ⟨q1,q⟩
  ·simp at q
  ·refine ⟨by simpa using q1,?_⟩
   rcases q with q | q
   ·exact .inl (show X.env.scope.names.lookup x=some .cell by simpa using q)
   ·exact .inr (show X.env.scope.names.lookup x=some .free by simpa using q)
 ·have hi:i < lk.length:=(List.getElem?_eq_some_iff.mp hij).1
  have q:=h4 i (List.mem_range.mpr hi)
  rw [hij] at q
  simp only at q
  cases e:N'[i]? with
  | none=>rw [e] at q; simp at q
  | some x =>
   rw [e] at q
   simp only [Bool.and_eq_true] at q
   obtain ⟨⟨q1,q2⟩,q3⟩:=q
   exact ⟨x,rfl,by simpa using q1,by simpa using q2,by simpa using q3⟩
theorem lookup_mem_cf {env:Env} {k:NameKind} (hk:k=.cell∨k=.free):∀ {names:List (Str × NameKind)} {x:Str},
  (names.map fun (n,k)=>if (k == NameKind.free && env.scope.kind == .function && env.kindOf n == some .cell) then (n,NameKind.cell) else (n,k)).lookup x=some k→(x,NameKind.free) ∈ names∨(x,NameKind.cell) ∈ names
 | [],_,h=>by simp at h
 | (n,k')::r,x,h=>by
  have ih:=@lookup_mem_cf env k hk r x
  rw [List.map_cons] at h
  by_cases hc:(k' == NameKind.free && env.scope.kind == .function && env.kindOf n == some .cell)=true
  ·simp only [hc,if_true] at h
   rw [List.lookup_cons] at h
   cases q:x == n with
   | true =>
    rw [eq_of_beq q]
    simp only [Bool.and_eq_true] at hc
    have:k'=.free:=by simpa using hc.1.1
    rw [this]; simp
   | false =>
    rw [q] at h
    exact (ih h).imp (fun z=>List.mem_cons_of_mem _ z) fun z=>List.mem_cons_of_mem _ z
  ·simp only [hc] at h
   simp only [Bool.false_eq_true,if_false] at h
   rw [List.lookup_cons] at h
   cases q:x == n with
   | true =>
    rw [q] at h
    cases h
    rw [eq_of_beq q]
    rcases hk with rfl | rfl
    ·exact .inr (by simp)
    ·exact .inl (by simp)
   | false =>
    rw [q] at h
    exact (ih h).imp (fun z=>List.mem_cons_of_mem _ z) fun z=>List.mem_cons_of_mem _ z
theorem cells1 {x0:Str}:∀ {names:List (Str × NameKind)} {n:Nat} {cl:List (Str × Addr)} {h:Heap},names.filter (fun x=>x.2 == NameKind.cell)=[(x0,.cell)]→cellsFrom n names cl=(x0,n)::cl∧pushCells h names=h.push { cls:=.type "cell",data:=.cell none }
 | [],_,_,_,e=>by cases e
 | (y,k)::r,n,cl,h,e=>by
  have no:∀ {r:List (Str × NameKind)} {n:Nat} {cl:List (Str × Addr)} {h:Heap},r.filter (fun x=>x.2 == NameKind.cell)=[]→cellsFrom n r cl=cl∧pushCells h r=h:=fun {r}=>by
   induction r with
   | nil=>intro n cl h _; exact ⟨rfl,rfl⟩
   | cons p r ih =>
    intro n cl h e
    obtain ⟨y,k⟩:=p
    rw [List.filter_cons] at e
    by_cases hk:(k == NameKind.cell)=true
    ·rw [if_pos hk] at e; cases e
    ·rw [if_neg hk] at e
     unfold cellsFrom pushCells
     rw [if_neg hk,if_neg hk]
     exact ih e
  rw [List.filter_cons] at e
  unfold cellsFrom pushCells
  by_cases hk:(k == NameKind.cell)=true
  ·rw [if_pos hk] at e
   rw [if_pos hk,if_pos hk]
   injection e with e1 e2
   injection e1 with e1 _
   subst e1
   exact no e2
  ·rw [if_neg hk] at e
   rw [if_neg hk,if_neg hk]
   exact cells1 e
section
variable {X:Cx} {x0:Str} {scope:Scope} {N':List Str} {lk:List (Option Nat)} {cl:List (Str × Addr)} {pins:List (Addr × Obj)} {σ:St} {H:Hp} {s:Shared} {ex:List Addr}
theorem inv_compC {h':Heap} {t':Nat} (I:Inv X pins σ H s) (L:LinksC X x0 scope N' lk) (hex:∀ b ∈ ex,FpOk X pins H b) (hob:∀ b ∈ ex,∃ o,s.heap.get? b=some o)
  (hc1:∀ x,(x,NameKind.free) ∈ scope.names→∃ c,cl.lookup x=some c) (hc2:∀ x c,cl.lookup x=some c→X.env.cells.lookup x=some c)
  (hn:h'.Ns s.heap.objs.size (fun _=>none)) (hk:∀ b o,s.heap.get? b=some o→h'.get? b=some o) (h0:h'.IsCell (s.heap.objs.size+1) none) :
  Inv (compCxC X x0 scope N' cl s.heap.objs.size s H ex) [] (inSt lk σ) H { s with heap:=h',toks:=t' }:=by
 obtain ⟨m,hm,hl⟩:=I.loc
 have exl:∀ b ∈ ex,b < s.heap.objs.size:=fun b hb=>by
  obtain ⟨o,e⟩:=hob b hb
  exact Heap.lt_size e
 have two:∀ x c,(((x0,s.heap.objs.size+1)::cl).lookup x=some c)→(x=x0∧c=s.heap.objs.size+1)∨(x≠x0∧X.env.cells.lookup x=some c):=fun x c e=>by
  rw [List.lookup_cons] at e
  cases q:x == x0 with
  | true=>rw [q] at e; cases e; exact .inl ⟨eq_of_beq q,rfl⟩
  | false=>rw [q] at e; exact .inr ⟨fun z=>by rw [z] at q; simp at q,hc2 _ _ e⟩
 have old:∀ x c,X.env.cells.lookup x=some c→c < s.heap.objs.size:=fun x c e=>by
  obtain ⟨v,o,ho,_⟩:=I.cell x c e
  exact Heap.lt_size ho
 have skip:∀ x c,x≠x0→cl.lookup x=some c→((x0,s.heap.objs.size+1)::cl).lookup x=some c:=fun x c n e=>by
  rw [List.lookup_cons]
  have:(x == x0)=false:=beq_eq_false_iff_ne.mpr n
  rw [this]
  exact e
 refine ⟨⟨I.ok.mod,L.kind,I.ok.glob,I.ok.blt,Nat.le_refl _,fun x y c h1 h2=>?_,fun x hx=>?_,fun x c z e=>?_,I.ok.hd,I.ok.frames,.inl rfl,
  fun b hb=>⟨Nat.ne_of_lt (exl b hb),fun x c e=>?_⟩,I.bs,Nat.le_trans I.ok.bsz I.sz,fun b o e z=>?_,fun b hb z=>?_,I.stack,I.stkFree⟩,
  rfl,I.bare,Un.kept hk,⟨_,hn,fun i x v h1 h2 h3=>?_⟩,fun x c e=>?_,I.hok.fresh (Nat.le_refl _),fun x c e=>?_,fun p hp=>absurd (show p ∈ ([]:List (Addr × Obj)) from hp) (by simp),I.hok.kept hk,?_⟩
 ·rcases two x c h1 with ⟨rfl,e1⟩ | ⟨n1,e1⟩ <;> rcases two y c h2 with ⟨rfl,e2⟩ | ⟨n2,e2⟩
  ·rfl
  ·exact absurd (show s.heap.objs.size+1 < s.heap.objs.size from e1 ▸ old _ _ e2) (Nat.not_lt.mpr (Nat.le_succ _))
  ·exact absurd (show s.heap.objs.size+1 < s.heap.objs.size from e2 ▸ old _ _ e1) (Nat.not_lt.mpr (Nat.le_succ _))
  ·exact I.ok.inj x y c e1 e2
 ·have hx':(relabel scope X.env).names.lookup x=some .cell∨(relabel scope X.env).names.lookup x=some .free:=hx
  have key:(x,NameKind.free) ∈ scope.names∨(x,NameKind.cell) ∈ scope.names:=hx'.elim (fun q=>lookup_mem_cf (.inl rfl) q) fun q=>lookup_mem_cf (.inr rfl) q
  rcases key with q | q
  ·obtain ⟨c,hc⟩:=hc1 x q
   exact ⟨c,skip x c (L.free x q).1 hc⟩
  ·have:(x,NameKind.cell) ∈ scope.names.filter (fun x=>x.2 == NameKind.cell):=List.mem_filter.mpr ⟨q,rfl⟩
   rw [L.one] at this
   have e:=congrArg Prod.fst (List.mem_singleton.mp this)
   exact ⟨s.heap.objs.size+1,by show ((x0,_)::cl).lookup x=_; rw [show x=x0 from e,List.lookup_cons]; simp⟩
 ·rcases two x c e with ⟨_,e1⟩ | ⟨n1,_⟩
  ·show s.heap.objs.size≤c; omega
  ·exact absurd (eq_of_beq z) n1
 ·rcases two x c e with ⟨_,e1⟩ | ⟨_,e1⟩
  ·intro q; exact absurd (show s.heap.objs.size+1 < s.heap.objs.size from (e1 ▸ q:s.heap.objs.size+1=b) ▸ exl b hb) (Nat.not_lt.mpr (Nat.le_succ _))
  ·exact (hex b hb).2.2.2.2.1 x c e1
 ·obtain ⟨f0,f1,f2,f3,_⟩:=hex b z
  rcases f3 with q | q
  ·exact I.ok.noex b o e q
  ·have h1:=Heap.lt_size e
   have h2:=I.ok.bsz
   exact absurd (Nat.lt_of_lt_of_le h1 (Nat.le_trans h2 q)) (Nat.lt_irrefl _)
 ·obtain ⟨f0,f1,f2,f3,_⟩:=hex b hb
  rcases List.mem_cons.mp (I.stkSub b z) with q | q
  ·exact f1 q
  ·exact f2 q
 ·have hi:∃ j,lk[i]?=some (some j)∧σ[j]?=some (some v):=by
   have h2':(inSt lk σ)[i]?=some (some v):=h2
   unfold inSt at h2'
   rw [List.getElem?_map] at h2'
   cases e:lk[i]? with
   | none=>rw [e] at h2'; cases h2'
   | some l =>
    cases l with
    | none=>rw [e] at h2'; cases h2'
    | some j =>
     rw [e] at h2'
     cases e2:σ[j]? with
     | none=>simp [e2] at h2'
     | some w' =>
      simp only [Option.map_some,e2,Option.some.injEq] at h2'
      subst h2'
      exact ⟨j,rfl,e2⟩
  obtain ⟨j,hj,hσ⟩:=hi
  obtain ⟨y,e1,e2,e3,e4⟩:=L.link i j hj
  have exy:x=y:=by
   have h1':N'[i]?=some x:=h1
   rw [e1] at h1'; exact (Option.some.inj h1').symm
  subst exy
  have hvis:Vis X.env.scope x:=by
   rcases (L.free x e3).2 with q | q
   ·exact .inr (.inl q)
   ·exact .inr (.inr q)
  obtain ⟨u,ru,lu⟩:=hl j x v e2 hσ hvis
  refine ⟨u,ru,.inr ⟨?_,?_⟩⟩
  ·exact lookup_relabel_free e4
  ·rcases lu with ⟨k,_⟩ | ⟨_,c,hc,z⟩
   ·rcases (L.free x e3).2 with q | q <;> (rw [k] at q; cases q)
   ·obtain ⟨c',hc'⟩:=hc1 x e3
    have:=hc2 x c' hc'
    rw [hc] at this
    cases this
    obtain ⟨o,ho,hd⟩:=z
    exact ⟨c,skip x c (L.free x e3).1 hc',o,hk _ _ ho,hd⟩
 ·rcases two x c e with ⟨_,e1⟩ | ⟨_,e1⟩
  ·exact ⟨none,by rw [e1]; exact h0⟩
  ·obtain ⟨v,o,ho,hd⟩:=I.cell x c e1
   exact ⟨v,o,hk _ _ ho,hd⟩
 ·rcases two x c e with ⟨_,e1⟩ | ⟨_,e1⟩
  ·rw [e1]; exact I.hok.fresh (by omega)
  ·exact I.freeC x c e1
 ·show (inSt lk σ).length=N'.length
  unfold inSt
  rw [List.length_map,L.len]
theorem inv_backC {s':Shared} {σ':St} {H':Hp} {pl:List (Addr × Obj)} {h'':Heap} (I:Inv X pins σ H s) (hex:∀ b ∈ ex,FpOk X pins H b)
  (J:Inv (compCxC X x0 scope N' cl s.heap.objs.size s H ex) pl σ' H' s') (hs:Heap.SameBut s.heap.objs.size s'.heap h''):Inv X pins σ H' { s' with heap:=h'' }:=by
 have hC:H' s.heap.objs.size=none:=J.free
 have u:=J.base
 refine I.call' (ch:=ex) (s':={ s' with heap:=h'' }) J.os ?_ ?_ J.bare (fun b hb=>?_)
 ·have kk:∀ b o,b≠s.heap.objs.size→s'.heap.get? b=some o→h''.get? b=some o:=fun b o hb e=>(hs.2 b hb).trans e
  have ne:∀ b o,s.heap.get? b=some o→b≠s.heap.objs.size:=fun b o e=>Nat.ne_of_lt (Heap.lt_size e)
  refine ⟨fun b o e n hb hx=>kk b _ (ne b o e) (u.keep b o e n hb hx),fun b o e n hb hx=>?_,u.free,fun b o e hx=>?_,u.tups,u.frzs,u.tbls⟩
  ·obtain ⟨sl,q⟩:=u.slot b o e n hb hx
   exact ⟨sl,kk b _ (ne b o e) q⟩
  ·obtain ⟨o',q⟩:=u.there b o e hx
   exact ⟨o',kk b _ (ne b o e) q⟩
 ·intro b o e
  have hb:b≠s.heap.objs.size:=fun z=>by rw [z] at e; rw [hC] at e; cases e
  refine (J.hok b o e).stay (fun c v hc q=>(hs.2 c ?_).trans q) (fun _ q=>q) fun _ _ q=>q
  rcases hc with z | z
  ·rw [z]; exact hb
  ·intro z'; rw [z'] at z; rw [hC] at z; cases z
 ·obtain ⟨f0,f1,f2,f3,f4,f5⟩:=hex b hb
  exact ⟨f3,f1,f4,f5⟩
end
section
variable {X:Cx} {x0:Str} {e:Expr} {g:Comprehension} {gs:List Comprehension} {scope:Scope} {N':List Str} {lk:List (Option Nat)} {tg:Addr→TG} {tt:Addr→TT} {wi:TI}
theorem comp_blockC {newAcc:Sem Value} {o:HO} {after:Value→Env→Sem Fin→Sem Fin} {ta:Addr→TAft} (L:LinksC X x0 scope N' lk) (hc:X.calm=true) (hA:NewAcc X newAcc o)
  (F:∀ acc env,CForm e 0 g acc env (after acc env))
  (hin:∀ a cl C s H ex,PG (compCxC X x0 scope N' cl C s H ex) g.target (tg a)∧PTs (compCxC X x0 scope N' cl C s H ex) g.ifs (tt a)∧PAft (compCxC X x0 scope N' cl C s H ex) (after (.ref a) (compCxC X x0 scope N' cl C s H ex).env) (ta a))
  {cl:List (Str × Addr)} (hc1:∀ x,(x,NameKind.free) ∈ scope.names→∃ c,cl.lookup x=some c) (hc2:∀ x c,cl.lookup x=some c→X.env.cells.lookup x=some c)
  {pins:List (Addr × Obj)} {σ:St} {s:Shared} {Q:V→Hp→Prop} {itv:Value} {E:Value→Shared→Prop} {RR:Value→Addr→Result→Shared→Prop}
  (h:PIE X pins σ g.target (fun J H1=>∀ a,H1 a=none→tLoop J (tg a) (tt a) (ta a) (fun _ H'=>Q (.ref a) H') (inSt lk σ) (upd H1 a o)) itv s)
  (hR:∀ a H' C s',Inv X pins σ H' s'→FpOk X pins H' C→(∃ m,s'.heap.Ns C m)→Q (.ref a) H'→RR (.ref a) C (.ok .next) s') :
  wpAny (model X.prog X.w) X.A newAcc (fun acc s₃=>wpAny (model X.prog X.w) X.A (newFunctionEnv scope X.env.globals cl [] X.env.qual none .none (some X.env)) (fun cenv s₄ =>
   codeAny (model X.prog X.w) X.A (.compStart e 0 itv acc { cenv with scope:=relabel scope X.env }) (RR acc cenv.locals) s₄) E s₃) E s:=by
 obtain ⟨it,fp,tn,J,H2,e1,I2,T,st2,f2,hl⟩:=h
 subst e1
 refine hA.ok pins s σ H2 _ E I2 fun a s3 ha hn hk I3=>?_
 simp only [newFunctionEnv,Option.isSome_some,if_true]
 refine wpAny_bind (wpAny_alloc ?_)
 refine wpAny_bind (wpAny_layCells _ (fun name kind cells=>by cases hkc:kind == NameKind.cell <;> simp [hkc]) _ _ _ _ ?_)
 obtain ⟨c1,c2⟩:=cells1 (n:=s3.heap.objs.size+1) (cl:=cl) (h:=s3.heap.push { cls:=.type "dict",data:=.dict #[] }) L.one
 have hsz:(s3.heap.push { cls:=.type "dict",data:=.dict #[] }).objs.size=s3.heap.objs.size+1:=Heap.size_push ..
 dsimp only
 rw [hsz,c1,c2]
 refine wpAny_bind ?_
 rw [List.forIn_nil]
 refine wpAny_pure (wpAny_pure ?_)
 generalize hh1:(s3.heap.push { cls:=.type "dict",data:=.dict #[] }).push { cls:=.type "cell",data:=.cell none }=h₁
 have hob:∀ b ∈ fp,∃ o,s3.heap.get? b=some o:=fun b hb=>by
  obtain ⟨ob,q,_⟩:=T.obj _ _ st2 b hb
  exact ⟨ob,hk b ob q⟩
 have hba:∀ b ∈ fp,b≠a:=fun b hb=>by
  obtain ⟨ob,q,_⟩:=T.obj _ _ st2 b hb
  exact Nat.ne_of_lt (Nat.lt_of_lt_of_le (Heap.lt_size q) ha)
 have f3:∀ b ∈ fp,FpOk X pins (upd H2 a o) b:=fun b hb=>⟨by rw [upd_ne (hba b hb)]; exact (f2 b hb).1,(f2 b hb).2⟩
 have hk1:∀ b ob,s3.heap.get? b=some ob→h₁.get? b=some ob:=fun b ob q=>by rw [← hh1]; exact Heap.get?_push_of_some _ (Heap.get?_push_of_some _ q)
 have hns:h₁.Ns s3.heap.objs.size (fun _=>none):=by rw [← hh1]; exact (Heap.Ns.new s3.heap (.type "dict")).keeps fun b ob q=>Heap.get?_push_of_some _ q
 have hcell:h₁.IsCell (s3.heap.objs.size+1) none:=by rw [← hh1,← hsz]; exact ⟨_,Heap.get?_push_size _ rfl,rfl⟩
 have I4:=inv_compC (t':=s3.toks) I3 L f3 hob hc1 hc2 hns hk1 hcell
 obtain ⟨g1,g2,g3⟩:=hin a cl s3.heap.objs.size s3 (upd H2 a o) fp
 have f4:∀ b ∈ fp,FpOk (compCxC X x0 scope N' cl s3.heap.objs.size s3 (upd H2 a o) fp) [] (upd H2 a o) b:=fun b hb =>
  ⟨(f3 b hb).1,(I4.ok.exf b hb).1,I4.ok.exfs b hb,.inl hb,(I4.ok.exf b hb).2,fun p hp=>absurd (show p ∈ ([]:List (Addr × Obj)) from hp) (by simp)⟩
 have st4:tn 0 h₁:=T.keep 0 _ _ st2 fun b hb ob q=>hk1 b ob (hk b ob q)
 refine codeAny_mono (comp_start (X:=compCxC X x0 scope N' cl s3.heap.objs.size s3 (upd H2 a o) fp) rfl hc (F (.ref a) _) g1 g2 g3 T I4 st4 f4 (hl a hn)) fun r s' hr=>?_
 obtain ⟨rfl,σ',H',J',q⟩:=hr
 have I5:Inv X pins σ H' s':=inv_backC (h'':=s'.heap) I3 f3 J' (.refl ..)
 refine hR a H' s3.heap.objs.size s' I5 (I3.fpOk (Nat.le_refl _) J'.free) ?_ q
 obtain ⟨m,hm,_⟩:=J'.loc
 exact ⟨m,hm⟩
theorem ps_compC {newAcc:Sem Value} {o:HO} {after:Value→Env→Sem Fin→Sem Fin} {ta:Addr→TAft} {pos pos' spos:Pos} {y:Str} {i:Nat} (L:LinksC X x0 scope N' lk) (hc:X.calm=true) (hA:NewAcc X newAcc o)
  (hsw:swapsWith e (some (.Name y pos')) spos.line X.env=pure true)
  (hev:evalThenUse e X.env (assign (.Name y pos') X.env)=(do let _ ← comprehension e scope X.env pos newAcc false (eval g.iter X.env) (some (assign (.Name y pos') X.env)); pure ())) (hcl:clausesOf e=g::gs)
  (hN:X.N.Nodup) (hy:X.N[i]?=some y) (hx:Loc X.env.scope y) (hf:X.fn y=true∨X.env.scope.names.lookup y=some .local)
  (F:∀ acc env,CForm e 0 g acc env (after acc env)) (hi:PI X g.target g.iter wi)
  (hin:∀ a cl C s H ex,PG (compCxC X x0 scope N' cl C s H ex) g.target (tg a)∧PTs (compCxC X x0 scope N' cl C s H ex) g.ifs (tt a)∧PAft (compCxC X x0 scope N' cl C s H ex) (after (.ref a) (compCxC X x0 scope N' cl C s H ex).env) (ta a))
  (hs:∀ x,foldedSetIterable g.iter X.env x=pure x) :
  PS X (.Assign [.Name y pos'] e spos) (fun D σ H=>wi σ H fun J H1=>∀ a,H1 a=none→tLoop J (tg a) (tt a) (ta a) (fun _ H'=>D.nx (σ.set i (some (.ref a))) H') (inSt lk σ) (upd H1 a o)):=by
 intro pins s σ H D I h
 rw [exec_Assign_Name_used _ _ _ _ hsw,hev]
 refine wpAny_bind (wpAny_standAt (wpAny_bind (wpAny_bind ?_)))
 obtain ⟨cl,hclos,hc1,hc2⟩:=closureFor_of (env:=X.env) (scope:=scope) fun x hx=>I.ok.has x (L.free x hx).2
 refine thn (wpAny_comprehension_free (use:=some (assign (.Name y pos') X.env)) (Q:=fun _ s'=>SP X pins D .next s') hcl hs hclos L.kind L.names (thn (hi pins s σ H _ I h) fun v s1 h1=>thn h1 fun itv s2 h2=>?_)) fun _ s' q=>wpAny_pure (wpAny_pure q)
 refine comp_blockC (Q:=fun v H'=>D.nx (σ.set i (some v)) H') (RR:=fun acc C=>compPost (model X.prog X.w) X.A X.xe (some (assign (.Name y pos') X.env)) (fun _ s'=>SP X pins D .next s') acc C) L hc hA F hin hc1 hc2 h2 fun a H' C s' I' f hm q=>?_
 obtain ⟨m,hm⟩:=hm
 show wpAny _ _ (assign (.Name y pos') X.env (.ref a)) _ _ s'
 have hCL:∃ o,s'.heap.get? C=some o:=by obtain ⟨o,_,_,ho,_⟩:=hm; exact ⟨o,ho⟩
 refine wpAny_assign_Name (store_ok2 I' hN hy hx (v:=.ref a) (u:=.ref a) rfl (fun s4 I4 k4=>?_) hf)
 obtain ⟨a4,sb4,ha4⟩:=k4
 have hne:C≠a4:=by
  rcases ha4 with z | z
  ·rw [z]; exact f.2.1
  ·exact (f.2.2.2.2.1 y a4 z).symm
 exact ⟨m,hm.at' (fun o e=>(sb4.2 C hne).trans e),fun h' hsb=>⟨_,H',I4.sameBut f hsb,q⟩⟩
end
end L2
namespace L2.Q
open PySem PySem.Spec PySem.SeqAt PyProof.Rows
def qCompN (lk:List (Option Nat)) (ι:PhiQI) (γ:GamQ) (τ:PhiQB) (φ:PhiQ):PhiQ:=fun β R=>ι β fun ds k β1=>hold k false∧loopN γ τ (emitQ φ) ds k (inBet lk β1) [] fun βf o=>hndOk (inBet lk β1) βf∧R (.lst o) .own β1
section
variable {X:Cx} {C:Cfg} {γ:GamQ} {τ:PhiQB} {φ:PhiQ} {T:List Nat} {scope:Scope} {tg it1 elt:Expr} {ifs:List Expr} {ι:PhiQI} {pi:Bool} {pos pos' spos:Pos} {y:Str} {i:Nat}
theorem linksC_inj {x0:Str} {N':List Str} {lk:List (Option Nat)} (L:LinksC X x0 scope N' lk) (hN:N'.Nodup):∀ (i i' j:Nat),lk[i]?=some (some j)→lk[i']?=some (some j)→i=i':=fun i i' j h1 h2=>by
 obtain ⟨x,a1,a2,_⟩:=L.link i j h1
 obtain ⟨y,b1,b2,_⟩:=L.link i' j h2
 rw [a2] at b2
 cases b2
 exact (List.getElem?_inj (List.getElem?_eq_some_iff.mp a1).1 hN).mp (a1.trans b1.symm)
theorem sLcC (x0:Str) (o:Bool) (N':List Str) (lk:List (Option Nat)) (L:linksC X.env.scope.names X.N x0 scope N' lk=true) (hN':N'.Nodup) (hc:X.calm=true) (hi:∀ U,PQI X (C.u U) pi tg it1 ι)
  (htg:∀ U cl c s H ex,PBG (compCxC X x0 scope N' cl c s H ex) (C.u U) tg T γ) (hts:∀ U cl c s H ex,PQTs (compCxC X x0 scope N' cl c s H ex) (C.u U) true ifs τ)
  (hel:∀ U cl c s H ex,PQ (compCxC X x0 scope N' cl c s H ex) (C.u U) true elt φ)
  (hN:X.N.Nodup) (hT:T.all (fun i=>match lk[i]? with | some (some _)=>false | _=>true)=true:=by rfl) (hy:X.N[i]?=some y:=by rfl) (hx:Loc X.env.scope y:=by first | exact .inl rfl | exact .inr rfl) (hf:X.fn y=true∨X.env.scope.names.lookup y=some .local:=by first | exact .inl rfl | exact .inr rfl | assumption)
  (hsw:swapsWith (.ListComp elt [⟨tg,it1,ifs,0⟩] scope pos) (some (.Name y pos')) spos.line X.env=pure true:=by rfl)
  (hev:evalThenUse (.ListComp elt [⟨tg,it1,ifs,0⟩] scope pos) X.env (assign (.Name y pos') X.env)=(do let _ ← comprehension (.ListComp elt [⟨tg,it1,ifs,0⟩] scope pos) scope X.env (firstIterPos [⟨tg,it1,ifs,0⟩] pos) (newList []) false (eval it1 X.env) (some (assign (.Name y pos') X.env)); pure ()):=by first | rfl | exact arm_evalThenUse_ListComp ..)
  (hs:∀ x,foldedSetIterable it1 X.env x=pure x:=by intro _; rfl) :
  PB X C (.Assign [.Name y pos'] (.ListComp elt [⟨tg,it1,ifs,0⟩] scope pos) spos) (fun E β=>qCompN lk ι γ τ φ β fun d _ β'=>E.nx (β'.set i (some (match o with | true=>.own d | false=>.val true d)))):=by
 have L:=LinksC.of L
 have hT':∀ i ∈ T,∀ j,lk[i]?≠some (some j):=fun i hi j e=>by
  have:=List.all_eq_true.mp hT i hi
  rw [e] at this
  cases this
 have γm:=(htg (fun _=>False) [] 0 X.s₀ X.H₀ []).mono
 have τm:=(hts (fun _=>False) [] 0 X.s₀ X.H₀ []).mono
 have φm:=(hel (fun _=>False) [] 0 X.s₀ X.H₀ []).mono
 refine ⟨fun E E' β l h=>(hi fun _=>False).mono β _ _ (fun ds kd β1 q=>⟨q.1,q.2.mono fun _ _ z=>⟨z.1,l.nx _ z.2⟩⟩) h,fun pins s σ H D I0 hh=>?_⟩
 obtain ⟨Z,E,β,⟨own,sq,n⟩,h,ok⟩:=hh
 refine ps_compC (g:=⟨tg,it1,ifs,0⟩) (gs:=[]) (tg:=fun a=>tgN X C a T γ) (tt:=fun a=>tQB X (C.u fun c=>c=a) true τ) (ta:=fun a=>taN X C a φ)
  L hc new_list hsw hev rfl hN hy hx hf (fun _ _=>cf_l1) (hi fun a=>H a=none).pi (fun a cl c s H ex=>⟨(htg _ cl c s H ex).pg,(hts _ cl c s H ex).pt,pa_emitL (X:=compCxC X x0 scope N' cl c s H ex) rfl (hel _ cl c s H ex).pe⟩) hs pins s σ H D I0 ?_
 refine ⟨β,own,sq.withU (C:=C.z) (U:=fun a=>H a=none) fun a z=>z,(hi fun _=>False).mono β _ _ (fun ds k β1 h J H1 own1 o1 it a ha=>?_) h⟩
 obtain ⟨hk,q⟩:=h
 refine sc_first (C:=C.u fun a=>H a=none) (T:=T) (acL_ok (P:=X.prog) (w:=X.w) (H1:=H1)) γm τm (fun j hj=>hj) (linksC_inj L hN') hT' o1.sq ha hk it ⟨[],[],upd_same,(show Owns _ _ _ [] [] [] from ⟨rfl,rfl⟩),List.nodup_nil,fun c hc=>(nomatch hc)⟩ (o1.sq.enter ha (linksC_inj L hN'))
  (fun Hb Wb βx ox σx Hx Nx h0 sx qx=>sc_emit h0 ha φm sx qx) q fun ol H' q o2 r=>?_
 have r':=(acL_kv o1.sq ha r).later o1.sn
 have sn2:=o1.sn.trans o2.sn
 have m:=n.trans sn2
 cases o with
 | false=>exact ok.nx _ _ _ ⟨_,(SQ'.noU o2.sq).setVal (RepD.anti (fun a z=>z.elim id fun z=>z.elim) (KV.rep r')),sn_frz m⟩ q
 | true =>
  obtain ⟨A,h1,h2,h3⟩:=r'
  refine ok.nx _ _ _ ⟨_,o2.sq.setOwn h1 h2 fun c hc=>⟨(h3 c hc).2.2,(h3 c hc).2.1,(h3 c hc).1⟩,?_⟩ q
  exact ⟨fun b hq=>by
   obtain ⟨j,hj⟩:=hq
   by_cases hij:i=j
   ·rw [← hij,os_eq] at hj
    exact .inr (n.free (h3 b hj).1)
   ·rw [os_ne hij] at hj
    exact m.w b ⟨j,hj⟩,m.k,m.d⟩
end
end L2.Q
end

noncomputable section
set_option Elab.async false
set_option linter.all false
set_option maxRecDepth 100000
namespace L2.Q
open PySem PySem.Spec PySem.SeqAt PyProof.Rows
section
variable {P:Program} {w:World} {C:Cfg} {σ:St} {H H':Hp} {β:Bet} {own:Nat→List Addr} {U:Addr→Prop} {a:Addr}
theorem SQ'.withU2 (b:SQ' P w C σ H β own):SQ' P w (C.u fun a=>C.U a∨H a=none) σ H β own :=
 ⟨b.len,fun i y d e=>by obtain ⟨v,h1,h2⟩:=b.val i y d e; exact ⟨v,h1,RepD.grow (fun a z=>z.elim (fun z=>.inl (.inl z)) fun z=>z.elim (fun z=>.inl (.inr z)) .inr) h2⟩,b.ow,b.hnd,fun i a h=>by obtain ⟨h1,h2,h3,h4⟩:=b.dm i a h; exact ⟨h1,h2,h3,fun z=>z.elim h4 h1⟩,b.dis,b.nod,b.kp,b.dmn,fun i y d e=>by obtain ⟨v,h1,h2,h3⟩:=b.shl i y d e; exact ⟨v,h1,h2.map (fun _ _ _ z=>z) (fun _ _ r=>RepDs.grow (fun a z=>z.elim (fun z=>.inl (.inl z)) fun z=>z.elim (fun z=>.inl (.inr z)) .inr) r),h3⟩⟩
theorem SQ'.dropU (b:SQ' P w (C.u U) σ H β own) (h:∀ a,C.U a→U a):SQ' P w C σ H β own :=
 ⟨b.len,fun i y d e=>by obtain ⟨v,h1,h2⟩:=b.val i y d e; exact ⟨v,h1,RepD.anti (fun a z=>z.imp id (h a)) h2⟩,b.ow,b.hnd,fun i a q=>by obtain ⟨h1,h2,h3,h4⟩:=b.dm i a q; exact ⟨h1,h2,h3,fun z=>h4 (h a z)⟩,b.dis,b.nod,b.kp,b.dmn,fun i y d e=>by obtain ⟨v,h1,h2,h3⟩:=b.shl i y d e; exact ⟨v,h1,h2.map (fun _ _ _ z=>z) (fun _ _ r=>RepDs.anti (fun a z=>z.imp id (h a)) r),h3⟩⟩
theorem SQ'.offU (b:SQ' P w (C.u U) σ H β own) (k:Kp (·=a) H H') (hu:U a) (h0:C.H0 a=none) (dn:∀ c,H c≠none→H' c≠none):SQ' P w (C.u U) σ H' β own:=by
 have na:∀ i,a ∉ own i:=fun i z=>(b.dm i a z).2.2.2 hu
 have kp:Kp C.IO C.H0 H':=⟨fun c o z n=>k.out c o (b.kp.out c o z n) fun q=>by rw [q] at z; exact absurd (z.symm.trans h0) (fun z=>(nomatch z)),fun c xs z=>k.tup c xs (b.kp.tup c xs z)⟩
 refine ⟨b.len,fun j y d e=>?_,fun j d e=>?_,fun j ok e=>?_,fun j c hc=>?_,b.dis,b.nod,kp,fun c z=>dn c (b.dmn c z),fun j y d e=>by
  obtain ⟨v,g1,g2,g3⟩:=b.shl j y d e
  exact ⟨v,g1,g2.map (fun c hc o eo=>k.out c o eo fun z=>na j (z ▸ hc)) (fun _ _ r=>r.keep (k.mono fun c z=>.inr (by rw [z]; exact hu))),g3⟩⟩
 ·obtain ⟨v,g1,g2⟩:=b.val j y d e
  exact ⟨v,g1,g2.keep (k.mono fun c z=>.inr (by rw [z]; exact hu))⟩
 ·obtain ⟨v,g1,g2,g3⟩:=b.ow j d e
  exact ⟨v,g1,g2.keep k.tup (fun c hc o eo=>k.out c o eo fun z=>na j (z ▸ hc)),g3⟩
 ·obtain ⟨h,ns,g1,g2,g3,g4,g5⟩:=b.hnd j ok e
  exact ⟨h,ns,g1,k.out h _ g2 (fun z=>na j (by rw [g4,← z]; simp)),g3,g4,g5⟩
 ·obtain ⟨g1,g2,g3,g4⟩:=b.dm j c hc
  have hca:c≠a:=fun z=>na j (z ▸ hc)
  cases q:H c with
  | none=>exact absurd q g1
  | some o=>rw [k.out c o q hca]; exact ⟨fun z=>(nomatch z),fun xs z=>g2 xs (by rw [q]; exact z),g3,g4⟩
end
theorem owns_intsE {P:Program} {w:World} {H:Hp}:∀ {ns:List Int} {vs:List V} {A:List Addr},Owns P w H (ns.map D.int) vs A→vs=ns.map V.int∧A=[]
 | [],_,_,h=>h
 | n::ns,_,_,h=>by
  obtain ⟨v,r,A1,A2,rfl,rfl,h1,h2⟩:=h
  obtain ⟨e1,e2⟩:=owns_intsE h2
  obtain ⟨e3,e4⟩:=h1
  rw [e1,e2,e3,e4]
  exact ⟨rfl,rfl⟩
section
variable {X:Cx} {C:Cfg} {k:Nat} {f:Addr} {fd:FuncData} {ps:List Str} {F:FD} {ro p:Bool} {x:Str} {pp pos:Pos} {e:Expr} {es:List Expr} {φ:PhiQ} {φs:PhiQS} {ok:List Int→Prop}
def qDrawE (ok:List Int→Prop) (ro:Bool) (F:FD) (φ:PhiQ) (φs:PhiQS):PhiQ:=fun β R=>φ β fun d kd β1=>∃ ns,d=.lst (ns.map D.int)∧kd=.own∧ok ns∧φs β1 fun ds _ β2=>D.flats ds=true∧F ds fun d=>R d (rk ro) β2
theorem pq_drawE (mF:Mono F) (G:FnOk X.prog X.w X.K X.mg X.base CX0 k f fd ps (spQH X.prog X.w ok ro F)) (hr:Room k X.A) (hm:X.mg x=some (.ref f)) (hk:PySem.W.keepIn X.K (.ref f)=true) (hb:Binds X.K fd ps []) (he:∀ U,PQ X (C.u U) p e φ) (ha:∀ U,PQA X (C.u U) true es φs) (hg:Gl X x:=by rfl) (hdb:(x == ("__debug__" : Str))=false:=by decide)
  (hsp:starEach (e::es) X.env=(false,eval e X.env)::starEach es X.env:=by rfl) (hpl:(backTo pos (starEach es X.env)).any (·.1)=false:=by rfl) :
  PQ X C false (.Call (.Name x pp) (e::es) [] pos) (qDrawE ok ro F φ φs):=by
 refine ⟨fun β R R' k h=>(he C.U).mono β _ _ (fun d kd β1 h=>by obtain ⟨ns,e1,e2,o,q⟩:=h; exact ⟨ns,e1,e2,o,(ha C.U).mono β1 _ _ (fun ds ks β2 h=>⟨h.1,mF ds _ _ (fun d q=>k _ _ _ q) h.2⟩) q⟩) h,fun pins s σ H Q I h=>?_⟩
 obtain ⟨β,own,sq,h⟩:=h
 refine pe_call G hr hg hm hk hb .nil pass0 (pa_cons (he fun a=>C.U a∨H a=none).pe (ha fun a=>C.U a∨H a=none).pa hsp) (hdb:=hdb) (he:=hsp) (hpl:=hpl) pins s σ H Q I ?_
 refine tQ.of (he fun a=>C.U a∨H a=none) sq.withU2 h fun d kd β1 v H1 own1 h o1 r1=>?_
 obtain ⟨ns,rfl,rfl,ho,h⟩:=h
 obtain ⟨A,r,nd,nw⟩:=r1
 obtain ⟨a,vs,A',rfl,ha1,eA,os⟩:=r
 obtain ⟨rfl,rfl⟩:=owns_intsE os
 obtain ⟨n1,n2,n3⟩:=nw a (by rw [eA]; simp)
 have n1:H a=none:=n1
 refine tQS.of (ha fun a=>C.U a∨H a=none) o1.sq h fun ds ks β2 us H2 own2 h o2 r2=>?_
 obtain ⟨fl,q⟩:=h
 obtain ⟨sm,rfl⟩:=o2.pu rfl
 rw [List.append_nil]
 refine ⟨a,us,ds,ns,rfl,sm _ _ ha1,ho,RepDs.flat fl r2.reps,mF ds _ _ (fun d q v H' ns' kp dn e' ok' rv=>?_) q⟩
 have sq':=((o2.sq).offU kp (.inr n1) n3 dn).dropU fun c z=>.inl z
 have sn1:=o1.sn.same sm
 refine q v H' own2 ⟨sq',⟨sn1.w,sn1.k.trans (kp.mono fun b z=>.inr (by rw [z]; exact n1)),fun b z=>dn b (sn1.d b z)⟩,fun z=>(nomatch z),o1.le⟩ (rv.kv o2.sq.dmW o2.sq.dmn fun b z e=>?_)
 exact sn1.d b z e
end
section
variable {X:Cx} {C:Cfg} {γ:GamQ} {τ:PhiQB} {φ:PhiQ} {T:List Nat} {scope:Scope} {tg it1 elt:Expr} {ifs:List Expr} {ι:PhiQI} {pos:Pos}
theorem lcT (N':List Str) (lk:List (Option Nat)) (L:linksB X.env.scope.names X.N scope N' lk=true) (hN':N'.Nodup) (hc:X.calm=true) (hi:PQI X C true tg it1 ι)
  (htg:∀ a cl c s H ex,PBG (compCx X scope N' cl c s H ex) (C.u fun c=>c=a) tg T γ) (hts:∀ a cl c s H ex,PQTs (compCx X scope N' cl c s H ex) (C.u fun c=>c=a) true ifs τ)
  (hel:∀ a cl c s H ex,PQ (compCx X scope N' cl c s H ex) (C.u fun c=>c=a) true elt φ) (hT:T.all (fun i=>match lk[i]? with | some (some _)=>false | _=>true)=true:=by rfl)
  (hs:∀ x,foldedSetIterable it1 X.env x=pure x:=by intro _; rfl):PQ X C true (.ListComp elt [⟨tg,it1,ifs,0⟩] scope pos) (qComp lk ι γ τ φ) :=
 pq_lc (pi:=true) (pc:=true) (pe:=true) (Links.of L) hN' hT hc hi htg (fun a cl c s H ex=>(hts a cl c s H ex).pt) (hts 0 [] 0 X.s₀ X.H₀ []).mono hel (htg 0 [] 0 X.s₀ X.H₀ []).mono (hel 0 [] 0 X.s₀ X.H₀ []).mono hs
end
end L2.Q
end

noncomputable section
set_option Elab.async false
set_option linter.all false
set_option maxRecDepth 100000
namespace L2.Q
open Mx
def natS:Sr Nat:=⟨0,1,(·+·),(· * ·)⟩
theorem natS_ok:natS.Ok:=⟨Nat.add_comm,Nat.add_assoc,Nat.zero_add,Nat.mul_comm,Nat.mul_assoc,Nat.one_mul,Nat.zero_mul,Nat.mul_add⟩
def tie1 (ps:List (Nat × Nat)) (a b:Nat):Nat:=if (a,b) ∈ ps then 1 else 0
def cW (ps:List (Nat × Nat)) (len i:Nat):Nat:=gA natS 0 (tie1 ps) len i
theorem cW_zero {ps:List (Nat × Nat)} {i:Nat}:cW ps 0 i=1:=rfl
theorem sumN_pos {f:Nat→Nat}:∀ {n:Nat},0 < sumR natS n f ↔ ∃ r,r < n∧0 < f r
 | 0=>⟨fun h=>absurd h (Nat.lt_irrefl 0),fun ⟨r,h,_⟩=>by omega⟩
 | n+1=>by
  show 0 < sumR natS n f+f n ↔ _
  have ih:=sumN_pos (f:=f) (n:=n)
  constructor
  ·intro h
   rcases Nat.eq_zero_or_pos (f n) with q | q
   ·obtain ⟨r,h1,h2⟩:=ih.mp (by omega)
    exact ⟨r,by omega,h2⟩
   ·exact ⟨n,by omega,q⟩
  ·rintro ⟨r,h1,h2⟩
   rcases Nat.lt_or_ge r n with q | q
   ·have:=ih.mpr ⟨r,q,h2⟩; omega
   ·rw [show r=n by omega] at h2; omega
theorem tie1_pos {ps:List (Nat × Nat)} {a b:Nat}:0 < tie1 ps a b ↔ (a,b) ∈ ps:=by
 unfold tie1
 split
 ·next h=>exact ⟨fun _=>h,fun _=>by decide⟩
 ·next h=>exact ⟨fun z=>absurd z (by decide),fun z=>absurd z h⟩
theorem mulpos {a b:Nat}:0 < a * b ↔ 0 < a∧0 < b:=by
 constructor
 ·intro h
  constructor
  ·rcases Nat.eq_zero_or_pos a with q | q
   ·rw [q,Nat.zero_mul] at h; omega
   ·exact q
  ·rcases Nat.eq_zero_or_pos b with q | q
   ·rw [q,Nat.mul_zero] at h; omega
   ·exact q
 ·exact fun h=>Nat.mul_pos h.1 h.2
theorem cW_first {ps:List (Nat × Nat)} {len i:Nat}:0 < cW ps (len+1) i ↔ ∃ r,r < len∧(i,i+1+r) ∈ ps∧0 < cW ps r (i+1)∧0 < cW ps (len - 1 - r) (i+r+2):=by
 have e:∀ l j,cW ps l j=fA natS 0 (tie1 ps) l j:=fun l j=>(fA_gA natS_ok l j).symm
 rw [e,fA_succ]
 show 0 < 0 * _+sumR natS len _ ↔ _
 rw [Nat.zero_mul,Nat.zero_add,sumN_pos]
 refine exists_congr fun r=>and_congr_right fun _=>?_
 show 0 < tie1 ps i (i+1+r) * (fA natS 0 (tie1 ps) r (i+1) * fA natS 0 (tie1 ps) (len - 1 - r) (i+r+2)) ↔ _
 rw [mulpos,mulpos,tie1_pos,e,e]
theorem maxI_spec {l:List Int} {x:Int}:(maxI (l++[x])).getD 0 ∈ l++[x]∧∀ y ∈ l++[x],y≤(maxI (l++[x])).getD 0:=by
 cases l with
 | nil=>exact foldl_max_spec [] x
 | cons a l=>exact foldl_max_spec (l++[x]) a
theorem lnum_spec {ps:List (Nat × Nat)} {w:Nat × Nat→Int} {T:Nat→Nat→Int} {i j:Nat} :
  (lnum ps w T i j=T (j - i - 1) (i+1)∨∃ k,(i,k) ∈ ps∧k < j∧lnum ps w T i j=w (i,k)+T (k - i - 1) (i+1)+T (j - k - 1) (k+1)) ∧
  T (j - i - 1) (i+1)≤lnum ps w T i j∧∀ k,(i,k) ∈ ps→k < j→w (i,k)+T (k - i - 1) (i+1)+T (j - k - 1) (k+1)≤lnum ps w T i j:=by
 obtain ⟨h1,h2⟩:=maxI_spec (l:=((prt ps i).filter fun k=>decide (k < j)).map fun k=>w (i,k)+T (k - i - 1) (i+1)+T (j - k - 1) (k+1)) (x:=T (j - i - 1) (i+1))
 refine ⟨?_,h2 _ (by simp),fun k hk hj=>h2 _ (List.mem_append_left _ (List.mem_map.mpr ⟨k,List.mem_filter.mpr ⟨mem_prt.mpr hk,decide_eq_true hj⟩,rfl⟩))⟩
 rcases List.mem_append.mp h1 with h | h
 ·obtain ⟨k,hk,e⟩:=List.mem_map.mp h
  obtain ⟨q1,q2⟩:=List.mem_filter.mp hk
  exact .inr ⟨k,mem_prt.mp q1,of_decide_eq_true q2,e.symm⟩
 ·exact .inl (List.mem_singleton.mp h)
theorem tW_half {ps:List (Nat × Nat)} (hp:∀ p ∈ ps,p.1 < p.2):∀ len i,0≤tW ps w1 len i∧2 * tW ps w1 len i≤len∧(2 * tW ps w1 len i=len ↔ 0 < cW ps len i):=by
 intro len
 induction len using Nat.strongRecOn with
 | _ len ih =>
 intro i
 cases len with
 | zero=>exact ⟨Int.le_refl 0,Int.le_refl 0,fun _=>(by rw [cW_zero]; decide),fun _=>rfl⟩
 | succ l =>
  rw [tW_succ hp]
  obtain ⟨h1,h2,h3⟩:=lnum_spec (ps:=ps) (w:=w1) (T:=tW ps w1) (i:=i) (j:=i+l+1)
  rw [show i+l+1 - i - 1=l by omega] at h1 h2
  obtain ⟨b1,b2,b3⟩:=ih l (by omega) (i+1)
  have stp:∀ k,(i,k) ∈ ps→k < i+l+1→i < k∧k - i - 1 < l+1∧i+l+1 - k - 1 < l+1∧k=i+1+(k - i - 1)∧k+1=i+(k - i - 1)+2∧i+l+1 - k - 1=l - 1 - (k - i - 1)∧k - i - 1 < l:=fun k hk hj=>by
   have:=hp _ hk
   dsimp only at this
   omega
  refine ⟨by omega,?_,?_⟩
  ·rcases h1 with e | ⟨k,hk,hj,e⟩
   ·rw [e]; omega
   ·rw [e]
    obtain ⟨g1,g2,g3,_⟩:=stp k hk hj
    have a1:=(ih _ g2 (i+1)).2.1
    have a2:=(ih _ g3 (k+1)).2.1
    have w1e:w1 (i,k)=1:=rfl
    rw [w1e]
    omega
  ·rw [cW_first]
   constructor
   ·intro e
    rcases h1 with e1 | ⟨k,hk,hj,e1⟩
    ·rw [e1] at e; omega
    ·obtain ⟨g1,g2,g3,g4,g5,g6,g7⟩:=stp k hk hj
     have a1:=ih _ g2 (i+1)
     have a2:=ih _ g3 (k+1)
     rw [e1] at e
     have w1e:w1 (i,k)=1:=rfl
     rw [w1e] at e
     have k1:2 * tW ps w1 (k - i - 1) (i+1)=((k - i - 1:Nat):Int):=by omega
     have k2:2 * tW ps w1 (i+l+1 - k - 1) (k+1)=((i+l+1 - k - 1:Nat):Int):=by omega
     refine ⟨k - i - 1,g7,by rw [← g4]; exact hk,a1.2.2.mp k1,?_⟩
     rw [← g6,← g5]
     exact a2.2.2.mp k2
   ·rintro ⟨r,hr,hm,c1,c2⟩
    have a1:=ih r (by omega) (i+1)
    have a2:=ih (l - 1 - r) (by omega) (i+r+2)
    have k1:=a1.2.2.mpr c1
    have k2:=a2.2.2.mpr c2
    have le:=h3 (i+1+r) hm (by omega)
    rw [show i+1+r - i - 1=r by omega,show i+l+1 - (i+1+r) - 1=l - 1 - r by omega,show i+1+r+1=i+r+2 by omega] at le
    have w1e:w1 (i,i+1+r)=1:=rfl
    rw [w1e] at le
    have up:2 * lnum ps w1 (tW ps w1) i (i+l+1)≤((l+1:Nat):Int):=by
     rcases h1 with e | ⟨k,hk,hj,e⟩
     ·rw [e]; omega
     ·rw [e]
      obtain ⟨g1,g2,g3,_⟩:=stp k hk hj
      have a1:=(ih _ g2 (i+1)).2.1
      have a2:=(ih _ g3 (k+1)).2.1
      have w1e:w1 (i,k)=1:=rfl
      rw [w1e]
      omega
    omega
theorem cW_last {ps:List (Nat × Nat)} {len i:Nat}:cW ps (len+1) i=sumR natS len fun r=>tie1 ps (i+r) (i+len) * (cW ps r i * cW ps (len - 1 - r) (i+r+1)):=by
 show gA natS 0 (tie1 ps) (len+1) i=_
 rw [gA_succ]
 show 0 * _+_=_
 rw [Nat.zero_mul,Nat.zero_add]
 rfl
end L2.Q
end

noncomputable section
set_option Elab.async false
set_option linter.all false
set_option maxRecDepth 100000
namespace L2.Q
open PySem PySem.Spec PySem.SeqAt PyProof.Rows Mx
theorem flats_ts {ps:List (Nat × Nat)}:D.flats (ps.map fun p=>kD (tI p))=true:=by
 have:=flats_kD (ps.map tI)
 rw [List.map_map] at this
 exact this
def fCopy:FD:=fun ds R=>∃ n ps,ds=[rwD n ps]∧R (rwD n ps)
theorem fCopy.mono:Mono fCopy:=fun ds R R' k h=>by obtain ⟨n,ps,e,q⟩:=h; exact ⟨n,ps,e,k _ q⟩
def near (ps:List (Nat × Nat)) (b:Nat):List Nat:=(ps.filter fun p=>decide (p.2=b)).map (·.1)
def CtsOk (n:Nat) (ps:List (Nat × Nat)) (kvs:List (List Int × D)):Prop:=∀ i j,i≤j→j≤n→valA kvs (tI (i,j))=some (.int (cW ps (j - i) i:Int))
def fWholes:FD:=fun ds R=>∃ (n:Nat) (ps:List (Nat × Nat)),ds=[.int n,tsD ps]∧OkR n ps∧n≤40∧∀ kvs,CtsOk n ps kvs→R (dA kvs)
theorem fWholes.mono:Mono fWholes:=fun ds R R' k h=>by obtain ⟨n,ps,e,o,l,q⟩:=h; exact ⟨n,ps,e,o,l,fun kvs z=>k _ (q kvs z)⟩
def fIsW:FD:=fun ds R=>∃ (n:Nat) (T:Nat→Nat→Int) (i j:Nat),ds=[fullT n T,.int i,.int j]∧i≤j∧j≤n∧R (.bl (decide (2 * T (j - i) i=((j - i:Nat):Int))))
theorem fIsW.mono:Mono fIsW:=fun ds R R' k h=>by obtain ⟨n,T,i,j,e,h1,h2,q⟩:=h; exact ⟨n,T,i,j,e,h1,h2,k _ q⟩
def wT (ps:List (Nat × Nat)) (len i:Nat):Bool:=decide (0 < cW ps len i)
theorem near_ints {ps:List (Nat × Nat)} {b:Nat}:intsD (near ps b)=(ps.filter fun p=>decide (p.2=b)).map fun p=>D.int (p.1:Int):=by
 unfold intsD near
 rw [List.map_map]
 rfl
theorem mem_near {ps:List (Nat × Nat)} {a b:Nat}:a ∈ near ps b ↔ (a,b) ∈ ps:=by
 unfold near
 rw [List.mem_map]
 constructor
 ·rintro ⟨p,hp,rfl⟩
  obtain ⟨h1,h2⟩:=List.mem_filter.mp hp
  rw [← of_decide_eq_true h2]
  exact h1
 ·intro h
  exact ⟨(a,b),List.mem_filter.mpr ⟨h,by simp⟩,rfl⟩
theorem near_nd {ps:List (Nat × Nat)} {b:Nat} (h:ps.Nodup):(near ps b).Nodup:=by
 unfold near
 refine List.pairwise_map.mpr ((h.filter _).imp_of_mem fun {p q} hp hq n e=>n ?_)
 have h1:=of_decide_eq_true (List.mem_filter.mp hp).2
 have h2:=of_decide_eq_true (List.mem_filter.mp hq).2
 exact Prod.ext e (h1.trans h2.symm)
theorem near_len {ps:List (Nat × Nat)} {b:Nat}:(near ps b).length≤ps.length:=by
 unfold near
 rw [List.length_map]
 exact List.length_filter_le _ _
theorem sum_one {f:Nat→Nat} {p:Nat→Bool} {x:Nat} (hx:p x=false):∀ {l:List Nat},l.Nodup→((l.filter fun a=>p a || decide (a=x)).map f).sum=((l.filter p).map f).sum+if x ∈ l then f x else 0
 | [],_=>by simp
 | a::l,h=>by
  obtain ⟨h1,h2⟩:=List.nodup_cons.mp h
  have ih:=sum_one (f:=f) hx h2
  by_cases e:a=x
  ·subst e
   rw [List.filter_cons,if_pos (by simp),List.filter_cons,if_neg (by rw [hx]; simp),List.map_cons,List.sum_cons,ih,if_neg h1,if_pos (by simp)]
   omega
  ·have e':(if x ∈ a::l then f x else 0)=if x ∈ l then f x else 0:=by
    by_cases q:x ∈ l
    ·rw [if_pos q,if_pos (by simp [q])]
    ·rw [if_neg q,if_neg (by simp [q]; exact fun z=>e z.symm)]
   rw [e',List.filter_cons,List.filter_cons]
   cases q:p a
   ·rw [if_neg (by simp [e]),if_neg (by simp)]; exact ih
   ·rw [if_pos (by simp),if_pos rfl,List.map_cons,List.sum_cons,List.map_cons,List.sum_cons,ih]; omega
theorem sum_range {f:Nat→Nat} {l:List Nat} (h:l.Nodup) {i:Nat}:∀ len:Nat,((l.filter fun a=>decide (i≤a) && decide (a < i+len)).map f).sum=Mx.sumR natS len fun r=>(if i+r ∈ l then 1 else 0) * f (i+r)
 | 0=>by
  have:(l.filter fun a=>decide (i≤a) && decide (a < i+0))=[]:=List.filter_eq_nil_iff.mpr fun a _=>by simp
  rw [this]
  rfl
 | len+1=>by
  have e:(fun a=>decide (i≤a) && decide (a < i+(len+1)))=fun a=>(decide (i≤a) && decide (a < i+len)) || decide (a=i+len):=by
   funext a
   rw [Bool.eq_iff_iff]
   simp
   omega
  rw [e,sum_one (by simp) h,sum_range h len]
  show _+_=_+(if i+len ∈ l then 1 else 0) * f (i+len)
  congr 1
  split
  ·rw [Nat.one_mul]
  ·rw [Nat.zero_mul]
theorem sum_cast {α:Type} {f:α→Nat}:∀ {l:List α},(l.map fun a=>((f a:Nat):Int)).sum=((l.map f).sum:Nat)
 | []=>rfl
 | a::l=>by rw [List.map_cons,List.sum_cons,List.map_cons,List.sum_cons,sum_cast]; omega
theorem cW_sum {ps:List (Nat × Nat)} (hp:∀ p ∈ ps,p.1 < p.2) (nd:ps.Nodup) {i j:Nat} (h:i < j):(((near ps (j - 1)).filter fun a=>decide (i≤a)).map fun a=>cW ps (a - i) i * cW ps (j - 1 - (a+1)) (a+1)).sum=cW ps (j - i) i:=by
 have e1:((near ps (j - 1)).filter fun a=>decide (i≤a))=(near ps (j - 1)).filter fun a=>decide (i≤a) && decide (a < i+(j - 1 - i)):=List.filter_congr fun a ha=>by
  have:=hp _ (mem_near.mp ha)
  dsimp only at this
  rw [Bool.eq_iff_iff]
  simp
  omega
 rw [e1,sum_range (near_nd nd),show j - i=(j - 1 - i)+1 by omega,cW_last]
 refine Mx.sumR_congr fun r hr=>?_
 unfold tie1
 rw [show i+(j - 1 - i)=j - 1 by omega,show i+r - i=r by omega,show j - 1 - (i+r+1)=j - 1 - i - 1 - r by omega]
 congr 1
 by_cases q:(i+r,j - 1) ∈ ps
 ·rw [if_pos q,if_pos (mem_near.mpr q)]
 ·rw [if_neg q,if_neg fun z=>q (mem_near.mp z)]
def fac:Nat→Nat
 | 0=>1
 | n+1=>(n+1) * fac n
theorem fac_mul (a:Nat):∀ b,fac a * fac b≤fac (a+b)
 | 0=>by show fac a * 1≤fac a; omega
 | b+1=>by
  show fac a * ((b+1) * fac b)≤(a+b+1) * fac (a+b)
  rw [Nat.mul_left_comm]
  exact Nat.mul_le_mul (by omega) (fac_mul a b)
theorem fac_mono {a b:Nat} (h:a≤b):fac a≤fac b:=by
 induction b with
 | zero=>rw [show a=0 by omega]; exact Nat.le_refl _
 | succ b ih =>
  rcases Nat.lt_or_ge b a with q | q
  ·rw [show a=b+1 by omega]; exact Nat.le_refl _
  ·exact Nat.le_trans (ih q) (Nat.le_mul_of_pos_left _ (by omega))
theorem sumN_le {f:Nat→Nat} {c:Nat}:∀ {n:Nat},(∀ r,r < n→f r≤c)→Mx.sumR natS n f≤n * c
 | 0,_=>Nat.zero_le _
 | n+1,h=>by
  show Mx.sumR natS n f+f n≤_
  have:=sumN_le (f:=f) (n:=n) fun r hr=>h r (by omega)
  have:=h n (by omega)
  rw [Nat.add_mul,Nat.one_mul]
  omega
theorem cW_le {ps:List (Nat × Nat)}:∀ len i,cW ps len i≤fac len:=by
 intro len
 induction len using Nat.strongRecOn with
 | _ len ih =>
 intro i
 cases len with
 | zero=>exact Nat.le_refl _
 | succ l =>
  rw [cW_last]
  refine Nat.le_trans (sumN_le (c:=fac (l - 1)) fun r hr=>?_) ?_
  ·have h1:=ih r (by omega) i
   have h2:=ih (l - 1 - r) (by omega) (i+r+1)
   have h3:=fac_mul r (l - 1 - r)
   rw [show r+(l - 1 - r)=l - 1 by omega] at h3
   have h4:tie1 ps (i+r) (i+l)≤1:=by unfold tie1; split <;> omega
   calc tie1 ps (i+r) (i+l) * (cW ps r i * cW ps (l - 1 - r) (i+r+1))≤1 * (fac r * fac (l - 1 - r)):=Nat.mul_le_mul h4 (Nat.mul_le_mul h1 h2)
    _≤fac (l - 1):=by rw [Nat.one_mul]; exact h3
  ·show l * fac (l - 1)≤(l+1) * fac l
   exact Nat.mul_le_mul (by omega) (fac_mono (by omega))
theorem cW_mul {ps:List (Nat × Nat)} {l m i j:Nat} (h:l+m≤40):CMul (cW ps l i:Int) (cW ps m j:Int):=by
 have big:∀ l i,l≤20→((cW ps l i:Nat):Int) < 2 ^ 64:=fun l i hl=>by
  have h1:=cW_le (ps:=ps) l i
  have h2:=fac_mono hl
  have h3:fac 20 < 2 ^ 64:=by decide
  omega
 rcases Nat.lt_or_ge 20 l with q | q
 ·exact .inr ⟨by omega,big m j (by omega)⟩
 ·exact .inl ⟨by omega,big l i q⟩
theorem dMul_c {a b:Int} (h:CMul a b):dMul (.int a) (.int b)=some (.int (a * b)):=by
 show (if CMul a b then _ else _)=_
 rw [if_pos h]
theorem sum_ints {α:Type} {f:α→Int} {l:List α}:dOfInts (fun ns=>some ns.sum) [.lst (l.map fun k=>D.int (f k))]=some (.int (l.map f).sum):=by
 have e:(l.map fun k=>D.int (f k))=(l.map f).map D.int:=by simp
 rw [e]
 exact dOfInts_of rfl
theorem valA_snoc {kvs:List (List Int × D)} {t u:List Int} {d:D} (h:valA kvs t=none):valA (kvs++[(t,d)]) u=if u=t then some d else valA kvs u:=by
 unfold valA at *
 rw [List.find?_append]
 by_cases e:u=t
 ·subst e
  rw [if_pos rfl,Option.map_eq_none_iff.mp h]
  simp
 ·rw [if_neg e]
  cases q:kvs.find? fun p=>decide (p.1=u) with
  | some p=>rfl
  | none=>simp [Ne.symm e]
def Dn (J m i j:Nat):Prop:=j < J∨(j=J∧J < i+m)
structure Kn (ps:List (Nat × Nat)) (kvs:List (List Int × D)) (J m:Nat):Prop where
 ge:∀ i j,i≤j→Dn J m i j→valA kvs (tI (i,j))=some (.int (cW ps (j - i) i:Int))
 no:∀ i j,i≤j→¬ Dn J m i j→valA kvs (tI (i,j))=none
 len:kvs.length≤J * 100+m
theorem kn_nil {ps:List (Nat × Nat)}:Kn ps [] 0 0:=⟨fun i j h d=>by unfold Dn at d; omega,fun _ _ _ _=>rfl,Nat.zero_le _⟩
theorem kn_add {ps:List (Nat × Nat)} {kvs:List (List Int × D)} {J m i:Nat} (k:Kn ps kvs J m) (h:i+m=J):valA kvs (tI (i,J))=none∧Kn ps (kvs++[(tI (i,J),.int (cW ps (J - i) i:Int))]) J (m+1):=by
 have hn:valA kvs (tI (i,J))=none:=k.no i J (by omega) (by unfold Dn; omega)
 refine ⟨hn,fun a b hab d=>?_,fun a b hab d=>?_,by rw [List.length_append]; have:=k.len; show _+1≤_; omega⟩
 ·rw [valA_snoc hn]
  by_cases e:tI (a,b)=tI (i,J)
  ·have e2:=tI_inj e
   injection e2 with e3 e4
   rw [if_pos e,e3,e4]
  ·rw [if_neg e]
   refine k.ge a b hab ?_
   unfold Dn at d ⊢
   have:¬ (a=i∧b=J):=fun z=>e (by rw [z.1,z.2])
   omega
 ·rw [valA_snoc hn,if_neg (fun e=>?_)]
  ·exact k.no a b hab (by unfold Dn at d ⊢; omega)
  ·have e2:=tI_inj e
   injection e2 with e3 e4
   unfold Dn at d
   omega
theorem kn_next {ps:List (Nat × Nat)} {kvs:List (List Int × D)} {J:Nat} (h:J≤90) (k:Kn ps kvs J (J+1)):Kn ps kvs (J+1) 0 :=
 ⟨fun i j hij d=>k.ge i j hij (by unfold Dn at d ⊢; omega),fun i j hij d=>k.no i j hij (by unfold Dn at d ⊢; omega),by have:=k.len; omega⟩
theorem kn_end {n:Nat} {ps:List (Nat × Nat)} {kvs:List (List Int × D)} (k:Kn ps kvs (n+1) 0):CtsOk n ps kvs:=fun i j h1 h2=>k.ge i j h1 (by unfold Dn; omega)
theorem get_at {kvs:List (List Int × D)} {x y:Int} {i j:Nat} {d:D} (hx:x=(i:Int)) (hy:y=(j:Int)) (h:valA kvs (tI (i,j))=some d):dGetT (dA kvs) (.tup [.int x,.int y])=some d:=by
 subst hx hy
 rw [← h]
 exact dGetT_A (t:=tI (i,j))
theorem wT_eq {ps:List (Nat × Nat)} (hp:∀ p ∈ ps,p.1 < p.2) (l i:Nat):decide (2 * tW ps w1 l i=(l:Int))=wT ps l i:=by
 unfold wT
 rw [decide_eq_decide]
 exact (tW_half hp l i).2.2
theorem small_rw (n:Nat) (ps:List (Nat × Nat)):(rwD n ps).pd.canLay0=true∧(rwD n ps).pd.depth≤4:=by
 have:=small_row (n:Int) (ps.map tI)
 unfold rowD at this
 rw [List.map_map] at this
 exact this
end L2.Q
end











noncomputable section
set_option Elab.async false
set_option linter.all false
set_option maxRecDepth 100000
namespace Mnt
open PySem PySem.Spec PyProof.Rows
def pickT:Option (Addr × List Int)→Addr × List Int→Option (Addr × List Int)
 | none,x=>some x
 | some m,x=>if HT.lexLt x.2 m.2=true then some x else some m
def arrT:Option (Addr × List Int)→Array Value
 | none=>#[]
 | some m=>#[.ref m.1,.ref m.1]
variable {prog:Program} {w:World} {A:Around} {R:Result→Shared→Prop} {I l S:Addr} {xs:List (Addr × List Int)}
end Mnt
namespace L2
open PySem PySem.Spec PySem.SeqAt PyProof.Rows
variable {X:Cx}
end L2
end

noncomputable section
set_option Elab.async false
set_option linter.all false
set_option maxRecDepth 100000
namespace L2.Q
open PySem PySem.Spec PySem.SeqAt PyProof.Rows
def flV:V→D
 | .non=>.non
 | .bl b=>.bl b
 | .int i=>.int i
 | .str x=>.str x
 | .ref a=>.obj a
 | _=>.non
def unS:D→List V→D
 | .lst _,vs=>.lst (vs.map flV)
 | .dT ks _,vs=>.dT ks (vs.map flV)
 | .dK ks _,vs=>.dK ks (vs.map flV)
 | d,_=>d
section
variable {P:Program} {w:World} {C:Cfg} {σ:St} {H:Hp} {β:Bet} {own:Nat→List Addr} {i:Nat}
theorem own_fl {W:Addr→Prop} {H':Hp} {d:D} {v:V} (r:RepD P w W H' d v):Own P w H (flV v) v []:=by
 cases d with
 | tup ds=>obtain ⟨a,vs,rfl,_⟩:=r; exact ⟨rfl,rfl⟩
 | lst ds=>obtain ⟨a,vs,rfl,_⟩:=r; exact ⟨rfl,rfl⟩
 | dT ks ds=>obtain ⟨a,vs,rfl,_⟩:=r; exact ⟨rfl,rfl⟩
 | dK ks ds=>obtain ⟨a,vs,rfl,_⟩:=r; exact ⟨rfl,rfl⟩
 | sT ts=>obtain ⟨a,rfl,_⟩:=r; exact ⟨rfl,rfl⟩
 | non=>cases (show v=_ from r); exact ⟨rfl,rfl⟩
 | bl b=>cases (show v=_ from r); exact ⟨rfl,rfl⟩
 | int b=>cases (show v=_ from r); exact ⟨rfl,rfl⟩
 | str b=>cases (show v=_ from r); exact ⟨rfl,rfl⟩
 | obj b=>cases (show v=_ from r); exact ⟨rfl,rfl⟩
theorem owns_fl {W:Addr→Prop} {H':Hp}:∀ {ds:List D} {vs:List V},RepDs P w W H' ds vs→Owns P w H (vs.map flV) vs []
 | [],_,e=>by cases e; exact ⟨rfl,rfl⟩
 | _::_,_,⟨v,vs,rfl,h1,h2⟩=>⟨v,vs,[],[],rfl,rfl,own_fl h1,owns_fl h2⟩
theorem own_unS {W:Addr→Prop} {H':Hp} {d:D} {o:HO} {vs:List V} {a:Addr} (r:RepDs P w W H' (shD d) vs) (sh:shO d o vs) (h:H a=some o):Own P w H (unS d vs) (.ref a) [a]:=by
 cases d with
 | lst ds=>cases sh; exact ⟨a,vs,[],rfl,h,rfl,owns_fl r⟩
 | dT ks ds=>obtain ⟨rfl,l⟩:=sh; exact ⟨a,vs,[],rfl,h,l,rfl,owns_fl r⟩
 | dK ks ds=>obtain ⟨rfl,l⟩:=sh; exact ⟨a,vs,[],rfl,h,l,rfl,owns_fl r⟩
 | _=>exact sh.elim
theorem sh_nt {d:D} {o:HO} {vs:List V} (sh:shO d o vs):∀ xs,o≠.tup xs:=fun xs z=>by
 cases d with
 | lst ds=>cases sh; cases z
 | dT ks ds=>obtain ⟨rfl,l⟩:=sh; cases z
 | dK ks ds=>obtain ⟨rfl,l⟩:=sh; cases z
 | _=>exact sh.elim
theorem SQ'.toShl {d0 d:D} {v:V} {y:Bool} (s:SQ' P w C σ H β own) (e:β[i]?=some (some (.own d0))) (hσ:σ[i]?=some (some v)) (r:Shl P w (av' C (Wn own) (yk y)) H d v (own i)):SQ' P w C σ H (β.set i (some (.shl y d))) own:=by
 refine ⟨by simp [s.len],fun j y' d' q=>?_,fun j d' q=>?_,fun j ok q=>?_,s.dm,s.dis,s.nod,s.kp,s.dmn,fun j y' d' q=>?_⟩
 ·by_cases hij:i=j
  ·subst hij; obtain ⟨e',_⟩:=set_eq q; cases e'
  ·rw [set_ne hij] at q; exact s.val j y' d' q
 ·by_cases hij:i=j
  ·subst hij; obtain ⟨e',_⟩:=set_eq q; cases e'
  ·rw [set_ne hij] at q; exact s.ow j d' q
 ·by_cases hij:i=j
  ·subst hij; obtain ⟨e',_⟩:=set_eq q; cases e'
  ·rw [set_ne hij] at q; exact s.hnd j ok q
 ·by_cases hij:i=j
  ·subst hij
   obtain ⟨e',_⟩:=set_eq q
   cases e'
   obtain ⟨_,_,_,h0⟩:=s.ow i d0 e
   exact ⟨v,hσ,r,h0⟩
  ·rw [set_ne hij] at q; exact s.shl j y' d' q
theorem SQ'.unShl {d:D} {y:Bool} (s:SQ' P w C σ H β own) (e:β[i]?=some (some (.shl y d))):∃ a o vs,σ[i]?=some (some (.ref a))∧own i=[a]∧H a=some o∧shO d o vs∧RepDs P w (av' C (Wn own) (yk y)) H (shD d) vs∧C.H0 a=none∧SQ' P w C σ H (β.set i (some (.own (unS d vs)))) own:=by
 obtain ⟨v,h1,⟨a,o,vs,rfl,h2,h3,h4,h5⟩,h6⟩:=s.shl i y d e
 refine ⟨a,o,vs,h1,h2,h3,h4,h5,h6 a (by rw [h2]; simp),by simp [s.len],fun j y' d' q=>?_,fun j d' q=>?_,fun j ok q=>?_,s.dm,s.dis,s.nod,s.kp,s.dmn,fun j y' d' q=>?_⟩
 ·by_cases hij:i=j
  ·subst hij; obtain ⟨e',_⟩:=set_eq q; cases e'
  ·rw [set_ne hij] at q; exact s.val j y' d' q
 ·by_cases hij:i=j
  ·subst hij
   obtain ⟨e',_⟩:=set_eq q
   cases e'
   exact ⟨.ref a,h1,by rw [h2]; exact own_unS h5 h4 h3,h6⟩
  ·rw [set_ne hij] at q; exact s.ow j d' q
 ·by_cases hij:i=j
  ·subst hij; obtain ⟨e',_⟩:=set_eq q; cases e'
  ·rw [set_ne hij] at q; exact s.hnd j ok q
 ·by_cases hij:i=j
  ·subst hij; obtain ⟨e',_⟩:=set_eq q; cases e'
  ·rw [set_ne hij] at q; exact s.shl j y' d' q
end
abbrev kYg (k:Kd) (d:D):Prop:=match k with
 | .own=>True
 | .yng=>True
 | _=>d.flat=true
theorem KV.yg {P:Program} {w:World} {C:Cfg} {Z:Hp × (Addr→Prop)} {own:Nat→List Addr} {H:Hp} {d:D} {v:V} {k:Kd} (f:kYg k d) (r:KV P w C Z own H k d v):RepD P w (av C (Wn own) .yng) H d v:=by
 cases k with
 | own=>exact r.yng
 | yng=>exact r
 | old=>exact RepD.flat f r
 | bor=>exact RepD.flat f r
theorem RepDs.snoc {P:Program} {w:World} {W:Addr→Prop} {H:Hp} {d:D} {v:V} (h:RepD P w W H d v):∀ {ds:List D} {vs:List V},RepDs P w W H ds vs→RepDs P w W H (ds++[d]) (vs++[v])
 | [],_,e=>by cases e; exact ⟨v,[],rfl,h,rfl⟩
 | _::_,_,⟨u,r,rfl,h1,h2⟩=>⟨u,r++[v],rfl,h1,RepDs.snoc h h2⟩
section
variable {X:Cx} {C:Cfg} {k e:Expr} {es:List Expr} {φ φk:PhiQ} {φs:PhiQS} {i:Nat} {x:Str} {pos pos' px pc ap cp:Pos} {p pk:Bool}
theorem sub_os {own:Nat→List Addr} {i:Nat} {a:Addr} (h:own i=[a]):∀ c,Wn (ownSet own i [a]) c→Wn own c:=fun c ⟨j,hj⟩=>by
 by_cases hij:i=j
 ·rw [← hij,os_eq] at hj; exact ⟨i,by rw [h]; exact hj⟩
 ·rw [os_ne hij] at hj; exact ⟨j,hj⟩
theorem SQ'.putS {P:Program} {w:World} {U:Addr→Prop} {σ:St} {H:Hp} {β:Bet} {own:Nat→List Addr} {d d':D} {a:Addr} {o:HO} {vs':List V} (b:SQ' P w (C.u U) σ H β own) (e:β[i]?=some (some (.shl true d))) (hσ:σ[i]?=some (some (.ref a)))
  (sh:shO d' o vs') (r:RepDs P w (av (C.u U) (Wn own) .yng) (upd H a o) (shD d') vs'):SQ' P w C.z σ (upd H a o) (β.set i (some (.shl true d'))) (ownSet own i [a])∧(∀ c ∈ [a],c ∈ own i∨(C.H0 c=none∧¬ Wn own c∧U c))∧Wn own a∧∃ oc,H a=some oc∧∀ xs,oc≠.tup xs:=by
 obtain ⟨a',o1,vs,h1,h2,h3,h4,h5,h6,s'⟩:=b.unShl e
 rw [hσ] at h1
 cases h1
 have hl:i < β.length:=(List.getElem?_eq_some_iff.mp e).1
 have ha:a ∈ own i:=by rw [h2]; simp
 have hA:∀ c ∈ [a],c ∈ own i∨(C.H0 c=none∧¬ Wn own c∧U c):=fun c hc=>.inl (by rw [h2]; exact hc)
 have q:=s'.putIn (get_set hl) hσ ha (own_unS r sh upd_same) (by simp) hA
 rw [List.set_set] at q
 have q2:=q.toShl (d:=d') (y:=true) (get_set (by simpa using hl)) hσ ⟨a,o,vs',rfl,by rw [os_eq],upd_same,sh,RepDs.anti (fun c z=>?_) r⟩
 ·rw [List.set_set] at q2
  exact ⟨q2,hA,⟨i,ha⟩,o1,h3,sh_nt h4⟩
 ·rcases z with z | z
  ·exact av_mono (C:=C) (sub_os h2) .yng c z
  ·exact z.elim
theorem kp_shl {H:Hp} {a:Addr} {o oc:HO} {W:Addr→Prop} (h:H a=some oc) (ht:∀ xs,oc≠.tup xs) (hw:W a):Kp W H (upd H a o):=(kp_upd h ht).mono fun c z=>by rw [z]; exact hw
end
end L2.Q
end

noncomputable section
set_option Elab.async false
set_option linter.all false
set_option maxRecDepth 100000
namespace L2.Q
open PySem PySem.Spec PySem.SeqAt PyProof.Rows
def loopF (τ:PhiQB) (T:Nat) (ds:List D) (β0:Bet) (K:List D→Prop):Prop:=∃ I:Nat→Bet→List D→Prop,I 0 β0 [] ∧
 (∀ i d β o,ds[i]?=some d→I i β o→τ (β.set T (some (.val true d))) fun t β2=>if t=true then o.length < sizeLine∧I (i+1) β2 (o++[d]) else I (i+1) β2 o)∧∀ β o,I ds.length β o→hndOk β0 β∧K o
theorem loopF.mono {τ:PhiQB} {T:Nat} {ds:List D} {β0:Bet} {K K':List D→Prop} (h:∀ o,K o→K' o) (q:loopF τ T ds β0 K):loopF τ T ds β0 K':=let ⟨I,h0,h1,h2⟩:=q; ⟨I,h0,h1,fun β o z=>⟨(h2 β o z).1,h _ (h2 β o z).2⟩⟩
section
variable {X:Cx} {C:Cfg} {lk:List (Option Nat)} {τ:PhiQB} {T:Nat}
theorem filt_core {σ:St} {H1:Hp} {β:Bet} {own:Nat→List Addr} {a:Addr} {J:It} {ds:List D} {K:List D→Prop} {End:Hp→Prop}
  (τm:∀ β R R',(∀ d β,R d β→R' d β)→τ β R→τ β R')
  (inj:∀ (i i' j:Nat),lk[i]?=some (some j)→lk[i']?=some (some j)→i=i') (hT:∀ j,lk[T]?≠some (some j)) (hTl:T < lk.length)
  (s1:SQ X C σ H1 β own) (ha:H1 a=none) (it:ItD X (av C (Wn own) .yng) J ds H1) (q:loopF τ T ds (inBet lk β) K)
  (fin:∀ o H',K o→Out X C σ H1 own true β H' own→KV X.prog X.w C (H1,Wn own) own H' .yng (.lst o) (.ref a)→End H') :
  tLoop J (gName T) (tQB X (C.u fun c=>c=a) true τ) (fun N σ H=>(∃ v,σ[T]?=some (some v)∧∃ xs,H a=some (.lst xs)∧xs.length < sizeLine∧N σ (upd H a (.lst (xs++[v])))))
   (fun _ H'=>End H') (inSt lk σ) (upd H1 a (.lst [])):=by
 obtain ⟨I,i0,i1,i2⟩:=q
 have h0:C.H0 a=none:=Decidable.by_contra fun z=>s1.dmn a z ha
 have sm:Same H1 (upd H1 a (.lst [])):=Same.new ha
 have nav:¬ av C (Wn own) .yng a:=fun z=>z.elim (fun z=>s1.dmW a z ha) fun z=>z h0
 let W:Addr→Prop:=fun b=>av C (Wn own) .yng b∨H1 b=none
 let S:Nat→St→Hp→Prop:=fun i σ' H'=>∃ βi owni vs o,SQ X (C.u fun c=>c=a) σ' H' βi owni∧(∀ c,Wn owni c→Wn (inOwn lk β own) c)∧H' a=some (.lst vs)∧RepDs X.prog X.w W H' o vs ∧
  Same H1 H'∧σ'.length=lk.length∧(∀ j,j≠T→σ'[j]?=(inSt lk σ)[j]?)∧I i βi o
 have itw:=it (fun b=>av C (Wn own) .yng b∨H1 b=none) fun b z=>z
 refine ⟨fun i m σ' H'=>i≤ds.length∧m=ds.length - i∧S i σ' H',⟨_,Nat.zero_le _,rfl,inBet lk β,inOwn lk β own,[],[],s1.enter ha inj,fun _ z=>z,upd_same,rfl,sm,by unfold inSt; simp,fun _ _=>rfl,i0⟩,?_⟩
 rintro i m σ2 H2 ⟨hi,rfl,βi,owni,vs,o,sq,le,hav,os,pu,hlen,st,hl⟩
 obtain ⟨it1,it2⟩:=itw i H2 (pu.kp.mono fun b z=>.inr z)
 by_cases hlt:i < ds.length
 ·right
  have hd:ds[i]?=some ds[i]:=List.getElem?_eq_getElem hlt
  obtain ⟨go,yl⟩:=it1 _ hd
  refine ⟨go,fun σ' H'=>S (i+1) σ' H',fun σ' H' h=>⟨_,by omega,hlt,rfl,h⟩,fun x H3 y=>?_⟩
  obtain ⟨s3,r3⟩:=yl x H3 y
  have r3':RepD X.prog X.w W H3 ds[i] x:=r3
  have sub:∀ c,av' (C.u fun c=>c=a) (Wn owni) .yng c→W c:=fun c z=>z.elim (fun z=>.inl (z.imp (fun z=>inOwn_le c (le c z)) id)) fun z=>.inr (by rw [z]; exact ha)
  have s4:=(sq.same s3).setVal (i:=T) (y:=true) (RepD.anti sub r3')
  have le4:∀ c,Wn (ownSet owni T []) c→Wn (inOwn lk β own) c:=fun c z=>le c (wn_set z)
  refine ⟨_,_,s4,τm _ _ _ (fun t β5 q H5 own5 o5=>?_) (i1 i _ βi o hd hl)⟩
  obtain ⟨s5,e5⟩:=o5.pu rfl
  have ee:Same H1 H5:=(pu.trans s3).trans s5
  have os5:RepDs X.prog X.w W H5 o vs:=(os.same s3).same s5
  have hav5:H5 a=some (.lst vs):=s5 _ _ (s3 _ _ hav)
  have le5:∀ c,Wn own5 c→Wn (inOwn lk β own) c:=fun c z=>le4 c (o5.le c z)
  have st5:∀ j,j≠T→(σ2.set T (some x))[j]?=(inSt lk σ)[j]?:=fun j hj=>(set_ne (Ne.symm hj)).trans (st j hj)
  cases t with
  | false=>exact ⟨β5,own5,vs,o,o5.sq,le5,hav5,os5,ee,by simpa using hlen,st5,q⟩
  | true =>
   obtain ⟨hz,q⟩:=q
   have kp:Kp W H5 (upd H5 a (.lst (vs++[x]))):=kp_shl hav5 (fun xs z=>by cases z) (.inr ha)
   refine ⟨x,get_set (by rw [hlen]; exact hTl),vs,hav5,by rw [os5.length]; exact hz,β5,own5,vs++[x],o++[ds[i]],o5.sq.setU hav5 (fun xs z=>by cases z) h0,le5,upd_same,RepDs.snoc ((r3'.same s5).keep kp) (os5.keep kp),fun b ob e=>?_,by simpa using hlen,st5,q⟩
   rw [upd_ne (fun z'=>by rw [z',ha] at e; cases e)]
   exact ee b ob e
 ·left
  have e:i=ds.length:=by omega
  subst e
  obtain ⟨hh,q⟩:=i2 βi o hl
  have sn:Sn (H1,Wn (inOwn lk β own)) H2 (Wn owni):=⟨fun b z=>.inl (le b z),pu.kp.mono fun b z=>.inr z,fun b z e=>z (pu.free e)⟩
  have lv:SQ X C σ H2 β own:=s1.leave sq sn le hh fun j ok i' e1 e2=>st i' fun z=>hT j (z ▸ e2)
  exact ⟨it2 (Nat.le_refl _),fin o H2 q ⟨lv,⟨fun b z=>.inl z,pu.kp.mono fun b z=>.inr z,fun b z e=>z (pu.free e)⟩,fun z=>⟨pu,rfl⟩,fun _ z=>z⟩ ⟨a,vs,rfl,hav,nav,RepDs.anti (fun c z=>.inl z) os⟩⟩
variable {scope:Scope} {N':List Str} {it1:Expr} {ifs:List Expr} {ι:PhiQI} {pos px py:Pos} {x:Str} {pi:Bool}
def qFilt (lk:List (Option Nat)) (ι:PhiQI) (τ:PhiQB) (T:Nat):PhiQ:=fun β R=>ι β fun ds k β1=>k=.yng∧loopF τ T ds (inBet lk β1) fun o=>R (.lst o) .yng β1
theorem lcF (T:Nat) (N':List Str) (lk:List (Option Nat)) (L:linksB X.env.scope.names X.N scope N' lk=true) (hN':N'.Nodup) (hc:X.calm=true) (hi:PQI X C pi (.Name x px) it1 ι)
  (hts:∀ U cl c s H ex,PQTs (compCx X scope N' cl c s H ex) (C.u U) true ifs τ) (hx:N'[T]?=some x:=by rfl) (hT:lk[T]?=some none:=by rfl)
  (hloc:∀ cl c s H ex,Loc (compCx X scope N' cl c s H ex).env.scope x:=by intro _ _ _ _ _; first | exact .inl rfl | exact .inr rfl)
  (hv:∀ cl c s H ex,Vis (compCx X scope N' cl c s H ex).env.scope x:=by intro _ _ _ _ _; first | exact .inl rfl | exact .inr (.inl rfl) | exact .inr (.inr rfl))
  (hf:∀ cl c s H ex,(compCx X scope N' cl c s H ex).fn x=true∨(compCx X scope N' cl c s H ex).env.scope.names.lookup x=some .local:=by intro _ _ _ _ _; first | exact .inl rfl | exact .inr rfl)
  (hd:(x == ("__debug__" : Str))=false:=by decide) (hcd:(x == ("__classdict__" : Str))=false:=by decide)
  (hs:∀ x,foldedSetIterable it1 X.env x=pure x:=by intro _; rfl):PQ X C pi (.ListComp (.Name x py) [⟨.Name x px,it1,ifs,0⟩] scope pos) (qFilt lk ι τ T):=by
 have L':=Links.of L
 refine ⟨fun β R R' k h=>hi.mono β _ _ (fun ds kd β1 q=>⟨q.1,q.2.mono fun o z=>k _ _ _ z⟩) h,?_⟩
 refine (pe_comp2 (g:=⟨.Name x px,it1,ifs,0⟩) (gs:=[]) (tg:=fun _=>gName T) (tt:=fun a=>tQB X (C.u fun c=>c=a) true τ) (ta:=fun a N σ H=>∃ v,σ[T]?=some (some v)∧∃ xs,H a=some (.lst xs)∧xs.length < sizeLine∧N σ (upd H a (.lst (xs++[v]))))
  L' hc new_list rfl rfl (fun _ _=>cf_l1) hi.pi (fun a cl c s H ex=>⟨pg_name hN' hx (hloc cl c s H ex) (hf cl c s H ex),(hts _ cl c s H ex).pt,pa_emitL rfl (pe_var hx (hv cl c s H ex) hd hcd)⟩) hs).pre fun σ H Q ⟨β,own,s,h⟩=>?_
 refine ⟨β,own,s,hi.mono β _ _ (fun ds k β1 ⟨hk,q⟩ J H1 own1 o1 it a ha=>?_) h⟩
 subst hk
 exact filt_core (hts (fun _=>False) [] 0 X.s₀ X.H₀ []).mono (links_inj L' hN') (fun j e=>by rw [hT] at e; cases e) (List.getElem?_eq_some_iff.mp hT).1 o1.sq ha it q fun o H' q o2 r=>q _ _ own1 (o1.tr2 o2 fun z=>⟨z,rfl⟩) (r.later o1.sn)
end
theorem loop1F {α:Type} {τ:PhiQB} {l:List α} {f:α→D} {cap:Bet} {K:List D→Prop} (t:α→Bool) (h0:hndOk cap cap) (hl:l.length≤sizeLine) (h:∀ x ∈ l,∀ R:Bool→Bet→Prop,R (t x) (some (.val true (f x))::cap)→τ (some (.val true (f x))::cap) R) (q:K ((l.filter t).map f)):loopF τ 0 (l.map f) (none::cap) K:=by
 refine ⟨fun i β o=>i≤l.length∧(∃ x0,β=x0::cap)∧o=((l.take i).filter t).map f,⟨Nat.zero_le _,⟨_,rfl⟩,rfl⟩,?_,?_⟩
 ·rintro i d β o hd ⟨hi,⟨x0,rfl⟩,rfl⟩
  rw [List.getElem?_map] at hd
  obtain ⟨x,hx,rfl⟩:=Option.map_eq_some_iff.mp hd
  have hil:=(List.getElem?_eq_some_iff.mp hx).1
  have hlen:(((l.take i).filter t).map f).length≤i:=by
   rw [List.length_map]
   exact Nat.le_trans (List.length_filter_le _ _) (by rw [List.length_take]; omega)
  have et:(l.take (i+1)).filter t=(l.take i).filter t++if t x=true then [x] else []:=by
   rw [List.take_add_one,hx,List.filter_append]
   cases ee:t x <;> simp [ee]
  refine h x (List.mem_of_getElem? hx) _ ?_
  cases e:t x with
  | true =>
   rw [if_pos rfl]
   exact ⟨by omega,by omega,⟨_,rfl⟩,by rw [et,e,if_pos rfl,List.map_append]; rfl⟩
  | false =>
   rw [if_neg (by simp)]
   exact ⟨by omega,⟨_,rfl⟩,by rw [et,e,if_neg (by simp),List.append_nil]⟩
 ·rintro β o ⟨_,⟨x0,rfl⟩,rfl⟩
  rw [List.length_map,List.take_length]
  exact ⟨h0,q⟩
end L2.Q
end

noncomputable section
set_option Elab.async false
set_option linter.all false
set_option maxRecDepth 100000
namespace Mnl
open PySem PySem.Spec PyProof.Rows Mnt
section
variable {A:Around} {s:Shared}
end
section
open PySem.SeqAt
open PySem.AutoSeq1 (wpAny_loadPart')
open PySem.MeetsSeq PySem.MeetsSeq2 PySem.MeetsSeq3
theorem lt_loop (l b:Addr) (items items2:Array Value) (n n2:Nat) (dd dd2:Option Addr) (sl sl2:Array (Option Value)) (x y:Value) (r:Bool) (h1:items[0]?=some x) (h2:items2[0]?=some y) :
  Meets (Builtin.«list.__eq__.loop» ⟨[.ref l,.ref b,rawInt 0,rawInt 0],[]⟩)
   (fun A R s=>s.heap.get? l=some { cls:=.type "list",dict:=dd,data:=.seq items n,slots:=sl }∧s.heap.get? b=some { cls:=.type "list",dict:=dd2,data:=.seq items2 n2,slots:=sl2 } ∧
    EqAt A.in1 s x y false∧(∀ (prog:Program) (w:World) (E:Value→Shared→Prop) (Q:Value→Shared→Prop),Q (.bool r) s→wpAny (model prog w) A.in1 (richCompare .Lt x y) Q E s)∧R (.ok (.ret (.bool r))) s):=by
 intro prog w A R s h
 obtain ⟨hp,g,d,tk,os⟩:=s; obtain ⟨hl,hb,he,hr,h⟩:=h
 wp_walk using wpAny_loadPart' hl,wpAny_loadPart' hb
 have hi1:items[(0:Int).toNat]?=some x:=h1
 have hi2:items2[(0:Int).toNat]?=some y:=h2
 rw [hi1,hi2]
 refine wpAny_bind (he prog w _ _ ?_)
 wp_walk using wpAny_loadPart' hl,wpAny_loadPart' hb
 rw [hi1,hi2]
 have hri:=hr prog w
 wp_walk using hri
 exact h
theorem list_lt_heads (l b:Addr) (items items2:Array Value) (n n2:Nat) (dd dd2:Option Addr) (sl sl2:Array (Option Value)) (x y:Value) (r:Bool) (h1:items[0]?=some x) (h2:items2[0]?=some y) :
  Meets (Builtin.«list.__lt__» ⟨[.ref l,.ref b],[]⟩)
   (fun A R s=>s.heap.get? l=some { cls:=.type "list",dict:=dd,data:=.seq items n,slots:=sl }∧s.heap.get? b=some { cls:=.type "list",dict:=dd2,data:=.seq items2 n2,slots:=sl2 } ∧
    EqAt A.in1 s x y false∧(∀ (prog:Program) (w:World) (E:Value→Shared→Prop) (Q:Value→Shared→Prop),Q (.bool r) s→wpAny (model prog w) A.in1 (richCompare .Lt x y) Q E s)∧R (.ok (.ret (.bool r))) s):=by
 intro prog w A R s h
 obtain ⟨hp,g,d,tk,os⟩:=s; obtain ⟨hl,hb,he,hr,h⟩:=h
 have f3:=AutoSeq1.sub_list_list
 wp_walk using wpAny_loadPart' hl,wpAny_loadPart' hb
 exact ⟨plainId_quiet plain_eq_loop _,codeAny_builtin entry_eq_loop (by
  rw [Around.under_plainId plain_eq_loop _]
  exact lt_loop l b items items2 n n2 dd dd2 sl sl2 x y r h1 h2 prog w A R _ ⟨hl,hb,he,hr,h⟩)⟩
end
variable {prog:Program} {w:World} {A:Around} {R:Result→Shared→Prop} {I l S:Addr} {xs:List (Addr × List Int)}
theorem loop (hh:A.handled=none) (nI:l≠I) (nS:S≠I) (nl:S≠l) (K:Heap→Prop) (kk:∀ h h',K h→(∀ b o,b≠I→b≠S→h.get? b=some o→h'.get? b=some o)→K h') (kc:∀ s,K s.heap→∀ (i j:Nat) (x m:Addr × List Int),xs[j]?=some x→xs[i]?=some m→i < j→∀ (Q E:Value→Shared→Prop),Q (.bool (HT.lexLt x.2 m.2)) s→wpAny (model prog w) A.in1 (richCompare .Lt (.ref x.1) (.ref m.1)) Q E s) :
  ∀ (r j:Nat) (s:Shared) (st:Option (Addr × List Int)) (c:Nat),xs.length=j+r→(j=0→r≠0)→(st=none→j=0)→(∀ m,st=some m→∃ i,i < j∧xs[i]?=some m)→K s.heap→s.heap.IsListIter I l j→s.heap.IsList l (xs.map fun x=>Value.ref x.1).toArray →
  s.heap.get? S=some { cls:=.type "list",dict:=none,data:=.seq (arrT st) c,slots:=#[] } →
  (∀ h' tk m,(∀ b o,b≠I→b≠S→s.heap.get? b=some o→h'.get? b=some o)→(xs.drop j).foldl pickT st=some m→R (.ok (.ret (.ref m.1))) { s with heap:=h',toks:=tk }) →
  codeAny (model prog w) A (.builtin "min.loop" ⟨[.ref I,.none,.ref S],[]⟩) R s:=by
 have W:=Walks.list (prog:=prog) (w:=w) (A:=A.in1) hh I l nI (xs.map fun x=>Value.ref x.1).toArray
 have nm:(toString "min" ++ toString ".loop" : String)="min.loop" := by decide
 intro r
 induction r with
 | zero =>
  intro j s st c e1 e0 es em eK e2 e3 e4 k
  have ej:j=(xs.map fun x=>Value.ref x.1).toArray.size:=by simp; lia
  rw [List.drop_of_length_le (by lia)] at k
  cases st with
  | none=>exact absurd rfl (e0 (es rfl))
  | some m =>
   refine codeAny_builtin PySem.F.entry_min_loop ?_
   rw [Around.under_plainId PySem.F.plain_min_loop _]
   show wpAny _ _ (seqItems? (.ref S) >>= _) _ _ s
   refine wpAny_bind (wpAny_seqItems e4 rfl ?_)
   show wpAny _ _ (tryCatch (pyNext (.ref I)) _ >>= _) _ _ s
   refine wpAny_bind (wpAny_tryCatch (W.done s _ _ (by rw [← ej]; exact ⟨e2,e3⟩) fun h' tk g=>?_))
   have g4:=g S _ (by simpa using nS) e4
   show wpAny _ _ (updateSeq S (fun _=>#[]) >>= _) _ _ _
   refine wpAny_bind (wpAny_updateSeq (hz:=by show (2:Nat)≤sizeLine; decide) g4 rfl (wpAny_bind (wpAny_letGo (wpAny_pure ?_))))
   exact k _ tk m (fun b o b1 b2 e=>(Heap.get?_update_other _ _ (Ne.symm b2)).trans (g b o (by simpa using b1) e)) rfl
 | succ r ih =>
  intro j s st c e1 e0 es em eK e2 e3 e4 k
  have hj:j < xs.length:=by lia
  have hd:xs.drop j=xs[j]::xs.drop (j+1):=List.drop_eq_getElem_cons hj
  rw [hd,List.foldl_cons] at k
  have hme:xs[j]?=some xs[j]:=List.getElem?_eq_getElem hj
  refine codeAny_builtin PySem.F.entry_min_loop ?_
  rw [Around.under_plainId PySem.F.plain_min_loop _]
  show wpAny _ _ (seqItems? (.ref S) >>= _) _ _ s
  refine wpAny_bind (wpAny_seqItems e4 rfl ?_)
  show wpAny _ _ (tryCatch (pyNext (.ref I)) _ >>= _) _ _ s
  refine wpAny_bind (wpAny_tryCatch (W.item j s _ _ (by simpa using hj) ⟨e2,e3⟩ fun v h' tk hv g2 g=>?_))
  have ev:v=.ref xs[j].1:=by
   rw [show (xs.map fun x=>Value.ref x.1).toArray[j]?=some (.ref xs[j].1) by simp [hj]] at hv
   exact (Option.some.inj hv).symm
  subst ev
  have g4:=g S _ (by simpa using nS) e4
  have gK:K h':=kk _ _ eK fun b o b1 b2 e=>g b o (by simpa using b1) e
  have on:∀ (f:Array Value→Array Value) (b:Addr) (ob:Obj),b≠S→h'.get? b=some ob→(h'.update S (Obj.mapSeq f)).get? b=some ob:=fun f b ob hb e=>(Heap.get?_update_other _ _ (Ne.symm hb)).trans e
  have onK:∀ (f:Array Value→Array Value),K (h'.update S (Obj.mapSeq f)):=fun f=>kk _ _ gK fun b o b1 b2 e=>on f b o b2 e
  cases st with
  | none =>
   show wpAny _ _ (updateSeq S (fun _=>#[.ref xs[j].1,.ref xs[j].1]) >>= _) _ _ _
   refine wpAny_bind (wpAny_updateSeq g4 rfl ?_)
   rw [nm]
   refine wpAny_pure ⟨plainId_quiet PySem.F.plain_min_loop _,ih (j+1) _ (some xs[j]) _ (by lia) (by lia) (fun z=>by cases z) (fun m z=>by cases z; exact ⟨j,Nat.lt_succ_self _,hme⟩) (onK _) (g2.1.at fun o e=>on _ _ o (Ne.symm nS) e) (g2.2.at fun o e=>on _ _ o (Ne.symm nl) e) (Heap.get?_update_self _ g4 rfl) fun h'' tk' m q f=>?_⟩
   exact k h'' tk' m (fun b o b1 b2 e=>q b o b1 b2 (on _ b o b2 (g b o (by simpa using b1) e))) f
  | some m =>
   obtain ⟨i',hi',hmi⟩:=em m rfl
   show wpAny _ _ (tryCatch (holding [.ref xs[j].1,.ref xs[j].1] (richCompare .Lt (.ref xs[j].1) (.ref m.1) >>= _)) _ >>= _) _ _ _
   refine wpAny_bind (wpAny_tryCatch (wpAny_holding (wpAny_bind (kc _ gK i' j _ _ hme hmi hi' _ _ ?_))))
   refine wpAny_bind (wpAny_holding (wpAny_truthy_bool (wpAny_bind (wpAny_letGo (wpAny_pure ?_)))))
   cases hb:HT.lexLt xs[j].2 m.2 with
   | true =>
    have ep:pickT (some m) xs[j]=some xs[j]:=if_pos hb
    rw [ep] at k
    simp only [if_true]
    refine wpAny_bind (wpAny_updateSeq (hz:=by show (2:Nat)≤sizeLine; decide) g4 rfl (wpAny_bind (wpAny_letGo ?_)))
    rw [nm]
    refine wpAny_pure ⟨plainId_quiet PySem.F.plain_min_loop _,ih (j+1) _ (some xs[j]) _ (by lia) (by lia) (fun z=>by cases z) (fun m z=>by cases z; exact ⟨j,Nat.lt_succ_self _,hme⟩) (onK _) (g2.1.at fun o e=>on _ _ o (Ne.symm nS) e) (g2.2.at fun o e=>on _ _ o (Ne.symm nl) e) (Heap.get?_update_self _ g4 rfl) fun h'' tk' m q f=>?_⟩
    exact k h'' tk' m (fun b o b1 b2 e=>q b o b1 b2 (on _ b o b2 (g b o (by simpa using b1) e))) f
   | false =>
    have ep:pickT (some m) xs[j]=some m:=if_neg (by rw [hb]; simp)
    rw [ep] at k
    simp only [Bool.false_eq_true,if_false]
    refine wpAny_bind (wpAny_letGo ?_)
    rw [nm]
    refine wpAny_pure ⟨plainId_quiet PySem.F.plain_min_loop _,ih (j+1) _ (some m) _ (by lia) (by lia) (fun z=>by cases z) (fun m' z=>by cases z; exact ⟨i',Nat.lt_succ_of_lt hi',hmi⟩) gK g2.1 g2.2 g4 fun h'' tk' m' q f=>?_⟩
    exact k h'' tk' m' (fun b o b1 b2 e=>q b o b1 b2 (g b o (by simpa using b1) e)) f
theorem call_min {E:Value→Shared→Prop} {Q:Value→Shared→Prop} {s:Shared} (hh:A.handled=none) (hl:s.heap.IsList l (xs.map fun x=>Value.ref x.1).toArray) (K:Heap→Prop) (kk:∀ h h',K h→(∀ b o,b < s.heap.objs.size→h.get? b=some o→h'.get? b=some o)→K h') (k0:K s.heap) (kc:∀ s,K s.heap→∀ (i j:Nat) (x m:Addr × List Int),xs[j]?=some x→xs[i]?=some m→i < j→∀ (Q E:Value→Shared→Prop),Q (.bool (HT.lexLt x.2 m.2)) s→wpAny (model prog w) A.in1 (richCompare .Lt (.ref x.1) (.ref m.1)) Q E s) (hne:xs≠[])
  (k:∀ h' tk m,(∀ b o,s.heap.get? b=some o→h'.get? b=some o)→xs.foldl pickT none=some m→Q (.ref m.1) { s with heap:=h',toks:=tk }):wpAny (model prog w) A (call (.builtin "min") [.ref l]) Q E s:=by
 have nm:(toString "min" ++ toString ".loop" : String)="min.loop" := by decide
 obtain ⟨ol,gl,_⟩:=id hl
 have lt:l < s.heap.objs.size:=Heap.lt_size gl
 refine call_function_tree PySem.F.kind_min PySem.F.plain_min PySem.F.entry_min (PySem.F.args_min1 _) ?_
 show wpAny _ _ (Builtin.Builtins.bindParams "min" ["key","default"] 0 ⟨[],[]⟩ >>= _) _ _ s
 refine wpAny_bind (wpAny_of_eq (show Builtin.Builtins.bindParams "min" ["key","default"] 0 ⟨[],[]⟩=pure [none,none] from rfl) (wpAny_bind (wpAny_pure ?_)))
 refine wpAny_bind (wpAny_pyIter_list hl (wpAny_bind (wpAny_newList ?_ (Nat.zero_le _))))
 rw [nm]
 have sz:(s.heap.push { cls:=.type "list_iterator",data:=.fields #[.ref l,.int 0 0] }).objs.size=s.heap.objs.size+1:=Heap.size_push ..
 have up:∀ b o,s.heap.get? b=some o→((s.heap.push { cls:=.type "list_iterator",data:=.fields #[.ref l,.int 0 0] }).push (seqObj "list" #[] 0)).get? b=some o:=fun b o e=>Heap.get?_push_of_some _ (Heap.get?_push_of_some _ e)
 have hlen:xs.length≠0:=fun z=>hne (List.eq_nil_of_length_eq_zero z)
 refine wpAny_pure ⟨plainId_quiet PySem.F.plain_min_loop _,?_⟩
 refine loop (I:=s.heap.objs.size) (S:=(s.heap.push { cls:=.type "list_iterator",data:=.fields #[.ref l,.int 0 0] }).objs.size) hh (Nat.ne_of_lt lt) (by rw [sz]; exact Nat.succ_ne_self _) (by rw [sz]; exact Nat.ne_of_gt (Nat.lt_succ_of_lt lt))
  K (fun h h' hK kp=>kk h h' hK fun b o hb e=>kp b o (Nat.ne_of_lt hb) (by rw [sz]; exact Nat.ne_of_lt (Nat.lt_succ_of_lt hb)) e) kc xs.length 0 _ none 0 (by lia) (fun _=>hlen) (fun _=>rfl) (fun m z=>by cases z) (kk _ _ k0 fun b o _ e=>up b o e)
  ⟨_,Heap.get?_push_of_some _ (Heap.get?_push_size _ rfl),rfl,rfl⟩ ((hl.push _).push _) (Heap.get?_push_size _ rfl) fun h' tk m q f=>?_
 refine k h' tk m (fun b o e=>q b o (Nat.ne_of_lt (Heap.lt_size e)) (by rw [sz]; exact Nat.ne_of_lt (Nat.lt_succ_of_lt (Heap.lt_size e))) (up b o e)) f
end Mnl
namespace L2
open PySem PySem.Spec PySem.SeqAt PyProof.Rows
section
variable {P:Program} {w:World} {W:Addr→Prop} {H:Hp}
end
theorem vals_lref:∀ {ts:List (Addr × List Int)} {its:List Value},Vals (ts.map fun t=>V.ref t.1) its→its=ts.map fun t=>Value.ref t.1
 | [],_,r=>by cases r; rfl
 | t::ts,_,r=>by
  cases r with
  | cons a b=>cases a; rw [vals_lref b]; rfl
variable {X:Cx}
end L2
end

noncomputable section
set_option Elab.async false
set_option linter.all false
set_option maxRecDepth 100000
namespace L2.Q
open PySem PySem.Spec PySem.SeqAt PyProof.Rows
abbrev kI (kvs:List (Int × D)):List Key:=kvs.map fun p=>.inl p.1
def dI (kvs:List (Int × D)):D:=.dK (kI kvs) (kvs.map (·.2))
def valI (kvs:List (Int × D)) (k:Int):Option D:=(kvs.find? fun p=>decide (p.1=k)).map (·.2)
section
variable {P:Program} {w:World} {W:Addr→Prop} {H:Hp}
theorem reps_atI {k:Int}:∀ {kvs:List (Int × D)} {vs:List V},RepDs P w W H (kvs.map (·.2)) vs→(valV ((kI kvs).zip vs) (.inl k)).isSome=(valI kvs k).isSome∧∀ d,valI kvs k=some d→∃ v,valV ((kI kvs).zip vs) (.inl k)=some v∧RepD P w W H d v
 | [],_,h=>by cases h; exact ⟨rfl,fun d z=>by cases z⟩
 | p::kvs,_,⟨v,r,rfl,h1,h2⟩=>by
  obtain ⟨i1,i2⟩:=reps_atI (k:=k) (kvs:=kvs) h2
  unfold valV valI kI at *
  rw [List.map_cons,List.zip_cons_cons,List.find?_cons,List.find?_cons]
  by_cases hk:p.1=k
  ·rw [decide_eq_true (show (Sum.inl p.1:Key)=.inl k by rw [hk]),decide_eq_true hk]
   exact ⟨rfl,fun d' e=>by cases e; exact ⟨v,rfl,h1⟩⟩
  ·rw [decide_eq_false (show ¬ (Sum.inl p.1:Key)=.inl k from fun z=>hk (by cases z; rfl)),decide_eq_false hk]
   exact ⟨i1,i2⟩
end
def _root_.L2.D.isDK:D→Option (List Key × List D)
 | .dK ks ds=>some (ks,ds)
 | _=>none
theorem isDK_eq {d:D} {ks:List Key} {ds:List D} (h:d.isDK=some (ks,ds)):d=.dK ks ds:=by
 cases d <;> first | (cases h; rfl) | cases h
def valKI (ks:List Key) (ds:List D) (k:Int):Option D:=((ks.zip ds).find? fun p=>decide (p.1=.inl k)).map (·.2)
def dGetI (a b:D):Option D:=a.isDK.bind fun p=>b.int?.bind fun i=>valKI p.1 p.2 i
theorem dGetI_of {kvs:List (Int × D)} {i:Int}:dGetI (dI kvs) (.int i)=valI kvs i:=by
 show valKI (kI kvs) (kvs.map (·.2)) i=_
 unfold valKI valI kI
 induction kvs with
 | nil=>rfl
 | cons p kvs ih =>
  rw [List.map_cons,List.map_cons,List.zip_cons_cons,List.find?_cons,List.find?_cons]
  by_cases hk:p.1=i
  ·rw [decide_eq_true (show (Sum.inl p.1:Key)=.inl i by rw [hk]),decide_eq_true hk]
   rfl
  ·rw [decide_eq_false (show ¬ (Sum.inl p.1:Key)=.inl i from fun z=>hk (by cases z; rfl)),decide_eq_false hk]
   exact ih
theorem reps_atK {P:Program} {w:World} {W:Addr→Prop} {H:Hp} {k:Int}:∀ {ks:List Key} {ds:List D} {vs:List V},ks.length=vs.length→RepDs P w W H ds vs→∀ d,valKI ks ds k=some d→∃ v,valV (ks.zip vs) (.inl k)=some v∧RepD P w W H d v
 | [],ds,vs,_,_,d,h=>by unfold valKI at h; rw [List.zip_nil_left] at h; cases h
 | k'::ks,[],_,l,h,_,_=>by rw [show _=([]:List V) from h] at l; cases l
 | k'::ks,d0::ds,_,l,⟨v,r,e,h1,h2⟩,d,h=>by
  subst e
  have ih:=reps_atK (k:=k) (ks:=ks) (Nat.succ.inj l) h2 d
  unfold valV valKI at *
  rw [List.zip_cons_cons,List.find?_cons] at h ⊢
  by_cases hk:k'=.inl k
  ·rw [decide_eq_true hk] at h ⊢
   cases h
   exact ⟨v,rfl,h1⟩
  ·rw [decide_eq_false hk] at h ⊢
   exact ih h
section
variable {X:Cx}
theorem ixi_m (hu:X.A.units+1 < cLine):IxR X (rD2M X dGetI NF):=by
 intro value slice pins s σ H x y v u Q I rx ry h hs
 obtain ⟨W,d1,d2,d,hd,r1,r2,e,q⟩:=h
 obtain ⟨⟨ks,ds⟩,h1,h2⟩:=Option.bind_eq_some_iff.mp e
 obtain ⟨i,h3,h4⟩:=Option.bind_eq_some_iff.mp h2
 rw [isDK_eq h1] at r1
 rw [D.int?_eq h3] at r2
 obtain ⟨p,vs,rfl,e1,l,n,rs⟩:=r1
 obtain ⟨w',hw,rw'⟩:=reps_atK l rs d h4
 have g:=DGet.k (k:=.inl i) e1
 rw [hw,show kV (.inl i)=y from (show y=.int i from r2).symm] at g
 cases (show v=Value.ref p from rx)
 exact tail_any (dict_typeIs I g) PySem.F.slot_dict_getitem.lookup (d_getItem hu I g ry fun u' s' I' r'=>⟨w',H,I',r',q w' H (Same.refl _) rw' fun f=>RepD.flat f rw'⟩) hs
end
section
variable {X:Cx} {C:Cfg} {k e:Expr} {φ φk:PhiQ} {i:Nat} {x:Str} {pos pos' px pc:Pos} {p pk:Bool}
theorem pb_dputI (hu:X.A.units+1 < cLine) (he:∀ U,PQ X (C.u U) p e φ) (hk:∀ U,PQ X (C.u U) pk k φk) (hN:X.N[i]?=some x:=by rfl) (hv:Vis X.env.scope x:=by first | exact .inl rfl | exact .inr (.inl rfl) | exact .inr (.inr rfl)) (hd:(x == ("__debug__" : Str))=false:=by decide) (hcd:(x == ("__classdict__" : Str))=false:=by decide)
  (hs:swapsWith e (some (.Subscript (.Name x px) k pos')) pos.line X.env=pure false:=by rfl) :
  PB X C (.Assign [.Subscript (.Name x px) k pos'] e pos) (fun E β=>φ β fun d kd β1=>(kYg kd d∧kd≠.bor)∧(∃ kvs,β1[i]?=some (some (.shl true (dI kvs))))∧φk β1 fun jd _ β2=>∃ kvs t,jd=.int t∧β2[i]?=some (some (.shl true (dI kvs)))∧valI kvs t=none∧kvs.length < sizeLine∧E.nx (β2.set i (some (.shl true (dI (kvs++[(t,d)])))))):=by
 refine ⟨fun E E' β l q=>(he fun _=>False).mono _ _ _ (fun d kd β1 h=>by obtain ⟨f,h0,q⟩:=h; exact ⟨f,h0,(hk fun _=>False).mono _ _ _ (fun jd _ β2 h=>by obtain ⟨kvs,t,h1,h2,h3,h4,q⟩:=h; exact ⟨kvs,t,h1,h2,h3,h4,l.nx _ q⟩) q⟩) q,fun pins s σ H De I ⟨Z,E,β,⟨own,sq,n⟩,q,ok⟩=>?_⟩
 refine ps_dput hu (pe_var (pos:=px) hN hv hd hcd) (hk fun a=>H a=none).pe (he fun a=>H a=none).pe hs pins s σ H De I ?_
 refine tQ.of (he fun a=>H a=none) (sq.withU (C:=C.z) (U:=fun a=>H a=none) fun a z=>z) q fun d kd β1 v H1 own1 ⟨⟨f,nb⟩,⟨kvs0,hb0⟩,q⟩ o r=>?_
 obtain ⟨a0,_,_,hv0,_⟩:=o.sq.unShl hb0
 refine ⟨_,hv0,tQ.of (hk fun a=>H a=none) o.sq q fun jd kj β2 jv H2 own2 ⟨kvs,t,e1,hb,hn,hl,q⟩ o2 r2=>?_⟩
 subst e1
 have rv:=(KV.held (Z:=(H,Wn own)) nb r o2.sn).yg f
 obtain ⟨a,o1,vs,g1,g2,g3,g4,g5,_,_⟩:=o2.sq.unShl hb
 rw [hv0] at g1
 cases g1
 obtain ⟨rfl,l⟩:=g4
 cases (show jv=.int t from r2.rep)
 have hval:valV ((kI kvs).zip vs) (.inl t)=none:=by
  have:=(reps_atI (k:=t) (kvs:=kvs) g5).1
  rw [hn] at this
  exact Option.isNone_iff_eq_none.mp (by rw [← Option.not_isSome,this]; rfl)
 have hnew:putK ((kI kvs).zip vs) (.inl t) v=(kI (kvs++[(t,d)])).zip (vs++[v]):=by
  unfold kI at *
  rw [putK_new v hval,List.map_append,List.zip_append l]
  rfl
 refine ⟨a0,_,rfl,.inl ⟨_,.inl t,g3,rfl,by rw [List.length_zip,← l,Nat.min_self,List.length_map]; exact hl,rfl⟩,?_⟩
 have wa:av (C.u fun a=>H a=none) (Wn own2) .yng a0:=.inl ⟨i,by rw [g2]; simp⟩
 have kp:Kp (av (C.u fun a=>H a=none) (Wn own2) .yng) H2 (upd H2 a0 (.dK (putK ((kI kvs).zip vs) (.inl t) v))):=kp_shl g3 (fun xs z=>by cases z) wa
 obtain ⟨s2,hA,hw,hoc⟩:=o2.sq.putS (d':=dI (kvs++[(t,d)])) (o:=.dK (putK ((kI kvs).zip vs) (.inl t) v)) (vs':=vs++[v]) hb hv0 ⟨by rw [hnew],by rw [List.length_map,List.length_append,List.length_append,← l,List.length_map]; rfl⟩
  (by show RepDs _ _ _ _ ((kvs++[(t,d)]).map (·.2)) _; rw [List.map_append]; exact RepDs.snoc (rv.keep kp) ((RepDs.anti (fun c z=>.inl z) g5).keep kp))
 exact ok.nx _ _ _ ⟨_,s2,sn_put (C:=C) ((n.trans o.sn).trans o2.sn) (fun b z=>n.free z) hw hoc hA⟩ q
def rShI:R2:=fun x y H Q=>∃ (p:Addr) (kvs:List (Key × V)) (t:Int) (v:V),x=.ref p∧y=.int t∧H p=some (.dK kvs)∧valV kvs (.inl t)=some v∧Q v H
theorem ixi_s (hu:X.A.units+1 < cLine):IxR X rShI:=by
 intro value slice pins s σ H x y v u Q I rx ry h hs
 obtain ⟨p,kvs,t,w',rfl,rfl,g0,hw,q⟩:=h
 have g:=DGet.k (k:=.inl t) g0
 rw [hw] at g
 cases (show v=Value.ref p from rx)
 exact tail_any (dict_typeIs I g) PySem.F.slot_dict_getitem.lookup (d_getItem hu I g ry fun u' s' I' r'=>⟨w',H,I',r',q⟩) hs
def qGetSI (i:Nat) (φk:PhiQ):PhiQ:=fun β R=>(∃ d,β[i]?=some (some (.shl true d)))∧φk β fun jd _ β1=>∃ kvs t d,jd=.int t∧β1[i]?=some (some (.shl true (dI kvs)))∧valI kvs t=some d∧R d .yng β1
theorem pq_getI (hu:X.A.units+1 < cLine) (hk:PQ X C pk k φk) (hN:X.N[i]?=some x:=by rfl) (hv:Vis X.env.scope x:=by first | exact .inl rfl | exact .inr (.inl rfl) | exact .inr (.inr rfl)) (hd:(x == ("__debug__" : Str))=false:=by decide) (hcd:(x == ("__classdict__" : Str))=false:=by decide) (hs:PlainIx k:=by exact fun _ _=>rfl) :
  PQ X C pk (.Subscript (.Name x px) k pos) (qGetSI i φk) :=
 ⟨fun β R R' kk h=>⟨h.1,hk.mono _ _ _ (fun jd _ β1 h=>by obtain ⟨kvs,t,d,h1,h2,h3,q⟩:=h; exact ⟨kvs,t,d,h1,h2,h3,kk _ _ _ q⟩) h.2⟩,(pe_ix (ixi_s hu) (pe_var (pos:=px) hN hv hd hcd) hk.pe hs).pre fun σ H Q ⟨β,own,sq,⟨d0,hb0⟩,q⟩=>by
  obtain ⟨a0,_,_,hv0,_⟩:=sq.unShl hb0
  refine ⟨_,hv0,tQ.of hk sq q fun jd kj β1 jv H1 own1 ⟨kvs,t,d,e1,hb,hval,q⟩ o r=>?_⟩
  subst e1
  obtain ⟨a,o1,vs,g1,g2,g3,g4,g5,_,_⟩:=o.sq.unShl hb
  rw [hv0] at g1
  cases g1
  obtain ⟨rfl,l⟩:=g4
  cases (show jv=.int t from r.rep)
  obtain ⟨w',hw,rw'⟩:=(reps_atI (k:=t) (kvs:=kvs) g5).2 d hval
  exact ⟨a0,_,t,w',rfl,rfl,g3,hw,q _ _ own1 o (RepD.anti (fun c z=>.inl z) rw')⟩⟩
theorem pb_dnewI (hk:∀ U,PQ X (C.u U) true k φk) (hN:X.N.Nodup) (hi:X.N[i]?=some x:=by rfl) (hx:Loc X.env.scope x:=by first | exact .inl rfl | exact .inr rfl)
  (hs:swapsWith (.Dict [some k] [.List [] px] pc) (some (.Name x pos')) pos.line X.env=pure false:=by rfl) (hf:X.fn x=true∨X.env.scope.names.lookup x=some .local:=by first | exact .inl rfl | exact .inr rfl | assumption) :
  PB X C (.Assign [.Name x pos'] (.Dict [some k] [.List [] px] pc) pos) (fun E β=>φk β fun jd _ β1=>∃ t,jd=.int t∧i < β1.length∧E.nx (β1.set i (some (.shl true (dI [(t,.lst [])]))))) :=
 ⟨fun E E' β l h=>(hk fun _=>False).mono _ _ _ (fun jd _ β1 h=>by obtain ⟨t,h1,h2,q⟩:=h; exact ⟨t,h1,h2,l.nx _ q⟩) h,fun pins s σ H D I ⟨Z,E,β,⟨own,sq,n⟩,q,ok⟩=>by
  refine ps_set hN hi hx (pe_disp (pps_cons (hk fun a=>H a=none).pe (pe_lst pa_nil) pps_nil) rfl rfl (by simp) (by show 1≤15; omega)) hs hf pins s σ H D I fun a ha=>?_
  have sa:=(sq.withU (C:=C.z) (U:=fun a=>H a=none) fun a z=>z)
  have h0:C.H0 a=none:=Decidable.by_contra fun z=>sq.dmn a z ha
  have nw:¬ Wn own a:=fun z=>sq.dmW a z ha
  have sb:=sa.same (Same.new (o:=.dK []) ha)
  refine tQ.of (hk fun a=>H a=none) sb q fun jd kj β1 jv H1 own1 ⟨t,e1,hil,q⟩ o r=>⟨Nat.zero_le _,fun b hb=>?_⟩
  subst e1
  cases (show jv=.int t from r.rep)
  obtain ⟨s5,e5⟩:=o.pu rfl
  subst e5
  have hab:a≠b:=fun z=>by have:=s5 a _ upd_same; rw [z,hb] at this; cases this
  have h1a:H1 a=some (.dK []):=s5 a _ upd_same
  have hHb:H b=none:=(Same.trans (Same.new (o:=.dK []) ha) s5).free hb
  have h0b:C.H0 b=none:=Decidable.by_contra fun z=>sq.dmn b z hHb
  have nwb:¬ Wn own1 b:=fun z=>sq.dmW b z hHb
  refine ⟨by rw [upd_ne hab]; exact h1a,[(.inl t,.ref b)],rfl,by simp,?_⟩
  have sm:Same H1 (upd H1 b (.lst [])):=Same.new hb
  have s1:=o.sq.same sm
  have s2:=s1.offU (H':=upd (upd H1 b (.lst [])) a (.dK [(.inl t,.ref b)])) (a:=a) (kp_upd (by rw [upd_ne hab]; exact h1a) (fun xs z=>by cases z)) ha h0 (fun c z=>by
   by_cases hc:c=a
   ·rw [hc,upd_same]; exact fun z=>(nomatch z)
   ·rw [upd_ne hc]; exact z)
  have s3:=s2.setOwn (i:=i) (own_unS (d:=dI [(t,.lst [])]) (vs:=[.ref b]) (W:=fun _=>False) (H':=upd H1 b (.lst [])) ⟨.ref b,[],rfl,⟨b,[],rfl,upd_same,fun z=>z,rfl⟩,rfl⟩ ⟨rfl,rfl⟩ upd_same) (by simp) fun c hc=>⟨by rw [List.mem_singleton.mp hc]; exact h0,by rw [List.mem_singleton.mp hc]; exact nw,by rw [List.mem_singleton.mp hc]; exact ha⟩
  have s4:=s3.toShl (d:=dI [(t,.lst [])]) (y:=true) (get_set hil) (get_set (by rw [← o.sq.len]; exact hil)) ⟨a,_,[.ref b],rfl,by rw [os_eq],upd_same,⟨rfl,rfl⟩,.ref b,[],rfl,⟨b,[],rfl,by rw [upd_ne (Ne.symm hab),upd_same],fun z=>?_,rfl⟩,rfl⟩
  ·rw [List.set_set] at s4
   refine ok.nx _ _ _ ⟨_,s4,?_⟩ q
   have m:Sn Z H1 (Wn own1):=n.same ((Same.new (o:=.dK []) ha).trans s5)
   have m2:=m.same sm
   refine ⟨fun c ⟨j,hj⟩=>?_,⟨fun c oc z nc=>?_,fun c xs z=>?_⟩,fun c z e=>?_⟩
   ·by_cases hij:i=j
    ·rw [← hij,os_eq] at hj
     rw [List.mem_singleton.mp hj]
     exact .inr (n.free ha)
    ·rw [os_ne hij] at hj
     exact m2.w c ⟨j,hj⟩
   ·have:=m2.k.out c oc z nc
    have hca:c≠a:=fun z'=>by rw [z'] at z; exact absurd ((n.free ha).symm.trans z) (fun z=>(nomatch z))
    rw [upd_ne hca]
    exact this
   ·have hca:c≠a:=fun z'=>by rw [z'] at z; exact absurd ((n.free ha).symm.trans z) (fun z=>(nomatch z))
    rw [upd_ne hca]
    exact m2.k.tup c xs z
   ·by_cases hca:c=a
    ·rw [hca,upd_same] at e; cases e
    ·rw [upd_ne hca] at e; exact m2.d c z e
  ·rcases z with z | z
   ·rcases z with ⟨j,hj⟩ | z
    ·by_cases hij:i=j
     ·rw [← hij,os_eq] at hj
      exact hab (List.mem_singleton.mp hj).symm
     ·rw [os_ne hij] at hj
      exact nwb ⟨j,hj⟩
    ·exact z h0b
   ·exact z.elim⟩
end
end L2.Q
end

noncomputable section
set_option Elab.async false
set_option linter.all false
set_option maxRecDepth 100000
namespace L2
open PySem PySem.Spec PySem.SeqAt PyProof.Rows
def headI (d:D):Option Int:=d.lst?.bind fun ds=>ds.head?.bind fun e=>e.int?
def headsI:List D→Option (List Int)
 | []=>some []
 | d::ds=>(headI d).bind fun k=>(headsI ds).map (k::·)
theorem headI_eq {d:D} {k:Int} (h:headI d=some k):∃ r,d=.lst (.int k::r):=by
 obtain ⟨ds,h1,h2⟩:=Option.bind_eq_some_iff.mp h
 obtain ⟨e,h3,h4⟩:=Option.bind_eq_some_iff.mp h2
 rw [D.lst?_eq h1]
 cases ds with
 | nil=>cases h3
 | cons x r=>cases h3; exact ⟨r,by rw [D.int?_eq h4]⟩
def dMinI:List D→Option D
 | [d]=>d.lst?.bind fun es=>(headsI es).bind fun ks=>if ks.Pairwise (· < ·) then es.head? else none
 | _=>none
theorem dMinI_eq {ds:List D} {d:D} (h:dMinI ds=some d):∃ es ks,ds=[.lst es]∧headsI es=some ks∧ks.Pairwise (· < ·)∧es.head?=some d:=by
 cases ds with
 | nil=>cases h
 | cons x r =>
  cases r with
  | cons _ _=>cases h
  | nil =>
   obtain ⟨es,h1,h2⟩:=Option.bind_eq_some_iff.mp h
   obtain ⟨ks,h3,h4⟩:=Option.bind_eq_some_iff.mp h2
   by_cases hn:ks.Pairwise (· < ·)
   ·rw [if_pos hn] at h4
    exact ⟨es,ks,by rw [D.lst?_eq h1],h3,hn,h4⟩
   ·rw [if_neg hn] at h4; cases h4
theorem dMinI_of {es:List D} {ks:List Int} {d:D} (h1:headsI es=some ks) (h2:ks.Pairwise (· < ·)) (h3:es.head?=some d):dMinI [.lst es]=some d:=by
 show (headsI es).bind _=_
 rw [h1,Option.bind_some,if_pos h2,h3]
section
variable {P:Program} {w:World} {W:Addr→Prop} {H:Hp}
theorem heads_repsI:∀ {es:List D} {ks:List Int} {vs:List V},headsI es=some ks→RepDs P w W H es vs→∃ ts:List (Addr × List Int),vs=ts.map (fun t=>V.ref t.1)∧ts.map (·.2)=ks.map (fun k=>[k])∧∀ t ∈ ts,∃ k us,t.2=[k]∧H t.1=some (.lst (.int k::us))
 | [],_,_,h,r=>by cases h; cases r; exact ⟨[],rfl,rfl,fun t ht=>by cases ht⟩
 | d::es,ks,_,h,⟨v,vs,rfl,r1,r2⟩=>by
  obtain ⟨k,h1,h2⟩:=Option.bind_eq_some_iff.mp h
  obtain ⟨ks',h3,rfl⟩:=Option.map_eq_some_iff.mp h2
  obtain ⟨ts,e1,e2,e3⟩:=heads_repsI h3 r2
  obtain ⟨r,rfl⟩:=headI_eq h1
  obtain ⟨p,us,rfl,hp,_,u,us',rfl,ru,_⟩:=r1
  cases (show u=.int k from ru)
  refine ⟨(p,[k])::ts,by rw [e1]; rfl,by rw [List.map_cons,e2]; rfl,fun t ht=>?_⟩
  rcases List.mem_cons.mp ht with rfl | ht
  ·exact ⟨k,us',rfl,hp⟩
  ·exact e3 t ht
end
theorem fold_stay {m:Addr × List Int}:∀ {ts:List (Addr × List Int)},(∀ t ∈ ts,HT.lexLt t.2 m.2=false)→ts.foldl Mnt.pickT (some m)=some m
 | [],_=>rfl
 | t::ts,h=>by
  rw [List.foldl_cons,show Mnt.pickT (some m) t=some m from if_neg (by rw [h t (by simp)]; simp)]
  exact fold_stay fun y hy=>h y (by simp [hy])
theorem lex1 {a b:Int} (h:b≠a):HT.lexLt [a] [b]=decide (a < b):=by
 show (if a=b then HT.lexLt [] [] else decide (a < b))=_
 rw [if_neg (Ne.symm h)]
variable {X:Cx}
theorem call_dMinI (hc:X.calm=true) (hu:X.A.units+2 < cLine):CallD X (.builtin "min") dMinI:=by
 intro pins s σ H xs us Q I r h
 obtain ⟨W,ds,d,hd,r1,e,q⟩:=h
 obtain ⟨es,ks,rfl,ek,nd,e1⟩:=dMinI_eq e
 obtain ⟨x,rfl,p,vs,rfl,h1,n1,q1⟩:=args1 r1
 obtain ⟨u,rfl,ru⟩:=vals1 r
 cases ru
 obtain ⟨its,r2,ht,hz⟩:=I.list (SqL.of h1)
 obtain ⟨ts,rfl,ets,T⟩:=heads_repsI ek q1
 have ei:=vals_lref r2
 subst ei
 have hne:ts≠[]:=fun z=>by
  rw [z] at q1
  cases es with
  | nil=>cases e1
  | cons _ _=>obtain ⟨v,vs,ev,_⟩:=q1; cases ev
 let K:Heap→Prop:=fun h=>∀ t ∈ ts,∃ (k:Int) (tk:Tok) (its:Array Value),t.2=[k]∧t.1 < s.heap.objs.size∧h.IsList t.1 its∧its[0]?=some (.int k tk)
 have k0:K s.heap:=fun t ht'=>by
  obtain ⟨k,us,g0,g1⟩:=T t ht'
  obtain ⟨i1,v1,l1,_⟩:=I.list (SqL.of g1)
  cases v1 with
  | cons a b =>
   obtain ⟨tk,rfl⟩:=a
   obtain ⟨o1,p1,_⟩:=id l1.isList
   exact ⟨k,tk,_,g0,Heap.lt_size p1,l1.isList,by simp⟩
 have hd2:∀ (i j:Nat) (x m:Addr × List Int),ts[j]?=some x→ts[i]?=some m→i < j→∀ a b,x.2=[a]→m.2=[b]→b < a:=fun i j x m hx hm hij a b ha hb=>by
  have f1:(ts.map (·.2))[j]?=some x.2:=by rw [List.getElem?_map,hx]; rfl
  have f2:(ts.map (·.2))[i]?=some m.2:=by rw [List.getElem?_map,hm]; rfl
  rw [ets,List.getElem?_map] at f1 f2
  obtain ⟨a',g1,g2⟩:=Option.map_eq_some_iff.mp f1
  obtain ⟨b',g3,g4⟩:=Option.map_eq_some_iff.mp f2
  rw [ha] at g2
  rw [hb] at g4
  cases g2
  cases g4
  obtain ⟨l1,e1⟩:=List.getElem?_eq_some_iff.mp g1
  obtain ⟨l2,e2⟩:=List.getElem?_eq_some_iff.mp g3
  have:=List.pairwise_iff_getElem.mp nd i j l2 l1 hij
  rw [e1,e2] at this
  exact this
 refine Mnl.call_min (I.ok.hd hc) ht.isList K (fun h h' hK kp t ht'=>?_) k0 (fun s' hK i j x m hx hm hij Q' E' hq=>?_) hne fun h' tk m kp f=>?_
 ·obtain ⟨k,tk,i1,a0,a1,⟨o1,b1,b2⟩,a3⟩:=hK t ht'
  exact ⟨k,tk,i1,a0,a1,⟨o1,kp _ _ a1 b1,b2⟩,a3⟩
 ·obtain ⟨k1,t1,i1,c1,_,l1,z1⟩:=hK x (List.mem_of_getElem? hx)
  obtain ⟨k2,t2,i2,c2,_,l2,z2⟩:=hK m (List.mem_of_getElem? hm)
  have hlt:=hd2 i j x m hx hm hij k1 k2 c1 c2
  rw [c1,c2,lex1 (by omega)] at hq
  obtain ⟨⟨cls,dd,data,sl⟩,ho,hc',n,hd'⟩:=id l1
  obtain ⟨⟨cls2,dd2,data2,sl2⟩,ho2,hc2,n',hd2⟩:=id l2
  simp only at hc' hd' hc2 hd2
  subst hc' hd' hc2 hd2
  have eqf:SeqAt.EqAt X.A.in1.in1 s' (.int k1 t1) (.int k2 t2) false:=by
   have:=SeqAt.EqAt.int_int (A:=X.A.in1.in1) (s:=s') k1 t1 k2 t2
   rwa [show (k1 == k2)=false from beq_eq_false_iff_ne.mpr (by omega)] at this
  exact richCompare_meets_room (op:=.Lt) ⟨_,ho,rfl⟩ ⟨_,ho2,rfl⟩ PySem.F.slot_list_lt PySem.F.entry_list_lt (PySem.F.args_list_lt_2 _ _) (Mnl.list_lt_heads _ _ i1 i2 n n' dd dd2 sl sl2 _ _ (decide (k1 < k2)) z1 z2)
   ⟨ho,ho2,eqf,fun prog w E Q hQ=>HT.rcLt_int _ _ _ _ _ _ _ _ _ _ hQ,show Value.bool (decide (k1 < k2))≠Value.notImplemented∧Q' (.bool (decide (k1 < k2))) s' from ⟨(fun x=>nomatch x),hq⟩⟩ (Nat.lt_of_succ_lt hu)
 ·cases ts with
  | nil=>exact absurd rfl hne
  | cons t ts =>
   cases es with
   | nil=>cases q1
   | cons d0 es =>
    obtain ⟨v,vs,ev,g1,g2⟩:=q1
    injection ev with ev1 ev2
    subst ev1 ev2
    cases e1
    rw [List.foldl_cons,show Mnt.pickT none t=some t from rfl,fold_stay fun t' ht'=>?_] at f
    ·cases f
     exact ⟨.ref m.1,H,I.kept kp,rfl,q _ _ (Same.refl _) g1⟩
    ·obtain ⟨j,hj⟩:=List.getElem?_of_mem ht'
     obtain ⟨a,_,ha,_⟩:=T t' (by simp [ht'])
     obtain ⟨b,_,hb,_⟩:=T t (by simp)
     have:=hd2 0 (j+1) t' t (by simpa using hj) rfl (by omega) a b ha hb
     rw [ha,hb,lex1 (by omega)]
     exact decide_eq_false (by omega)
end L2
end

noncomputable section
set_option Elab.async false
set_option linter.all false
set_option maxRecDepth 100000
namespace L2.Q
open PySem
def endT (W:Nat→Nat→Bool) (i r:Nat):Bool:=decide (r=0) || W (r+1) i
def ends (W:Nat→Nat→Bool) (n i:Nat):List Nat:=((List.range (n - i)).filter (endT W i)).map fun r=>i+1+r
section
variable {W:Nat→Nat→Bool} {n i j:Nat}
theorem ends_gt (h:j ∈ ends W n i):i < j∧j≤n:=by
 obtain ⟨r,hr,rfl⟩:=List.mem_map.mp h
 have:=List.mem_range.mp (List.mem_filter.mp hr).1
 omega
theorem ends_pw:(ends W n i).Pairwise (· < ·):=by
 unfold ends
 rw [List.pairwise_map]
 exact (List.pairwise_lt_range.filter _).imp fun {a b} h=>by omega
theorem ends_one (h:i < n):i+1 ∈ ends W n i:=List.mem_map.mpr ⟨0,List.mem_filter.mpr ⟨List.mem_range.mpr (by omega),rfl⟩,rfl⟩
theorem ends_len:(ends W n i).length≤n - i:=by
 unfold ends
 rw [List.length_map]
 exact Nat.le_trans (List.length_filter_le _ _) (by rw [List.length_range]; exact Nat.le_refl _)
end
theorem first_min (f:Nat→Nat):∀ {l:List Nat},l≠[]→∃ j ∈ l,(∀ x ∈ l,f j≤f x)∧∀ x ∈ l,x < j→f j < f x
 | [],h=>absurd rfl h
 | [a],_=>⟨a,by simp,fun x hx=>by rw [List.mem_singleton.mp hx]; exact Nat.le_refl _,fun x hx h=>by rw [List.mem_singleton.mp hx] at h; omega⟩
 | a::b::l,_=>by
  obtain ⟨j,hj,h1,h2⟩:=first_min f (l:=b::l) (by simp)
  by_cases hc:f a < f j∨(f a=f j∧a≤j)
  ·refine ⟨a,by simp,fun x hx=>?_,fun x hx hlt=>?_⟩
   ·rcases List.mem_cons.mp hx with rfl | hx
    ·exact Nat.le_refl _
    ·have:=h1 x hx; omega
   ·rcases List.mem_cons.mp hx with rfl | hx
    ·omega
    ·have:=h1 x hx
     rcases hc with hc | hc
     ·omega
     ·have:=h2 x hx (by omega); omega
  ·refine ⟨j,List.mem_cons_of_mem _ hj,fun x hx=>?_,fun x hx hlt=>?_⟩
   ·rcases List.mem_cons.mp hx with rfl | hx
    ·omega
    ·exact h1 x hx
   ·rcases List.mem_cons.mp hx with rfl | hx
    ·omega
    ·exact h2 x hx hlt
theorem filter_first {t:Nat→Bool} {j:Nat}:∀ {l:List Nat},l.Pairwise (· < ·)→j ∈ l→t j=true→(∀ x ∈ l,x < j→t x=false)→∃ r,l.filter t=j::r
 | [],_,h,_,_=>by cases h
 | a::l,hp,h,ht,hn=>by
  by_cases e:a=j
  ·subst e
   exact ⟨l.filter t,by rw [List.filter_cons,if_pos ht]⟩
  ·have hj:j ∈ l:=(List.mem_cons.mp h).resolve_left (Ne.symm e)
   have haj:=(List.pairwise_cons.mp hp).1 j hj
   rw [List.filter_cons,if_neg (by rw [hn a (by simp) haj]; simp)]
   exact filter_first (List.pairwise_cons.mp hp).2 hj ht fun x hx=>hn x (by simp [hx])
structure Stp (W:Nat→Nat→Bool) (n:Nat) (b:Nat→List Nat) (k j:Nat):Prop where
 me:j ∈ ends W n k
 eq:b k=j::b j
 le:∀ x ∈ ends W n k,(b j).length≤(b x).length
 lt:∀ x ∈ ends W n k,x < j→(b j).length < (b x).length
def GoodB (W:Nat→Nat→Bool) (n:Nat) (b:Nat→List Nat) (i:Nat):Prop:=b n=[]∧∀ k,i≤k→k < n→∃ j,Stp W n b k j
def putB (b:Nat→List Nat) (i:Nat) (l:List Nat):Nat→List Nat:=fun k=>if k=i then l else b k
theorem putB_eq {b:Nat→List Nat} {i:Nat} {l:List Nat}:putB b i l i=l:=if_pos rfl
theorem putB_ne {b:Nat→List Nat} {i k:Nat} {l:List Nat} (h:k≠i):putB b i l k=b k:=if_neg h
section
variable {W:Nat→Nat→Bool} {n i:Nat} {b:Nat→List Nat}
theorem gb_len (g:GoodB W n b i):∀ (m k:Nat),n - k≤m→i≤k→k≤n→(b k).length≤n - k
 | 0,k,h,_,hk=>by rw [show k=n by omega,g.1]; exact Nat.zero_le _
 | m+1,k,h,h1,h2=>by
  by_cases e:k=n
  ·rw [e,g.1]; exact Nat.zero_le _
  ·obtain ⟨j,s⟩:=g.2 k h1 (by omega)
   have hj:=ends_gt s.me
   have:=gb_len g m j (by omega) (by omega) hj.2
   rw [s.eq,List.length_cons]
   omega
theorem gb_step {b:Nat→List Nat} (g:GoodB W n b (i+1)) (h:i < n):∃ j,j ∈ ends W n i∧(∀ x ∈ ends W n i,(b j).length≤(b x).length)∧(∀ x ∈ ends W n i,x < j→(b j).length < (b x).length)∧GoodB W n (putB b i (j::b j)) i:=by
 obtain ⟨j,h1,h2,h3⟩:=first_min (fun k=>(b k).length) (l:=ends W n i) (fun z=>by have:=ends_one (W:=W) h; rw [z] at this; cases this)
 refine ⟨j,h1,h2,h3,?_⟩
 have up:∀ k x,i≤k→x ∈ ends W n k→putB b i (j::b j) x=b x:=fun k x hk hx=>by
  have:=(ends_gt hx).1
  exact putB_ne (by omega)
 refine ⟨by rw [putB_ne (by omega)]; exact g.1,fun k hk hkn=>?_⟩
 by_cases e:k=i
 ·subst e
  refine ⟨j,h1,?_,fun x hx=>?_,fun x hx hlt=>?_⟩
  ·rw [up k j hk h1]; exact putB_eq
  ·rw [up k j hk h1,up k x hk hx]; exact h2 x hx
  ·rw [up k j hk h1,up k x hk hx]; exact h3 x hx hlt
 ·obtain ⟨j',s⟩:=g.2 k (by omega) hkn
  refine ⟨j',s.me,?_,fun x hx=>?_,fun x hx hlt=>?_⟩
  ·rw [up k j' hk s.me,← s.eq]; exact putB_ne e
  ·rw [up k j' hk s.me,up k x hk hx]; exact s.le x hx
  ·rw [up k j' hk s.me,up k x hk hx]; exact s.lt x hx hlt
end
abbrev nD (l:List Nat):D:=.lst (l.map fun (k:Nat)=>D.int (k:Int))
def fEnds:FD:=fun ds R=>∃ (n:Nat) (ps:List (Nat × Nat)) (i:Nat),ds=[fullT n (tW ps w1),.int i]∧OkR n ps∧i < n∧R (nD (ends (wT ps) n i))
theorem fEnds.mono:Mono fEnds:=fun ds R R' k h=>by obtain ⟨n,ps,i,e,h1,h2,q⟩:=h; exact ⟨n,ps,i,e,h1,h2,k _ q⟩
def fFew:FD:=fun ds R=>∃ (n:Nat) (ps:List (Nat × Nat)) (b:Nat→List Nat),ds=[rwD n ps]∧OkR n ps∧GoodB (wT ps) n b 0∧R (nD (b 0))
theorem fFew.mono:Mono fFew:=fun ds R R' k h=>by obtain ⟨n,ps,b,e,h1,h2,q⟩:=h; exact ⟨n,ps,b,e,h1,h2,k _ q⟩
theorem minI_of {l:List Int} {m:Int} (h1:m ∈ l) (h2:∀ x ∈ l,m≤x):minI l=some m:=by
 cases l with
 | nil=>cases h1
 | cons a l =>
  obtain ⟨g1,g2⟩:=foldl_min_spec l a
  have:=h2 _ g1
  have:=g2 _ h1
  show some (l.foldl min a)=_
  rw [show l.foldl min a=m by omega]
theorem heads_b {b:Nat→List Nat}:∀ {l:List Nat},headsI (l.map fun j=>nD (j::b j))=some (l.map fun (j:Nat)=>(j:Int))
 | []=>rfl
 | p::l=>by
  show (some (p:Int)).bind (fun k=>(headsI (l.map fun j=>nD (j::b j))).map (k::·))=_
  rw [heads_b]
  rfl
theorem valI_snoc {kvs:List (Int × D)} {t u:Int} {d:D} (h:valI kvs t=none):valI (kvs++[(t,d)]) u=if u=t then some d else valI kvs u:=by
 unfold valI at *
 rw [List.find?_append]
 by_cases e:u=t
 ·subst e
  rw [if_pos rfl,Option.map_eq_none_iff.mp h,List.find?_cons,decide_eq_true rfl]
  rfl
 ·rw [if_neg e,List.find?_cons,decide_eq_false (show ¬ t=u from fun z=>e z.symm),List.find?_nil]
  cases kvs.find? (fun p=>decide (p.1=u)) <;> rfl
theorem least_b {W:Nat→Nat→Bool} {n i j:Nat} {b:Nat→List Nat} (hj:j ∈ ends W n i) (h1:∀ x ∈ ends W n i,(b j).length≤(b x).length):dOfInts minI [.lst ((ends W n i).map fun x=>D.int ((x::b x).length:Int))]=some (.int ((b j).length+1:Nat)):=by
 have:=dOfInts_of (f:=minI) (ns:=(ends W n i).map fun x=>((x::b x).length:Int)) (i:=((b j).length+1:Nat)) (minI_of (List.mem_map.mpr ⟨j,hj,rfl⟩) fun x hx=>by
  obtain ⟨k,hk,rfl⟩:=List.mem_map.mp hx
  have:=h1 k hk
  rw [List.length_cons]
  omega)
 rw [List.map_map] at this
 exact this
theorem first_b {W:Nat→Nat→Bool} {n i j:Nat} {b:Nat→List Nat} (hj:j ∈ ends W n i) (h2:∀ x ∈ ends W n i,x < j→(b j).length < (b x).length):dMinI [.lst (((ends W n i).filter fun x=>decide (((x::b x).length:Int)=((b j).length+1:Nat))).map fun x=>nD (x::b x))]=some (nD (j::b j)):=by
 obtain ⟨r,hf⟩:=filter_first (t:=fun x=>decide (((x::b x).length:Int)=((b j).length+1:Nat))) ends_pw hj (decide_eq_true rfl) (fun x hx hlt=>decide_eq_false (by have:=h2 x hx hlt; rw [List.length_cons]; omega))
 have hpw:=(ends_pw (W:=W) (n:=n) (i:=i)).filter (fun x=>decide (((x::b x).length:Int)=((b j).length+1:Nat)))
 refine dMinI_of heads_b ?_ ?_
 ·rw [List.pairwise_map]
  exact hpw.imp fun {x y} h=>by omega
 ·rw [hf]; rfl
end L2.Q
end





noncomputable section
set_option Elab.async false
set_option linter.all false
set_option maxRecDepth 100000
namespace L2
open PySem
theorem Room.units2 {k:Nat} {A:Around} (r:Room k A):A.units+2 < cLine:=by have:=r.un; lia
end L2
namespace L2.Q
open PySem
end L2.Q
end

noncomputable section
set_option Elab.async false
set_option linter.all false
set_option maxRecDepth 100000
set_option maxHeartbeats 4000000
namespace K37
open PySem L2 L2.Q
section
variable {P:Program} {w:World} {K:PySem.W.Frag} {mg:Str→Option Value} {base:Heap}
theorem sc_law_same:FnScope ["found","due"] ["found","due"] (defScope s_law_same):=⟨rfl,rfl,rfl,by decide +kernel,rfl,by decide +kernel,by decide +kernel⟩
theorem ok_same {fdM:Addr} {fddM:FuncData} (dM:Df K mg "_law_same" s_law_same ["found","due"] fdM fddM) (B:Bs2 mg):∀ n:Nat,FnOk P w K mg base CX0 (n+1) fdM fddM ["found","due"] (spQ P w true (fSameQ n)):=by
 intro n
 induction n with
 | zero =>
  refine okQ dM.F sc_law_same (fun ds R ⟨d,e,_⟩=>by subst e; rfl) fun cdv A outer s H E hr=>⟨_,(pbs_cons (pb_if (pqt_val (pq_old (pv_isi2 B.isi (pv_var (i:=1)) B.list bt_list B.tuple bt_tuple))) pbs_never pbs_nil)
    (pbs_cons (pb_if (PQW.t (pqw_or (pqt_cmp nok_NF (OpD.m op_dIsN) (pq_var (i:=1)) pq_non) (pqw_or1 (pqt_val (pq_old (pv_isi1 B.isi (pv_var (i:=1)) B.str bt_str)))))) (pbs_one (pb_ret (pq_cmp nok_NF (OpD.m (op_dEq hr.units)) (pq_var (i:=0)) (pq_var (i:=1))))) pbs_nil)
    (pbs_one (pb_ret (pq_and (pq_old (pv_isi1 B.isi (pv_var (i:=0)) B.int bt_int)) (pq_and (pq_not (pq_old (pv_isi1 B.isi (pv_var (i:=0)) B.bool bt_bool))) (pq_one (pq_cmp nok_NF (OpD.m (op_dEq hr.units)) (pq_var (i:=0)) (pq_var (i:=1)))))))))),fun ds R h=>?_⟩
  obtain ⟨d,rfl,hl,q⟩:=h
  cases hl with
  | leaf hl =>
   cases hl with
   | int i =>
    refine ⟨_,rfl,_,_,rfl,kit_ilt,rfl,_,rfl,ifF rfl ⟨_,rfl,trivial,_,rfl,_,rfl,ifF rfl ⟨_,rfl,_,_,rfl,kit_is,rfl,_,rfl,ifF rfl ?_⟩⟩⟩
    exact ⟨_,rfl,_,_,rfl,kit_ii,rfl,_,rfl,ifT rfl ⟨_,rfl,_,_,rfl,kit_ib,rfl,_,rfl,_,rfl,ifT rfl ⟨_,rfl,trivial,_,rfl,_,dEq_self (small_int i),trivial,q⟩⟩⟩
   | str x hx =>
    refine ⟨_,rfl,_,_,rfl,kit_slt,rfl,_,rfl,ifF rfl ⟨_,rfl,trivial,_,rfl,_,rfl,ifF rfl ⟨_,rfl,_,_,rfl,kit_ss,rfl,_,rfl,ifT rfl ?_⟩⟩⟩
    exact ⟨_,rfl,trivial,_,rfl,_,dEq_self (small_str x hx),trivial,q⟩
   | non =>
    refine ⟨_,rfl,_,_,rfl,kit_nlt,rfl,_,rfl,ifF rfl ⟨_,rfl,trivial,_,rfl,_,rfl,ifT rfl (ifT rfl ?_)⟩⟩
    exact ⟨_,rfl,trivial,_,rfl,_,dEq_self small_non,trivial,q⟩
 | succ n ih =>
  have GM:FnOk P w K mg base CX0 (n+1) _ _ _ (spQ P w true (fSameQ n)):=ih
  refine okQ dM.F sc_law_same (fun ds R ⟨d,e,_⟩=>by subst e; rfl) fun cdv A outer s H E hr=>⟨_,(pbs_cons (pb_if (pqt_val (pq_old (pv_isi2 B.isi (pv_var (i:=1)) B.list bt_list B.tuple bt_tuple))) (pbs_cons (pb_if (PQW.t (pqw_or (pqt_cmp nok_NF (OpD.m (op_dNe hr.units)) (pq_old (pv_isi1 B.isi (pv_var (i:=0)) B.list bt_list)) (pq_old (pv_isi1 B.isi (pv_var (i:=1)) B.list bt_list))) (pqw_or1 (pqt_not (pqt_val (pq_old (pv_isi2 B.isi (pv_var (i:=0)) B.list bt_list B.tuple bt_tuple))))))) (pbs_one (pb_ret pq_bl)) pbs_nil)
    (pbs_cons (pb_if (pqt_cmp nok_NF (OpD.m (op_dNe hr.units)) (pq_callB nok_NF (CallD.m call_dLen) B.len bt_len (pqa_cons (pq_var (i:=0)) pqa_nil)) (pq_callB nok_NF (CallD.m call_dLen) B.len bt_len (pqa_cons (pq_var (i:=1)) pqa_nil))) (pbs_one (pb_ret pq_bl)) pbs_nil)
    (pbs_one (pb_ret (pq_cmp nok_NF (OpD.m (op_dEq hr.units)) (lcA ["one","other"] [none,none] (by rfl) (by decide:(["one","other"]:List Str).Nodup) rfl (pqi_old (pvi_zip B.zip (pva_cons (pv_var (i:=0)) (pva_cons (pv_var (i:=1)) pva_nil)))) (fun _ _ _ _ _ _=>(pbg_tup (n:=2) rfl (pbgs_cons (pbg_name (i:=0) (by decide:(["one","other"]:List Str).Nodup)) (pbgs_cons (pbg_name (i:=1) (by decide:(["one","other"]:List Str).Nodup)) pbgs_nil)))) (fun _ _ _ _ _ _=>(ts_one (pqt_not (pqt_val (pq_call fSameQ.mono GM (hr.mono (by omega)) dM.m dM.F.kp dM.b (pqa_cons (pq_var (i:=0)) (pqa_cons (pq_var (i:=1)) pqa_nil))))))) (fun _ _ _ _ _ _=>pq_int)) (pq_lst pqa_nil)))))) pbs_nil)
    (pbs_cons (pb_if (PQW.t (pqw_or (pqt_cmp nok_NF (OpD.m op_dIsN) (pq_var (i:=1)) pq_non) (pqw_or1 (pqt_val (pq_old (pv_isi1 B.isi (pv_var (i:=1)) B.str bt_str)))))) (pbs_one (pb_ret (pq_cmp nok_NF (OpD.m (op_dEq hr.units)) (pq_var (i:=0)) (pq_var (i:=1))))) pbs_nil)
    (pbs_one (pb_ret (pq_and (pq_old (pv_isi1 B.isi (pv_var (i:=0)) B.int bt_int)) (pq_and (pq_not (pq_old (pv_isi1 B.isi (pv_var (i:=0)) B.bool bt_bool))) (pq_one (pq_cmp nok_NF (OpD.m (op_dEq hr.units)) (pq_var (i:=0)) (pq_var (i:=1)))))))))),fun ds R h=>?_⟩
  obtain ⟨d,rfl,hl,q⟩:=h
  cases hl with
  | leaf hl =>
   cases hl with
   | int i =>
    refine ⟨_,rfl,_,_,rfl,kit_ilt,rfl,_,rfl,ifF rfl ⟨_,rfl,trivial,_,rfl,_,rfl,ifF rfl ⟨_,rfl,_,_,rfl,kit_is,rfl,_,rfl,ifF rfl ?_⟩⟩⟩
    exact ⟨_,rfl,_,_,rfl,kit_ii,rfl,_,rfl,ifT rfl ⟨_,rfl,_,_,rfl,kit_ib,rfl,_,rfl,_,rfl,ifT rfl ⟨_,rfl,trivial,_,rfl,_,dEq_self (small_int i),trivial,q⟩⟩⟩
   | str x hx =>
    refine ⟨_,rfl,_,_,rfl,kit_slt,rfl,_,rfl,ifF rfl ⟨_,rfl,trivial,_,rfl,_,rfl,ifF rfl ⟨_,rfl,_,_,rfl,kit_ss,rfl,_,rfl,ifT rfl ?_⟩⟩⟩
    exact ⟨_,rfl,trivial,_,rfl,_,dEq_self (small_str x hx),trivial,q⟩
   | non =>
    refine ⟨_,rfl,_,_,rfl,kit_nlt,rfl,_,rfl,ifF rfl ⟨_,rfl,trivial,_,rfl,_,rfl,ifT rfl (ifT rfl ?_)⟩⟩
    exact ⟨_,rfl,trivial,_,rfl,_,dEq_self small_non,trivial,q⟩
  | @tup _ es l hl =>
   refine ⟨_,rfl,_,_,rfl,kit_tlt,rfl,_,rfl,ifT rfl ?_⟩
   refine ⟨_,rfl,_,_,rfl,kit_tl,rfl,trivial,_,rfl,_,_,rfl,kit_tl,rfl,_,dNe_self (small_bl false),_,rfl,ifF rfl ⟨_,rfl,_,_,rfl,kit_tlt,rfl,_,rfl,ifF rfl ?_⟩⟩
   refine ⟨_,rfl,trivial,_,rfl,trivial,_,rfl,trivial,_,rfl,_,dNe_self (small_int _),_,rfl,ifF rfl ?_⟩
   refine ⟨_,rfl,_,rfl,es,es,.inr rfl,trivial,?_⟩
   refine ⟨fun i β o=>o=[]∧∃ x0 x1,β=[x0,x1],⟨rfl,_,_,rfl⟩,?_,?_⟩
   ·rintro i d β o hd ⟨rfl,x0,x1,rfl⟩
    obtain ⟨a,ha,rfl⟩:=zipD_self (List.mem_of_getElem? hd)
    have ha':=hl a ha
    have hb:=ha'
    clear ha hd
    cases hb with
    | leaf h=>cases h <;> exact ⟨_,rfl,rfl,_,_,rfl,_,_,rfl,rfl,_,rfl,trivial,_,rfl,trivial,_,rfl,ha',_,rfl,ifF rfl ⟨rfl,_,_,rfl⟩⟩
    | tup=>exact ⟨_,rfl,rfl,_,_,rfl,_,_,rfl,rfl,_,rfl,trivial,_,rfl,trivial,_,rfl,ha',_,rfl,ifF rfl ⟨rfl,_,_,rfl⟩⟩
    | lst=>exact ⟨_,rfl,rfl,_,_,rfl,_,_,rfl,rfl,_,rfl,trivial,_,rfl,trivial,_,rfl,ha',_,rfl,ifF rfl ⟨rfl,_,_,rfl⟩⟩
   ·rintro β o ⟨rfl,x0,x1,rfl⟩
    exact ⟨trivial,trivial,Nat.zero_le _,_,dEq_self (small_ints []),trivial,q⟩
  | @lst _ es l hl =>
   refine ⟨_,rfl,_,_,rfl,kit_llt,rfl,_,rfl,ifT rfl ?_⟩
   refine ⟨_,rfl,_,_,rfl,kit_ll,rfl,trivial,_,rfl,_,_,rfl,kit_ll,rfl,_,dNe_self (small_bl true),_,rfl,ifF rfl ⟨_,rfl,_,_,rfl,kit_llt,rfl,_,rfl,ifF rfl ?_⟩⟩
   refine ⟨_,rfl,trivial,_,rfl,trivial,_,rfl,trivial,_,rfl,_,dNe_self (small_int _),_,rfl,ifF rfl ?_⟩
   refine ⟨_,rfl,_,rfl,es,es,.inl rfl,trivial,?_⟩
   refine ⟨fun i β o=>o=[]∧∃ x0 x1,β=[x0,x1],⟨rfl,_,_,rfl⟩,?_,?_⟩
   ·rintro i d β o hd ⟨rfl,x0,x1,rfl⟩
    obtain ⟨a,ha,rfl⟩:=zipD_self (List.mem_of_getElem? hd)
    have ha':=hl a ha
    have hb:=ha'
    clear ha hd
    cases hb with
    | leaf h=>cases h <;> exact ⟨_,rfl,rfl,_,_,rfl,_,_,rfl,rfl,_,rfl,trivial,_,rfl,trivial,_,rfl,ha',_,rfl,ifF rfl ⟨rfl,_,_,rfl⟩⟩
    | tup=>exact ⟨_,rfl,rfl,_,_,rfl,_,_,rfl,rfl,_,rfl,trivial,_,rfl,trivial,_,rfl,ha',_,rfl,ifF rfl ⟨rfl,_,_,rfl⟩⟩
    | lst=>exact ⟨_,rfl,rfl,_,_,rfl,_,_,rfl,rfl,_,rfl,trivial,_,rfl,trivial,_,rfl,ha',_,rfl,ifF rfl ⟨rfl,_,_,rfl⟩⟩
   ·rintro β o ⟨rfl,x0,x1,rfl⟩
    exact ⟨trivial,trivial,Nat.zero_le _,_,dEq_self (small_ints []),trivial,q⟩
theorem sc_law_copied:FnScope ["row"] ["row"] (defScope s_law_copied):=⟨rfl,rfl,rfl,by decide +kernel,rfl,by decide +kernel,by decide +kernel⟩
theorem ok_copied {fdCo:Addr} {fddCo:FuncData} (dCo:Df K mg "_law_copied" s_law_copied ["row"] fdCo fddCo) (B:Bs mg):FnOk P w K mg base CX0 1 fdCo fddCo ["row"] (spQ P w true fCopy):=by
 refine okQ dCo.F sc_law_copied (fun ds R ⟨n,ps,e,_⟩=>by subst e; rfl) fun cdv A outer s H E hr=>⟨_,(pbs_one (pb_ret (pq_tup (pqa_cons (pq_ix nok_NF ix_m (pq_var (i:=0)) pq_int) (pqa_cons (pq_callTy nok_NL call_dListN B.list bt_list (pqa_cons (pq_ix nok_NF ix_m (pq_var (i:=0)) pq_int) pqa_nil)) pqa_nil))))),fun ds R h=>?_⟩
 obtain ⟨n,ps,rfl,q⟩:=h
 exact ⟨_,rfl,trivial,_,rfl,trivial,_,rfl,trivial,_,rfl,.inr ⟨trivial,_,rfl,.inl ⟨flats_ts,trivial,sz2,trivial,q⟩⟩⟩
theorem sc_law_wholes:FnScope ["many","ties","near","found","j","i"] ["many","ties"] (defScope s_law_wholes):=⟨rfl,rfl,rfl,by decide +kernel,rfl,by decide +kernel,by decide +kernel⟩
theorem ok_wholes {fdWh:Addr} {fddWh:FuncData} (dWh:Df K mg "_law_wholes" s_law_wholes ["many","ties"] fdWh fddWh) (B:Bs3 mg):FnOk P w K mg base CX0 1 fdWh fddWh ["many","ties"] (spQ P w true fWholes):=by
 refine okQ dWh.F sc_law_wholes (fun ds R ⟨n,ps,e,_⟩=>by subst e; rfl) fun cdv A outer s H E hr=>⟨_,(pbs_cons (sLcC (i:=2) "point" false ["point","ties"] [none,some 1] (by rfl) (by decide:(["point","ties"]:List Str).Nodup) rfl (fun _=>(pqi_range1 B.range (pqa_cons (pq_var (i:=0)) pqa_nil))) (fun _ _ _ _ _ _=>(pbg_name (i:=0) (by decide:(["point","ties"]:List Str).Nodup))) (fun _ _ _ _ _ _=>ts_nil) (fun _ _ _ _ _ _=>(lcT ["a","b","point"] [none,none,some 0] (by rfl) (by decide:(["a","b","point"]:List Str).Nodup) rfl (pqi_list (pq_var (i:=1))) (fun _ _ _ _ _ _=>(pbg_tup (n:=2) rfl (pbgs_cons (pbg_name (i:=0) (by decide:(["a","b","point"]:List Str).Nodup)) (pbgs_cons (pbg_name (i:=1) (by decide:(["a","b","point"]:List Str).Nodup)) pbgs_nil)))) (fun _ _ _ _ _ _=>(ts_one (pqt_cmp nok_NF (OpD.m (op_dEq hr.units)) (pq_var (i:=1)) (pq_var (i:=2))))) (fun _ _ _ _ _ _=>(pq_var (i:=0))))) sc_law_wholes.nd)
    (pbs_cons (pb_setO (i:=3) (fun _=>pq_dnewA) sc_law_wholes.nd)
    (pbs_cons (pb_for PassesOwn.never rfl (pqi_range1 B.range (pqa_cons (pq_op nok_NL op_dAddN (pq_var (i:=0)) pq_int) pqa_nil)) (pbg_name (i:=4) sc_law_wholes.nd) (pbs_cons (pb_dput (i:=3) hr.units1 (fun _=>pq_int) (fun _=>(pq_tup (pqa_cons (pq_var (i:=4)) (pqa_cons (pq_var (i:=4)) pqa_nil)))))
    (pbs_one (pb_for PassesOwn.never rfl (pqi_range3 B.range (pqa_cons (pq_op nok_NF (OpD.m op_dSub) (pq_var (i:=4)) pq_int) (pqa_cons (pq_un un_dNeg pq_int) (pqa_cons (pq_un un_dNeg pq_int) pqa_nil)))) (pbg_name (i:=5) sc_law_wholes.nd) (pbs_one (pb_dput (i:=3) hr.units1 (fun _=>(pq_callB nok_NF (CallD.m (call_dSum rfl)) B.sum bt_sum (pqa_cons (lcA ["a","found","i","j"] [none,some 3,some 5,some 4] (by rfl) (by decide:(["a","found","i","j"]:List Str).Nodup) rfl (pqi_list (pq_ix nok_NF ix_m (pq_var (i:=2)) (pq_op nok_NF (OpD.m op_dSub) (pq_var (i:=4)) pq_int))) (fun _ _ _ _ _ _=>(pbg_name (i:=0) (by decide:(["a","found","i","j"]:List Str).Nodup))) (fun _ _ _ _ _ _=>(ts_one (pqt_cmp nok_NF (OpD.m op_dGe) (pq_var (i:=0)) (pq_var (i:=2))))) (fun _ _ _ _ _ _=>(pq_op nok_NF (OpD.m op_dMul) (pq_ix nok_NF (ixd_m hr.units1) (pq_var (i:=1)) (pq_tup (pqa_cons (pq_var (i:=2)) (pqa_cons (pq_var (i:=0)) pqa_nil)))) (pq_ix nok_NF (ixd_m hr.units1) (pq_var (i:=1)) (pq_tup (pqa_cons (pq_op nok_NL op_dAddN (pq_var (i:=0)) pq_int) (pqa_cons (pq_op nok_NF (OpD.m op_dSub) (pq_var (i:=3)) pq_int) pqa_nil))))))) pqa_nil))) (fun _=>(pq_tup (pqa_cons (pq_var (i:=5)) (pqa_cons (pq_var (i:=4)) pqa_nil))))))))))
    (pbs_one (pb_retV (i:=3)))))),fun ds R h=>?_⟩
 obtain ⟨n,ps,rfl,ok,hn,q⟩:=h
 have hsm:=ok.sm
 have hp:∀ p ∈ ps,p.1 < p.2:=fun p hp=>(ok.lt p hp).1
 refine ⟨_,rfl,trivial,n,rfl,by omega,by omega,trivial,?_⟩
 rw [Int.toNat_natCast]
 refine ⟨fun a β o=>a≤n∧(∃ x0,β=[x0,some (.val false (tsD ps))])∧o=(List.range a).map fun i=>D.lst (Q.intsD (near ps i)),⟨Nat.zero_le _,⟨_,rfl⟩,rfl⟩,?_,?_⟩
 ·rintro a d β o hd ⟨ha,⟨x0,rfl⟩,rfl⟩
  obtain ⟨ha',rfl⟩:=rngD_get hd
  refine ⟨_,rfl,_,rfl,trivial,loop1B (fun p=>decide (p.2=a)) (fun p=>.int (p.1:Int)) trivial (sz_le (by omega)) (fun p hp x0 x1 o J ho j1 j2=>?_) ⟨trivial,by rw [List.length_map,List.length_range]; exact sz_lt (by omega),ha',⟨_,rfl⟩,?_⟩⟩
  ·refine ⟨_,rfl,rfl,_,_,rfl,_,_,rfl,rfl,_,rfl,trivial,_,rfl,_,dEq_int _ _,_,rfl,ifD (fun h=>?_) (fun h=>j2 (by simp; omega) _ _)⟩
   exact ⟨_,rfl,trivial,ho,j1 (by simp; omega) _ _⟩
  ·rw [List.range_succ,List.map_append,← near_ints]
   rfl
 ·rintro β o ⟨_,⟨x0,rfl⟩,rfl⟩
  rw [rngD_len]
  refine ⟨trivial,trivial,_,rfl,trivial,_,rfl,trivial,(n:Int)+1,rfl,by omega,by omega,trivial,?_⟩
  rw [show ((n:Int)+1).toNat=n+1 by omega]
  refine ⟨fun J β=>J≤n+1∧∃ kvs x4 x5,β=[some (.val false (.int n)),some (.val false (tsD ps)),some (.val true (.lst ((List.range n).map fun i=>D.lst (Q.intsD (near ps i))))),some (.own (dA kvs)),x4,x5]∧Kn ps kvs J 0,⟨Nat.zero_le _,[],_,_,rfl,kn_nil⟩,?_,?_⟩
  ·rintro J d β hd ⟨_,kvs,x4,x5,rfl,kn⟩
   obtain ⟨hJ,rfl⟩:=rngD_get hd
   rw [Int.zero_add]
   obtain ⟨v0,k0⟩:=kn_add (i:=J) kn (by omega)
   rw [show J - J=0 by omega,cW_zero] at k0
   have hlen:=kn.len
   refine ⟨trivial,⟨_,rfl⟩,_,rfl,trivial,_,rfl,trivial,sz2,kvs,tI (J,J),rfl,rfl,v0,Nat.lt_of_le_of_lt (show kvs.length≤4200 by omega) (by decide),?_⟩
   refine ⟨_,rfl,trivial,_,rfl,trivial,_,rfl,rfl,trivial,_,rfl,rfl,trivial,(J:Int) - 1,-1,rfl,⟨by omega,by omega,by omega,by omega⟩,trivial,?_⟩
   rw [show ((J:Int) - 1 - -1).toNat=J by omega]
   refine ⟨fun m β=>m≤J∧∃ kvs x5,β=[some (.val false (.int n)),some (.val false (tsD ps)),some (.val true (.lst ((List.range n).map fun i=>D.lst (Q.intsD (near ps i))))),some (.own (dA kvs)),some (.val true (.int J)),x5]∧Kn ps kvs J (m+1),⟨Nat.zero_le _,_,_,rfl,k0⟩,?_,?_⟩
   ·rintro m d β hd ⟨_,kvs,x5,rfl,kn⟩
    obtain ⟨hm,rfl⟩:=rngN_get hd
    have hlen:=kn.len
    rw [show (J:Int) - 1 - (m:Int)=((J - 1 - m:Nat):Int) by omega]
    obtain ⟨v0,k0⟩:=kn_add (i:=J - 1 - m) kn (by omega)
    refine ⟨_,rfl,trivial,_,rfl,trivial,_,rfl,_,ixInt (i:=J - 1) (by omega) (rng_get (by omega)),.inr ⟨_,rfl,trivial,?_⟩⟩
    refine loop1A (fun a=>decide (J - 1 - m≤a)) (fun a=>.int ((cW ps (a - (J - 1 - m)) (J - 1 - m):Int) * (cW ps (J - 1 - (a+1)) (a+1):Int))) trivial (sz_le (Nat.le_trans near_len (by omega))) (fun a ha x0 o J' ho j1 j2=>?_) ?_
    ·have hab:=hp _ (mem_near.mp ha)
     dsimp only at hab
     refine ⟨_,rfl,trivial,_,rfl,_,rfl,_,rfl,ifD (fun h=>?_) (fun h=>j2 (by simp; omega) _)⟩
     have h':J - 1 - m≤a:=by omega
     exact ⟨_,rfl,trivial,_,rfl,trivial,_,rfl,trivial,sz2,_,get_at rfl rfl (kn.ge (J - 1 - m) a h' (.inl (by omega))),trivial,_,rfl,trivial,_,rfl,trivial,_,rfl,trivial,_,rfl,trivial,_,rfl,trivial,sz2,_,get_at (i:=a+1) (j:=J - 1) (by omega) (by omega) (kn.ge (a+1) (J - 1) (by omega) (.inl (by omega))),_,dMul_c (cW_mul (by omega)),trivial,ho,j1 (decide_eq_true h') _⟩
    ·have ev:(((near ps (J - 1)).filter fun a=>decide (J - 1 - m≤a)).map fun a=>(cW ps (a - (J - 1 - m)) (J - 1 - m):Int) * (cW ps (J - 1 - (a+1)) (a+1):Int)).sum=(cW ps (J - (J - 1 - m)) (J - 1 - m):Int):=by
      rw [← cW_sum hp ok.nd (show J - 1 - m < J by omega),← sum_cast]
      congr 1
     refine ⟨trivial,_,sum_ints,trivial,⟨_,rfl⟩,_,rfl,trivial,_,rfl,trivial,sz2,kvs,tI (J - 1 - m,J),rfl,rfl,v0,Nat.lt_of_le_of_lt (show kvs.length≤4200 by omega) (by decide),hm,_,_,rfl,?_⟩
     rw [ev]
     exact k0
   ·rintro β ⟨_,kvs,x5,rfl,kn⟩
    rw [rngN_len] at kn
    exact ⟨hJ,kvs,_,_,rfl,kn_next (by omega) kn⟩
  ·rintro β ⟨_,kvs,x4,x5,rfl,kn⟩
   rw [rngD_len] at kn
   exact ⟨_,rfl,q kvs (kn_end kn)⟩
theorem sc_is_whole:FnScope ["table","i","j"] ["table","i","j"] (defScope s_is_whole):=⟨rfl,rfl,rfl,by decide +kernel,rfl,by decide +kernel,by decide +kernel⟩
theorem ok_isW {fdIw:Addr} {fddIw:FuncData} (dIw:Df K mg "is_whole" s_is_whole ["table","i","j"] fdIw fddIw):FnOk P w K mg base CX0 1 fdIw fddIw ["table","i","j"] (spQ P w true fIsW):=by
 refine okQ dIw.F sc_is_whole (fun ds R ⟨n,T,i,j,e,_⟩=>by subst e; rfl) fun cdv A outer s H E hr=>⟨_,(pbs_one (pb_ret (pq_cmp nok_NF (OpD.m (op_dEq hr.units)) (pq_op nok_NF (OpD.m op_dMul) pq_int (pq_ix nok_NF ix_m (pq_ix nok_NF ix_m (pq_var (i:=0)) (pq_var (i:=1))) (pq_op nok_NF (OpD.m op_dSub) (pq_var (i:=2)) (pq_var (i:=1))))) (pq_op nok_NF (OpD.m op_dSub) (pq_var (i:=2)) (pq_var (i:=1)))))),fun ds R h=>?_⟩
 obtain ⟨n,T,i,j,rfl,h1,h2,q⟩:=h
 have ej:(j:Int) - (i:Int)=((j - i:Nat):Int):=by omega
 rw [← ej] at q
 exact ⟨trivial,_,rfl,trivial,_,rfl,_,ixTab rfl (by omega),.inr ⟨trivial,_,rfl,trivial,_,rfl,_,rfl,_,ixRow (l:=j - i) ej (by omega),_,dMul_c (.inl ⟨by decide,by decide⟩),trivial,_,rfl,trivial,_,rfl,_,rfl,_,dEq_int _ _,trivial,q⟩⟩
theorem sc_ends_from:FnScope ["table","i"] ["table","i"] (defScope s_ends_from):=⟨rfl,rfl,rfl,by decide +kernel,rfl,by decide +kernel,by decide +kernel⟩
theorem ok_ends {fdEf:Addr} {fddEf:FuncData} (dEf:Df K mg "ends_from" s_ends_from ["table","i"] fdEf fddEf) {fdIw:Addr} {fddIw:FuncData} (dIw:Df K mg "is_whole" s_is_whole ["table","i","j"] fdIw fddIw) (B:Bs3 mg):FnOk P w K mg base CX0 2 fdEf fddEf ["table","i"] (spQ P w true fEnds):=by
 have GIw:FnOk P w K mg base CX0 1 _ _ _ (spQ P w true fIsW):=ok_isW dIw
 refine okQ dEf.F sc_ends_from (fun ds R ⟨n,ps,i,e,_⟩=>by subst e; rfl) fun cdv A outer s H E hr=>⟨_,(pbs_one (pb_ret (lcA ["j","table","i"] [none,some 0,some 1] (by rfl) (by decide:(["j","table","i"]:List Str).Nodup) rfl (pqi_range2 B.range (pqa_cons (pq_op nok_NL op_dAddN (pq_var (i:=1)) pq_int) (pqa_cons (pq_callB nok_NF (CallD.m call_dLen) B.len bt_len (pqa_cons (pq_var (i:=0)) pqa_nil)) pqa_nil))) (fun _ _ _ _ _ _=>(pbg_name (i:=0) (by decide:(["j","table","i"]:List Str).Nodup))) (fun _ _ _ _ _ _=>(ts_one (PQW.t (pqw_or (pqt_cmp nok_NF (OpD.m (op_dEq hr.units)) (pq_var (i:=0)) (pq_op nok_NL op_dAddN (pq_var (i:=2)) pq_int)) (pqw_or1 (pqt_val (pq_call fIsW.mono GIw (hr.mono (by decide)) dIw.m dIw.F.kp dIw.b (pqa_cons (pq_var (i:=1)) (pqa_cons (pq_var (i:=2)) (pqa_cons (pq_var (i:=0)) pqa_nil)))))))))) (fun _ _ _ _ _ _=>(pq_var (i:=0)))))),fun ds R h=>?_⟩
 obtain ⟨n,ps,i,rfl,ok,hi,q⟩:=h
 have hn:=ok.le
 have hp:∀ p ∈ ps,p.1 < p.2:=fun p hp=>(ok.lt p hp).1
 have hlt:dLen [fullT n (tW ps w1)]=some (.int ((n:Int)+1)):=by
  show some (D.int (((List.range (n+1)).map _).length:Int))=_
  rw [List.length_map,List.length_range]
  rfl
 refine ⟨_,rfl,trivial,_,rfl,trivial,_,rfl,trivial,.int ((n:Int)+1),hlt,trivial,(i:Int)+1,(n:Int)+1,rfl,⟨by omega,by omega,by omega,by omega⟩,trivial,?_⟩
 rw [show ((n:Int)+1 - ((i:Int)+1)).toNat=n - i by omega]
 refine loop1A (endT (wT ps) i) (fun r=>.int (((i+1+r:Nat):Nat):Int)) trivial (by rw [List.length_range]; exact sz_le (by omega)) (fun r hr x0 o J ho j1 j2=>?_) ?_
 ·have hr':=List.mem_range.mp hr
  rw [show (i:Int)+1+(r:Int)=((i+1+r:Nat):Int) by omega]
  have ev:decide (2 * tW ps w1 (i+1+r - i) i=((i+1+r - i:Nat):Int))=wT ps (r+1) i:=by rw [show i+1+r - i=r+1 by omega]; exact wT_eq hp _ _
  refine ⟨_,rfl,trivial,_,rfl,trivial,_,rfl,_,dEq_int _ _,_,rfl,ifD (fun h=>?_) (fun h=>?_)⟩
  ·have e0:r=0:=by omega
   exact ⟨_,rfl,trivial,ho,j1 (by unfold endT; rw [decide_eq_true e0]; rfl) _⟩
  ·have e0:¬ r=0:=by omega
   have ee:endT (wT ps) i r=wT ps (r+1) i:=by unfold endT; rw [decide_eq_false e0]; rfl
   rw [ee] at j1 j2
   refine ⟨_,rfl,trivial,_,rfl,trivial,_,rfl,trivial,n,tW ps w1,i,i+1+r,rfl,by omega,by omega,_,rfl,?_⟩
   rw [ev]
   exact ifB (fun h=>⟨_,rfl,trivial,ho,j1 h _⟩) (fun h=>j2 h _)
 ·refine ⟨trivial,?_⟩
  unfold nD ends at q
  rw [List.map_map] at q
  exact q
theorem sc_fewest_cuts:FnScope ["row","many","table","fewest","i","cuts","at"] ["row"] (defScope s_fewest_cuts):=⟨rfl,rfl,rfl,by decide +kernel,rfl,by decide +kernel,by decide +kernel⟩
theorem ok_few {fdFw:Addr} {fddFw:FuncData} (dFw:Df K mg "fewest_cuts" s_fewest_cuts ["row"] fdFw fddFw) {fdEf:Addr} {fddEf:FuncData} (dEf:Df K mg "ends_from" s_ends_from ["table","i"] fdEf fddEf) {fdIw:Addr} {fddIw:FuncData} (dIw:Df K mg "is_whole" s_is_whole ["table","i","j"] fdIw fddIw) {fdTb:Addr} {fddTb:FuncData} (dTb:Df K mg "table_of" s_table_of ["row"] fdTb fddTb) {fdGt:Addr} {fddGt:FuncData} (dGt:Df K mg "greatest_table" s_greatest_table ["row","worth"] fdGt fddGt) {fdPt:Addr} {fddPt:FuncData} (dPt:Df K mg "partners_of" s_partners_of ["row"] fdPt fddPt) {fdSt:Addr} {fddSt:FuncData} (dSt:Df K mg "stretches_rising" s_stretches_rising ["many"] fdSt fddSt) {fdLn:Addr} {fddLn:FuncData} (dLn:Df K mg "least_number" s_least_number ["partners","worth","table","i","j"] fdLn fddLn) {fdNw:Addr} {fddNw:FuncData} (dNw:Df K mg "number_with" s_number_with ["worth","table","i","k","j"] fdNw fddNw) {fdOe:Addr} {fddOe:FuncData} (dOe:Df K mg "one_each" s_one_each ["row"] fdOe fddOe) (B:Bs3 mg):FnOk P w K mg base CX0 5 fdFw fddFw ["row"] (spQ P w true fFew):=by
 have GTb:FnOk P w K mg base CX0 4 _ _ _ (spQ P w true fTable):= ok_table dTb dGt dPt dSt dLn dNw dOe B
 have GEf:FnOk P w K mg base CX0 2 _ _ _ (spQ P w true fEnds):=ok_ends dEf dIw B
 refine okQ dFw.F sc_fewest_cuts (fun ds R ⟨n,ps,b,e,_⟩=>by subst e; rfl) fun cdv A outer s H E hr=>⟨_,(pbs_cons (pb_set (i:=1) (pq_ix nok_NF ix_m (pq_var (i:=0)) pq_int) sc_fewest_cuts.nd)
    (pbs_cons (pb_set (i:=2) (pq_call fTable.mono GTb (hr.mono (by decide)) dTb.m dTb.F.kp dTb.b (pqa_cons (pq_var (i:=0)) pqa_nil)) sc_fewest_cuts.nd)
    (pbs_cons (pb_setO (i:=3) (fun _=>(lcA ["place"] [none] (by rfl) (by decide:(["place"]:List Str).Nodup) rfl (pqi_range1 B.range (pqa_cons (pq_op nok_NL op_dAddN (pq_var (i:=1)) pq_int) pqa_nil)) (fun _ _ _ _ _ _=>(pbg_name (i:=0) (by decide:(["place"]:List Str).Nodup))) (fun _ _ _ _ _ _=>ts_nil) (fun _ _ _ _ _ _=>pq_int))) sc_fewest_cuts.nd)
    (pbs_cons (pb_for PassesOwn.never rfl (pqi_range3 B.range (pqa_cons (pq_op nok_NF (OpD.m op_dSub) (pq_var (i:=1)) pq_int) (pqa_cons (pq_un un_dNeg pq_int) (pqa_cons (pq_un un_dNeg pq_int) pqa_nil)))) (pbg_name (i:=4) sc_fewest_cuts.nd) (pbs_one (pb_setItem (i:=3) (fun _=>(pq_op nok_NL op_dAddN pq_int (pq_callB nok_NF (CallD.m (call_dMin rfl)) B.min bt_min (pqa_cons (lcA ["j","fewest"] [none,some 3] (by rfl) (by decide:(["j","fewest"]:List Str).Nodup) rfl (pqi_list (pq_call fEnds.mono GEf (hr.mono (by decide)) dEf.m dEf.F.kp dEf.b (pqa_cons (pq_var (i:=2)) (pqa_cons (pq_var (i:=4)) pqa_nil)))) (fun _ _ _ _ _ _=>(pbg_name (i:=0) (by decide:(["j","fewest"]:List Str).Nodup))) (fun _ _ _ _ _ _=>ts_nil) (fun _ _ _ _ _ _=>(pq_ix nok_NF ix_m (pq_var (i:=1)) (pq_var (i:=0))))) pqa_nil)))) (fun _=>(pq_var (i:=4))))))
    (pbs_cons (pb_setO (i:=5) (fun _=>(pq_lst pqa_nil)) sc_fewest_cuts.nd)
    (pbs_cons (pb_set (i:=6) pq_int sc_fewest_cuts.nd)
    (pbs_cons (pb_while PassesOwn.never (pqt_cmp nok_NF (OpD.m op_dLt) (pq_var (i:=6)) (pq_var (i:=1))) (pbs_cons (pb_set (i:=6) (pq_ix nok_NF ix_m (lcA ["j","fewest","at"] [none,some 3,some 6] (by rfl) (by decide:(["j","fewest","at"]:List Str).Nodup) rfl (pqi_list (pq_call fEnds.mono GEf (hr.mono (by decide)) dEf.m dEf.F.kp dEf.b (pqa_cons (pq_var (i:=2)) (pqa_cons (pq_var (i:=6)) pqa_nil)))) (fun _ _ _ _ _ _=>(pbg_name (i:=0) (by decide:(["j","fewest","at"]:List Str).Nodup))) (fun _ _ _ _ _ _=>(ts_one (pqt_cmp nok_NF (OpD.m (op_dEq hr.units)) (pq_ix nok_NF ix_m (pq_var (i:=1)) (pq_var (i:=0))) (pq_op nok_NF (OpD.m op_dSub) (pq_ix nok_NF ix_m (pq_var (i:=1)) (pq_var (i:=2))) pq_int)))) (fun _ _ _ _ _ _=>(pq_var (i:=0)))) pq_int) sc_fewest_cuts.nd)
    (pbs_one (pb_append (i:=5) (fun _=>(pq_var (i:=6)))))))
    (pbs_one (pb_retV (i:=5)))))))))),fun ds R h=>?_⟩
 obtain ⟨n,ps,b,rfl,ok,gb,q⟩:=h
 have hn:=ok.le
 have hp:∀ p ∈ ps,p.1 < p.2:=fun p hp=>(ok.lt p hp).1
 have hbl:∀ k,k≤n→(b k).length≤n - k:=fun k hk=>gb_len gb (n - k) k (Nat.le_refl _) (Nat.zero_le _) hk
 refine ⟨_,rfl,trivial,_,rfl,_,rfl,trivial,n,ps,rfl,ok,_,rfl,trivial,_,rfl,trivial,(n:Int)+1,rfl,by omega,by omega,trivial,?_⟩
 rw [show ((n:Int)+1).toNat=n+1 by omega]
 refine loop1A (fun _=>true) (fun _=>.int 0) trivial (by rw [List.length_range]; exact sz_le (by omega)) (fun x hx x0 o J ho h1 _=>⟨trivial,ho,h1 rfl _⟩) ?_
 rw [filter_true]
 refine ⟨trivial,_,rfl,trivial,_,rfl,trivial,_,rfl,rfl,trivial,_,rfl,rfl,trivial,(n:Int) - 1,-1,rfl,⟨by omega,by omega,by omega,by omega⟩,trivial,?_⟩
 rw [show ((n:Int) - 1 - -1).toNat=n by omega]
 have e0:((List.range (n+1)).map fun _=>D.int 0)=(List.range (n+1)).map fun k=>D.int (if n≤k then ((b k).length:Int) else 0):=by
  refine List.map_congr_left fun k hk=>?_
  have:=List.mem_range.mp hk
  by_cases h:n≤k
  ·rw [if_pos h,show k=n by omega,gb.1]; rfl
  ·rw [if_neg h]
 rw [e0]
 refine ⟨fun m β=>m≤n∧∃ x4 x5 x6,β=[some (.val false (rwD n ps)),some (.val true (.int n)),some (.val true (fullT n (tW ps w1))),some (.own (.lst ((List.range (n+1)).map fun k=>D.int (if n - m≤k then ((b k).length:Int) else 0)))),x4,x5,x6],⟨Nat.zero_le _,_,_,_,rfl⟩,?_,?_⟩
 ·rintro m d β hd ⟨_,x4,x5,x6,rfl⟩
  obtain ⟨hm,rfl⟩:=rngN_get hd
  obtain ⟨i,hi⟩:∃ i,i=n - 1 - m:=⟨_,rfl⟩
  rw [show (n:Int) - 1 - (m:Int)=(i:Int) by omega]
  obtain ⟨j,s⟩:=gb.2 i (Nat.zero_le _) (by omega)
  have em:dOfInts minI [.lst ((ends (wT ps) n i).map fun j=>D.int ((b j).length:Int))]=some (.int ((b j).length:Int)):=by
   have:=dOfInts_of (f:=minI) (ns:=(ends (wT ps) n i).map fun j=>((b j).length:Int)) (i:=((b j).length:Int)) (minI_of (List.mem_map.mpr ⟨j,s.me,rfl⟩) fun x hx=>by
    obtain ⟨k,hk,rfl⟩:=List.mem_map.mp hx
    have:=s.le k hk
    omega)
   rw [List.map_map] at this
   exact this
  have es:((List.range (n+1)).map fun k=>D.int (if n - m≤k then ((b k).length:Int) else 0)).set i (D.int (1+((b j).length:Int)))=(List.range (n+1)).map fun k=>D.int (if n - (m+1)≤k then ((b k).length:Int) else 0):=by
   apply List.ext_getElem?
   intro k
   rw [List.getElem?_set]
   by_cases hik:i=k
   ·subst hik
    rw [if_pos rfl,if_pos (by rw [List.length_map,List.length_range]; omega),rng_get (by omega),if_pos (by omega),s.eq,List.length_cons]
    congr 2
    omega
   ·rw [if_neg hik]
    by_cases hk:k < n+1
    ·rw [rng_get hk,rng_get hk]
     by_cases h:n - m≤k
     ·rw [if_pos h,if_pos (by omega)]
     ·rw [if_neg h,if_neg (by omega)]
    ·rw [List.getElem?_eq_none (by rw [List.length_map,List.length_range]; omega),List.getElem?_eq_none (by rw [List.length_map,List.length_range]; omega)]
  refine ⟨trivial,_,rfl,trivial,_,rfl,trivial,n,ps,i,rfl,ok,by omega,_,rfl,trivial,?_⟩
  refine loop1A (fun _=>true) (fun (j:Nat)=>.int ((b j).length:Int)) trivial (sz_le (Nat.le_trans ends_len (by omega))) (fun k hk x0 o J ho h1 _=>?_) ?_
  ·have hk':=ends_gt hk
   refine ⟨_,rfl,trivial,_,rfl,.int ((b k).length:Int),ixInt (i:=k) rfl (by rw [rng_get (by omega),if_pos (by omega)]),trivial,ho,h1 rfl _⟩
  rw [filter_true]
  refine ⟨trivial,_,em,_,rfl,trivial,⟨_,rfl⟩,_,rfl,_,(i:Int),i,rfl,rfl,by rw [List.length_map,List.length_range]; exact ixNn rfl (by omega),hm,_,_,_,by rw [es]; rfl⟩
 ·rintro β ⟨_,x4,x5,x6,rfl⟩
  rw [rngN_len,show n - n=0 by omega]
  have eF:((List.range (n+1)).map fun k=>D.int (if 0≤k then ((b k).length:Int) else 0))=(List.range (n+1)).map fun k=>D.int ((b k).length:Int):=List.map_congr_left fun k _=>by rw [if_pos (Nat.zero_le _)]
  rw [eF]
  refine ⟨Nat.zero_le _,trivial,fun m β=>∃ (at_:Nat) (cs:List Nat),m=n - at_∧at_≤n∧cs++b at_=b 0∧β=[some (.val false (rwD n ps)),some (.val true (.int n)),some (.val true (fullT n (tW ps w1))),some (.own (.lst ((List.range (n+1)).map fun k=>D.int ((b k).length:Int)))),x4,some (.own (nD cs)),some (.val true (.int (at_:Int)))],⟨n,0,[],rfl,Nat.zero_le _,rfl,rfl⟩,?_⟩
  rintro m β ⟨at_,cs,rfl,hat,hcs,rfl⟩
  refine ⟨_,rfl,trivial,_,rfl,_,rfl,_,rfl,ifD (fun h=>?_) (fun h=>?_)⟩
  ·have hlt:at_ < n:=by omega
   obtain ⟨j,s⟩:=gb.2 at_ (Nat.zero_le _) hlt
   have hj:=ends_gt s.me
   have hle:(b at_).length=(b j).length+1:=by rw [s.eq,List.length_cons]
   refine ⟨_,rfl,trivial,_,rfl,trivial,n,ps,at_,rfl,ok,hlt,_,rfl,trivial,?_⟩
   refine loop1A (fun k=>decide (((b k).length:Int)=((b at_).length:Int) - 1)) (fun (k:Nat)=>.int (k:Int)) trivial (sz_le (Nat.le_trans ends_len (by omega))) (fun k hk x0 o J ho h1 h2=>?_) ?_
   ·have hk':=ends_gt hk
    exact ⟨_,rfl,trivial,_,rfl,.int ((b k).length:Int),ixInt (i:=k) rfl (rng_get (by omega)),trivial,_,rfl,trivial,_,rfl,.int ((b at_).length:Int),ixInt (i:=at_) rfl (rng_get (by omega)),trivial,_,rfl,_,dEq_int _ _,_,rfl,ifD (fun h=>⟨_,rfl,trivial,ho,h1 (decide_eq_true h) _⟩) (fun h=>h2 (decide_eq_false h) _)⟩
   ·obtain ⟨r,hf⟩:=filter_first (t:=fun k=>decide (((b k).length:Int)=((b at_).length:Int) - 1)) ends_pw s.me (decide_eq_true (by omega)) (fun x hx hxj=>decide_eq_false (by have:=s.lt x hx hxj; omega))
    rw [hf]
    have hcl:(cs++b at_).length≤n:=by rw [hcs]; exact hbl 0 (Nat.zero_le _)
    rw [List.length_append] at hcl
    refine ⟨trivial,.int (j:Int),ixInt (i:=0) rfl rfl,⟨_,rfl⟩,_,rfl,trivial,_,rfl,by rw [List.length_map]; exact sz_lt (by omega),n - j,by omega,j,cs++[j],rfl,hj.2,by rw [← hcs,s.eq,List.append_assoc]; rfl,?_⟩
    rw [show nD (cs++[j])=.lst ((cs.map fun (k:Nat)=>D.int (k:Int))++[.int (j:Int)]) by unfold nD; rw [List.map_append]; rfl]
    rfl
  ·have e:at_=n:=by omega
   subst e
   rw [gb.1,List.append_nil] at hcs
   subst hcs
   exact ⟨_,rfl,q⟩
end
end K37
end

noncomputable section
set_option Elab.async false
set_option linter.all false
set_option maxRecDepth 100000
set_option maxHeartbeats 4000000
namespace K37
open PySem L2 L2.Q
section
variable {P:Program} {w:World} {K:PySem.W.Frag} {mg:Str→Option Value} {base:Heap}
theorem sc_law:FnScope ["script","cell","row","many","counts","best","i","some","least","handed","again","told"] ["script"] (defScope s_law):=⟨rfl,rfl,rfl,by decide +kernel,rfl,by decide +kernel,by decide +kernel⟩
def spLaw (K:PySem.W.Frag):Sp:=fun vs H Q _=>∃ (a:Addr) (ns:List Int),vs=[.ref a]∧SqL K H a (ns.map V.int)∧ns.length≤63∧∀ H',Q (.bl true) H'
def JL (β:Q.Bet):Prop:=∃ y0 y1 y2 y3 y4 y5 y6 y7 y8 y9 y10 y11:Option Q.B,β=[y0,y1,y2,y3,y4,y5,y6,y7,y8,y9,y10,y11]
theorem ok_law {f:Addr} {fd:FuncData} (F:Fun K "law" "law" s_law f fd) (B:Bs3 mg) {fdSt:Addr} {fddSt:FuncData} (dSt:Df K mg "stretches_rising" s_stretches_rising ["many"] fdSt fddSt) {fdPt:Addr} {fddPt:FuncData} (dPt:Df K mg "partners_of" s_partners_of ["row"] fdPt fddPt) {fdGt:Addr} {fddGt:FuncData} (dGt:Df K mg "greatest_table" s_greatest_table ["row","worth"] fdGt fddGt) {fdNw:Addr} {fddNw:FuncData} (dNw:Df K mg "number_with" s_number_with ["worth","table","i","k","j"] fdNw fddNw) {fdLn:Addr} {fddLn:FuncData} (dLn:Df K mg "least_number" s_least_number ["partners","worth","table","i","j"] fdLn fddLn) {fdTb:Addr} {fddTb:FuncData} (dTb:Df K mg "table_of" s_table_of ["row"] fdTb fddTb) {fdOe:Addr} {fddOe:FuncData} (dOe:Df K mg "one_each" s_one_each ["row"] fdOe fddOe) {fdFw:Addr} {fddFw:FuncData} (dFw:Df K mg "fewest_cuts" s_fewest_cuts ["row"] fdFw fddFw) {fdIw:Addr} {fddIw:FuncData} (dIw:Df K mg "is_whole" s_is_whole ["table","i","j"] fdIw fddIw) {fdEf:Addr} {fddEf:FuncData} (dEf:Df K mg "ends_from" s_ends_from ["table","i"] fdEf fddEf) {fdP:Addr} {fddP:FuncData} (dP:Df K mg "_law_pot" s_law_pot ["cell"] fdP fddP) {fdT:Addr} {fddT:FuncData} (dT:Df K mg "_law_take" s_law_take ["pot","many"] fdT fddT) {fdPl:Addr} {fddPl:FuncData} (dPl:Df K mg "_law_planted" s_law_planted ["pot","many"] fdPl fddPl) {fdR:Addr} {fddR:FuncData} (dR:Df K mg "_law_row" s_law_row ["pot"] fdR fddR) {fdCo:Addr} {fddCo:FuncData} (dCo:Df K mg "_law_copied" s_law_copied ["row"] fdCo fddCo) {fdWh:Addr} {fddWh:FuncData} (dWh:Df K mg "_law_wholes" s_law_wholes ["many","ties"] fdWh fddWh) {fdM:Addr} {fddM:FuncData} (dM:Df K mg "_law_same" s_law_same ["found","due"] fdM fddM):FnOk P w K mg base CX0 6 f fd ["script"] (spLaw K):=by
 have GP:FnOk P w K mg base CX0 1 _ _ _ (spQ P w true fPot):=ok_pot dP.F B.toBs
 have GR:FnOk P w K mg base CX0 3 _ _ _ (spQH P w okP true fRowP):=ok_row dR dT dPl B.toBs
 have GWh:FnOk P w K mg base CX0 1 _ _ _ (spQ P w true fWholes):=ok_wholes dWh B
 have GCo:FnOk P w K mg base CX0 1 _ _ _ (spQ P w true fCopy):=ok_copied dCo B.toBs
 have GFw:FnOk P w K mg base CX0 5 _ _ _ (spQ P w true fFew):=ok_few dFw dEf dIw dTb dGt dPt dSt dLn dNw dOe B
 have GM:FnOk P w K mg base CX0 2 _ _ _ (spQ P w true (fSameQ 1)):=ok_same dM B.toBs2 1
 refine F.ok sc_law (fun vs H Q E h=>?_) (fun cdv A outer s H vs Qk E hr h=>?_)
 ·obtain ⟨a,ns,rfl,_⟩:=h
  rfl
 ·obtain ⟨a,ns,rfl,hS,hlen,k⟩:=h
  have hio:∀ b:Addr,¬ (fun _=>False) b:=fun b z=>z
  obtain ⟨ψ,hb,hψ⟩:∃ ψ,Q.PBs (cxOf CX0 P w K mg base _ "law" (defScope s_law) f cdv A outer s H E).nox ⟨H,fun _=>False,true,fun _=>False⟩ (match (defBody s_law) with | .For _ _ b _ _::_=>b | _=>[]) ψ ∧
    ∀ (c:Int) (x0 x2 x3 x4 x5 x6 x7 x8 x9 x10 x11:Option Q.B),ψ { nx:=JL,rt:=fun d _=>d=.bl true,bk:=JL,ct:=JL } [x0,some (.val true (.int c)),x2,x3,x4,x5,x6,x7,x8,x9,x10,x11]:=by
   refine ⟨_,(pbs_cons (pb_set (i:=2) (pq_drawE fRowP.mono GR (hr.mono (by decide)) dR.m dR.F.kp dR.b (fun _=>(pq_call fPot.mono GP (hr.mono (by decide)) dP.m dP.F.kp dP.b (pqa_cons (pq_var (i:=1)) pqa_nil))) (fun _=>pqa_nil)) sc_law.nd)
    (pbs_cons (pb_set (i:=3) (pq_ix nok_NF ix_m (pq_var (i:=2)) pq_int) sc_law.nd)
    (pbs_cons (pb_set (i:=4) (pq_call fWholes.mono GWh (hr.mono (by decide)) dWh.m dWh.F.kp dWh.b (pqa_cons (pq_var (i:=3)) (pqa_cons (pq_ix nok_NF ix_m (pq_var (i:=2)) pq_int) pqa_nil))) sc_law.nd)
    (pbs_cons (pb_dnewI (i:=5) (fun _=>(pq_var (i:=3))) sc_law.nd)
    (pbs_cons (pb_for PassesOwn.never rfl (pqi_range3 B.range (pqa_cons (pq_op nok_NF (OpD.m op_dSub) (pq_var (i:=3)) pq_int) (pqa_cons (pq_un un_dNeg pq_int) (pqa_cons (pq_un un_dNeg pq_int) pqa_nil)))) (pbg_name (i:=6) sc_law.nd) (pbs_cons (sLcA (i:=7) true ["j","best","i","counts"] [none,some 5,some 6,some 4] (by rfl) (by decide:(["j","best","i","counts"]:List Str).Nodup) rfl (fun _=>(pqi_range2 B.range (pqa_cons (pq_op nok_NL op_dAddN (pq_var (i:=6)) pq_int) (pqa_cons (pq_op nok_NL op_dAddN (pq_var (i:=3)) pq_int) pqa_nil)))) (fun _ _ _ _ _ _=>(pbg_name (i:=0) (by decide:(["j","best","i","counts"]:List Str).Nodup))) (fun _ _ _ _ _ _=>(ts_one (PQW.t (pqw_or (pqt_cmp nok_NF (OpD.m (op_dEq hr.units)) (pq_var (i:=0)) (pq_op nok_NL op_dAddN (pq_var (i:=2)) pq_int)) (pqw_or1 (pqt_cmp nok_NF (OpD.m op_dGt) (pq_ix nok_NF (ixd_m hr.units1) (pq_var (i:=3)) (pq_tup (pqa_cons (pq_var (i:=2)) (pqa_cons (pq_var (i:=0)) pqa_nil)))) pq_int)))))) (fun _ _ _ _ _ _=>(pq_op nok_NL op_dAddN (pq_lst (pqa_cons (pq_var (i:=0)) pqa_nil)) (pq_ix nok_NF (ixi_m hr.units1) (pq_var (i:=1)) (pq_var (i:=0))))) sc_law.nd)
    (pbs_cons (pb_set (i:=8) (pq_callB nok_NF (CallD.m (call_dMin rfl)) B.min bt_min (pqa_cons (lcA ["one"] [none] (by rfl) (by decide:(["one"]:List Str).Nodup) rfl (pqi_list (pq_frz (i:=7))) (fun _ _ _ _ _ _=>(pbg_name (i:=0) (by decide:(["one"]:List Str).Nodup))) (fun _ _ _ _ _ _=>ts_nil) (fun _ _ _ _ _ _=>(pq_callB nok_NF (CallD.m call_dLen) B.len bt_len (pqa_cons (pq_var (i:=0)) pqa_nil)))) pqa_nil)) sc_law.nd)
    (pbs_one (pb_dputI (i:=5) hr.units1 (fun _=>(pq_callB nok_NF (CallD.m (call_dMinI rfl hr.units2)) B.min bt_min (pqa_cons (lcF 0 ["one","least"] [none,some 8] (by rfl) (by decide:(["one","least"]:List Str).Nodup) rfl (pqi_list (pq_var (i:=7))) (fun _ _ _ _ _ _=>(ts_one (pqt_cmp nok_NF (OpD.m (op_dEq hr.units)) (pq_callB nok_NF (CallD.m call_dLen) B.len bt_len (pqa_cons (pq_var (i:=0)) pqa_nil)) (pq_var (i:=1)))))) pqa_nil))) (fun _=>(pq_var (i:=6))))))))
    (pbs_cons (pb_set (i:=9) (pq_call fCopy.mono GCo (hr.mono (by decide)) dCo.m dCo.F.kp dCo.b (pqa_cons (pq_var (i:=2)) pqa_nil)) sc_law.nd)
    (pbs_one (pb_for PassesOwn.never rfl (pqi_range1 B.range (pqa_cons pq_int pqa_nil)) (pbg_name (i:=10) sc_law.nd) (pbs_cons (pb_setO (i:=11) (fun _=>(pq_call fFew.mono GFw (hr.mono (by decide)) dFw.m dFw.F.kp dFw.b (pqa_cons (pq_var (i:=9)) pqa_nil))) sc_law.nd)
    (pbs_cons (pb_if (PQW.t (pqw_or (pqt_not (pqt_val (pq_call fSameQ.mono GM (hr.mono (by decide)) dM.m dM.F.kp dM.b (pqa_cons (pq_var (i:=11)) (pqa_cons (pq_getI (i:=5) hr.units1 pq_int) pqa_nil))))) (pqw_or1 (pqt_cmp nok_NF (OpD.m (op_dNe hr.units)) (pq_var (i:=9)) (pq_var (i:=2)))))) (pbs_one (pb_ret pq_bl)) pbs_nil)
    (pbs_one (pb_append (i:=11) (fun _=>pq_int))))))))))))),fun c x0 x2 x3 x4 x5 x6 x7 x8 x9 x10 x11=>?_⟩
   refine ⟨_,rfl,trivial,c,rfl,fun ns hk=>⟨ns,rfl,rfl,hk,rfl,rfl,fun n ts n0 n1 hl tr _ nd=>?_⟩⟩
   obtain ⟨m,ps,ok,en,_,er⟩:=row_nat n0 (by omega) hl tr nd
   rw [er]
   have hm:m≤40:=by omega
   have hp:∀ p ∈ ps,p.1 < p.2:=fun p hp=>(ok.lt p hp).1
   refine ⟨_,rfl,trivial,_,rfl,?_⟩
   refine ⟨_,rfl,trivial,_,rfl,trivial,_,rfl,.inr ⟨trivial,m,ps,rfl,ok,hm,fun kvs hc=>?_⟩⟩
   refine ⟨_,rfl,(m:Int),rfl,by show 5 < 12; decide,?_⟩
   refine ⟨_,rfl,trivial,_,rfl,trivial,_,rfl,rfl,trivial,_,rfl,rfl,trivial,(m:Int) - 1,-1,rfl,⟨by omega,by omega,by omega,by omega⟩,trivial,?_⟩
   rw [show ((m:Int) - 1 - -1).toNat=m by omega]
   refine ⟨fun k β=>k≤m∧∃ (bs:List (Int × D)) (b:Nat→List Nat) (x6 x7 x8:Option Q.B),β=[x0,some (.val true (.int c)),some (.val true (rwD m ps)),some (.val true (.int m)),some (.val true (dA kvs)),some (.shl true (dI bs)),x6,x7,x8,x9,x10,x11]∧GoodB (wT ps) m b (m - k)∧(∀ q:Nat,m - k≤q→q≤m→valI bs q=some (nD (b q)))∧(∀ q:Nat,q < m - k→valI bs q=none)∧bs.length≤k+1,⟨Nat.zero_le _,[((m:Int),.lst [])],fun _=>[],_,_,_,rfl,⟨rfl,fun k h1 h2=>by omega⟩,fun q h1 h2=>by
     rw [show q=m by omega]
     unfold valI
     rw [List.find?_cons,decide_eq_true rfl]
     rfl,fun q h=>by
     unfold valI
     rw [List.find?_cons,decide_eq_false (show ¬ (m:Int)=(q:Int) by omega)]
     rfl,Nat.le_refl _⟩,?_,?_⟩
   ·rintro k d β hd ⟨_,bs,b,x6,x7,x8,rfl,gb,hv,hno,hbl⟩
    obtain ⟨hk',rfl⟩:=rngN_get hd
    obtain ⟨i,hi⟩:∃ i,i=m - 1 - k:=⟨_,rfl⟩
    rw [show (m:Int) - 1 - (k:Int)=(i:Int) by omega]
    rw [show m - k=i+1 by omega] at gb hv hno
    obtain ⟨j0,hj,hle,hlt,gb'⟩:=gb_step gb (show i < m by omega)
    have hj':=ends_gt hj
    have hlb:∀ q:Nat,i+1≤q→q≤m→(b q).length≤40:=fun q h1 h2=>Nat.le_trans (gb_len gb (m - q) q (Nat.le_refl _) h1 h2) (by omega)
    refine ⟨_,rfl,trivial,_,rfl,trivial,_,rfl,trivial,_,rfl,trivial,(i:Int)+1,(m:Int)+1,rfl,⟨by omega,by omega,by omega,by omega⟩,trivial,?_⟩
    rw [show ((m:Int)+1 - ((i:Int)+1)).toNat=m - i by omega]
    refine loop1A (endT (wT ps) i) (fun r=>nD ((i+1+r)::b (i+1+r))) trivial (by rw [List.length_range]; exact sz_le (by omega)) (fun r hr y0 o J ho j1 j2=>?_) ?_
    ·have hr':=List.mem_range.mp hr
     rw [show (i:Int)+1+(r:Int)=((i+1+r:Nat):Int) by omega]
     have eadd:dAdd (.lst [.int ((i+1+r:Nat):Int)]) (nD (b (i+1+r)))=some (nD ((i+1+r)::b (i+1+r))):=dAdd_lst (by have:=hlb (i+1+r) (by omega) (by omega); rw [List.length_map]; show 1+_≤_; omega)
     have eget:dGetI (dI bs) (.int ((i+1+r:Nat):Int))=some (nD (b (i+1+r))):=by rw [dGetI_of]; exact hv (i+1+r) (by omega) (by omega)
     have hcv:=hc i (i+1+r) (by omega) (by omega)
     rw [show i+1+r - i=r+1 by omega] at hcv
     refine ⟨_,rfl,trivial,_,rfl,trivial,_,rfl,_,dEq_int _ _,_,rfl,ifD (fun h=>?_) (fun h=>?_)⟩
     ·have e0:r=0:=by omega
      exact ⟨_,rfl,trivial,sz1,trivial,_,rfl,trivial,_,rfl,_,eget,.inr ⟨_,eadd,.inl ⟨flats_int,trivial,ho,j1 (by unfold endT; rw [decide_eq_true e0]; rfl) _⟩⟩⟩
     ·have e0:¬ r=0:=by omega
      have ee:endT (wT ps) i r=wT ps (r+1) i:=by unfold endT; rw [decide_eq_false e0]; rfl
      rw [ee] at j1 j2
      refine ⟨_,rfl,trivial,_,rfl,trivial,_,rfl,trivial,sz2,_,get_at (i:=i) (j:=i+1+r) rfl rfl hcv,trivial,_,rfl,_,rfl,ifD (fun h=>?_) (fun h=>j2 (decide_eq_false (by omega)) _)⟩
      exact ⟨_,rfl,trivial,sz1,trivial,_,rfl,trivial,_,rfl,_,eget,.inr ⟨_,eadd,.inl ⟨flats_int,trivial,ho,j1 (decide_eq_true (by omega)) _⟩⟩⟩
    have eS:((List.range (m - i)).filter (endT (wT ps) i)).map (fun r=>nD ((i+1+r)::b (i+1+r)))=(ends (wT ps) m i).map fun j=>nD (j::b j):=by unfold ends; rw [List.map_map]; rfl
    rw [eS]
    have lts:∀ l:List Nat,dLen [nD l]=some (.int (l.length:Int)):=fun l=>by
     show some (D.int (((l.map fun (k:Nat)=>D.int (k:Int)).length:Nat):Int))=_
     rw [List.length_map]
    refine ⟨_,rfl,_,rfl,trivial,?_⟩
    refine loop1A (fun _=>true) (fun x=>.int ((x::b x).length:Int)) trivial (sz_le (Nat.le_trans ends_len (by omega))) (fun x hx y0 o J ho h1 _=>⟨_,rfl,trivial,.int ((x::b x).length:Int),lts _,trivial,ho,h1 rfl _⟩) ?_
    rw [filter_true]
    refine ⟨trivial,_,least_b hj hle,?_⟩
    refine ⟨_,rfl,_,rfl,rfl,?_⟩
    refine loop1F (fun x=>decide (((x::b x).length:Int)=((b j0).length+1:Nat))) trivial (sz_le (Nat.le_trans ends_len (by omega))) (fun x hx R hR=>⟨_,rfl,trivial,.int ((x::b x).length:Int),lts _,trivial,_,rfl,_,dEq_int _ _,_,rfl,hR⟩) ?_
    refine ⟨trivial,nD (j0::b j0),first_b hj hlt,.inr ⟨⟨trivial,fun z=>(nomatch z)⟩,⟨_,rfl⟩,_,rfl,bs,(i:Int),rfl,rfl,hno i (by omega),Nat.lt_of_le_of_lt (show bs.length≤4200 by omega) (by decide),hk',_,putB b i (j0::b j0),_,_,_,rfl,?_,fun q h1 h2=>?_,fun q h=>?_,?_⟩⟩
    ·rw [show m - (k+1)=i by omega]; exact gb'
    ·rw [valI_snoc (hno i (by omega))]
     by_cases e:q=i
     ·subst e; rw [if_pos rfl,putB_eq]
     ·rw [if_neg (by omega),putB_ne e]; exact hv q (by omega) h2
    ·rw [valI_snoc (hno i (by omega)),if_neg (by omega)]; exact hno q (by omega)
    ·rw [List.length_append]; show _+1≤_; omega
   ·rintro β ⟨_,bs,b,x6,x7,x8,rfl,gb,hv,_,_⟩
    rw [rngN_len,show m - m=0 by omega] at gb hv
    have hb0:(b 0).length≤40:=Nat.le_trans (gb_len gb m 0 (by omega) (Nat.zero_le _) (Nat.zero_le _)) hm
    refine ⟨_,rfl,trivial,m,ps,rfl,trivial,2,rfl,by decide,by decide,trivial,?_⟩
    refine ⟨fun _ β=>∃ x10 x11,β=[x0,some (.val true (.int c)),some (.val true (rwD m ps)),some (.val true (.int m)),some (.val true (dA kvs)),some (.shl true (dI bs)),x6,x7,x8,some (.val true (rwD m ps)),x10,x11],⟨_,_,rfl⟩,?_,?_⟩
    ·rintro k d β hd ⟨x10,x11,rfl⟩
     obtain ⟨_,rfl⟩:=rngD_get hd
     refine ⟨_,rfl,trivial,m,ps,b,rfl,ok,gb,trivial,?_⟩
     refine ⟨_,rfl,trivial,⟨_,rfl⟩,bs,0,nD (b 0),rfl,rfl,hv 0 (Nat.zero_le _) (Nat.zero_le _),trivial,nD (b 0),rfl,?_,_,rfl,ifF rfl ⟨_,rfl,trivial,_,rfl,_,dNe_self (small_rw m ps),_,rfl,ifF rfl ?_⟩⟩
     ·exact .lst (by rw [List.length_map]; omega) fun x hx=>by
       obtain ⟨q,_,rfl⟩:=List.mem_map.mp hx
       exact .int
     ·exact ⟨⟨_,rfl⟩,trivial,_,rfl,by rw [List.length_map]; exact sz_lt (by omega),_,_,rfl⟩
    ·rintro β ⟨x10,x11,rfl⟩
     exact ⟨_,_,_,_,_,_,_,_,_,_,_,_,rfl⟩
  refine ⟨_,pss_cons (ps_for PassesOwn.never rfl (pi_list (pe_op op_cat (pe_lst (pa_cons pe_int pa_nil)) (pe_slice sl_list (pv 0) po_none (po_some pe_int)))) (Q.pbg_name (C:=⟨H,fun _=>False,true,fun _=>False⟩) (i:=1) sc_law.nd).pg hb.ps) (pss_one (ps_ret pe_bl)),?_⟩
  obtain ⟨ms,em,hm⟩:=cutV_ints ns none (some 5)
  refine ⟨(by show 1≤sizeLine; decide),fun p1 hp1=>⟨_,rfl,_,rfl,a,_,rfl,(Same.new hp1).seq hS,fun p2 hp2=>?_⟩⟩
  have n12:p1≠p2:=ne_of_none upd_same hp2
  refine ⟨p1,p2,_,_,rfl,rfl,(by rw [upd_ne n12]; exact upd_same),upd_same,(by rw [em,List.length_map,sizeLine_eq,List.length_singleton]; omega),fun l hl=>⟨l,rfl,⟨_,SqL.of upd_same⟩,?_⟩⟩
  rw [em]
  rw [em] at hl
  have sm:Same H (upd (upd (upd H p1 (.lst [V.int 0])) p2 (.lst (ms.map V.int))) l (.lst ([V.int 0]++ms.map V.int))):=((Same.new hp1).trans (Same.new (by rw [em] at *; exact hp2))).trans (Same.new hl)
  have hcell:(upd (upd (upd H p1 (.lst [V.int 0])) p2 (.lst (ms.map V.int))) l (.lst ([V.int 0]++ms.map V.int))) l=some (.lst ((0::ms).map V.int)):=upd_same
  generalize (upd (upd (upd H p1 (.lst [V.int 0])) p2 (.lst (ms.map V.int))) l (.lst ([V.int 0]++ms.map V.int)))=H1 at sm hcell ⊢
  generalize (0::ms)=cs at hcell
  let X:Cx:=(cxOf CX0 P w K mg base ["script","cell","row","many","counts","best","i","some","least","handed","again","told"] "law" (defScope s_law) f cdv A outer s H E).nox
  let C:Q.Cfg:=⟨H,fun _=>False,true,fun _=>False⟩
  have it:ItD X (fun _=>False) (Itl K l) (cs.map D.int) H1:=itd_list hcell (fun z=>z) (reps_ints cs)
  have itw:=it (fun b=>(fun _=>False) b∨H1 b=none) fun b z=>z
  have s':Q.SQ' P w C.z (L2.start ["script","cell","row","many","counts","best","i","some","least","handed","again","told"] [.ref a]) H1 (List.replicate 12 none) (fun _=>[]):=sq_none (by rfl) sm
  generalize hds:cs.map D.int=ds at itw
  have hint:∀ d ∈ ds,∃ c:Int,d=.int c:=fun d hd=>by
   rw [← hds] at hd
   obtain ⟨c,_,rfl⟩:=List.mem_map.mp hd
   exact ⟨c,rfl⟩
  refine ⟨fun i m σ H'=>i≤ds.length∧m=ds.length - i∧∃ β,Q.SB X C (H1,Q.Wn fun _=>[]) σ H' β∧JL β,⟨_,Nat.zero_le _,rfl,_,⟨_,s',Sn.refl⟩,⟨_,_,_,_,_,_,_,_,_,_,_,_,rfl⟩⟩,?_⟩
  rintro i m σ2 H2 ⟨hi,rfl,β2,⟨own2,s2,n2⟩,⟨y0,y1,y2,y3,y4,y5,y6,y7,y8,y9,y10,y11,rfl⟩⟩
  obtain ⟨it1,it2⟩:=itw i H2 (n2.k.mono fun b z=>z.imp (fun ⟨_,q⟩=>(nomatch q)) id)
  by_cases hlt:i < ds.length
  ·right
   have hd:ds[i]?=some ds[i]:=List.getElem?_eq_getElem hlt
   obtain ⟨go,yl⟩:=it1 _ hd
   obtain ⟨c,hc⟩:=hint ds[i] (List.getElem_mem hlt)
   refine ⟨go,fun σ' H'=>∃ β,Q.SB X C (H1,Q.Wn fun _=>[]) σ' H' β∧JL β,fun σ' H' ⟨β',sb',hl'⟩=>⟨_,by omega,hlt,rfl,β',sb',hl'⟩,fun x H3 y=>?_⟩
   obtain ⟨s3,r3⟩:=yl x H3 y
   rw [hc] at r3
   refine ⟨own2,_,.int c,.own,s2.same s3,RepD.flat rfl r3,fun σ4 own4 s4 w4 _=>?_⟩
   exact ⟨(H1,Q.Wn fun _=>[]),{ nx:=JL,rt:=fun d _=>d=.bl true,bk:=JL,ct:=JL },_,⟨own4,s4,Q.sn_less (n2.same s3) w4⟩,hψ c y0 y2 y3 y4 y5 y6 y7 y8 y9 y10 y11,⟨fun σ5 H5 β5 sb5 q5=>⟨β5,sb5,q5⟩,fun σ5 H5 β5 d5 v5 sb5 r5 q5=>by
    subst q5
    cases (show v5=V.bl true from rt_bl r5)
    exact k _,fun σ5 H5 β5 sb5 q5=>k _,fun σ5 H5 β5 sb5 q5=>⟨β5,sb5,q5⟩⟩⟩
  ·left
   have e:i=ds.length:=by omega
   subst e
   exact ⟨it2 (Nat.le_refl _),k _⟩
end
end K37
end

noncomputable section
set_option Elab.async false
set_option linter.all false
set_option maxRecDepth 100000
set_option maxHeartbeats 4000000
namespace K37
open PySem L2 L2.Q
theorem len1 {α:Type} {P:List α→Prop} (h:∀ a,P [a]):∀ us:List α,us.length=1→P us:=fun us e=>by
 obtain ⟨a,rfl⟩:=List.length_eq_one_iff.mp e
 exact h a
theorem len2 {α:Type} {P:List α→Prop} (h:∀ a b,P [a,b]):∀ us:List α,us.length=2→P us:=fun us e=>by
 cases us with
 | nil=>cases e
 | cons a us=>exact len1 (P:=fun us=>P (a::us)) (h a) us (Nat.succ.inj e)
theorem len3 {α:Type} {P:List α→Prop} (h:∀ a b c,P [a,b,c]):∀ us:List α,us.length=3→P us:=fun us e=>by
 cases us with
 | nil=>cases e
 | cons a us=>exact len2 (P:=fun us=>P (a::us)) (h a) us (Nat.succ.inj e)
theorem len4 {α:Type} {P:List α→Prop} (h:∀ a b c d,P [a,b,c,d]):∀ us:List α,us.length=4→P us:=fun us e=>by
 cases us with
 | nil=>cases e
 | cons a us=>exact len3 (P:=fun us=>P (a::us)) (h a) us (Nat.succ.inj e)
theorem len5 {α:Type} {P:List α→Prop} (h:∀ a b c d e,P [a,b,c,d,e]):∀ us:List α,us.length=5→P us:=fun us e=>by
 cases us with
 | nil=>cases e
 | cons a us=>exact len4 (P:=fun us=>P (a::us)) (h a) us (Nat.succ.inj e)
abbrev vS (x:Str) (t:Nat):Value:=.str x t
abbrev kE (P:Params) (x:Str) (t:Nat) (v:Value):DictEntry:=⟨PyData.keyHash P x,.str x t,v⟩
abbrev kC (n:Str) (t l p r8 k10 r11:Nat) (v12 v13 v14:Value) (r15 k16 t18:Nat):Obj:={ cls:=.type "code",data:=.fields #[vS n t,vS n (t+1),vS "/claim/cut.py" (t+2),.int l 0,.int p 0,.int 0 0,.int 0 0,.int 3 0,.ref r8,.bool true,.int k10 0,.ref r11,v12,v13,v14,.ref r15,.int k16 0,.int l 0,vS "/claim/cut.py" t18] }
abbrev kD' (st:Stmt) (x m:Str) (t c:Nat):FuncData:=PySem.W.fnOf x x (defArgs st) (defBody st) (defScope st) .none .none .none (vS m t) none (.ref c) .none
abbrev kF (st:Stmt) (x m:Str) (t c:Nat):Obj:={ cls:=.type "function",data:=.func (kD' st x m t c) }
theorem fun_kk {K:PySem.W.Frag} {x m:Str} {st:Stmt} {t c f:Nat} (l:K.lookup f=some (kF st x m t c)) (cd:PySem.W.codeIn K (.ref c) x=true) (k:PySem.W.keepIn K (.ref f)=true):Fun K x x st f (kD' st x m t c):=fun_mk l cd k
theorem df_kk {K:PySem.W.Frag} {h:Heap} {mg:Str→Option Value} {x m:Str} {st:Stmt} {t c f:Nat} {ps:List Str} (X:K.In h) (G:h.Ns mainGlobals mg) (l:K.lookup f=some (kF st x m t c)) (cd:PySem.W.codeIn K (.ref c) x=true) (k:PySem.W.keepIn K (.ref f)=true)
  (a:PySem.W.nsIn K mainGlobals x=some (some (.ref f))) (b:∀ us:List Value,us.length=ps.length→bindArgs (kD' st x m t c) ⟨us,[]⟩=pure (ps.zip us)):Df K mg x st ps f (kD' st x m t c):=⟨fun_kk l cd k,.all b,PySem.W.mg_of X G a⟩
def KK:Params→PySem.W.Frag:=fun P=>[(3,{ cls:=.type "dict",data:=.dict #[kE P "__name__" 165 (vS "law_archrow_k37_fewest_cuts" 262),kE P "__doc__" 166 .none,kE P "__package__" 167 .none,kE P "__loader__" 168 (.builtin "__main__.__loader__#opaque"),kE P "__spec__" 169 .none,kE P "__annotations__" 170 (.ref 6),kE P "__builtins__" 171 (.ref 4),kE P "__file__" 173 (vS "/claim/cut.py" 172),kE P "__cached__" 174 .none,kE P "stretches_rising" 194 (.ref 19),kE P "partners_of" 200 (.ref 24),kE P "greatest_table" 206 (.ref 29),kE P "number_with" 217 (.ref 36),kE P "least_number" 223 (.ref 41),kE P "table_of" 232 (.ref 48),kE P "one_each" 238 (.ref 53),kE P "fewest_cuts" 246 (.ref 58),kE P "is_whole" 255 (.ref 65),kE P "ends_from" 261 (.ref 70),kE P "_law_pot" 270 (.ref 77),kE P "_law_take" 280 (.ref 84),kE P "_law_planted" 293 (.ref 91),kE P "_law_row" 307 (.ref 98),kE P "_law_copied" 314 (.ref 105),kE P "_law_wholes" 320 (.ref 110),kE P "_law_same" 326 (.ref 115),kE P "law" 332 (.ref 120)] 27 }),
 (18,kC "stretches_rising" 189 2 1 15 181 16 .none .none .none 17 192 193),
 (19,kF s_stretches_rising "stretches_rising" "archrow.stretches" 187 18),
 (23,kC "partners_of" 195 4 1 20 181 21 .none .none .none 22 198 199),
 (24,kF s_partners_of "partners_of" "archrow.stretches" 187 23),
 (28,kC "greatest_table" 201 10 2 25 181 26 .none .none .none 27 204 205),
 (29,kF s_greatest_table "greatest_table" "archrow.stretches" 187 28),
 (35,kC "number_with" 207 17 5 30 181 31 .none (.ref 32) (.ref 33) 34 215 216),
 (36,kF s_number_with "number_with" "archrow.stretches" 187 35),
 (40,kC "least_number" 218 19 5 37 181 38 .none .none .none 39 221 222),
 (41,kF s_least_number "least_number" "archrow.stretches" 187 40),
 (47,kC "table_of" 226 23 1 42 181 43 .none (.ref 44) (.ref 45) 46 230 231),
 (48,kF s_table_of "table_of" "archrow.kept" 224 47),
 (52,kC "one_each" 233 25 1 49 181 50 .none .none .none 51 236 237),
 (53,kF s_one_each "one_each" "archrow.kept" 224 52),
 (57,kC "fewest_cuts" 241 28 1 54 181 55 .none .none .none 56 244 245),
 (58,kF s_fewest_cuts "fewest_cuts" "archrow.whole" 239 57),
 (64,kC "is_whole" 247 40 3 59 181 60 .none (.ref 61) (.ref 62) 63 253 254),
 (65,kF s_is_whole "is_whole" "archrow.whole" 239 64),
 (69,kC "ends_from" 256 42 2 66 181 67 .none .none .none 68 259 260),
 (70,kF s_ends_from "ends_from" "archrow.whole" 239 69),
 (76,kC "_law_pot" 264 45 1 71 181 72 .none (.ref 73) (.ref 74) 75 268 269),
 (77,kF s_law_pot "_law_pot" "law_archrow_k37_fewest_cuts" 262 76),
 (83,kC "_law_take" 271 47 2 78 181 79 .none (.ref 80) (.ref 81) 82 278 279),
 (84,kF s_law_take "_law_take" "law_archrow_k37_fewest_cuts" 262 83),
 (90,kC "_law_planted" 281 57 2 85 181 86 .none (.ref 87) (.ref 88) 89 291 292),
 (91,kF s_law_planted "_law_planted" "law_archrow_k37_fewest_cuts" 262 90),
 (97,kC "_law_row" 294 68 1 92 181 93 .none (.ref 94) (.ref 95) 96 305 306),
 (98,kF s_law_row "_law_row" "law_archrow_k37_fewest_cuts" 262 97),
 (104,kC "_law_copied" 308 81 1 99 181 100 .none (.ref 101) (.ref 102) 103 312 313),
 (105,kF s_law_copied "_law_copied" "law_archrow_k37_fewest_cuts" 262 104),
 (109,kC "_law_wholes" 315 83 2 106 181 107 .none .none .none 108 318 319),
 (110,kF s_law_wholes "_law_wholes" "law_archrow_k37_fewest_cuts" 262 109),
 (114,kC "_law_same" 321 91 2 111 181 112 .none .none .none 113 324 325),
 (115,kF s_law_same "_law_same" "law_archrow_k37_fewest_cuts" 262 114),
 (119,kC "law" 327 101 1 116 181 117 .none .none .none 118 330 331),
 (120,kF s_law "law" "law_archrow_k37_fewest_cuts" 262 119)]
abbrev HK:PySem.W.Hook:=PySem.W.kHook KK [3,18,19,23,24,28,29,35,36,40,41,47,48,52,53,57,58,64,65,69,70,76,77,83,84,90,91,97,98,104,105,109,110,114,115,119,120] (fun _=>by kernel_rfl)
def view:Program:={ PySem.Challenge.pw_archrow_k37_fewest_cuts with main:={ PySem.Challenge.pw_archrow_k37_fewest_cuts.main with body:=[top 1,top 2,top 3,top 4,top 5,top 7,top 8,top 10,top 11,top 12,top 14,top 15,top 16,top 17,top 18,top 19,top 20,top 21] } }
theorem left:PySem.W.LeftO PySem.Challenge.pw_archrow_k37_fewest_cuts view [] (fun s=>PySem.W.xlAt view [] s && PySem.W.recOk (PySem.W.RowW.records PySem.Challenge.rw_archrow_k37_fewest_cuts.row.toRowW) s) HK.obs HK.val 1226:=fun w=>by kernel_rfl
theorem all_mk {l:PySem.W.OpenLaw} (w:World) (mg:Str→Option Value) (fa:Addr) (h:Heap) (X:(KK w.params).In h) (G:h.Ns mainGlobals mg) (hfa:mg "law" = some (.ref fa))   :∃ fd:FuncData,(∀ (s:Shared) (v:Value),BindsTo s fd ⟨[v],[]⟩ [("script",v)])∧∀ base:Heap,(KK w.params).In base→base.Ns mainGlobals mg→FnOk l.prog w (KK w.params) mg base CX0 6 fa fd ["script"] (spLaw (KK w.params)):=by
 have e:=hfa.symm.trans (PySem.W.mg_of X G (v:=.ref 120) (by kernel_rfl))
 cases e
 have n_max:=PySem.W.mg_none_of X G (n:="max") (by kernel_rfl)
 have n_min:=PySem.W.mg_none_of X G (n:="min") (by kernel_rfl)
 have n_int:=PySem.W.mg_none_of X G (n:="int") (by kernel_rfl)
 have n_range:=PySem.W.mg_none_of X G (n:="range") (by kernel_rfl)
 have n_sorted:=PySem.W.mg_none_of X G (n:="sorted") (by kernel_rfl)
 have n_set:=PySem.W.mg_none_of X G (n:="set") (by kernel_rfl)
 have n_len:=PySem.W.mg_none_of X G (n:="len") (by kernel_rfl)
 have n_list:=PySem.W.mg_none_of X G (n:="list") (by kernel_rfl)
 have n_isinstance:=PySem.W.mg_none_of X G (n:="isinstance") (by kernel_rfl)
 have n_tuple:=PySem.W.mg_none_of X G (n:="tuple") (by kernel_rfl)
 have n_str:=PySem.W.mg_none_of X G (n:="str") (by kernel_rfl)
 have n_bool:=PySem.W.mg_none_of X G (n:="bool") (by kernel_rfl)
 have n_zip:=PySem.W.mg_none_of X G (n:="zip") (by kernel_rfl)
 have n_enumerate:=PySem.W.mg_none_of X G (n:="enumerate") (by kernel_rfl)
 have n_sum:=PySem.W.mg_none_of X G (n:="sum") (by kernel_rfl)
 have B:=(⟨⟨⟨n_max,n_min,n_int,n_range,n_sorted,n_set,n_len,n_list⟩,n_isinstance,n_tuple,n_str,n_bool,n_zip,n_enumerate⟩,n_sum⟩:Bs3 mg)
 exact ⟨_,fun s v=>.of_eq rfl,fun base _ _=>ok_law (fun_kk (x:="law") (m:="law_archrow_k37_fewest_cuts") (st:=s_law) (t:=262) (c:=119) (f:=120) (by kernel_rfl) (by kernel_rfl) (by kernel_rfl)) B (df_kk X G (x:="stretches_rising") (m:="archrow.stretches") (st:=s_stretches_rising) (t:=187) (c:=18) (f:=19) (ps:=["many"]) (by kernel_rfl) (by kernel_rfl) (by kernel_rfl) (by kernel_rfl) (len1 fun _=>rfl))
  (df_kk X G (x:="partners_of") (m:="archrow.stretches") (st:=s_partners_of) (t:=187) (c:=23) (f:=24) (ps:=["row"]) (by kernel_rfl) (by kernel_rfl) (by kernel_rfl) (by kernel_rfl) (len1 fun _=>rfl))
  (df_kk X G (x:="greatest_table") (m:="archrow.stretches") (st:=s_greatest_table) (t:=187) (c:=28) (f:=29) (ps:=["row","worth"]) (by kernel_rfl) (by kernel_rfl) (by kernel_rfl) (by kernel_rfl) (len2 fun _ _=>rfl))
  (df_kk X G (x:="number_with") (m:="archrow.stretches") (st:=s_number_with) (t:=187) (c:=35) (f:=36) (ps:=["worth","table","i","k","j"]) (by kernel_rfl) (by kernel_rfl) (by kernel_rfl) (by kernel_rfl) (len5 fun _ _ _ _ _=>rfl))
  (df_kk X G (x:="least_number") (m:="archrow.stretches") (st:=s_least_number) (t:=187) (c:=40) (f:=41) (ps:=["partners","worth","table","i","j"]) (by kernel_rfl) (by kernel_rfl) (by kernel_rfl) (by kernel_rfl) (len5 fun _ _ _ _ _=>rfl))
  (df_kk X G (x:="table_of") (m:="archrow.kept") (st:=s_table_of) (t:=224) (c:=47) (f:=48) (ps:=["row"]) (by kernel_rfl) (by kernel_rfl) (by kernel_rfl) (by kernel_rfl) (len1 fun _=>rfl))
  (df_kk X G (x:="one_each") (m:="archrow.kept") (st:=s_one_each) (t:=224) (c:=52) (f:=53) (ps:=["row"]) (by kernel_rfl) (by kernel_rfl) (by kernel_rfl) (by kernel_rfl) (len1 fun _=>rfl))
  (df_kk X G (x:="fewest_cuts") (m:="archrow.whole") (st:=s_fewest_cuts) (t:=239) (c:=57) (f:=58) (ps:=["row"]) (by kernel_rfl) (by kernel_rfl) (by kernel_rfl) (by kernel_rfl) (len1 fun _=>rfl))
  (df_kk X G (x:="is_whole") (m:="archrow.whole") (st:=s_is_whole) (t:=239) (c:=64) (f:=65) (ps:=["table","i","j"]) (by kernel_rfl) (by kernel_rfl) (by kernel_rfl) (by kernel_rfl) (len3 fun _ _ _=>rfl))
  (df_kk X G (x:="ends_from") (m:="archrow.whole") (st:=s_ends_from) (t:=239) (c:=69) (f:=70) (ps:=["table","i"]) (by kernel_rfl) (by kernel_rfl) (by kernel_rfl) (by kernel_rfl) (len2 fun _ _=>rfl))
  (df_kk X G (x:="_law_pot") (m:="law_archrow_k37_fewest_cuts") (st:=s_law_pot) (t:=262) (c:=76) (f:=77) (ps:=["cell"]) (by kernel_rfl) (by kernel_rfl) (by kernel_rfl) (by kernel_rfl) (len1 fun _=>rfl))
  (df_kk X G (x:="_law_take") (m:="law_archrow_k37_fewest_cuts") (st:=s_law_take) (t:=262) (c:=83) (f:=84) (ps:=["pot","many"]) (by kernel_rfl) (by kernel_rfl) (by kernel_rfl) (by kernel_rfl) (len2 fun _ _=>rfl))
  (df_kk X G (x:="_law_planted") (m:="law_archrow_k37_fewest_cuts") (st:=s_law_planted) (t:=262) (c:=90) (f:=91) (ps:=["pot","many"]) (by kernel_rfl) (by kernel_rfl) (by kernel_rfl) (by kernel_rfl) (len2 fun _ _=>rfl))
  (df_kk X G (x:="_law_row") (m:="law_archrow_k37_fewest_cuts") (st:=s_law_row) (t:=262) (c:=97) (f:=98) (ps:=["pot"]) (by kernel_rfl) (by kernel_rfl) (by kernel_rfl) (by kernel_rfl) (len1 fun _=>rfl))
  (df_kk X G (x:="_law_copied") (m:="law_archrow_k37_fewest_cuts") (st:=s_law_copied) (t:=262) (c:=104) (f:=105) (ps:=["row"]) (by kernel_rfl) (by kernel_rfl) (by kernel_rfl) (by kernel_rfl) (len1 fun _=>rfl))
  (df_kk X G (x:="_law_wholes") (m:="law_archrow_k37_fewest_cuts") (st:=s_law_wholes) (t:=262) (c:=109) (f:=110) (ps:=["many","ties"]) (by kernel_rfl) (by kernel_rfl) (by kernel_rfl) (by kernel_rfl) (len2 fun _ _=>rfl))
  (df_kk X G (x:="_law_same") (m:="law_archrow_k37_fewest_cuts") (st:=s_law_same) (t:=262) (c:=114) (f:=115) (ps:=["found","due"]) (by kernel_rfl) (by kernel_rfl) (by kernel_rfl) (by kernel_rfl) (len2 fun _ _=>rfl))⟩
end K37
abbrev PySem.W.Fast.tw6500286362108090036:PySem.Program:=PySem.Challenge.pw_archrow_k37_fewest_cuts
theorem PySem.W.Fast.te6500286362108090036:PySem.Challenge.pw_archrow_k37_fewest_cuts=PySem.W.Fast.tw6500286362108090036:=rfl
open PySem PySem.W PyProof.Rows
set_option maxRecDepth 100000 in
set_option maxHeartbeats 0 in
theorem PySem.Challenge.cw_archrow_k37_fewest_cuts_holds : PySem.Challenge.rw_archrow_k37_fewest_cuts.Holds := by
 w_on; o_law
 refine holds_open (q:=K37.view) (loose:=[]) (Xt:=fun s=>xlAt K37.view [] s && recOk (RowW.records PySem.Challenge.rw_archrow_k37_fewest_cuts.row.toRowW) s) (XP:=XL K37.view []) (Yf:=K37.HK.obs) (Ya:=K37.HK.val) (YP:=fun w h=>(K37.KK w.params).In h) (N:=1226) K37.left K37.HK.of K37.HK.keeps (fun s e=>xl_of s (Bool.and_eq_true_iff.mp e).1) XL.keeps (by rfl) (by rfl) (by rfl) (fun s e=>recFacts_of (Bool.and_eq_true_iff.mp e).2) (by rfl) (by first | assumption | decide +kernel) (by decide +kernel) ⟨rfl,rfl,rfl,rfl,rfl,by decide +kernel⟩ ?hw ?hc
 (case hw=>w_witness2)
 case hc =>
  exact L2.walk_of (l:=PySem.Challenge.rw_archrow_k37_fewest_cuts) (K:=K37.KK) (n:=63) (k:=6) (x:="script") (CX:=fun _=>L2.CX0) (sp:=fun w=>K37.spLaw (K37.KK w.params)) rfl (by decide) rfl ⟨rfl,by decide,by decide⟩ (fun w h Y=>Y) K37.all_mk (fun _ _ a ns hl _ hS=>⟨a,ns,rfl,hS,hl,fun _=>rfl⟩) fun _ _ _ _ _ z=>z
#print axioms PySem.Challenge.cw_archrow_k37_fewest_cuts_holds
end
