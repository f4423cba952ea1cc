import PyProof.Rows.All
import Wide.All
import OpenK.AllK
import Wide.FinOn
import Lean
import PyProof.EqAt
import PyProof.EqKinds
import PyProof.TupleCall
import PyProof.Rows.SortShell
import PyProof.Rows.SortWalk
import PyProof.CompFree
import PyProof.Rows.SortRuns
import PyProof.EqLayable
import PyProof.NeData
import PyProof.P3In
import PyProof.ZipIter
import PyProof.EnumMake
import PyProof.EnumFor
import PyProof.Rows.Range3
import PyProof.AttrMissSeq
import KE.KDictOf
import PySem.Challenge.RW_archrow_k06_the_most_ties
set_option Elab.async false
set_option linter.all false
set_option maxRecDepth 100000
set_option maxHeartbeats 4000000
set_option compiler.extract_closed false
open PySem renaming wpAny_bind->Xs,Value->Xv,Shared->Xw,Program->Xz,wpAny_pure->XB,sizeLine->XO,World->XT,starEach->XZ,wpAny->X4,wpAny_loadPart'->Yo,FuncData->Yr,Around->Yv,bootBuiltins->Yx,foldedSetIterable->Yy,sizeLine_eq->YA,compareOp->YK,wpAny_holding->Y0,wpAny_call_entry->Y1,wpAny_truthy_bool->Y6,wpAny_setField_rec->Zf,wpAny_seqItems->Zj,wpAny_setState_of->Zk,wpAny_callSpecial?_slot->Zl,wpAny_field->Zu,wpAny_newObj_type->Zx,mainGlobals->Zy,assignEach->ZC,binaryOp->ZE,sliceBounds->ZJ,wpAny_rule->ZK,Builtin->ZO,wpAny_passesOwn->ZP,cLine->ZQ,wpAny_standAt->ZR,behindInMarks->ZS,backTo->ZT,IsPair->ZV,swapsWith->Z5,Scope->aaa,Comprehension->aad,codeAny_builtin->aaf,codeAny_mono->aal,sysModules->aan,wpAny_attempt->aap,attributeBase->aaq,NameKind->aas,CmpOp->aat,wpAny_mono->aaD,pyNext->aaE,standAt->aaL,codeAny->aaM,wpAny_forIn_list->aaT,wpAny_askSetting->aaU,tupleKind->aaV
open List renaming length_map->Xu,mem_cons->Xy,range->XD,getElem?_eq_getElem->XH,getElem?_eq_some_iff->XI,length_cons->XJ,getElem?_map->XM,mem_cons_self->XN,mem_singleton->XQ,mem_cons_of_mem->XR,mem_append->XW,map_append->XX,size_toArray->X2,mem_filter->X3,map_cons->X5,mem_map->X7,nodup_cons->X9,length_take->X_,length_append->Yb,length_range->Ye,map_congr_left->Yh,mem_append_right->Yk,replicate->Yl,drop_eq_getElem_cons->Yp,mem_of_getElem?->Yq,getElem?_eq_none->Ys,pairwise_cons->Yt,map_map->YB,filter_cons->YC,nodup_nil->YF,filterMap_cons->YG,not_mem_nil->YH,getElem?_append_right->YI,length_filter_le->YJ,nodup_append->YM,append_assoc->YN,take_add_one->YT,mem_append_left->YU,mem_range->YV,find?_cons->YW,append_nil->YX,getD_eq_getElem?_getD->YZ,lookup_cons->Y3,getElem?_append_left->Y4,pairwise_map->Y7,filter_append->Y9,take_length->Y_,take_of_length_le->Za,replicate_succ->Zc,take_append_drop->Ze,ext_getElem?->Zm,getElem?_range->Zo,drop_of_length_le->Zs,flatten_cons->ZA,sum_cons->ZD,getElem_mem->ZG,all_eq_true->ZH,zip_cons_cons->ZM,filter_eq_nil_iff->ZN,length_singleton->ZU,getElem?_set->ZY,length_drop->Z7,cons_append->Z8,getElem?_take_of_lt->aac,length_nil->aag,getElem?_cons_succ->aah,set_eq_take_append_cons_drop->aaj,of_mem_zip->aau,foldl_cons->aav,reverse_append->aay,mem_filterMap->aaG,getElem?_drop->aaH,pairwise_iff_getElem->aaI,extract_eq_take_drop->aaJ,zip_nil_left->aaN,reverse_cons->aaO,perm_middle->aaX
open Nat renaming le_refl->Xx,zero_le->XG,ne_of_lt->Yc,lt_of_lt_of_le->Yi,le_trans->Ym,lt_or_ge->YQ,pow_le_pow_right->Zz,zero_add->ZL,lt_succ_of_lt->ZX,lt_irrefl->aar,sub_self->aaB,pow_succ->aaC,mod_lt->aaF,le_add_right->aaW
open PySem.Heap renaming get?_push_of_some->XA,lt_size->XU,get?_push_size->X6,SameBut->Zh,size_push->ZI
open PyProof.Rows renaming Keyed->XC,wpS_bind->XE,wpS_pure->XS,pendingOf->X8,SortSt->Yd,arrOf->Yj,wpS_forRange->YL,setArr->YY,IntsAre->Zb,wpS_mono->Zi,seqObj->Zq,callWith_type1->Zr,SortKind->ZF,wpS_modify->Z0,failedOf->aak,setPending->aao,wpS_get->aaz,wpS_lift->aaS
open Array renaming length_toList->XF,getElem?_toList->X0,getD_eq_getD_getElem?->X1,toList_append->Y5,toList_push->Zn,getElem?_eq_none->Zt,perm_iff_toList_perm->Z3,size_setIfInBounds->aaR,toList_zip->aaY
open Option renaming map_eq_some_iff->XY,bind_eq_some_iff->Yw,bind_some->Zg
open Option.some renaming inj->Yg
open Bool renaming and_eq_true->Yn,false_ne_true->YO,not_eq_true'->aam,eq_iff_iff->aax
open Decidable renaming by_contra->Yu
open PySem.NameKind renaming free->Yz,cell->aab
open PySem.PassesOwn renaming never->YD
open PySem.Builtin.SmallTypes renaming nextOf->YE,ownedTupleIsFree->Zv
open PySem.PyData renaming eqv->YR,canLay0->Y8,depthAll->Zd,canLayAll0->ZW,depth->Z6,eqvAll->aaP
open Ne renaming symm->YS
open PySem.SeqAt renaming canLay_of_shaped->Y2
open True renaming intro->Zw
open Int renaming toNat_natCast->ZZ
open PySem.Obj renaming mapSeq->Z1
open False renaming elim->Z2
open PySem.Around renaming under_plainId->Z4
open Classical renaming byContradiction->Z9
open PySem.Heap.SameBut renaming update->Z_
open PySem.Builtin.List renaming listTooLong->aae
open PySem.Builtin.Range renaming rangeSize->aai
open List.Perm renaming of_eq->aaw
open PySem.Str renaming ofString->aaA
open PySem.Calls renaming call_function_entry->aaK
open PySem.Code renaming compLoop->aaQ
noncomputable section
namespace L2
open PySem PySem.Spec PyProof.Rows
abbrev Key:=Sum Int Str
def o9:Key->Xv->Bool
 |.inl k,v=>Value.isInt k v
 |.inr x,v=>Value.isStrOf x v
def Qm (w:XT):Key->Int
 |.inl k=>hashInt k
 |.inr x=>hashStr w x
theorem br:∀{k:Key} {v:Xv},o9 k v=true->(∃i t,k=Sum.inl i/\v=Value.int i t)\/(∃x t,k=Sum.inr x/\v=Value.str x t)
 |.inl i,v,h=>by
  obtain⟨t,e⟩:=Value.isInt_shape (k:=i) (v:=v) h;exact .inl ⟨i,t,rfl,e⟩
 |.inr x,v,h=>by
  obtain⟨t,e⟩:=Value.isStrOf_shape (x:=x) (v:=v) h;exact .inr ⟨x,t,rfl,e⟩
theorem yL (i:Int)(t:Tok):o9 (.inl i) (.int i t)=true:=by simp[o9,Value.isInt]
theorem yK (x:Str)(t:Tok):o9 (.inr x) (.str x t)=true:=by simp[o9,Value.isStrOf]
theorem I_ (a b:Int):decide ((Sum.inl a:Key)=Sum.inl b)=(a==b):=by
 by_cases e:a=b
 ·subst e;simp
 ·have h:¬ (Sum.inl a:Key)=Sum.inl b:=λq=>e (Sum.inl.inj q);rw[decide_eq_false h];exact(beq_eq_false_iff_ne.mpr e).symm
theorem IY (a b:Str):decide ((Sum.inr a:Key)=Sum.inr b)=decide (a=b):=by
 by_cases e:a=b
 ·subst e;simp
 ·have h:¬ (Sum.inr a:Key)=Sum.inr b:=λq=>e (Sum.inr.inj q);rw[decide_eq_false h,decide_eq_false e]
theorem I9 (a:Int)(b:Str):decide ((Sum.inl a:Key)=Sum.inr b)=false:=decide_eq_false (λq=>nomatch q)
theorem IZ (a:Str)(b:Int):decide ((Sum.inr a:Key)=Sum.inl b)=false:=decide_eq_false (λq=>nomatch q)
def b_ (prog:Xz)(w:XT):PySem.KeyKind prog w Key where
 is:=o9
 hash:=Qm w
 inj:=λv a b ha hb=>by
  rcases br ha with⟨i,t,rfl,rfl⟩|⟨x,t,rfl,rfl⟩
  ·rcases br hb with⟨j,u,rfl,e⟩|⟨y,u,rfl,e⟩
   ·injection e with e1 _;rw[e1]
   ·exact nomatch e
  ·rcases br hb with⟨j,u,rfl,e⟩|⟨y,u,rfl,e⟩
   ·exact nomatch e
   ·injection e with e1 _;rw[e1]
 byValue:=λk v h=>by
  rcases br h with⟨i,t,rfl,rfl⟩|⟨x,t,rfl,rfl⟩ <;> rfl
 pyHash:=λhv h=>by
  rcases br hv with⟨i,t,rfl,rfl⟩|⟨x,t,rfl,rfl⟩
  ·exact wpAny_pyHash_int h
  ·exact wpAny_pyHash_str h
 eqBool:=λhu hv h=>by
  rcases br hu with⟨i,t,rfl,rfl⟩|⟨x,t,rfl,rfl⟩
  ·rcases br hv with⟨j,u,rfl,rfl⟩|⟨y,u,rfl,rfl⟩
   ·rw[I_]at h;exact wpAny_eqBool_int h
   ·rw[I9]at h;exact SeqAt.EqAt.int_str i t y u _ _ _ _ h
  ·rcases br hv with⟨j,u,rfl,rfl⟩|⟨y,u,rfl,rfl⟩
   ·rw[IZ]at h;exact SeqAt.EqAt.str_int x t j u _ _ _ _ h
   ·rw[IY]at h;exact wpAny_eqBool_str h
 «strs»:=λk x t v h=>by
  rcases br h with⟨i,u,rfl,e⟩|⟨y,u,rfl,e⟩
  ·exact nomatch e
  ·injection e with e1 _
   subst e1;cases v <;> rfl
theorem sD (prog:Xz)(w:XT)(i:Int)(t:Tok):(b_ prog w).is (.inl i) (.int i t)=true:=yL i t
theorem sC (prog:Xz)(w:XT)(x:Str)(t:Tok):(b_ prog w).is (.inr x) (.str x t)=true:=yK x t
inductive V where
 |bP|bl (b:Bool)|int (i:Int)|str (x:Str)|CU (b:Array UInt8)|JQ (b:UInt64)|ref (a:Addr)|ty (n:String)
 deriving DecidableEq
def RelV:V->Xv->Prop
 |.bP,u=>u=Value.none
 |.bl b,u=>u=Value.bool b
 |.int i,u=>∃t,u=Value.int i t
 |.str x,u=>∃t,u=Value.str x t
 |.CU b,u=>∃t,u=Value.bytes b t
 |.JQ b,u=>∃t,u=Value.float b t
 |.ref a,u=>u=Value.ref a
 |.ty n,u=>u=Value.type n
abbrev Vals:List V->List Xv->Prop:=Paired RelV
theorem Vals.length {xs:List V}{us:List Xv}(r:Vals xs us):xs.length=us.length:=Paired.length r
theorem Vals.get:∀{xs:List V} {us:List Xv} {i:Nat} {x:V},Vals xs us->xs[i]?=some x->∃u,us[i]?=some u/\RelV x u
 |_,_,_,_,.nil,e=>by simp at e
 |_,_,0,_,.cons r _,e=>by simp at e;subst e;exact⟨_,rfl,r⟩
 |_,_,i+1,x,.cons _ t,e=>by
  obtain⟨u,h1,h2⟩:=Vals.get (i:=i) (x:=x) t (by simpa using e)
  exact⟨u,by simpa using h1,h2⟩
theorem Vals.set {x:V}{u:Xv}(r:RelV x u):∀{xs:List V} {us:List Xv} (i:Nat),Vals xs us->Vals (xs.set i x) (us.set i u)
 |_,_,_,.nil=>.nil
 |_,_,0,.cons _ t=>.cons r t
 |_,_,i+1,.cons q t=>.cons q (Vals.set r i t)
theorem Vals.append:∀{xs ys:List V} {us ws:List Xv},Vals xs us->Vals ys ws->Vals (xs++ys) (us++ws)
 |_,_,_,_,.nil,s=>s
 |_,_,_,_,.cons r t,s=>.cons r (Vals.append t s)
theorem Vals.take:∀{xs:List V} {us:List Xv} (n:Nat),Vals xs us->Vals (xs.take n) (us.take n)
 |_,_,0,_=>.nil
 |_,_,_+1,.nil=>.nil
 |_,_,n+1,.cons r t=>.cons r (Vals.take n t)
theorem Vals.drop:∀{xs:List V} {us:List Xv} (n:Nat),Vals xs us->Vals (xs.drop n) (us.drop n)
 |_,_,0,r=>r
 |_,_,_+1,.nil=>.nil
 |_,_,n+1,.cons _ t=>Vals.drop n t
theorem Vals.none_of:∀{xs:List V} {us:List Xv} {i:Nat},Vals xs us->xs[i]?=none->us[i]?=none:=λ{xs us i} r e=>by
 have h1:=r.length;have h2:xs.length<=i:=List.getElem?_eq_none_iff.mp e;exact List.getElem?_eq_none_iff.mpr (by lia)
def nv:Option V->Option Xv->Prop
 |some v,some u=>RelV v u
 |none,none=>True
 |_,_=>False
def KV {κ:Type}:List (κ×V)->List (κ×Xv)->Prop:=Paired λ(p:κ×V) (q:κ×Xv)=>p.1=q.1/\RelV p.2 q.2
def kV:Key->V
 |.inl i=>.int i
 |.inr x=>.str x
inductive HO where
 /-- a list -/
 |lst (xs:List V)
 /-- a tuple (never changes) -/
 |tup (xs:List V)
 /-- a dict whose keys are ints and texts;one whose keys are tuples of ints and texts (the empty one is both) -/
 |dK (kvs:List (Key×V))|dT (kvs:List (List Key×V))
 /-- a set of ints: its members,its size -/
 |set (S:Int->Bool) (n:Nat)
 /-- an instance of the class at C,its dict at dx,its attributes -/
 |ins (C dx:Addr) (fs:List (Str×V))
 /-- the dict of the instance at x -/
 |own (x:Addr)
 /-- the dict of an exception -/
 |xd (fs:List (Str×V))
 /-- a bound method,f of x -/
 |met (f x:Addr)
 /-- a range object lo,lo+1,.. below hi -/
 |Pu (lo hi:Int)
 /-- a KU that is known to the object (the Pp;a dict while a loop walks it): read,never written while it is so -/
 |ux (o:Obj) (u:HO)
 /-- a code LM table -/
 |Hz (ps:Array Xv)
 /-- any other KU,by what is true of its one object (a def of LJ own: F1 a S n:=HO.ext λh=>..) -/
 |ext (φ:Heap->Prop)
abbrev Hp:=Addr->Option HO
def upd (H:Hp)(a:Addr)(o:HO):Hp:=λb=>if b=a then some o else H b
theorem ar {H:Hp}{a:Addr}{o:HO}:upd H a o a=some o:=by unfold upd;rw[if_pos rfl]
theorem ao {H:Hp}{a b:Addr}{o:HO}(h:b≠a):upd H a o b=H b:=by unfold upd;rw[if_neg h]
theorem Gj {H:Hp}{a b:Addr}{o u:HO}(h:H a=some o)(h':H b=some u)(d:o≠u):a≠b:=by
 intro e;subst e;rw[h]at h';exact d (Yg h')
theorem cC {H:Hp}{a b:Addr}{o:HO}(h:H a=some o)(h':H b=none):a≠b:=by
 intro e;subst e;rw[h]at h';cases h'
section
variable (P:Xz)(w:XT)
def bb (H:Hp)(h:Heap)(a:Addr):HO->Prop
 |.lst xs=>xs.length<=XO/\∃(its:List Xv) (n:Nat),Vals xs its/\h.get? a=some {cls:=.type "list",data:=.seq its.toArray n}
 |.tup xs=>xs.length<=XO/\∃its:List Xv,Vals xs its/\IsTup h a its.toArray
 |.dK kvs=>kvs.length<=XO/\(a==aan)=false/\∃vs,KV kvs vs/\h.DictOf (b_ P w) a vs
 |.dT kvs=>kvs.length<=XO/\(a==aan)=false/\∃xs:List (List Key×Addr×Xv),
   Paired (λ(p:List Key×V) (q:List Key×Addr×Xv)=>p.1=q.1/\H q.2.1=some (.tup (p.1.map kV))/\RelV p.2 q.2.2) kvs xs /\
   ∃o es ep,h.get? a=some o/\o.ExactDict/\o.data=.dict es ep/\es.toList=xs.map (entryOfKey (aaV (b_ P w)))/\(xs.map (·.1)).Nodup
 |.set S n=>h.SetOf (intKind P w) a S n
 |.ins C dx fs=>H dx=some (.own a)/\fs.length<=1000/\dx≠a/\h.get? a=some (PySem.W.instObj C dx) /\
   ∃mA,h.Ns1 dx mA/\(∀f,nv (fs.lookup f) (mA f))/\PySem.Within mA (fs.map (·.1))
 |.own _=>∃o,h.get? a=some o
 |.xd fs=>∃mA,h.Ns1 a mA/\∀f,nv (fs.lookup f) (mA f)
 |.Pu lo hi=>∃t u v,h.get? a=some {cls:=.type "range",data:=.fields #[.int lo t,.int hi u,.int 1 v]}
 |.ux o u=>h.get? a=some o/\bb H h a u
 |.Hz ps=>h.get? a=some {cls:=.none,data:=.fields ps}
 |.met f x=>h.get? a=some (PySem.W.methodObj (.ref f) (.ref x))
 |.ext φ=>φ h/\(∃o,h.get? a=some o)/\∀h1 h2:Heap,φ h1->(∀o,h1.get? a=some o->h2.get? a=some o)->φ h2
def iI (H:Hp)(h:Heap):Prop:=∀a o,H a=some o->bb P w H h a o
end
section
variable {P:Xz}{w:XT}{H H':Hp}{h h':Heap}{a:Addr}{o:HO}
theorem bb.lt (x:bb P w H h a o):a<h.objs.size:=by
 cases o with
 |lst xs=>obtain⟨_,_,_,_,e⟩:=x;exact XU e
 |tup xs=>obtain⟨_,_,_,p⟩:=x;exact p.lt
 |dK kvs=>obtain⟨_,_,_,_,o,_,_,e,_⟩:=x;exact XU e
 |dT kvs=>obtain⟨_,_,_,_,o,_,_,e,_⟩:=x;exact XU e
 |set S n=>obtain⟨o,_,_,_,e,_⟩:=x;exact XU e
 |ins C dx fs=>obtain⟨_,_,_,e,_⟩:=x;exact XU e
 |own y=>obtain⟨_,e⟩:=x;exact XU e
 |xd fs=>obtain⟨_,⟨_,_,_,e,_⟩,_⟩:=x;exact XU e
 |Pu lo hi=>obtain⟨_,_,_,e⟩:=x;exact XU e
 |ux ob u=>obtain⟨e,_⟩:=x;exact XU e
 |Hz ps=>exact XU (show h.get? a=some _ from x)
 |met f y=>exact XU (show h.get? a=some _ from x)
 |ext φ=>obtain⟨_,⟨_,e⟩,_⟩:=x;exact XU e
theorem Paired.IF {α β:Type}{F G:α->β->Prop}:∀{l₁:List α} {l₂:List β},Paired F l₁ l₂->(∀a b,F a b->G a b)->Paired G l₁ l₂
 |_,_,.nil,_=>.nil
 |_,_,.cons r t,f=>.cons (f _ _ r) (Paired.IF t f)
theorem bb.rF (x:bb P w H h a o)(k:∀b u,(b=a\/H b=some (.own a))->h.get? b=some u->h'.get? b=some u)
  (ho:∀b,H b=some (.own a)->H' b=some (.own a)) (ht:∀b xs,H b=some (.tup xs)->H' b=some (.tup xs)):bb P w H' h' a o:=by
 induction o with
 |lst xs=>obtain⟨z,its,n,r,e⟩:=x;exact⟨z,its,n,r,k _ _ (.inl rfl) e⟩
 |tup xs=>obtain⟨z,its,r,ob,e,c⟩:=x;exact⟨z,its,r,ob,k _ _ (.inl rfl) e,c⟩
 |dK kvs=>obtain⟨z,y,vs,r,ob,es,ep,e,c⟩:=x;exact⟨z,y,vs,r,ob,es,ep,k _ _ (.inl rfl) e,c⟩
 |dT kvs =>
  obtain⟨z,y,xs,r,ob,es,ep,e,c⟩:=x;exact⟨z,y,xs,Paired.IF r λp q z=>⟨z.1,ht _ _ z.2.1,z.2.2⟩,ob,es,ep,k _ _ (.inl rfl) e,c⟩
 |set S n=>obtain⟨ob,es,ep,t,e,c⟩:=x;exact⟨ob,es,ep,t,k _ _ (.inl rfl) e,c⟩
 |ins C dx fs =>
  obtain⟨d,z,ne,e,mA,⟨od,es,ep,e2,c⟩,r⟩:=x;exact⟨ho _ d,z,ne,k _ _ (.inl rfl) e,mA,⟨od,es,ep,k _ _ (.inr d) e2,c⟩,r⟩
 |own y=>obtain⟨ob,e⟩:=x;exact⟨ob,k _ _ (.inl rfl) e⟩
 |xd fs=>obtain⟨mA,⟨od,es,ep,e,c⟩,r⟩:=x;exact⟨mA,⟨od,es,ep,k _ _ (.inl rfl) e,c⟩,r⟩
 |Pu lo hi=>obtain⟨t,u,v,e⟩:=x;exact⟨t,u,v,k _ _ (.inl rfl) e⟩
 |ux ob u ih=>obtain⟨e,q⟩:=x;exact⟨k _ _ (.inl rfl) e,ih q⟩
 |Hz ps =>
  have e:h.get? a=some {cls:=.none,data:=.fields ps}:=x;show h'.get? a=some {cls:=.none,data:=.fields ps};exact k a _ (.inl rfl) e
 |met f y =>
  have e:h.get? a=some (PySem.W.methodObj (.ref f) (.ref y)):=x;show h'.get? a=some (PySem.W.methodObj (.ref f) (.ref y));exact k a _ (.inl rfl) e
 |ext φ=>obtain⟨p,⟨o,e⟩,st⟩:=x;exact⟨st _ _ p λo q=>k _ _ (.inl rfl) q,⟨o,k _ _ (.inl rfl) e⟩,st⟩
theorem iI.lt (x:iI P w H h)(e:H a=some o):a<h.objs.size:=(x a o e).lt
theorem iI.fresh (x:iI P w H h)(e:h.objs.size<=a):H a=none:=by
 cases q:H a with
 |none=>rfl
 |some u=>exact absurd (Yi (x.lt q) e) (aar _)
theorem iI.kept (x:iI P w H h)(k:∀b u,h.get? b=some u->h'.get? b=some u):iI P w H h':=λa o e =>
 (x a o e).rF (λb u _ q=>k b u q) (λ_ q=>q) λ_ _ q=>q
theorem iI.laid (x:iI P w H h)(k:∀b u,h.get? b=some u->h'.get? b=some u)(hp:h.objs.size<=a)(new:bb P w (upd H a o) h' a o):iI P w (upd H a o) h':=λb u e=>by
 have hn:=x.fresh hp
 by_cases hb:b=a
 ·subst hb;rw[ar]at e;cases e;exact new
 ·rw[ao hb]at e;exact(x b u e).rF (λc v _ q=>k c v q) (λc q=>by rw[ao (cC q hn)];exact q) λc xs q=>by rw[ao (cC q hn)];exact q
end
def Rd (H:Hp)(a:Addr)(u:HO):Prop:=H a=some u\/∃o,H a=some (.ux o u)
theorem Rd.ok {P:Xz}{w:XT}{H:Hp}{h:Heap}{a:Addr}{u:HO}(r:Rd H a u)(x:iI P w H h):bb P w H h a u:=by
 rcases r with r|⟨o,r⟩
 ·exact x a u r
 ·obtain⟨_,q⟩:=x a _ r;exact q
def N5:Option HO->Prop
 |some (.lst _)=>True
 |some (.dK _)=>True
 |some (.dT _)=>True
 |some (.set _ _)=>True
 |some (.ins _ _ _)=>True
 |some (.ext _)=>True
 |_=>False
section
variable {P:Xz}{w:XT}{H:Hp}{h h':Heap}{x e:Addr}{o':HO}
theorem iI.write (ok:iI P w H h)(mu:N5 (H x))(he:e=x\/H e=some (.own x))(k:∀b u,b≠e->h.get? b=some u->h'.get? b=some u)(Kv:∃u,h'.get? e=some u)
  (new:bb P w (upd H x o') h' x o'):iI P w (upd H x o') h':=λb u q=>by
 have LN:∀c y,H c=some (.own y)->c≠x:=λc y r z=>by subst z;rw[r]at mu;exact mu
 have P8:∀c xs,H c=some (.tup xs)->c≠x:=λc xs r z=>by subst z;rw[r]at mu;exact mu
 by_cases hb:b=x
 ·subst hb;rw[ar]at q;cases q;exact new
 ·rw[ao hb]at q
  by_cases Cd:b=e
  ·have q':H b=some (.own x):=by
    rcases he with z|z
    ·exact absurd (Cd.trans z) hb
    ·rw[Cd];exact z
   rw[q]at q';cases q';obtain⟨v,hv⟩:=Kv;exact⟨v,by rw[Cd];exact hv⟩
  ·refine(ok b u q).rF (λc v hc r=>k c v ?_ r) (λc r=>by rw[ao (LN c b r)];exact r) λc xs r=>by rw[ao (P8 c xs r)];exact r
   rcases hc with rfl|hc
   ·exact Cd
   ·rintro rfl;rcases he with z|z
    ·exact LN c b hc z
    ·rw[hc]at z;cases z;exact hb rfl
end
structure Un (fs ex:List Addr)(H H':Hp)(h h':Heap):Prop where
 keep:∀b o,h.get? b=some o->H b=none->b∉fs->b∉ex->h'.get? b=some o
 slot:∀b o,h.get? b=some o->H b=none->b∈fs->b∉ex->∃sl,h'.get? b=some {o with slots:=sl}
 free:∀b o,h.get? b=some o->H b=none->b∉ex->H' b=none
 there:∀b o,h.get? b=some o->b∉ex->∃o',h'.get? b=some o'
 p_:∀b xs,H b=some (.tup xs)->H' b=some (.tup xs)
 nU:∀b o u,H b=some (.ux o u)->H' b=some (.ux o u)
 qa:∀b ps,H b=some (.Hz ps)->∃more,H' b=some (.Hz (ps++more))
section
variable {fs ex:List Addr}{H H1:Hp}{h h1 h':Heap}{a x e:Addr}{o:HO}
theorem Un.any (u:Un fs ex H H1 h h1){b:Addr}{ob:Obj}(q:h.get? b=some ob)(n:H b=none)(hx:b∉ex):∃sl,h1.get? b=some {ob with slots:=sl}:=by
 by_cases hb:b∈fs
 ·exact u.slot b ob q n hb hx
 ·exact⟨ob.slots,u.keep b ob q n hb hx⟩
theorem Un.kept (k:∀b u,h.get? b=some u->h'.get? b=some u):Un fs ex H H h h' :=
 ⟨λb ob q _ _ _=>k b ob q,λb ob q _ _ _=>⟨ob.slots,k b ob q⟩,λ_ _ _ n _=>n,λb ob q _=>⟨ob,k b ob q⟩,λ_ _ q=>q,λ_ _ _ q=>q,λ_ ps q=>⟨#[],by rw[q];simp⟩⟩
theorem Un.refl:Un fs ex H H h h:=Un.kept λ_ _ q=>q
theorem Un.laid (k:∀b u,h.get? b=some u->h'.get? b=some u)(hp:h.objs.size<=a)(hn:H a=none):Un fs ex H (upd H a o) h h' where
 keep:=λb u q _ _ _=>k b u q
 slot:=λb u q _ _ _=>⟨u.slots,k b u q⟩
 free:=λb u q n _=>by rw[ao (Yc (Yi (XU q) hp))];exact n
 there:=λb u q _=>⟨u,k b u q⟩
 p_:=λb xs q=>by rw[ao (cC q hn)];exact q
 nU:=λb u xs q=>by rw[ao (cC q hn)];exact q
 qa:=λb ps q=>⟨#[],by rw[ao (cC q hn),q];simp⟩
theorem Un.write (mu:N5 (H x))(he:e=x\/H e=some (.own x))(k:∀b u,b≠e->h.get? b=some u->h'.get? b=some u)(Kv:∃u,h'.get? e=some u):Un fs ex H (upd H x o) h h':=by
 have hx:∀b,H b=none->b≠x:=λb n z=>by subst z;rw[n]at mu;exact mu
 have hb:∀b,H b=none->b≠e:=λb n z=>by
  subst z;rcases he with r|r
  ·exact hx b n r
  ·rw[n]at r;cases r
 have hm:∀b u,H b=some u->¬ N5 (some u)->b≠x:=λb u q nm z=>by subst z;rw[q]at mu;exact nm mu
 refine⟨λb u q n _ _=>k b u (hb b n) q,λb u q n _ _=>⟨u.slots,k b u (hb b n) q⟩,λb u q n _=>by rw[ao (hx b n)];exact n,λb u q _=>?_,
  λb xs q=>by rw[ao (hm b _ q λz=>z)];exact q,λb u xs q=>by rw[ao (hm b _ q λz=>z)];exact q,λb ps q=>⟨#[],by rw[ao (hm b _ q λz=>z),q];simp⟩⟩
 by_cases Cd:b=e
 ·subst Cd;exact Kv
 ·exact⟨u,k b u Cd q⟩
end
def Ob (h:Heap)(H:Hp):List Addr:=(XD h.objs.size).filter λa=>(H a).isSome
def qL (h:Heap)(H:Hp):Heap:=PySem.W.hideAll h (Ob h H)
theorem yU (h:Heap)(H:Hp):(qL h H).objs.size=h.objs.size:=PySem.W.hideAll_size _ _
theorem Cb {h:Heap}{H:Hp}{b:Addr}{o:Obj}(e:h.get? b=some o)(n:H b=none):(qL h H).get? b=some o :=
 PySem.W.hideAll_get _ e λhm=>by
  have q:(H b).isSome=true:=(X3.mp hm).2;rw[n]at q;simp at q
theorem EK {h:Heap}{H:Hp}{b:Addr}{o:Obj}(e:(qL h H).get? b=some o):h.get? b=some o/\H b=none:=by
 have e':h.get? b=some o:=PySem.W.of_hideAll (Ob h H) e;refine⟨e',?_⟩;cases q:H b with
 |none=>rfl
 |some x =>
  have hm:b∈Ob h H:=X3.mpr ⟨YV.mpr (XU e'),by simp[q]⟩
  have z:(qL h H).get? b=none:=PySem.W.hideAll_none (Ob h H) hm;rw[z]at e;cases e
structure Mod (K:PySem.W.Frag)(mg:Str->Option Xv)(base:Heap):Prop where
 Ql:K.In base
 glob:base.Ns Zy mg
 blt:∃mb,base.Ns builtinsNs mb/\∀x:Str,x≠"__name__" -> mb x=Yx x
 nolimit:base.NoLimit
structure Cx where
 prog:Xz
 w:XT
 K:PySem.W.Frag
 mg:Str->Option Xv
 base:Heap
 A:Yv
 N:List Str
 s₀:Xw
 H₀:Hp
 env:Env
 outer:List Env
 stack:List Env
 ex:List Addr
 fn:Str->Bool
 calm:Bool
 pn:List (Addr×Obj)
 xe:Xv->Xw->Prop
def Ck (l:List Env):List Addr:=l.filterMap (·.frame)
abbrev Cx.fs (X:Cx):List Addr:=Ck X.outer
def vW (sc:aaa)(x:Str):Prop:=sc.names.lookup x=some .local\/sc.names.lookup x=some .cell\/sc.names.lookup x=some .free
def Loc (sc:aaa)(x:Str):Prop:=sc.names.lookup x=some .local\/sc.names.lookup x=some .cell
def Look (env:Env)(h:Heap)(m:Str->Option Xv)(x:Str)(u:Xv):Prop :=
 (env.kindOf x=some .local/\m x=some u)\/((env.kindOf x=some .cell\/env.kindOf x=some .free)/\∃c,env.cells.lookup x=some c/\h.IsCell c (some u))
structure Cx.Ok (X:Cx):Prop where
 mod:Mod X.K X.mg X.base
 kind:X.env.scope.kind=.function
 glob:X.env.globals=Zy
 blt:X.env.builtins=builtinsNs
 above:X.s₀.heap.objs.size<=X.env.locals
 inj:∀x y c,X.env.cells.lookup x=some c->X.env.cells.lookup y=some c->x=y
 has:∀x,(X.env.kindOf x=some .cell\/X.env.kindOf x=some .free)->∃c,X.env.cells.lookup x=some c
 NU:∀x c,X.fn x=true->X.env.cells.lookup x=some c->X.s₀.heap.objs.size<=c
 hd:X.calm=true->X.A.handled=none
 frames:X.A.frames=some X.stack
 Oh:X.stack=X.outer\/(X.stack=X.env::X.outer/\X.env.frame=some X.env.locals)
 OM:∀b∈X.ex,b≠X.env.locals/\∀x c,X.env.cells.lookup x=some c->c≠b
 bs:∀b o,X.base.get? b=some o->X.s₀.heap.get? b=some o/\X.H₀ b=none
 G1:X.base.objs.size<=X.s₀.heap.objs.size
 Bv:∀b o,X.base.get? b=some o->b∉X.ex
 Cu:∀b∈X.ex,b∉X.fs
 mO:X.s₀.heap.FunFrames X.base X.outer
 Ky:∀b∈X.fs,X.H₀ b=none
structure Inv (X:Cx)(pins:List (Addr×Obj))(σ:List (Option V))(H:Hp)(s:Xw):Prop where
 ok:X.Ok
 os:s.os=X.s₀.os
 bare:AllBare s.gens
 base:Un X.fs X.ex X.H₀ H X.s₀.heap s.heap
 loc:∃m,s.heap.Ns X.env.locals m/\∀(i:Nat) (x:Str) (v:V),X.N[i]?=some x->σ[i]?=some (some v)->vW X.env.scope x->∃u,RelV v u/\Look X.env s.heap m x u
 cell:∀x c,X.env.cells.lookup x=some c->∃v,s.heap.IsCell c v
 free:H X.env.locals=none
 g_:∀x c,X.env.cells.lookup x=some c->H c=none
 pin:∀p∈X.pn++pins,s.heap.get? p.1=some p.2/\H p.1=none/\p.1≠X.env.locals/\p.1∉X.fs/\∀v,p.2.data≠.cell v
 bt:iI X.prog X.w H s.heap
 len:σ.length=X.N.length
section
variable {X:Cx}{pins:List (Addr×Obj)}{σ:List (Option V)}{H H':Hp}{s:Xw}{h':Heap}
theorem Cx.Ok.Iz (ok:X.Ok){b:Addr}{o:Obj}(e:X.base.get? b=some o):b∉X.fs:=λhb=>by
 have:=(ok.mO.mem hb).1;rw[e]at this;cases this
theorem Inv.bs (I:Inv X pins σ H s):∀b o,X.base.get? b=some o->s.heap.get? b=some o/\H b=none:=λb o e =>
 ⟨I.base.keep b o (I.ok.bs b o e).1 (I.ok.bs b o e).2 (I.ok.Iz e) (I.ok.Bv b o e),I.base.free b o (I.ok.bs b o e).1 (I.ok.bs b o e).2 (I.ok.Bv b o e)⟩
theorem Inv.bk (I:Inv X pins σ H s):∀b o,X.base.get? b=some o->s.heap.get? b=some o:=λb o e=>(I.bs b o e).1
theorem Inv.mod (I:Inv X pins σ H s):Mod X.K X.mg X.base:=I.ok.mod
theorem Inv.jT (I:Inv X pins σ H s):X.K.In s.heap:=I.ok.mod.Ql.keeps I.bk
theorem Inv.lt (I:Inv X pins σ H s):X.env.locals<s.heap.objs.size:=let ⟨_,hn,_⟩:=I.loc;hn.lt
theorem Inv.sz (I:Inv X pins σ H s):X.s₀.heap.objs.size<=s.heap.objs.size:=Ym I.ok.above (Nat.le_of_lt I.lt)
theorem Inv.P9 (I:Inv X pins σ H s){a:Addr}(h:s.heap.objs.size<=a):a∉X.fs:=λhb=>by
 obtain⟨_,o,ho,_⟩:=I.ok.mO.mem hb;exact absurd (Yi (XU ho) (Ym I.sz h)) (aar _)
theorem Inv.J3 (I:Inv X pins σ H s):∀x c,X.env.cells.lookup x=some c->c≠X.env.locals:=λx c e z=>by
 obtain⟨v,o,ho,hd⟩:=I.cell x c e;obtain⟨m,⟨o',es,ep,Fd,OH,_⟩,_⟩:=I.loc;rw[z,Fd]at ho;cases ho;rw[OH]at hd;cases hd
theorem Inv.mO (I:Inv X pins σ H s):s.heap.FunFrames X.base X.outer:=by
 have all:∀(l:List Env),(∀b∈Ck l,b∈X.fs)->X.s₀.heap.FunFrames X.base l->s.heap.FunFrames X.base l:=by
  intro l
  induction l with
  |nil=>intro _ _;trivial
  |cons env r ih =>
   intro hs hl;obtain⟨hk,⟨L,o,hf,hn,ho,hd⟩,hr⟩:=hl;have hL:L∈X.fs:=hs L (by unfold Ck;rw[YG,hf];exact XN)
   obtain⟨sl,e⟩:=I.base.slot L o ho (I.ok.Ky L hL) hL λz=>I.ok.Cu L z hL;exact⟨hk,⟨L,_,hf,hn,e,hd⟩,ih (λb hb=>hs b (by unfold Ck;rw[YG,hf];exact XR _ hb)) hr⟩
 exact all X.outer (λ_ hb=>hb) I.ok.mO
theorem Inv.stack (I:Inv X pins σ H s):s.heap.FunFrames X.base X.stack:=by
 rcases I.ok.Oh with e|⟨e,hf⟩
 ·rw[e];exact I.mO
 ·rw[e];obtain⟨m,hn,_⟩:=I.loc;refine .cons (by rw[I.ok.kind];decide) hf hn ?_ I.mO
  exact Heap.get?_none_of_le (Ym I.ok.G1 I.ok.above)
theorem Inv.uO (I:Inv X pins σ H s):∀b∈Ck X.stack,b∈X.env.locals::X.fs:=λb hb=>by
 rcases I.ok.Oh with e|⟨e,hf⟩
 ·rw[e]at hb;exact XR _ hb
 ·rw[e]at hb;unfold Ck at hb;rw[YG,hf]at hb;exact hb
theorem Inv.wm (I:Inv X pins σ H s):∀b∈Ck X.stack,H b=none:=λb hb=>by
 rcases Xy.mp (I.uO b hb)with e|hb
 ·rw[e];exact I.free
 ·obtain⟨_,o,ho,_⟩:=I.ok.mO.mem hb;exact I.base.free b o ho (I.ok.Ky b hb) λz=>I.ok.Cu b z hb
theorem Inv.step {g':Array GenState}{t':Nat}{d':Drawn}{ch:List Addr}(I:Inv X pins σ H s)
  (tj:∀b∈ch,(b∈X.ex\/X.s₀.heap.objs.size<=b)/\b≠X.env.locals/\(∀x c,X.env.cells.lookup x=some c->c≠b)/\∀p∈X.pn++pins,p.1≠b)
  (keep:∀b o,b≠X.env.locals->b∉X.fs->b∉ch->s.heap.get? b=some o->H b=none->h'.get? b=some o)
  (slot:∀b o,b≠X.env.locals->b∈X.fs->b∉ch->s.heap.get? b=some o->H b=none->∃sl,h'.get? b=some {o with slots:=sl}) (free:∀b o,b∉ch->s.heap.get? b=some o->H b=none->H' b=none)
  (there:∀b o,b∉ch->s.heap.get? b=some o->∃o',h'.get? b=some o')
  (p_:∀b xs,H b=some (.tup xs)->H' b=some (.tup xs)) (nU:∀b o u,H b=some (.ux o u)->H' b=some (.ux o u)) (qa:∀b ps,H b=some (.Hz ps)->∃more,H' b=some (.Hz (ps++more)))
  (ns:∀m,s.heap.Ns X.env.locals m->h'.Ns X.env.locals m) (bt:iI X.prog X.w H' h') (hg:AllBare g') :
  Inv X pins σ H' {s with heap:=h',gens:=g',drawn:=d',toks:=t'}:=by
 have Ti:∀b o,X.s₀.heap.get? b=some o->b≠X.env.locals:=λb o e=>Yc (Yi (XU e) I.ok.above);have Ot:∀b o,X.s₀.heap.get? b=some o->b∉X.ex->b∉ch:=λb o e hx hb=>by
  rcases (tj b hb).1 with z|z
  ·exact hx z
  ·exact absurd (Yi (XU e) z) (aar _)
 have cellK:∀x c,X.env.cells.lookup x=some c->∀v,s.heap.IsCell c v->h'.IsCell c v:=λx c e v vB=>by
  obtain⟨o,ho,hd⟩:=vB;have LU:c∉ch:=λz=>(tj c z).2.2.1 x c e rfl
  by_cases hc:c∈X.fs
  ·obtain⟨sl,q⟩:=slot c o (I.J3 x c e) hc LU ho (I.g_ x c e);exact⟨_,q,hd⟩
  ·exact⟨o,keep c o (I.J3 x c e) hc LU ho (I.g_ x c e),hd⟩
 refine⟨I.ok,I.os,hg,⟨λb o e n hb hx=>?_,λb o e n hb hx=>?_,λb o e n hx=>?_,λb o e hx=>?_,λb xs e=>p_ b xs (I.base.p_ b xs e),λb o xs e=>nU b o xs (I.base.nU b o xs e),λb ps e=>?_⟩,?_,λx c e=>?_,?_,λx c e=>?_,λp hp=>?_,bt,I.len⟩
 ·exact keep b o (Ti b o e) hb (Ot b o e hx) (I.base.keep b o e n hb hx) (I.base.free b o e n hx)
 ·obtain⟨sl,e1⟩:=I.base.slot b o e n hb hx;obtain⟨HJ,e2⟩:=slot b _ (Ti b o e) hb (Ot b o e hx) e1 (I.base.free b o e n hx);exact⟨HJ,e2⟩
 ·obtain⟨o',e1⟩:=I.base.there b o e hx;exact free b o' (Ot b o e hx) e1 (I.base.free b o e n hx)
 ·obtain⟨o',e1⟩:=I.base.there b o e hx;exact there b o' (Ot b o e hx) e1
 ·obtain⟨m1,e1⟩:=I.base.qa b ps e;obtain⟨m2,e2⟩:=qa b _ e1;exact⟨m1++m2,by rw[e2,Array.append_assoc]⟩
 ·obtain⟨m,hn,hl⟩:=I.loc;refine⟨m,ns m hn,λi x v e1 e2 e3=>?_⟩;obtain⟨u,r,l⟩:=hl i x v e1 e2 e3;refine⟨u,r,?_⟩;rcases l with l|⟨k,c,e,z⟩
  ·exact .inl l
  ·exact .inr ⟨k,c,e,cellK x c e _ z⟩
 ·obtain⟨v,z⟩:=I.cell x c e;exact⟨v,cellK x c e v z⟩
 ·obtain⟨m,⟨o,_,_,ho,_⟩,_⟩:=I.loc;exact free _ o (λz=>(tj _ z).2.1 rfl) ho I.free
 ·obtain⟨v,o,ho,hd⟩:=I.cell x c e;exact free c o (λz=>(tj c z).2.2.1 x c e rfl) ho (I.g_ x c e)
 ·obtain⟨e,n,ne,nf,d⟩:=I.pin p hp;have LU:p.1∉ch:=λz=>(tj p.1 z).2.2.2 p hp rfl;exact⟨keep p.1 p.2 ne nf LU e n,free p.1 p.2 LU e n,ne,nf,d⟩
theorem Inv.un {t':Nat}(I:Inv X pins σ H s)(u:Un X.fs [] H H' s.heap h')(bt:iI X.prog X.w H' h'):Inv X pins σ H' {s with heap:=h',toks:=t'}:=by
 obtain⟨m,⟨o,es,ep,ho,r⟩,_⟩:=id I.loc;obtain⟨sl,hL⟩:=u.any ho I.free (by simp)
 exact I.step (g':=s.gens) (d':=s.drawn) (ch:=[]) (λ_ z=>nomatch z) (λb o _ hb _ e n=>u.keep b o e n hb (by simp)) (λb o _ hb _ e n=>u.slot b o e n hb (by simp)) (λb o _ e n=>u.free b o e n (by simp)) (λb o _ e=>u.there b o e (by simp)) u.p_ u.nU u.qa (λm' hm=>by
  obtain⟨o',eN,qM,Fd,r'⟩:=hm;rw[ho]at Fd;cases Fd;exact⟨_,eN,qM,hL,r'⟩) bt I.bare
theorem Inv.call {g':Array GenState}{t':Nat}{d':Drawn}{ch:List Addr}(I:Inv X pins σ H s)(u:Un (Ck X.stack) ch H H' s.heap h')(bt:iI X.prog X.w H' h')(hg:AllBare g')
  (tj:∀b∈ch,(b∈X.ex\/X.s₀.heap.objs.size<=b)/\b≠X.env.locals/\(∀x c,X.env.cells.lookup x=some c->c≠b)/\∀p∈X.pn++pins,p.1≠b) :
  Inv X pins σ H' {s with heap:=h',gens:=g',drawn:=d',toks:=t'}:=by
 obtain⟨m,⟨o,es,ep,ho,r⟩,_⟩:=id I.loc;obtain⟨sl,hL⟩:=u.any ho I.free λz=>(tj _ z).2.1 rfl;exact I.step (ch:=ch) tj (λb o hL hb hc e n=>u.keep b o e n (λz=>(Xy.mp (I.uO b z)).elim hL hb) hc) (λb o _ _ hc e n=>u.any e n hc) (λb o hc e n=>u.free b o e n hc) (λb o hc e=>u.there b o e hc) u.p_ u.nU u.qa (λm' hm=>by
  obtain⟨o',eN,qM,Fd,r'⟩:=hm;rw[ho]at Fd;cases Fd;exact⟨_,eN,qM,hL,r'⟩) bt hg
theorem Inv.turned {t':Nat}{it:Addr}(I:Inv X pins σ H s)(k:∀b o,b≠it->s.heap.get? b=some o->h'.get? b=some o)(hn:H it=none)(hL:it≠X.env.locals)
  (h1:it∈X.ex\/X.s₀.heap.objs.size<=it) (h2:∀x c,X.env.cells.lookup x=some c->c≠it) (h3:∀p∈X.pn++pins,p.1≠it):Inv X pins σ H {s with heap:=h',toks:=t'}:=by
 have Th:∀b u,H b=some u->b≠it:=λb u e z=>by rw[z,hn]at e;cases e
 refine I.step (g':=s.gens) (d':=s.drawn) (ch:=[it]) (λb hb=>?_) (λb o _ _ hc e _=>k b o (λz=>hc (by simp[z])) e) (λb o _ _ hc e _=>⟨o.slots,k b o (λz=>hc (by simp[z])) e⟩) (λ_ _ _ _ n=>n)
  (λb o hc e=>⟨o,k b o (λz=>hc (by simp[z])) e⟩) (λ_ _ e=>e) (λ_ _ _ e=>e) (λb ps e=>⟨#[],by rw[e];simp⟩) (λm hm=>?_) (λb u e=>?_) I.bare
 ·have e:b=it:=by simpa using hb
  subst e;exact⟨h1,hL,h2,h3⟩
 ·obtain⟨o,es,ep,ho,r⟩:=hm;exact⟨o,es,ep,k _ o (YS hL) ho,r⟩
 ·refine(I.bt b u e).rF (λc v hc q=>k c v ?_ q) (λ_ q=>q) λ_ _ q=>q;rcases hc with z|z
  ·rw[z];exact Th b u e
  ·exact Th c _ z
theorem Inv.tok (I:Inv X pins σ H s)(t:Nat):Inv X pins σ H {s with toks:=t}:=I.un (h':=s.heap) (t':=t) Un.refl I.bt
theorem Inv.kept {t':Nat}(I:Inv X pins σ H s)(k:∀b u,s.heap.get? b=some u->h'.get? b=some u):Inv X pins σ H {s with heap:=h',toks:=t'}:=I.un (Un.kept k) (I.bt.kept k)
theorem Inv.laid {a:Addr}{o:HO}{t':Nat}(I:Inv X pins σ H s)(k:∀b u,s.heap.get? b=some u->h'.get? b=some u)(hp:s.heap.objs.size<=a)(new:bb X.prog X.w (upd H a o) h' a o):
  Inv X pins σ (upd H a o) {s with heap:=h',toks:=t'}:=I.un (Un.laid k hp (I.bt.fresh hp)) (I.bt.laid k hp new)
theorem Inv.write {x e:Addr}{o:HO}{t':Nat}(I:Inv X pins σ H s)(mu:N5 (H x))(he:e=x\/H e=some (.own x))(k:∀b u,b≠e->s.heap.get? b=some u->h'.get? b=some u)(Kv:∃u,h'.get? e=some u)
  (new:bb X.prog X.w (upd H x o) h' x o):Inv X pins σ (upd H x o) {s with heap:=h',toks:=t'}:=I.un (Un.write mu he k Kv) (I.bt.write mu he k Kv new)
theorem Inv.wK {F_:List (Addr×Obj)}(I:Inv X pins σ H s)(h:∀p∈F_,s.heap.get? p.1=some p.2/\H p.1=none/\p.1≠X.env.locals/\p.1∉X.fs/\∀v,p.2.data≠.cell v):Inv X F_ σ H s :=
 ⟨I.ok,I.os,I.bare,I.base,I.loc,I.cell,I.free,I.g_,λp hp=>(XW.mp hp).elim (λz=>I.pin p (YU _ z)) (h p),I.bt,I.len⟩
theorem su {N:List Str}(hN:N.Nodup){i j:Nat}{x:Str}(a:N[i]?=some x)(b:N[j]?=some x):i=j:=by
 obtain⟨h1,e1⟩:=XI.mp a;obtain⟨h2,e2⟩:=XI.mp b;exact(List.getElem_inj hN).mp (e1.trans e2.symm)
theorem oC {M:Model}{A:Yv}{E:Xv->Xw->Prop}{i:Nat}{x:Str}{v:V}{u:Xv}{Q:Unit->Xw->Prop}(I:Inv X pins σ H s)(hN:X.N.Nodup)(hi:X.N[i]?=some x)(hx:Loc X.env.scope x)(r:RelV v u)
  (h:∀s',Inv X pins (σ.set i (some v)) H s'->(∃a,Zh a s.heap s'.heap/\(a=X.env.locals\/X.env.cells.lookup x=some a))->Q () s') (hf:X.fn x=true\/X.env.scope.names.lookup x=some .local:=by first|exact .inl rfl|exact .inr rfl|assumption):X4 M A (storeName X.env x u) Q E s:=by
 obtain⟨m,hn,hl⟩:=id I.loc;have RK:(X.env.scope.kind==.class || (X.env.scope.kind==.module&&X.env.locals != X.env.globals))=false:=by rw[I.ok.kind];rfl
 have Ni:i<σ.length:=by rw[I.len];exact(XI.mp hi).1
 have J3:=I.J3;have tracked:∀{a:Addr} {h':Heap},(∃o,s.heap.get? a=some o/\H a=none)->Zh a s.heap h'->iI X.prog X.w H h':=λ{a h'} ha hs b ob e=>by
  obtain⟨_,_,GK⟩:=ha;refine(I.bt b ob e).rF (λc w' hc q=>(hs.2 c ?_).trans q) (λ_ q=>q) λ_ _ q=>q;rintro rfl;rcases hc with rfl|hc
  ·rw[GK]at e;cases e
  ·rw[GK]at hc;cases hc
 rcases hx with hk|hk
 ·refine wpAny_storeName_local hk hn (λh' Fe hs=>?_) RK;obtain⟨oL,_,_,VM,_⟩:=id hn;refine h _ ⟨I.ok,I.os,I.bare,⟨λb o e n hb hx=>?_,λb o e n hb hx=>?_,I.base.free,λb o e hx=>?_,I.base.p_,I.base.nU,I.base.qa⟩,⟨_,Fe,λj y v' e1 e2 e3=>?_⟩,λy c e=>?_,I.free,I.g_,λp hp=>?_,tracked ⟨oL,VM,I.free⟩ hs,by simpa using I.len⟩ ⟨_,hs,.inl rfl⟩
  ·exact(hs.2 b (Yc (Yi (XU e) I.ok.above))).trans (I.base.keep b o e n hb hx)
  ·obtain⟨sl,e1⟩:=I.base.slot b o e n hb hx;exact⟨sl,(hs.2 b (Yc (Yi (XU e) I.ok.above))).trans e1⟩
  ·obtain⟨o',e1⟩:=I.base.there b o e hx;exact⟨o',(hs.2 b (Yc (Yi (XU e) I.ok.above))).trans e1⟩
  ·by_cases hj:j=i
   ·subst hj;rw[hi]at e1;cases e1;rw[List.getElem?_set_self Ni]at e2;cases e2;exact⟨u,r,.inl ⟨hk,by simp⟩⟩
   ·rw[List.getElem?_set_ne (YS hj)]at e2;obtain⟨u',r',q⟩:=hl j y v' e1 e2 e3;refine⟨u',r',?_⟩;rcases q with⟨k,e⟩|⟨k,c,e,z⟩
    ·refine .inl ⟨k,?_⟩;have:y≠x:=λe=>hj (su hN e1 (e▸hi));simp[this,e]
    ·exact .inr ⟨k,c,e,z.sameBut hs (J3 y c e)⟩
  ·obtain⟨w',z⟩:=I.cell y c e;exact⟨w',z.sameBut hs (J3 y c e)⟩
  ·obtain⟨e,n,ne,nf,d⟩:=I.pin p hp;exact⟨(hs.2 p.1 ne).trans e,n,ne,nf,d⟩
 ·have RC:X.fn x=true:=by
   rcases hf with z|z
   ·exact z
   ·rw[z]at hk;cases hk
  obtain⟨c,hc⟩:=I.ok.has x (.inl hk);obtain⟨w',z⟩:=I.cell x c hc;refine wpAny_storeName_cell I.ok.kind hk hc z (λh' pC hs=>?_);obtain⟨oc,JA,Q5⟩:=id z;refine h {s with heap:=h'} ⟨I.ok,I.os,I.bare,⟨λb o e n hb hx=>?_,λb o e n hb hx=>?_,I.base.free,λb o e hx=>?_,I.base.p_,I.base.nU,I.base.qa⟩,⟨m,hn.sameBut hs (YS (J3 x c hc)),λj y v' e1 e2 e3=>?_⟩,λy c' e=>?_,I.free,I.g_,λp hp=>?_,tracked ⟨oc,JA,I.g_ x c hc⟩ hs,by simpa using I.len⟩ ⟨c,hs,.inr hc⟩
  ·exact(hs.2 b (Yc (Yi (XU e) (I.ok.NU x c RC hc)))).trans (I.base.keep b o e n hb hx)
  ·obtain⟨sl,e1⟩:=I.base.slot b o e n hb hx;exact⟨sl,(hs.2 b (Yc (Yi (XU e) (I.ok.NU x c RC hc)))).trans e1⟩
  ·obtain⟨o',e1⟩:=I.base.there b o e hx;exact⟨o',(hs.2 b (Yc (Yi (XU e) (I.ok.NU x c RC hc)))).trans e1⟩
  ·by_cases hj:j=i
   ·subst hj;rw[hi]at e1;cases e1;rw[List.getElem?_set_self Ni]at e2;cases e2;exact⟨u,r,.inr ⟨.inl hk,c,hc,pC⟩⟩
   ·rw[List.getElem?_set_ne (YS hj)]at e2;obtain⟨u',r',q⟩:=hl j y v' e1 e2 e3;refine⟨u',r',?_⟩;rcases q with q|⟨k,c',e,z'⟩
    ·exact .inl q
    ·refine .inr ⟨k,c',e,z'.sameBut hs ?_⟩;rintro rfl;exact hj (su hN e1 (I.ok.inj _ _ _ e hc▸hi))
  ·by_cases GL:c'=c
   ·subst GL;exact⟨_,pC⟩
   ·obtain⟨w2,z2⟩:=I.cell y c' e;exact⟨w2,z2.sameBut hs GL⟩
  ·obtain⟨e,n,ne,nf,d⟩:=I.pin p hp;refine⟨(hs.2 p.1 ?_).trans e,n,ne,nf,d⟩;intro q;rw[q,JA]at e;have q':oc=p.2:=Yg e;exact d w' (by rw[<- q'];exact Q5)
theorem rE {M:Model}{A:Yv}{E:Xv->Xw->Prop}{i:Nat}{x:Str}{v:V}{u:Xv}{Q:Unit->Xw->Prop}(I:Inv X pins σ H s)(hN:X.N.Nodup)(hi:X.N[i]?=some x)(hx:Loc X.env.scope x)(r:RelV v u)
  (h:∀s',Inv X pins (σ.set i (some v)) H s'->Q () s') (hf:X.fn x=true\/X.env.scope.names.lookup x=some .local:=by first|exact .inl rfl|exact .inr rfl|assumption):X4 M A (storeName X.env x u) Q E s :=
 oC I hN hi hx r (λs' I' _=>h s' I') hf
theorem Inv.NT {s':Xw}{ch:List Addr}(I:Inv X pins σ H s)(ho:s'.os=s.os)(u:Un (Ck X.stack) ch H H' s.heap s'.heap)(bt:iI X.prog X.w H' s'.heap)(hg:AllBare s'.gens)
  (tj:∀b∈ch,(b∈X.ex\/X.s₀.heap.objs.size<=b)/\b≠X.env.locals/\(∀x c,X.env.cells.lookup x=some c->c≠b)/\∀p∈X.pn++pins,p.1≠b):Inv X pins σ H' s':=by
 obtain⟨h',g',d',t',o'⟩:=s';have e:o'=s.os:=ho;subst e;exact I.call (g':=g') (t':=t') (d':=d') u bt hg tj
end
abbrev XK:=Xv->Option Addr->Hp->Prop
abbrev St:=List (Option V)
abbrev VK:=V->Hp->Prop
abbrev TE:=St->Hp->VK->Prop
abbrev TT:=St->Hp->(Bool->Hp->Prop)->Prop
abbrev TA:=St->Hp->(List V->Hp->Prop)->Prop
structure Ends where
 nx:St->Hp->Prop
 rt:VK
 bk:St->Hp->Prop:=λ_ _=>False
 ct:St->Hp->Prop:=λ_ _=>False
abbrev TS:=Ends->St->Hp->Prop
def EP (X:Cx)(pins:List (Addr×Obj))(σ:St)(Q:VK)(u:Xv)(s':Xw):Prop:=∃v H',Inv X pins σ H' s'/\RelV v u/\Q v H'
def TP (X:Cx)(pins:List (Addr×Obj))(σ:St)(Q:Bool->Hp->Prop)(b:Bool)(s':Xw):Prop:=∃H',Inv X pins σ H' s'/\Q b H'
def AP (X:Cx)(pins:List (Addr×Obj))(σ:St)(Q:List V->Hp->Prop)(us:List Xv)(s':Xw):Prop:=∃vs H',Inv X pins σ H' s'/\Vals vs us/\Q vs H'
def SP (X:Cx)(pins:List (Addr×Obj))(D:Ends)(f:Flow)(s':Xw):Prop :=
 match f with
 |.next=>∃σ' H',Inv X pins σ' H' s'/\D.nx σ' H'
 |.brk=>∃σ' H',Inv X pins σ' H' s'/\D.bk σ' H'
 |.cont=>∃σ' H',Inv X pins σ' H' s'/\D.ct σ' H'
 |.ret u=>∃v σ' H',Inv X pins σ' H' s'/\RelV v u/\D.rt v H'
def PE (X:Cx)(e:Expr)(t:TE):Prop :=
 ∀(pins:List (Addr×Obj)) (s:Xw) (σ:St) (H:Hp) (Q:VK),Inv X pins σ H s->t σ H Q->X4 (model X.prog X.w) X.A (eval e X.env) (EP X pins σ Q) X.xe s
def PT (X:Cx)(e:Expr)(t:TT):Prop :=
 ∀(pins:List (Addr×Obj)) (s:Xw) (σ:St) (H:Hp) (Q:Bool->Hp->Prop),Inv X pins σ H s->t σ H Q->X4 (model X.prog X.w) X.A (isTrue e X.env (eval e X.env)) (TP X pins σ Q) X.xe s
def PW (X:Cx)(e:Expr)(t:TT):Prop :=
 ∀(whole:Sem Xv) (pins:List (Addr×Obj)) (s:Xw) (σ:St) (H:Hp) (Q:Bool->Hp->Prop),Inv X pins σ H s->t σ H Q->X4 (model X.prog X.w) X.A (isTrue e X.env whole) (TP X pins σ Q) X.xe s
theorem PW.pt {X:Cx}{e:Expr}{t:TT}(h:PW X e t):PT X e t:=h _
def PA (X:Cx)(es:List Expr)(t:TA):Prop :=
 ∀(pos:Pos) (pins:List (Addr×Obj)) (s:Xw) (σ:St) (H:Hp) (Q:List V->Hp->Prop),Inv X pins σ H s->t σ H Q->X4 (model X.prog X.w) X.A (spliced (ZT pos (XZ es X.env))) (AP X pins σ Q) X.xe s
def PS (X:Cx)(st:Stmt)(t:TS):Prop :=
 ∀(pins:List (Addr×Obj)) (s:Xw) (σ:St) (H:Hp) (D:Ends),Inv X pins σ H s->t D σ H->X4 (model X.prog X.w) X.A (exec st X.env) (SP X pins D) X.xe s
def rg (X:Cx)(st:List Stmt)(t:TS):Prop :=
 ∀(pins:List (Addr×Obj)) (s:Xw) (σ:St) (H:Hp) (D:Ends),Inv X pins σ H s->t D σ H->X4 (model X.prog X.w) X.A (execs st X.env) (SP X pins D) X.xe s
theorem bF {α:Type}{t:Sem α}{Q Q':α->Xw->Prop}{M:Model}{A:Yv}{E:Xv->Xw->Prop}{s:Xw}(h:X4 M A t Q E s)(hQ:∀a s,Q a s->Q' a s):X4 M A t Q' E s:=aaD h hQ λ_ _ x=>x
section
variable {X:Cx}
def KY (i:Nat):TE:=λσ H Q=>∃v,σ[i]?=some (some v)/\Q v H
def tC (v:V):TE:=λ_ H Q=>Q v H
theorem dj {i:Nat} {x:Str} {pos:Pos} (hN:X.N[i]?=some x) (hv:vW X.env.scope x) (hd:(x==("__debug__" : Str))=false:=by decide) (gZ:(x==("__classdict__" : Str))=false:=by decide):PE X (.Name x pos) (KY i):=by
 intro pins s σ H Q I h;obtain⟨v,e,h⟩:=h;obtain⟨m,hn,hl⟩:=I.loc;obtain⟨u,r,l⟩:=hl i x v hN e hv;have fin:EP X pins σ Q u s:=⟨v,H,I,r,h⟩;rcases l with⟨hk,hm⟩|⟨hk,c,hc,pB⟩
 ·exact wpAny_Name (wpAny_loadName_local I.ok.kind hk hn hm fin) hd
 ·rcases hk with hk|hk
  ·exact wpAny_Name (wpAny_loadName_cell I.ok.kind hk hc pB fin) hd
  ·exact wpAny_Name (wpAny_loadName_free I.ok.kind hk hc pB fin gZ) hd
theorem bc {i j pos}:PE X (.Constant (.int i) j pos) (tC (.int i)):=λ_ _ _ H _ I h=>wpAny_Constant_int ⟨.int i,H,I.tok _,⟨_,rfl⟩,h⟩
theorem Gb {b j pos}:PE X (.Constant (.bool b) j pos) (tC (.bl b)):=λ_ _ _ H _ I h=>Constant_bool ⟨.bl b,H,I,rfl,h⟩
theorem Ic {j pos}:PE X (.Constant .none j pos) (tC .bP):=λ_ _ _ H _ I h=>Constant_none ⟨.bP,H,I,rfl,h⟩
def Gl (X:Cx)(x:Str):Prop:=X.env.kindOf x=some .globalImplicit
theorem E1 {E:Xv->Xw->Prop}{pins:List (Addr×Obj)}{s:Xw}{σ:St}{H:Hp}{x:Str}{u:Xv}{pos:Pos}{Q:Xv->Xw->Prop}(I:Inv X pins σ H s)(hg:Gl X x)(hm:X.mg x=some u)(h:Q u s)
  (hd:(x==("__debug__" : Str))=false:=by decide):X4 (model X.prog X.w) X.A (eval (.Name x pos) X.env) Q E s :=
 Calls.Name_function_global I.ok.kind hg (Calls.loadGlobal_global (by rw[I.ok.glob];exact I.mod.glob.keeps I.bk) hm h) hd
theorem iu {E:Xv->Xw->Prop}{pins:List (Addr×Obj)}{s:Xw}{σ:St}{H:Hp}{x:Str}{u:Xv}{pos:Pos}{Q:Xv->Xw->Prop}(I:Inv X pins σ H s)(hg:Gl X x)(hm:X.mg x=none)(hv:Yx x=some u)(h:Q u s)
  (hn:x≠"__name__" := by decide) (hd:(x==("__debug__" : Str))=false:=by decide):X4 (model X.prog X.w) X.A (eval (.Name x pos) X.env) Q E s:=by
 obtain⟨mb,h1,h2⟩:=I.mod.blt;exact Calls.Name_function_global I.ok.kind hg (Calls.loadGlobal_builtin (by rw[I.ok.glob];exact I.mod.glob.keeps I.bk) hm (by rw[I.ok.blt];exact h1.keeps I.bk) ((h2 x hn).trans hv) h) hd
theorem qu {x:Str} {v:V} {u:Xv} {pos:Pos} (hg:Gl X x) (hm:X.mg x=none) (hv:Yx x=some u) (r:RelV v u) (hn:x≠"__name__" := by decide) (hd:(x==("__debug__" : Str))=false:=by decide):PE X (.Name x pos) (tC v) :=
 λ_ _ _ H _ I h=>iu I hg hm hv ⟨v,H,I,r,h⟩ hn hd
variable {a b:Expr}{ta tb:TE}{pos:Pos}
theorem sv (b:Expr){op:aat}(h:op≠.In)(h2:op≠.NotIn):ZS op b=false:=by
 have e1:(op==CmpOp.In)=false:=by cases op <;> first|rfl|exact absurd rfl h
 have e2:(op==CmpOp.NotIn)=false:=by cases op <;> first|rfl|exact absurd rfl h2
 cases b <;> simp[ZS,e1,e2]
def tB (t:TE):TT:=λσ H Q=>t σ H λx H1=>∃c,x=.bl c/\Q c H1
theorem HW {e:Expr}{t:TE}(h:PE X e t)(he:∀whole,isTrue e X.env whole=(do let v <- whole;aaL e.pos;holding [v] (truthy v)):=by intro _;rfl):PT X e (tB t):=by
 intro pins s σ H Q I hw;refine isTrue_plain (bF (h pins s σ H _ I hw) λv s1 ⟨x,H1,I1,r1,q1⟩=>?_) (he _);obtain⟨d,rfl,q⟩:=q1;cases r1;exact Y6 ⟨H1,I1,q⟩
variable {tA Og:TT}{rest:List Expr}
def Pf (t u:TT):TT:=λσ H Q=>t σ H λc H1=>if c=true then u σ H1 Q else Q false H1
def UM (t u:TT):TT:=λσ H Q=>t σ H λc H1=>if c=true then Q true H1 else u σ H1 Q
def O_ (t:TT):TT:=λσ H Q=>t σ H λc H1=>Q (!c) H1
theorem pw_and1 (ha:PT X a tA):PW X (.BoolOp .And [a] pos) tA:=by
 intro wh pins s σ H Q I h;refine isTrue_and (bF (ha pins s σ H Q I h) λc s1 e=>?_);cases c with
 |true=>exact isTrue_and_nil e
 |false=>exact e
theorem pw_or1 (ha:PT X a tA):PW X (.BoolOp .Or [a] pos) tA:=by
 intro wh pins s σ H Q I h;refine isTrue_or (bF (ha pins s σ H Q I h) λc s1 e=>?_);cases c with
 |false=>exact isTrue_or_nil e
 |true=>exact e
theorem pw_and (ha:PT X a tA)(hb:PW X (.BoolOp .And (b::rest) pos) Og):PW X (.BoolOp .And (a::b::rest) pos) (Pf tA Og):=by
 intro wh pins s σ H Q I h;refine isTrue_and (bF (ha pins s σ H _ I h) λc s1 ⟨H1,I1,q1⟩=>?_);cases c with
 |true=>exact hb wh pins s1 σ H1 Q I1 q1
 |false=>exact⟨H1,I1,q1⟩
theorem pw_or (ha:PT X a tA)(hb:PW X (.BoolOp .Or (b::rest) pos) Og):PW X (.BoolOp .Or (a::b::rest) pos) (UM tA Og):=by
 intro wh pins s σ H Q I h;refine isTrue_or (bF (ha pins s σ H _ I h) λc s1 ⟨H1,I1,q1⟩=>?_);cases c with
 |true=>exact⟨H1,I1,q1⟩
 |false=>exact hb wh pins s1 σ H1 Q I1 q1
theorem HX (ha:PT X a tA):PT X (.UnaryOp .Not a pos) (O_ tA):=by
 intro pins s σ H Q I h;exact isTrue_not (ha pins s σ H (λc H1=>Q (!c) H1) I h)
def K_ (ta tb:TE):TE:=λσ H Q=>ta σ H λx H1=>∃c,x=.bl c/\if c=true then tb σ H1 Q else Q (.bl false) H1
def O9 (ta tb:TE):TE:=λσ H Q=>ta σ H λx H1=>∃c,x=.bl c/\if c=true then Q (.bl true) H1 else tb σ H1 Q
def K3 (ta:TE):TE:=λσ H Q=>ta σ H λx H1=>∃c,x=.bl c/\Q (.bl (!c)) H1
theorem Ia {op}{t:TE}(h:PE X a t):PE X (.BoolOp op [a] pos) t:=λpins s σ H Q I hw=>BoolOp_one (h pins s σ H Q I hw)
theorem Ig (ha:PE X a ta)(hb:PE X (.BoolOp .And (b::rest) pos) tb):PE X (.BoolOp .And (a::b::rest) pos) (K_ ta tb):=by
 intro pins s σ H Q I h;refine BoolOp_and (bF (ha pins s σ H _ I h) λv s1 ⟨x,H1,I1,r1,q1⟩=>?_);obtain⟨c,rfl,q1⟩:=q1;cases r1;refine Y6 ?_;cases c with
 |true=>exact hb pins s1 σ H1 Q I1 q1
 |false=>exact⟨.bl false,H1,I1,rfl,q1⟩
theorem LA (ha:PE X a ta)(hb:PE X (.BoolOp .Or (b::rest) pos) tb):PE X (.BoolOp .Or (a::b::rest) pos) (O9 ta tb):=by
 intro pins s σ H Q I h;refine BoolOp_or (bF (ha pins s σ H _ I h) λv s1 ⟨x,H1,I1,r1,q1⟩=>?_);obtain⟨c,rfl,q1⟩:=q1;cases r1;refine Y6 ?_;cases c with
 |false=>exact hb pins s1 σ H1 Q I1 q1
 |true=>exact⟨.bl true,H1,I1,rfl,q1⟩
theorem Ib (ha:PE X a ta):PE X (.UnaryOp .Not a pos) (K3 ta):=by
 intro pins s σ H Q I h;refine UnaryOp_ (bF (ha pins s σ H _ I h) λv s1 ⟨x,H1,I1,r1,q1⟩=>?_);obtain⟨c,rfl,q1⟩:=q1;cases r1;exact not_of (Y6 ⟨.bl (!c),H1,I1,rfl,q1⟩)
end
def c6 (K:PySem.W.Frag)(H:Hp)(a:Addr)(xs:List V):Prop :=
 Rd H a (.lst xs) \/
  ∃(o:Obj) (its:Array Xv) (n:Nat),K.lookup a=some o/\o.cls=.type "list" /\ o.dict=none/\o.data=.seq its n/\its.size<=XO/\Vals xs its.toList
def qV (K:PySem.W.Frag)(H:Hp)(a:Addr)(xs:List V):Prop :=
 Rd H a (.tup xs) \/
  ∃(o:Obj) (its:Array Xv) (n:Nat),K.lookup a=some o/\o.cls=.type "tuple" /\ o.data=.seq its n/\its.size<=XO/\Vals xs its.toList
def Sm:Xv->Option V
 |.none=>some .bP
 |.bool b=>some (.bl b)
 |.int i _=>some (.int i)
 |.str x _=>some (.str x)
 |.bytes b _=>some (.CU b)
 |.float b _=>some (.JQ b)
 |.ref a=>some (.ref a)
 |.type n=>some (.ty n)
 |_=>none
theorem RelV.abs {x:V}{u:Xv}(r:RelV x u):Sm u=some x:=by
 cases x with
 |bP=>cases r;rfl
 |bl _=>cases r;rfl
 |int _=>obtain⟨t,rfl⟩:=r;rfl
 |str _=>obtain⟨t,rfl⟩:=r;rfl
 |CU _=>obtain⟨t,rfl⟩:=r;rfl
 |JQ _=>obtain⟨t,rfl⟩:=r;rfl
 |ref _=>cases r;rfl
 |ty _=>cases r;rfl
theorem RelV.inj {x y:V}{u:Xv}(r:RelV x u)(q:RelV y u):x=y:=Yg (r.abs.symm.trans q.abs)
theorem Vals.inj:∀{xs ys:List V} {us:List Xv},Vals xs us->Vals ys us->xs=ys
 |_,_,_,.nil,.nil=>rfl
 |_,_,_,.cons r t,.cons r' t'=>by rw[r.inj r',Vals.inj t t']
section
variable {X:Cx}{pins:List (Addr×Obj)}{σ:St}{H:Hp}{s:Xw}{a:Addr}{xs ys:List V}
theorem c6.of {K:PySem.W.Frag}(h:H a=some (.lst xs)):c6 K H a xs:=.inl (.inl h)
theorem qV.of {K:PySem.W.Frag}(h:H a=some (.tup xs)):qV K H a xs:=.inl (.inl h)
theorem Inv.list (I:Inv X pins σ H s)(h:c6 X.K H a xs):∃its:List Xv,Vals xs its/\PlainL s.heap a its.toArray/\xs.length<=XO:=by
 rcases h with h|⟨o,its,n,hk,hc,hd,hs,hz,r⟩
 ·obtain⟨z,its,n,r,e⟩:=h.ok I.bt;exact⟨its,r,⟨_,n,e,rfl,rfl,rfl⟩,z⟩
 ·refine⟨its.toList,r,⟨o,n,I.jT a o hk,hc,hd,by simpa using hs⟩,?_⟩
  have e:=r.length;simp only[XF]at e;lia
theorem Inv.tuple (I:Inv X pins σ H s)(h:qV X.K H a xs):∃its:List Xv,Vals xs its/\IsTup s.heap a its.toArray/\xs.length<=XO:=by
 rcases h with h|⟨o,its,n,hk,hc,hs,hz,r⟩
 ·obtain⟨z,its,r,p⟩:=h.ok I.bt;exact⟨its,r,p,z⟩
 ·refine⟨its.toList,r,⟨o,I.jT a o hk,hc,n,by simpa using hs⟩,?_⟩
  have e:=r.length;simp only[XF]at e;lia
theorem Inv.BF (I:Inv X pins σ H s)(h:c6 X.K H a xs)(h':c6 X.K H a ys):xs=ys:=by
 obtain⟨its,r,⟨o,n,e,_,_,d⟩,_⟩:=I.list h;obtain⟨its',r',⟨o',n',e',_,_,d'⟩,_⟩:=I.list h';rw[e]at e';cases e';rw[d]at d';injection d' with d1 _
 have:its=its':=by simpa using congrArg Array.toList d1
 subst this;exact r.inj r'
end
abbrev Cx.nD (X:Cx)(E:Xv->Xw->Prop):Cx:={X with xe:=E}
abbrev Cx.Gh (X:Cx):Cx:=X.nD λ_ _=>False
theorem Cx.Ok.nD {X:Cx}(ok:X.Ok)(E:Xv->Xw->Prop):(X.nD E).Ok :=
 ⟨ok.mod,ok.kind,ok.glob,ok.blt,ok.above,ok.inj,ok.has,ok.NU,ok.hd,ok.frames,ok.Oh,ok.OM,ok.bs,ok.G1,ok.Bv,ok.Cu,ok.mO,ok.Ky⟩
theorem Cx.Ok.fV {X:Cx}{E:Xv->Xw->Prop}(ok:(X.nD E).Ok):X.Ok :=
 ⟨ok.mod,ok.kind,ok.glob,ok.blt,ok.above,ok.inj,ok.has,ok.NU,ok.hd,ok.frames,ok.Oh,ok.OM,ok.bs,ok.G1,ok.Bv,ok.Cu,ok.mO,ok.Ky⟩
section
variable {X:Cx}{pins:List (Addr×Obj)}{σ:St}{H:Hp}{s:Xw}{E:Xv->Xw->Prop}
theorem Inv.nD (I:Inv X pins σ H s)(E:Xv->Xw->Prop):Inv (X.nD E) pins σ H s:=⟨I.ok.nD E,I.os,I.bare,I.base,I.loc,I.cell,I.free,I.g_,I.pin,I.bt,I.len⟩
theorem Inv.fV (I:Inv (X.nD E) pins σ H s):Inv X pins σ H s:=⟨I.ok.fV,I.os,I.bare,I.base,I.loc,I.cell,I.free,I.g_,I.pin,I.bt,I.len⟩
theorem SP.fV {D:Ends}{f:Flow}{s':Xw}(h:SP (X.nD E) pins D f s'):SP X pins D f s':=by
 cases f with
 |next=>obtain⟨σ',H',I,q⟩:=h;exact⟨σ',H',I.fV,q⟩
 |brk=>obtain⟨σ',H',I,q⟩:=h;exact⟨σ',H',I.fV,q⟩
 |cont=>obtain⟨σ',H',I,q⟩:=h;exact⟨σ',H',I.fV,q⟩
 |ret u=>obtain⟨v,σ',H',I,r,q⟩:=h;exact⟨v,σ',H',I.fV,r,q⟩
theorem rg.Gh {st:List Stmt}{t:TS}(h:rg X.Gh st t):rg X st t:=λpins s σ H D I hw =>
 aaD (h pins s σ H D (I.nD _) hw) (λ_ _ q=>q.fV) λ_ _ z=>Z2 z
end
section
variable {X:Cx}{st:Stmt}{rest:List Stmt}{t u:TS}{e:Expr}{te:TE}{pos:Pos}
def K5:TS:=λD σ H=>D.nx σ H
def O7 (t u:TS):TS:=λD σ H=>t {D with nx:=u D} σ H
theorem wC:rg X [] K5:=λ_ _ σ H _ I h=>wpAny_execs_nil ⟨σ,H,I,h⟩
theorem dU (h1:PS X st t)(h2:rg X rest u):rg X (st::rest) (O7 t u):=by
 intro pins s σ H D I h;refine wpAny_execs_cons (bF (h1 pins s σ H {D with nx:=u D} I h) λf s1 q=>?_)
 cases f with
 |next =>
  obtain⟨σ',H',I',q⟩:=q;exact h2 pins s1 σ' H' D I' q
 |ret v=>exact q
 |brk=>exact q
 |cont=>exact q
theorem iY (h1:PS X st t):rg X [st] t:=by
 intro pins s σ H D I h;refine wpAny_execs_cons (bF (h1 pins s σ H D I h) λf s1 q=>?_);cases f with
 |next=>exact wpAny_execs_nil q
 |ret v=>exact q
 |brk=>exact q
 |cont=>exact q
theorem Inv.quiet {pins:List (Addr×Obj)}{σ:St}{H:Hp}{s:Xw}(I:Inv X pins σ H s):interactive X.env=false:=by simp[interactive,I.ok.kind]
def K7 (te:TE):TS:=λD σ H=>te σ H λ_ H1=>D.nx σ H1
theorem qm (he:PE X e te)(hs:Z5 e none pos.line X.env=pure false:=by rfl):PS X (.Expr e pos) (K7 te):=by
 intro pins s σ H D I h;exact wpAny_Expr_any (bF (he pins s σ H _ I h) λv s1 BZ=>by obtain⟨x,H1,I1,r1,q1⟩:=BZ;exact⟨σ,H1,I1,q1⟩) I.quiet hs
def O8 (te:TE):TS:=λD σ H=>te σ H D.rt
theorem jK (he:PE X e te):PS X (.Return (some e) pos) (O8 te):=by
 intro pins s σ H D I h;exact wpAny_Return_some (bF (he pins s σ H _ I h) λv s1 BY=>by obtain⟨x,H1,I1,r1,q1⟩:=BY;exact⟨x,σ,H1,I1,r1,q1⟩)
def Pb (c:TT)(t u:TS):TS:=λD σ H=>c σ H λb H1=>if b=true then t D σ H1 else u D σ H1
theorem F9 {c:Expr}{a b:List Stmt}{tc:TT}(hc:PT X c tc)(ha:rg X a t)(hb:rg X b u):PS X (.If c a b pos) (Pb tc t u):=by
 intro pins s σ H D I h;refine wpAny_If (bF (hc pins s σ H _ I h) λd s1 ⟨H1,I1,q1⟩=>?_);cases d with
 |true=>exact ha pins s1 σ H1 D I1 q1
 |false=>exact hb pins s1 σ H1 D I1 q1
def HC:TS:=λ_ _ _=>False
theorem yp {UT:List Stmt}:rg X UT HC:=λ_ _ _ _ _ _ h=>h.elim
end
abbrev TG:=V->St->Hp->(St->Hp->Prop)->Prop
abbrev G2:=List V->St->Hp->(St->Hp->Prop)->Prop
def PG (X:Cx)(target:Expr)(t:TG):Prop :=
 ∀(pins:List (Addr×Obj)) (s:Xw) (σ:St) (H:Hp) (v:V) (u:Xv) (Q:St->Hp->Prop),Inv X pins σ H s->RelV v u->t v σ H Q ->
  X4 (model X.prog X.w) X.A (assign target X.env u) (λ_ s'=>∃σ' H',Inv X pins σ' H' s'/\Q σ' H') X.xe s
def G6 (X:Cx)(ts:List Expr)(t:G2):Prop :=
 ∀(pins:List (Addr×Obj)) (s:Xw) (σ:St) (H:Hp) (vs:List V) (us:List Xv) (Q:St->Hp->Prop),Inv X pins σ H s->Vals vs us->t vs σ H Q ->
  X4 (model X.prog X.w) X.A (assignInOrder ((ZC ts X.env).map (·.2)) us) (λ_ s'=>∃σ' H',Inv X pins σ' H' s'/\Q σ' H') X.xe s
abbrev Ke:=V->V->V->Hp->(Hp->Prop)->Prop
def N2 (X:Cx)(t:Ke):Prop :=
 ∀(pins:List (Addr×Obj)) (s:Xw) (σ:St) (H:Hp) (o i v:V) (ov iv u:Xv) (Q:Hp->Prop),Inv X pins σ H s->RelV o ov->RelV i iv->RelV v u->t o i v H Q ->
  X4 (model X.prog X.w) X.A (setItem ov iv u) (λ_ s'=>∃H',Inv X pins σ H' s'/\Q H') X.xe s
section
variable {X:Cx}{pos:Pos}
def xk (i:Nat):TG:=λv σ H Q=>Q (σ.set i (some v)) H
theorem wN {i:Nat}{x:Str}(hN:X.N.Nodup)(hi:X.N[i]?=some x)(hx:Loc X.env.scope x)(hf:X.fn x=true\/X.env.scope.names.lookup x=some .local:=by first|exact .inl rfl|exact .inr rfl|assumption):PG X (.Name x pos) (xk i):=by
 intro pins s σ H v u Q I r h;exact wpAny_assign_Name (rE I hN hi hx r (λs' I'=>⟨_,H,I',h⟩) hf)
def JO:G2:=λvs σ H Q=>vs=[]/\Q σ H
def Cg (t:TG)(u:G2):G2:=λvs σ H Q=>∃v r,vs=v::r/\t v σ H λσ' H'=>u r σ' H' Q
theorem Ej:G6 X [] JO:=by
 intro pins s σ H vs us Q I r h;obtain⟨e,h⟩:=h;subst e;cases r;exact assignInOrder_nil ⟨σ,H,I,h⟩
theorem A_ {e:Expr}{es:List Expr}{t:TG}{u:G2}(h1:PG X e t)(h2:G6 X es u)
  (hs:(ZC (e::es) X.env).map (·.2)=assign e X.env::(ZC es X.env).map (·.2):=by rfl):G6 X (e::es) (Cg t u):=by
 intro pins s σ H vs us Q I r h;obtain⟨v,vr,e1,h⟩:=h;subst e1;cases r with
 |cons r rr =>
  rw[hs];refine assignInOrder_cons (bF (h1 pins s σ H _ _ _ I r h) λ_ s1 ⟨σ1,H1,I1,q1⟩=>?_);exact h2 pins s1 σ1 H1 _ _ Q I1 rr q1
def RW (K:PySem.W.Frag)(n:Nat)(t:G2):TG:=λv σ H Q=>∃a xs,v=.ref a/\qV K H a xs/\xs.length=n/\t xs σ H Q
theorem H_ {es:List Expr}{k:Nat}{t:G2}{n:Nat}(hc:X.calm=true)(h:G6 X es t)
  (hn:(ZC es X.env).length=n:=by rfl) (Mw:(ZC es X.env).findIdx? (·.1)=none:=by rfl):PG X (.Tuple es k pos) (RW X.K n t):=by
 intro pins s σ H v u Q I r hw;obtain⟨a,xs,e1,hq,hl,hw⟩:=hw;subst e1;cases r;obtain⟨its,rv,ht,hz⟩:=I.tuple hq;refine assign_Tuple_tuple (I.ok.hd hc) ht (by simp[hn,<- hl,rv.length]) Mw λh' hx=>?_
 have I1:Inv X pins σ H {s with heap:=h'}:=I.kept (t':=s.toks) λb o e=>hx b o (Yc (XU e)) e
 exact h pins _ σ H xs _ Q I1 (by simpa using rv) hw
def RX (to ti:TE)(t:Ke):TG:=λv σ H Q=>to σ H λo H1=>ti σ H1 λi H2=>t o i v H2 λH3=>Q σ H3
theorem u_ {o i:Expr}{to ti:TE}{t:Ke}(ho:PE X o to)(hi:PE X i ti)(hs:N2 X t)
  (ha:∀v,assign (.Subscript o i pos) X.env v=(do
   let ov <- holding [v] (eval o X.env)
   let iv <- holding [v,ov] (eval i X.env)
   aaL pos
   holding [v,ov,iv] (setItem ov iv v)
   release [v,ov,iv] []):=by intro _;rfl):PG X (.Subscript o i pos) (RX to ti t):=by
 intro pins s σ H v u Q I r h;rw[ha];refine Xs (Y0 (bF (ho pins s σ H _ I h) λov s1 ⟨x,H1,I1,r1,q1⟩=>?_));refine Xs (Y0 (bF (hi pins s1 σ H1 _ I1 q1) λiv s2 ⟨y,H2,I2,r2,q2⟩=>?_));refine Xs (ZR (Xs (Y0 (bF (hs pins s2 σ H2 x y v ov iv u _ I2 r1 r2 r q2) λ_ s3 ⟨H3,I3,q3⟩=>?_))));exact wpAny_release ⟨σ,H3,I3,q3⟩
def K9 (te:TE)(g:TG):TS:=λD σ H=>te σ H λx H1=>g x σ H1 D.nx
theorem qo {tg e:Expr}{te:TE}{g:TG}(he:PE X e te)(hg:PG X tg g)(hs:swapsWithSole [tg] e pos.line X.env=pure false:=by rfl)(hw:swappedStores [tg] e X.env=pure none:=by rfl)
  (h1:(ZC [tg] X.env).map (·.2)=[assign tg X.env]:=by rfl):PS X (.Assign [tg] e pos) (K9 te g):=by
 intro pins s σ H D I h;refine wpAny_Assign_stores (bF (he pins s σ H _ I h) λv s1 ⟨x,H1,I1,r1,q1⟩=>?_) hs hw;rw[h1];exact bF (hg pins s1 σ H1 x v _ I1 r1 q1) λ_ s2 q=>q
theorem u5 {i:Nat}{x:Str}{e:Expr}{te:TE}{pos':Pos}(hN:X.N.Nodup)(hi:X.N[i]?=some x)(hx:Loc X.env.scope x)(he:PE X e te)(hs:Z5 e (some (.Name x pos')) pos.line X.env=pure false:=by rfl)(hf:X.fn x=true\/X.env.scope.names.lookup x=some .local:=by first|exact .inl rfl|exact .inr rfl|assumption):
  PS X (.Assign [.Name x pos'] e pos) (K9 te (xk i)):=by
 intro pins s σ H D I h;refine wpAny_Assign_Name (bF (he pins s σ H _ I h) λv s1 ⟨y,H1,I1,r1,q1⟩=>?_) hs;exact rE I1 hN hi hx r1 (λs2 I2=>⟨_,H1,I2,q1⟩) hf
end
section
variable {X:Cx}{pos:Pos}
def HA (c:TT)(tb:TS):TS:=λD σ H=>∃W:Nat->St->Hp->Prop,(∃m,W m σ H)/\∀m σ H,W m σ H ->
 c σ H λb H1=>if b=true then ∃N:St->Hp->Prop,(∀σ' H',N σ' H'->∃m',m'<m/\W m' σ' H')/\tb {D with nx:=N,ct:=N,bk:=D.nx} σ H1 else D.nx σ H1
theorem AV {c:Expr}{body:List Stmt}{tc:TT}{tb:TS}(hp:PassesOwn (model X.prog X.w) X.A X.env X.xe)(hc:PT X c tc)(hb:rg X body tb):PS X (.While c body [] pos) (HA tc tb):=by
 intro pins s σ H D I h;obtain⟨W,⟨m0,w0⟩,turn⟩:=h;refine wpAny_While (codeAny_whileLoop (λn s'=>∃σ' H',Inv X pins σ' H' s'/\W n σ' H') ?_ m0 ⟨σ,H,I,w0⟩);rintro n s1 ⟨σ1,H1,I1,w1⟩;refine ZP hp (bF (hc pins s1 σ1 H1 _ I1 (turn n σ1 H1 w1)) λb s2 ⟨H2,I2,q2⟩=>?_);cases b with
 |true =>
  obtain⟨N,hN,q2⟩:=q2;rw[if_pos rfl];refine ZP hp (bF (hb pins s2 σ1 H2 _ I2 q2) λf s3 q3=>?_);cases f with
  |next =>
   obtain⟨σ3,H3,I3,n3⟩:=q3;obtain⟨m',hm,w3⟩:=hN σ3 H3 n3;exact⟨m',hm,σ3,H3,I3,w3⟩
  |cont =>
   obtain⟨σ3,H3,I3,n3⟩:=q3;obtain⟨m',hm,w3⟩:=hN σ3 H3 n3;exact⟨m',hm,σ3,H3,I3,w3⟩
  |brk=>exact q3
  |ret v=>exact q3
 |false =>
  rw[if_neg YO];exact wpAny_execs_nil ⟨σ1,H2,I2,q2⟩
end
structure It where
 go:Nat->Hp->Prop
 KR:Nat->Hp->V->Hp->Prop
 stop:Nat->Hp->Prop
def gw (X:Cx)(pins:List (Addr×Obj))(H:Hp)(b:Addr):Prop :=
 H b=none/\b≠X.env.locals/\b∉X.fs/\(b∈X.ex\/X.s₀.heap.objs.size<=b)/\(∀x c,X.env.cells.lookup x=some c->c≠b)/\∀p∈X.pn++pins,p.1≠b
theorem Inv.Cm {X:Cx}{pins:List (Addr×Obj)}{σ:St}{H H':Hp}{s:Xw}{b:Addr}(I:Inv X pins σ H s)(hb:s.heap.objs.size<=b)(hn:H' b=none):gw X pins H' b:=by
 refine⟨hn,Nat.ne_of_gt (Yi I.lt hb),I.P9 hb,.inr (Ym I.sz hb),λx c e z=>?_,λp hp z=>?_⟩
 ·obtain⟨v,q⟩:=I.cell x c e;exact absurd (Yi q.lt (by rw[z];exact hb)) (aar _)
 ·exact absurd (Yi (XU (I.pin p hp).1) (by rw[z];exact hb)) (aar _)
structure Turn (P:Xz)(w:XT)(K:PySem.W.Frag)(tg:Expr)(J:It)(fp:List Addr)(it:Addr)(tn:Nat->Heap->Prop):Prop where
 mem:it∈fp
 obj:∀i h,tn i h->∀b∈fp,∃o,h.get? b=some o/\∀v,o.data≠.cell v
 keep:∀i h h',tn i h->(∀b∈fp,∀o,h.get? b=some o->h'.get? b=some o)->tn i h'
 item:∀(X:Cx),X.prog=P->X.w=w->X.K=K->X.calm=true->∀(i:Nat) (pins:List (Addr×Obj)) (s:Xw) (σ:St) (H:Hp) (E:Xv->Xw->Prop),Inv X pins σ H s->(∀b∈fp,gw X pins H b)->tn i s.heap->J.go i H ->
  X4 (model P w) X.A (aaE (.ref it)) (λr s1=>∃u,r=some u /\
   X4 (model P w) X.A (letOwnedTupleGo tg (.ref it) u) (λ_ s2=>∃x H',Inv X pins σ H' s2/\RelV x u/\J.KR i H x H'/\tn (i+1) s2.heap/\∀b∈fp,H' b=none) E s1) E s
 done:∀(X:Cx),X.prog=P->X.w=w->X.K=K->X.calm=true->∀(i:Nat) (pins:List (Addr×Obj)) (s:Xw) (σ:St) (H:Hp) (E:Xv->Xw->Prop),Inv X pins σ H s->(∀b∈fp,gw X pins H b)->tn i s.heap->J.stop i H ->
  X4 (model P w) X.A (aaE (.ref it)) (λr s1=>r=none/\Inv X pins σ H s1) E s
 self:∀(A:Yv) (i:Nat) (s:Xw) (Q:Xv->Xw->Prop) (E:Xv->Xw->Prop),tn i s.heap->Q (.ref it) s->X4 (model P w) A (pyIter (.ref it)) Q E s
abbrev TI:=St->Hp->(It->Hp->Prop)->Prop
def KQ (X:Cx)(pins:List (Addr×Obj))(σ:St)(tg:Expr)(R:It->Hp->Prop)(Gv:Xv)(s2:Xw):Prop :=
 ∃(it:Addr) (fp:List Addr) (tn:Nat->Heap->Prop) (J:It) (H':Hp),Gv=.ref it/\Inv X pins σ H' s2/\Turn X.prog X.w X.K tg J fp it tn/\tn 0 s2.heap/\(∀b∈fp,gw X pins H' b)/\R J H'
def PI (X:Cx)(tg iter:Expr)(wi:TI):Prop :=
 ∀(pins:List (Addr×Obj)) (s:Xw) (σ:St) (H:Hp) (R:It->Hp->Prop),Inv X pins σ H s->wi σ H R ->
  X4 (model X.prog X.w) X.A (eval iter X.env) (λv s1=>X4 (model X.prog X.w) X.A (pyIter v) (KQ X pins σ tg R) X.xe s1) X.xe s
theorem Cf {M:Model}{A:Yv}{E:Xv->Xw->Prop}{s:Xw}{tg:Expr}{it:Addr}{u:Xv}{o:Obj}{n:String}{vs:Array Xv}{Q:Unit->Xw->Prop}(ho:s.heap.get? it=some o)(hc:o.cls=.type n)(hd:o.data=.fields vs)
  (hn:["enumerate","zip","dict_itemiterator","dict_reverseitemiterator","odict_iterator","itertools.zip_longest","itertools.pairwise"].contains n=false) (hQ:Q () s):X4 M A (letOwnedTupleGo tg (.ref it) u) Q E s:=by
 unfold letOwnedTupleGo;cases tg <;> first
  |exact XB hQ
  | (cases u <;> first
    |exact XB hQ
    | (refine Xs (wpAny_load ho ?_)
       rw[hc,hd];show X4 M A (if (["enumerate","zip","dict_itemiterator","dict_reverseitemiterator","odict_iterator","itertools.zip_longest","itertools.pairwise"].contains n&&vs[0]?==some (rawInt _))=true then _ else _) Q E s
       rw[if_neg (by intro h;rw[hn,Bool.false_and]at h;cases h)]
       exact XB hQ))
def OX (K:PySem.W.Frag)(a:Addr):It :=
 ⟨λi H=>∃xs x,c6 K H a xs/\xs[i]?=some x,λi H x H'=>H'=H/\∀xs,c6 K H a xs->xs[i]?=some x,λi H=>∃xs,c6 K H a xs/\xs.length<=i⟩
def N6 (lo:Int)(n:Nat):It:=⟨λi _=>i<n,λi H x H'=>H'=H/\x=.int (lo+i),λi _=>n<=i⟩
theorem xU {P:Xz}{w:XT}{K:PySem.W.Frag}{tg:Expr}(a it:Addr):Turn P w K tg (OX K a) [it] it (λi h=>h.IsListIter it a i) where
 mem:=by simp
 obj:=λi h st b hb=>by
  have e:b=it:=by simpa using hb
  subst e;obtain⟨o,e,c,d⟩:=st;exact⟨o,e,λv z=>by rw[d]at z;cases z⟩
 keep:=λi h h' st k=>st.at λo e=>k it (by simp) o e
 item:=by
  intro X hP hw hK hc i pins s σ H E I hf st hg;subst hP hw hK;obtain⟨xs,x,hq,hx⟩:=hg;obtain⟨its,rv,p,hz⟩:=I.list hq;obtain⟨u,hu,ru⟩:=rv.get hx;obtain⟨f0,f1,f2,f3,f4,f5⟩:=hf it (by simp)
  refine wpAny_pyNext_list_item st p.isList (x:=u) (by simpa using hu) λh' aB sb=>?_
  have I1:Inv X pins σ H {s with heap:=h'}:=I.turned (t':=s.toks) (λb o hb e=>(sb.2 b hb).trans e) f0 f1 f3 f4 f5
  obtain⟨o,e,c,d⟩:=id aB;exact⟨u,rfl,Cf (s:={s with heap:=h'}) e c d (by decide) ⟨x,H,I1,ru,⟨rfl,λys hy=>by rw[I.BF hy hq];exact hx⟩,aB,λb hb=>(hf b hb).1⟩⟩
 done:=by
  intro X hP hw hK hc i pins s σ H E I hf st hg;subst hP hw hK;obtain⟨xs,hq,hx⟩:=hg;obtain⟨its,rv,p,hz⟩:=I.list hq;obtain⟨f0,f1,f2,f3,f4,f5⟩:=hf it (by simp)
  have hl:=rv.length;exact wpAny_pyNext_list_end (I.ok.hd hc) st p.isList (by simp;lia) λh' eb=>⟨rfl,I.turned (t':=s.toks) (λb o hb e=>eb b o hb e) f0 f1 f3 f4 f5⟩
 self:=λ_ _ _ _ _ st h=>wpAny_pyIter_listiter st h
theorem uM {P:Xz}{w:XT}{K:PySem.W.Frag}{tg:Expr}(it:Addr)(lo:Int)(n:Nat):Turn P w K tg (N6 lo n) [it] it (λi h=>IsRangeIter h it (lo+(i:Nat)*1) ((n:Int)-(i:Nat)) 1) where
 mem:=by simp
 obj:=λi h st b hb=>by
  have e:b=it:=by simpa using hb
  subst e;exact⟨_,st,λv z=>by
   have z':Data.fields _=Data.cell v:=z;cases z'⟩
 keep:=λi h h' st k=>k it (by simp) _ st
 item:=by
  intro X hP hw hK hc i pins s σ H E I hf st hg;subst hP hw hK;obtain⟨f0,f1,f2,f3,f4,f5⟩:=hf it (by simp)
  have W:=Walks.range (prog:=X.prog) (w:=X.w) (I.ok.hd hc) it lo 1 n;refine W.item i s _ _ hg st λv h' tk hv aB kk=>?_;obtain⟨t,rfl⟩:=hv;have I1:Inv X pins σ H {s with heap:=h',toks:=tk}:=I.turned (λb o hb e=>kk b o (by simpa using hb) e) f0 f1 f3 f4 f5
  refine⟨_,rfl,Cf (s:={s with heap:=h',toks:=tk}) (n:="range_iterator") aB rfl rfl (by decide) ⟨.int (lo+i),H,I1,⟨t,?_⟩,⟨rfl,rfl⟩,aB,λb hb=>(hf b hb).1⟩⟩
  rw[Int.mul_one]
 done:=by
  intro X hP hw hK hc i pins s σ H E I hf st hg;subst hP hw hK;obtain⟨f0,f1,f2,f3,f4,f5⟩:=hf it (by simp)
  exact wpAny_pyNext_range_end (I.ok.hd hc) st (by have:n<=i:=hg;lia) λh' eb=>⟨rfl,I.turned (t':=s.toks) (λb o hb e=>eb b o hb e) f0 f1 f3 f4 f5⟩
 self:=λ_ _ _ _ _ st h=>wpAny_pyIter_rangeiter st h
section
variable {X:Cx}{tg:Expr}
def Mn (K:PySem.W.Frag)(tl:TE):TI:=λσ H R=>tl σ H λx H1=>∃a,x=.ref a/\(∃xs,c6 K H1 a xs)/\R (OX K a) H1
theorem wM {l:Expr}{tl:TE}(hl:PE X l tl):PI X tg l (Mn X.K tl):=by
 intro pins s σ H R I h;refine bF (hl pins s σ H _ I h) λv s1 ⟨x,H1,I1,r1,q1⟩=>?_;obtain⟨a,e,⟨xs,hq⟩,q⟩:=q1;subst e;cases r1;obtain⟨its,rv,p,hz⟩:=I1.list hq;refine wpAny_pyIter_list p.isList ?_;refine⟨s1.heap.objs.size,[s1.heap.objs.size],_,_,H1,rfl,I1.kept (t':=s1.toks) λb o e=>XA _ e,xU a _,⟨_,X6 _ rfl,rfl,rfl⟩,λb hb=>?_,q⟩;have e:b=s1.heap.objs.size:=by simpa using hb
 subst e;exact I1.Cm (Xx _) (I1.bt.fresh (Xx _))
theorem rV {pins:List (Addr×Obj)}{σ:St}{H:Hp}{s:Xw}{R:It->Hp->Prop}{E:Xv->Xw->Prop}{lo hi:Int}{t u v:Tok}{tk:Nat}(I:Inv X pins σ H s)(h1:-(2 ^ 62)<=lo)(h2:lo<2 ^ 62)(h3:-(2 ^ 62)<=hi)(h4:hi<2 ^ 62)
  (q:R (N6 lo (hi-lo).toNat) H):X4 (model X.prog X.w) X.A (pyIter (.ref s.heap.objs.size)) (KQ X pins σ tg R) E {s with heap:=s.heap.push {cls:=.type "range",data:=.fields #[.int lo t,.int hi u,.int 1 v]},toks:=tk}:=by
 refine wpAny_pyIter_range (IsRange.new ..) (small_one h1 h2 h3 h4) ?_;have I1:Inv X pins σ H {s with heap:=s.heap.push {cls:=.type "range",data:=.fields #[.int lo t,.int hi u,.int 1 v]},toks:=tk}:=I.kept λb o e=>XA _ e
 refine⟨(s.heap.push {cls:=.type "range",data:=.fields #[.int lo t,.int hi u,.int 1 v]}).objs.size,[(s.heap.push {cls:=.type "range",data:=.fields #[.int lo t,.int hi u,.int 1 v]}).objs.size],_,_,H,rfl,
  I1.kept (t':=tk) λb o e=>XA _ e,uM _ lo (hi-lo).toNat,?_,λb hb=>?_,q⟩
 ·have e1:lo+((0:Nat):Int)*1=lo:=by simp
  have e2:(((hi-lo).toNat:Nat):Int)-((0:Nat):Int)=aai lo hi 1:=by rw[rangeSize_one];split <;> lia
  show IsRangeIter _ _ (lo+((0:Nat):Int)*1) ((((hi-lo).toNat:Nat):Int)-((0:Nat):Int)) 1;rw[e1,e2];exact X6 _ rfl
 ·have e:b=(s.heap.push {cls:=.type "range",data:=.fields #[.int lo t,.int hi u,.int 1 v]}).objs.size:=by simpa using hb
  subst e;exact I1.Cm (Xx _) (I1.bt.fresh (Xx _))
def Mm (ta:TA):TI:=λσ H R=>ta σ H λvs H1=>∃j:Int,vs=[.int j]/\-(2 ^ 62)<=j/\j<2 ^ 62/\R (N6 0 j.toNat) H1
def Ml (ta:TA):TI:=λσ H R=>ta σ H λvs H1=>∃i j:Int,vs=[.int i,.int j]/\(-(2 ^ 62)<=i/\i<2 ^ 62/\-(2 ^ 62)<=j/\j<2 ^ 62)/\R (N6 i (j-i).toNat) H1
theorem yv {a:Expr} {ta:TA} {p pos:Pos} (hg:Gl X "range") (hm:X.mg "range" = none) (ha:PA X [a] ta) (hs:XZ [a] X.env=[(false,eval a X.env)]:=by rfl):PI X tg (.Call (.Name "range" p) [a] [] pos) (Mm ta):=by
 intro pins s σ H R I h;refine Call_ (iu I hg hm boot_range (Zr (bF (ha pos pins s σ H _ I h) λus s1 ⟨vs,H1,I1,r1,q1⟩=>?_) hs rfl));obtain⟨j,e,q1,q2,q⟩:=q1;subst e;cases r1 with
 |cons r rr =>
  cases rr;obtain⟨t,rfl⟩:=r;exact call_range_1 (rV I1 (by lia) (by lia) q1 q2 (by simpa using q))
theorem oK {a b:Expr} {ta:TA} {p pos:Pos} (hg:Gl X "range") (hm:X.mg "range" = none) (ha:PA X [a,b] ta) (hs:XZ [a,b] X.env=[(false,eval a X.env),(false,eval b X.env)]:=by rfl) (uv:XZ [b] X.env=[(false,eval b X.env)]:=by rfl) :
  PI X tg (.Call (.Name "range" p) [a,b] [] pos) (Ml ta):=by
 intro pins s σ H R I h;refine Call_ (iu I hg hm boot_range (Zr (bF (ha pos pins s σ H _ I h) λus s1 ⟨vs,H1,I1,r1,q1⟩=>?_) (by rw[hs,uv]) (by rw[uv];rfl)))
 obtain⟨i,j,e,⟨q1,q2,q3,q4⟩,q⟩:=q1;subst e;cases r1 with
 |cons r rr =>
  cases rr with
  |cons r' rr =>
   cases rr;obtain⟨t,rfl⟩:=r;obtain⟨t',rfl⟩:=r';exact call_range_2 (rV I1 q1 q2 q3 q4 q)
def Pc (wi:TI)(g:TG)(tb:TS):TS:=λD σ H=>wi σ H λJ H1=>∃W:Nat->Nat->St->Hp->Prop,(∃m,W 0 m σ H1)/\∀i m σ H,W i m σ H ->
 (J.stop i H/\D.nx σ H)\/(J.go i H/\∃N:St->Hp->Prop,(∀σ' H',N σ' H'->∃m',m'<m/\W (i+1) m' σ' H')/\∀x H',J.KR i H x H'->g x σ H' λσ2 H2=>tb {D with nx:=N,ct:=N,bk:=D.nx} σ2 H2)
def l8 (fp:List Addr)(h:Heap):List (Addr×Obj):=fp.filterMap λb=>(h.get? b).map λo=>(b,o)
theorem fz {fp:List Addr}{h:Heap}{b:Addr}{o:Obj}(hb:b∈fp)(e:h.get? b=some o):(b,o)∈l8 fp h:=aaG.mpr ⟨b,hb,by rw[e];rfl⟩
theorem yz {fp:List Addr}{h:Heap}{p:Addr×Obj}(hp:p∈l8 fp h):p.1∈fp/\h.get? p.1=some p.2:=by
 obtain⟨b,hb,e⟩:=aaG.mp hp;cases q:h.get? b with
 |none=>rw[q]at e;cases e
 |some o =>
  rw[q]at e;have e':(b,o)=p:=Yg e;subst e';exact⟨hb,q⟩
theorem Inv.pinned {pins:List (Addr×Obj)}{σ:St}{H:Hp}{s:Xw}{fp:List Addr}(I:Inv X pins σ H s)(hf:∀b∈fp,gw X pins H b)(ho:∀b∈fp,∃o,s.heap.get? b=some o/\∀v,o.data≠.cell v):Inv X (pins++l8 fp s.heap) σ H s :=
 I.wK λp hp=>(XW.mp hp).elim (λz=>I.pin p (Yk _ z)) λz=>by
  obtain⟨hb,e⟩:=yz z;obtain⟨f0,f1,f2,_⟩:=hf p.1 hb;obtain⟨o,e',d⟩:=ho p.1 hb;rw[e]at e';cases e';exact⟨e,f0,f1,f2,d⟩
theorem Inv.iQ {pins pl:List (Addr×Obj)}{σ:St}{H:Hp}{s:Xw}(I:Inv X (pins++pl) σ H s):Inv X pins σ H s:=I.wK λp hp=>I.pin p (Yk _ (YU _ hp))
theorem AW {iter:Expr}{body:List Stmt}{wi:TI}{g:TG}{tb:TS}{pos:Pos}(hp:PassesOwn (model X.prog X.w) X.A X.env X.xe)(hc:X.calm=true)(hi:PI X tg iter wi)(hg:PG X tg g)(hb:rg X body tb)
  (hs:∀x,Yy iter X.env x=pure x:=by intro _;rfl):PS X (.For tg iter body [] pos) (Pc wi g tb):=by
 intro pins s σ H D I h;refine wpAny_For (bF (hi pins s σ H _ I h) λv s1 h1=>bF h1 λGv s2 h2=>?_) hs;obtain⟨it,fp,tn,J,H2,e,I2,T,fH,f2,W,⟨m0,w0⟩,turn⟩:=h2;subst e;have uP:∀{H':Hp},(∀b∈fp,H' b=none)->∀b∈fp,gw X pins H' b:=λhn b hb=>⟨hn b hb,(f2 b hb).2⟩;refine codeAny_forLoop_any (λn s'=>∃i σ' H',Inv X pins σ' H' s'/\tn i s'.heap/\(∀b∈fp,H' b=none)/\W i n σ' H') ?_ m0 ⟨0,σ,H2,I2,fH,λb hb=>(f2 b hb).1,w0⟩;rintro n s3 ⟨i,σ3,H3,I3,lP,Nw,w3⟩;rcases turn i n σ3 H3 w3 with⟨stop,qn⟩|⟨go,N,hN,step⟩
 ·refine ZP hp (bF (T.done X rfl rfl rfl hc i pins s3 σ3 H3 X.xe I3 (uP Nw) lP stop) λr s4 ⟨hr,I4⟩=>?_);subst hr;exact wpAny_execs_nil ⟨σ3,H3,I4,qn⟩
 ·refine ZP hp (bF (T.item X rfl rfl rfl hc i pins s3 σ3 H3 X.xe I3 (uP Nw) lP go) λr s4 ⟨u,hr,h4⟩=>?_);subst hr;refine ZP hp (bF h4 λ_ s5 ⟨x,H5,I5,r5,y5,Dg,RY⟩=>?_);have Sz:=I5.pinned (uP RY) (T.obj _ _ Dg);refine ZP hp (bF (hg _ s5 σ3 H5 x u _ Sz r5 (step x H5 y5)) λ_ s6 ⟨σ6,H6,I6,q6⟩=>?_);refine ZP hp (bF (hb _ s6 σ6 H6 _ I6 q6) λf s7 q7=>?_);have again:∀{σ7:St} {H7:Hp},Inv X (pins++l8 fp s5.heap) σ7 H7 s7->N σ7 H7->∃m,m<n/\∃i σ' H',Inv X pins σ' H' s7/\tn i s7.heap/\(∀b∈fp,H' b=none)/\W i m σ' H':=λ{σ7 H7} I7 n7=>by
   obtain⟨m',hm,w7⟩:=hN σ7 H7 n7;refine⟨m',hm,i+1,σ7,H7,I7.iQ,T.keep _ _ _ Dg λb hb o e=>(I7.pin (b,o) (Yk _ (Yk _ (fz hb e)))).1,λb hb=>?_,w7⟩;obtain⟨o,e,d⟩:=T.obj _ _ Dg b hb;exact(I7.pin (b,o) (Yk _ (Yk _ (fz hb e)))).2.1
  cases f with
  |next=>obtain⟨σ7,H7,I7,n7⟩:=q7;exact again I7 n7
  |cont=>obtain⟨σ7,H7,I7,n7⟩:=q7;exact again I7 n7
  |brk=>obtain⟨σ7,H7,I7,q7⟩:=q7;exact⟨σ7,H7,I7.iQ,q7⟩
  |ret v=>obtain⟨x7,σ7,H7,I7,r7,q7⟩:=q7;exact⟨x7,σ7,H7,I7.iQ,r7,q7⟩
end
abbrev R2:=V->V->Hp->VK->Prop
def iH (X:Cx)(f:Xv->Xv->Sem Xv)(r:R2):Prop :=
 ∀(pins:List (Addr×Obj)) (s:Xw) (σ:St) (H:Hp) (x y:V) (v u:Xv) (Q:VK),Inv X pins σ H s->RelV x v->RelV y u->r x y H Q ->
  X4 (model X.prog X.w) X.A (f v u) (EP X pins σ Q) X.xe s
def NX (X:Cx)(f:Xv->Sem Xv)(r:V->Hp->VK->Prop):Prop :=
 ∀(pins:List (Addr×Obj)) (s:Xw) (σ:St) (H:Hp) (x:V) (v:Xv) (Q:VK),Inv X pins σ H s->RelV x v->r x H Q ->
  X4 (model X.prog X.w) X.A (f v) (EP X pins σ Q) X.xe s
def fh (X:Cx)(f:Xv)(r:List V->Hp->VK->Prop):Prop :=
 ∀(pins:List (Addr×Obj)) (s:Xw) (σ:St) (H:Hp) (xs:List V) (us:List Xv) (Q:VK),Inv X pins σ H s->Vals xs us->r xs H Q ->
  X4 (model X.prog X.w) X.A (call f us) (EP X pins σ Q) X.xe s
def So (X:Cx)(r:V->Hp->(Bool->Hp->Prop)->Prop):Prop :=
 ∀(pins:List (Addr×Obj)) (s:Xw) (σ:St) (H:Hp) (x:V) (v:Xv) (Q:Bool->Hp->Prop),Inv X pins σ H s->RelV x v->r x H Q ->
  X4 (model X.prog X.w) X.A (truthy v) (TP X pins σ Q) X.xe s
def K2 (r:R2)(ta tb:TE):TE:=λσ H Q=>ta σ H λx H1=>tb σ H1 λy H2=>r x y H2 Q
def UK (r:V->Hp->VK->Prop)(ta:TE):TE:=λσ H Q=>ta σ H λx H1=>r x H1 Q
def rI (C:Int->Int->Prop)(g:Int->Int->V):R2:=λx y H Q=>∃i j,x=.int i/\y=.int j/\C i j/\Q (g i j) H
def Dj (g:Int->Int->V):R2:=λx y H Q=>∃i j,x=.int i/\y=.int j/\Q (g i j) H
def rU (g:Int->V):V->Hp->VK->Prop:=λx H Q=>∃i,x=.int i/\Q (g i) H
section
variable {X:Cx}{a b:Expr}{ta tb:TE}{pos:Pos}
theorem Kb (ha:PE X a ta)(hb:PE X b tb){pins:List (Addr×Obj)}{s:Xw}{σ:St}{H:Hp}{R:V->V->Hp->Prop}(I:Inv X pins σ H s)
  (h:ta σ H λx H1=>tb σ H1 λy H2=>R x y H2) {Q:Xv->Xw->Prop} {f:Xv->Xv->Sem Xv}
  (hf:∀v u s2 x y H2,Inv X pins σ H2 s2->RelV x v->RelV y u->R x y H2->X4 (model X.prog X.w) X.A (f v u) Q X.xe s2) :
  X4 (model X.prog X.w) X.A (eval a X.env) (λv s₁=>X4 (model X.prog X.w) X.A (eval b X.env) (λu s₂=>X4 (model X.prog X.w) X.A (f v u) Q X.xe s₂) X.xe s₁) X.xe s:=by
 refine bF (ha pins s σ H _ I h) λv s1 ⟨x,H1,I1,r1,q1⟩=>?_;refine bF (hb pins s1 σ H1 _ I1 q1) λu s2 ⟨y,H2,I2,r2,q2⟩=>?_;exact hf v u s2 x y H2 I2 r1 r2 q2
theorem c8 {op:Operator}{r:R2}(ho:iH X (ZE op) r)(ha:PE X a ta)(hb:PE X b tb):PE X (.BinOp a op b pos) (K2 r ta tb):=by
 intro pins s σ H Q I h;exact wpAny_BinOp (Kb ha hb I h λv u s2 x y H2 I2 rx ry q=>ho pins s2 σ H2 x y v u Q I2 rx ry q)
theorem Ga {op:UnaryOp}{r:V->Hp->VK->Prop}(ho:NX X (unaryOp op) r)(ha:PE X a ta):PE X (.UnaryOp op a pos) (UK r ta):=by
 intro pins s σ H Q I h;exact UnaryOp_ (bF (ha pins s σ H _ I h) λv s1 QN=>by obtain⟨x,H1,I1,r1,q1⟩:=QN;exact ho pins s1 σ H1 x v Q I1 r1 q1)
theorem Om {f:Xv->Xv->Sem Xv}{C:Int->Int->Prop}{g:Int->Int->Int}
  (rule:∀(i j:Int) (t u:Tok) (s:Xw) (Q:Xv->Xw->Prop) (E:Xv->Xw->Prop),C i j->Q (.int (g i j) s.toks) {s with toks:=s.toks+1}->X4 (model X.prog X.w) X.A (f (.int i t) (.int j u)) Q E s) :
  iH X f (rI C λi j=>.int (g i j)):=by
 intro pins s σ H x y v u Q I rx ry h;obtain⟨i,j,rfl,rfl,hc,q⟩:=h;obtain⟨t,rfl⟩:=rx;obtain⟨t',rfl⟩:=ry;exact rule i j t t' s _ _ hc ⟨.int (g i j),H,I.tok _,⟨_,rfl⟩,q⟩
theorem LI {f:Xv->Xv->Sem Xv}{g:Int->Int->Int}
  (rule:∀(i j:Int) (t u:Tok) (s:Xw) (Q:Xv->Xw->Prop) (E:Xv->Xw->Prop),Q (.int (g i j) s.toks) {s with toks:=s.toks+1}->X4 (model X.prog X.w) X.A (f (.int i t) (.int j u)) Q E s) :
  iH X f (Dj λi j=>.int (g i j)):=by
 intro pins s σ H x y v u Q I rx ry h;obtain⟨i,j,rfl,rfl,q⟩:=h;obtain⟨t,rfl⟩:=rx;obtain⟨t',rfl⟩:=ry;exact rule i j t t' s _ _ ⟨.int (g i j),H,I.tok _,⟨_,rfl⟩,q⟩
theorem Ey {f:Xv->Xv->Sem Xv}{g:Int->Int->Bool}
  (rule:∀(i j:Int) (t u:Tok) (s:Xw) (Q:Xv->Xw->Prop) (E:Xv->Xw->Prop),Q (.bool (g i j)) s->X4 (model X.prog X.w) X.A (f (.int i t) (.int j u)) Q E s) :
  iH X f (Dj λi j=>.bl (g i j)):=by
 intro pins s σ H x y v u Q I rx ry h;obtain⟨i,j,rfl,rfl,q⟩:=h;obtain⟨t,rfl⟩:=rx;obtain⟨t',rfl⟩:=ry;exact rule i j t t' s _ _ ⟨.bl (g i j),H,I,rfl,q⟩
def Dd (i j:Int):Prop:=0<=j/\j<=1000000/\i.natAbs<2 ^ 64
def qZ (i j:Int):Prop:=(-(2 ^ 64)<i/\i<2 ^ 64)\/(-(2 ^ 64)<j/\j<2 ^ 64)
theorem qZ.ok {i j:Int}(h:qZ i j):IntMulOk i j:=by
 rcases h with⟨h1,h2⟩|⟨h1,h2⟩
 ·exact .of_left (intBits_le_64 h1 h2)
 ·exact .of_right (intBits_le_64 h1 h2)
theorem vd:iH X (ZE .Add) (Dj λi j=>.int (i+j)):=LI λ_ _ _ _ _ _ _ q=>add_int q
theorem Bg:iH X (ZE .Sub) (Dj λi j=>.int (i-j)):=LI λ_ _ _ _ _ _ _ q=>sub_int q
theorem vb:iH X (ZE .Mult) (rI qZ λi j=>.int (i*j)):=Om λ_ _ _ _ _ _ _ hc q=>mul_int q hc.ok
theorem md:iH X (ZE .Mod) (rI (λ_ j=>0<j) λi j=>.int (i % j)):=Om λi j _ _ _ _ _ hc q=>by
 have h1:(0:Int)<j:=hc;exact mod_int' (by lia) (by rw[Int.fmod_eq_emod_of_nonneg i (by lia)];exact q)
theorem qv:iH X (ZE .Pow) (rI Dd λi j=>.int (i ^ j.toNat)):=Om λ_ _ _ _ _ _ _ hc q=>pow_int_small hc.1 hc.2.1 hc.2.2 q
theorem UD {f:Xv->Sem Xv}{g:Int->Int}
  (rule:∀(i:Int) (t:Tok) (s:Xw) (Q:Xv->Xw->Prop) (E:Xv->Xw->Prop),Q (.int (g i) s.toks) {s with toks:=s.toks+1}->X4 (model X.prog X.w) X.A (f (.int i t)) Q E s) :
  NX X f (rU λi=>.int (g i)):=by
 intro pins s σ H x v Q I rx h;obtain⟨i,rfl,q⟩:=h;obtain⟨t,rfl⟩:=rx;exact rule i t s _ _ ⟨.int (g i),H,I.tok _,⟨_,rfl⟩,q⟩
theorem z9:NX X (unaryOp .USub) (rU λi=>.int (-i)):=UD λ_ _ _ _ _ q=>neg_int q
end
def Pq:V->V->Bool
 |.bP,.bP=>true | .bP,.int _=>true | .int _,.bP=>true | .bP,.bl _=>true | .bl _,.bP=>true | .bP,.str _=>true | .str _,.bP=>true
 |.int _,.int _=>true | .bl _,.bl _=>true | .str _,.str _=>true | .CU _,.CU _=>true
 |.int _,.str _=>true | .str _,.int _=>true | .bl _,.str _=>true | .str _,.bl _=>true
 |_,_=>false
def U3:R2:=λx y H Q=>Pq x y=true/\Q (.bl (!decide (x=y))) H
theorem FE {i j:Int}:decide (V.int i=V.int j)=(i==j):=by
 rw[aax];simp
theorem JZ {i j:Bool}:decide (V.bl i=V.bl j)=(i==j):=by
 rw[aax];simp
theorem FC {i j:Str}:decide (V.str i=V.str j)=(i==j):=by
 rw[aax];simp
theorem FF {i j:Array UInt8}:decide (V.CU i=V.CU j)=(i.toList==j.toList):=by
 rw[aax];cases i;cases j;simp
section
variable {X:Cx}{a b c:Expr}{ta tb:TE}{pos:Pos}
theorem bZ {pins:List (Addr×Obj)}{σ:St}{H:Hp}{s:Xw}{Q:VK}{k k':Bool}(I:Inv X pins σ H s)(q:Q (.bl k) H)(e:k=k'):EP X pins σ Q (.bool k') s:=by
 subst e;exact⟨.bl k,H,I,rfl,q⟩
theorem LD:iH X (YK .NotEq) U3:=by
 intro pins s σ H x y v u Q I rx ry h;obtain⟨hs,q⟩:=h;cases x with
 |bP =>
  cases rx;cases y with
  |bP=>cases ry;exact PySem.EqNone.ne_none_none (bZ I q (by simp))
  |bl j=>cases ry;exact PySem.EqNone.ne_none_bool (bZ I q (by simp))
  |int j=>obtain⟨t',rfl⟩:=ry;exact PySem.EqNone.ne_none_int (bZ I q (by simp))
  |str j=>obtain⟨t',rfl⟩:=ry;exact PySem.EqNone.ne_none_str (bZ I q (by simp))
  |_=>exact absurd (show false=true from hs) YO
 |bl i =>
  cases rx;cases y with
  |bP=>cases ry;exact PySem.EqNone.ne_bool_none (bZ I q (by simp))
  |bl j=>cases ry;exact ne_bool (bZ I q (congrArg not JZ))
  |str j=>obtain⟨t',rfl⟩:=ry;exact PySem.EqMixed.ne_bool_str (bZ I q (by simp))
  |_=>exact absurd (show false=true from hs) YO
 |int i =>
  obtain⟨t,rfl⟩:=rx;cases y with
  |bP=>cases ry;exact PySem.EqNone.ne_int_none (bZ I q (by simp))
  |int j=>obtain⟨t',rfl⟩:=ry;exact ne_int (bZ I q (congrArg not FE))
  |str j=>obtain⟨t',rfl⟩:=ry;exact PySem.EqMixed.ne_int_str (bZ I q (by simp))
  |_=>exact absurd (show false=true from hs) YO
 |str i =>
  obtain⟨t,rfl⟩:=rx;cases y with
  |bP=>cases ry;exact PySem.EqNone.ne_str_none (bZ I q (by simp))
  |bl j=>cases ry;exact PySem.EqMixed.ne_str_bool (bZ I q (by simp))
  |int j=>obtain⟨t',rfl⟩:=ry;exact PySem.EqMixed.ne_str_int (bZ I q (by simp))
  |str j=>obtain⟨t',rfl⟩:=ry;exact ne_str (bZ I q (congrArg not FC))
  |_=>exact absurd (show false=true from hs) YO
 |CU i =>
  obtain⟨t,rfl⟩:=rx;cases y with
  |CU j=>obtain⟨t',rfl⟩:=ry;exact PySem.W.ne_bytes (bZ I q (congrArg not FF))
  |_=>exact absurd (show false=true from hs) YO
 |_=>cases y <;> exact absurd (show false=true from hs) YO
theorem LF:iH X (YK .Lt) (Dj λi j=>.bl (decide (i<j))):=Ey λ_ _ _ _ _ _ _ q=>lt_int q
theorem LG:iH X (YK .LtE) (Dj λi j=>.bl (decide (i<=j))):=Ey λ_ _ _ _ _ _ _ q=>le_int q
theorem Gf:iH X (YK .Gt) (Dj λi j=>.bl (decide (j<i))):=Ey λ_ _ _ _ _ _ _ q=>gt_int q
theorem LH:iH X (YK .GtE) (Dj λi j=>.bl (decide (j<=i))):=Ey λ_ _ _ _ _ _ _ q=>ge_int q
theorem Im:iH X (YK .Is) (λx y H Q=>y=.bP/\Q (.bl (decide (x=.bP))) H):=by
 intro pins s σ H x y v u Q I rx ry h;obtain⟨rfl,q⟩:=h;cases ry;refine is_none_gen (bZ I q ?_);cases x <;> first
  | (cases rx;rfl)
  | (obtain⟨t,rfl⟩:=rx;rfl)
theorem Eu:iH X (YK .IsNot) (λx y H Q=>y=.bP/\Q (.bl (!decide (x=.bP))) H):=by
 intro pins s σ H x y v u Q I rx ry h;obtain⟨rfl,q⟩:=h;cases ry;refine isnot_none_gen (bZ I q ?_);cases x <;> first
  | (cases rx;rfl)
  | (obtain⟨t,rfl⟩:=rx;rfl)
theorem Bu (b:Expr){op:aat}(h:op≠.In:=by decide)(h2:op≠.NotIn:=by decide):ZS op b=false:=by
 have e1:(op==CmpOp.In)=false:=by cases op <;> first|rfl|exact absurd rfl h
 have e2:(op==CmpOp.NotIn)=false:=by cases op <;> first|rfl|exact absurd rfl h2
 cases b <;> simp[ZS,e1,e2]
theorem wO {op:aat}{r:R2}(ho:iH X (YK op) r)(ha:PE X a ta)(hb:PE X b tb)(hm:ZS op b=false):PE X (.Compare a [op] [b] pos) (K2 r ta tb):=by
 intro pins s σ H Q I h;exact wpAny_Compare1 (Kb ha hb I h λv u s2 x y H2 I2 rx ry q=>ho pins s2 σ H2 x y v u Q I2 rx ry q) hm
def K0 (t:TE):TT:=λσ H Q=>t σ H λx H'=>∃k,x=.bl k/\Q k H'
theorem wB {op:aat}{r:R2}(ho:iH X (YK op) r)(ha:PE X a ta)(hb:PE X b tb)(hm:ZS op b=false):PT X (.Compare a [op] [b] pos) (K0 (K2 r ta tb)):=by
 intro pins s σ H Q I h;refine wpAny_isTrue_Compare1 (bF (ha pins s σ H _ I h) λv s1 ⟨x,H1,I1,r1,q1⟩=>bF (hb pins s1 σ H1 _ I1 q1) λu s2 ⟨y,H2,I2,r2,q2⟩ =>
  bF (ho pins s2 σ H2 x y v u _ I2 r1 r2 q2) λc s3 ⟨z,H3,I3,r3,k,e,q3⟩=>?_) hm
 subst e;cases r3;exact Y6 ⟨H3,I3,q3⟩
def NY (K:PySem.W.Frag)(x:V)(H:Hp)(k:Bool):Prop :=
 match x with
 |.bP=>k=false
 |.bl b=>k=b
 |.int i=>k=(i != 0)
 |.str y=>y.length<=XO/\k=((y.length:Int) != 0)
 |.CU y=>y.size<=XO/\k=((y.size:Int) != 0)
 |.ref p=>(∃xs,c6 K H p xs/\k=!xs.isEmpty)\/(∃xs,qV K H p xs/\k=!xs.isEmpty)\/∃kvs,H p=some (.dK kvs)/\k=!kvs.isEmpty
 |_=>False
theorem vx {κ:Type}{kvs:List (κ×V)}{vs:List (κ×Xv)}(r:KV kvs vs):(!vs.isEmpty)=!kvs.isEmpty:=by
 cases r <;> rfl
theorem mJ {xs:List V}{its:List Xv}(r:Vals xs its):(!its.toArray.isEmpty)=!xs.isEmpty:=by
 cases r <;> simp
theorem mB:(XO:Nat)<2 ^ 63:=by rw[YA];decide
theorem Hu:So X (λx H Q=>∃k,NY X.K x H k/\Q k H):=by
 intro pins s σ H x v Q I rx h;obtain⟨k,e,q⟩:=h;have hl:=mB;have hs:XO=16777216:=YA;cases x with
 |bP =>
  cases rx;have e':k=false:=e;subst e';exact truthy_none ⟨H,I,q⟩
 |bl b =>
  cases rx;have e':k=b:=e;subst e';exact Y6 ⟨H,I,q⟩
 |int i =>
  obtain⟨t,rfl⟩:=rx;have e':k=(i != 0):=e;subst e';exact PySem.P.truthy_int ⟨H,I,q⟩
 |str y =>
  obtain⟨t,rfl⟩:=rx;obtain⟨hy,e'⟩:y.length<=XO/\k=((y.length:Int) != 0):=e;subst e';exact PySem.P.truthy_str (by lia) ⟨H,I.tok _,q⟩
 |CU y =>
  obtain⟨t,rfl⟩:=rx;obtain⟨hy,e'⟩:y.size<=XO/\k=((y.size:Int) != 0):=e;subst e';exact PySem.W.truthy_bytes (by lia) ⟨H,I.tok _,q⟩
 |ref p =>
  cases rx;have e':(∃xs,c6 X.K H p xs/\k=!xs.isEmpty)\/(∃xs,qV X.K H p xs/\k=!xs.isEmpty)\/∃kvs,H p=some (.dK kvs)/\k=!kvs.isEmpty:=e;rcases e' with⟨xs,hx,e'⟩|⟨xs,hx,e'⟩|⟨kvs,hx,e'⟩
  ·subst e';obtain⟨its,r,pl,hz⟩:=I.list hx;have hlen:=r.length;exact wpAny_truthy_list pl.isList (by simp only[X2];lia) ⟨H,I.tok _,by rw[mJ r];exact q⟩
  ·subst e';obtain⟨its,r,pl,hz⟩:=I.tuple hx;have hlen:=r.length;exact truthy_tuple pl (by simp only[X2];lia) ⟨H,I.tok _,by rw[mJ r];exact q⟩
  ·subst e';obtain⟨hz,hS,vs,r,m⟩:kvs.length<=XO/\(p==aan)=false/\∃vs,KV kvs vs/\s.heap.DictOf (b_ X.prog X.w) p vs:=I.bt p _ hx;have hlen:kvs.length=vs.length:=Paired.length r;exact wpAny_truthy_dict hS m (by lia) ⟨H,I.tok _,by rw[vx r];exact q⟩
 |_=>exact(show False from e).elim
theorem AS (ha:PE X a ta)(he:∀whole,isTrue a X.env whole=(do let v <- whole;aaL a.pos;holding [v] (truthy v))):
  PT X a (λσ H Q=>ta σ H λx H'=>∃k,NY X.K x H' k/\Q k H'):=by
 intro pins s σ H Q I h;exact isTrue_plain (bF (ha pins s σ H _ I h) λv s1 QJ=>by obtain⟨x,H1,I1,r1,q1⟩:=QJ;exact Hu pins s1 σ H1 x v Q I1 r1 q1) (he _)
theorem vals1 {x:V}{us:List Xv}(r:Vals [x] us):∃u,us=[u]/\RelV x u:=by
 cases r with
 |cons r1 r2=>cases r2;exact⟨_,rfl,r1⟩
theorem vals2 {x y:V}{us:List Xv}(r:Vals [x,y] us):∃u w',us=[u,w']/\RelV x u/\RelV y w':=by
 cases r with
 |cons r1 r2 =>
  cases r2 with
  |cons r3 r4=>cases r4;exact⟨_,_,rfl,r1,r3⟩
theorem pQ (hc:X.calm=true):fh X (.builtin "max") (λxs H Q=>∃i j,xs=[.int i,.int j]/\Q (.int (if j>i then j else i)) H):=by
 intro pins s σ H xs us Q I r h;obtain⟨i,j,rfl,q⟩:=h;obtain⟨u,w',rfl,⟨t,rfl⟩,⟨t',rfl⟩⟩:=vals2 r;refine max_two_ints (I.ok.hd hc) λh' tk k=>⟨_,H,I.kept k,?_,q⟩
 by_cases hj:j>i
 ·rw[if_pos hj,if_pos hj];exact⟨_,rfl⟩
 ·rw[if_neg hj,if_neg hj];exact⟨_,rfl⟩
theorem zh (hc:X.calm=true):fh X (.builtin "min") (λxs H Q=>∃i j,xs=[.int i,.int j]/\Q (.int (if j<i then j else i)) H):=by
 intro pins s σ H xs us Q I r h;obtain⟨i,j,rfl,q⟩:=h;obtain⟨u,w',rfl,⟨t,rfl⟩,⟨t',rfl⟩⟩:=vals2 r;refine min_two_ints (I.ok.hd hc) λh' tk k=>⟨_,H,I.kept k,?_,q⟩
 by_cases hj:j<i
 ·rw[if_pos hj,if_pos hj];exact⟨_,rfl⟩
 ·rw[if_neg hj,if_neg hj];exact⟨_,rfl⟩
theorem j7:fh X (.type "int") (λxs H Q=>(∃i,xs=[.int i]/\Q (.int i) H)\/∃k,xs=[.bl k]/\Q (.int (if k then 1 else 0)) H):=by
 intro pins s σ H xs us Q I r h;rcases h with⟨i,rfl,q⟩|⟨k,rfl,q⟩
 ·obtain⟨u,rfl,t,rfl⟩:=vals1 r;exact call_int_int ⟨.int i,H,I,⟨_,rfl⟩,q⟩
 ·obtain⟨u,rfl,r1⟩:=vals1 r;cases r1;exact call_int_bool ⟨.int (if k then 1 else 0),H,I.tok _,⟨_,rfl⟩,q⟩
end
structure Ki (h:Heap)(x dx C:Addr)(mA:Str->Option Xv):Prop where
 obj:h.get? x=some (PySem.W.instObj C dx)
 ns:h.Ns1 dx mA
 ne:dx≠x
theorem yH {h:Heap}{dx:Addr}{mA:Str->Option Xv}(n:h.Ns1 dx mA):∃od,h.get? dx=some od/\∀name,PySem.W.lookIn name od=some (mA name):=by
 obtain⟨o,es,ep,ho,hd,hk,_,hm⟩:=n;refine⟨o,ho,λname=>?_⟩;have e:=hm name;unfold nsFind findBy at e;rw[<- Array.find?_toList]at e;unfold PySem.W.lookIn;rw[hd];dsimp only
 split
 ·rename_i y q
  rw[q]at e;exact congrArg some e
 ·rename_i q
  rw[q]at e;have a:es.toList.any (·.refKey)=false:=by
   rw[List.any_eq_false];intro y hy;obtain⟨z,t,Rm⟩:=hk y (Array.mem_toList_iff.mp hy);simp[DictEntry.refKey,Rm]
  have a':¬ es.toList.any (·.refKey)=true:=by rw[a];exact YO
  rw[if_neg a'];exact congrArg some e
theorem Ki.look {h:Heap}{x dx C:Addr}{mA:Str->Option Xv}(I:Ki h x dx C mA):∃od,PySem.W.InstAt h x (PySem.W.instObj C dx) C (some od)/\∀name,PySem.W.lookIn name od=some (mA name) :=
 let ⟨od,ho,hl⟩:=yH I.ns
 ⟨od,⟨I.obj,rfl,rfl,ho⟩,hl⟩
section
end
theorem nv.some_of {v:V}{o:Option Xv}(r:nv (some v) o):∃u,o=some u/\RelV v u:=by
 cases o with
 |none=>exact(show False from r).elim
 |some u=>exact⟨u,rfl,r⟩
section
variable {P:Xz}{w:XT}{H:Hp}{h:Heap}{a C dx:Addr}{fs:List (Str×V)}
theorem dE (bt:iI P w H h)(e:H a=some (.ins C dx fs)):∃mA,Ki h a dx C mA/\(∀f,nv (fs.lookup f) (mA f))/\PySem.Within mA (fs.map (·.1))/\fs.length<=1000/\H dx=some (.own a):=by
 obtain⟨d,z,ne,ob,mA,n,r,q⟩:=(show bb P w H h a (.ins C dx fs) from bt a _ e)
 exact⟨mA,⟨ob,n,ne⟩,r,q,z,d⟩
end
structure SK (K:PySem.W.Frag)(C:Addr):Prop where
 pg:PySem.W.plainGet K C Str.empty=true
 hd:PySem.W.hasDictIn K C=true
 po:PySem.W.plainOver K C=true
 sa:PySem.W.findIn K (.ref C) "__setattr__" = some (some (.builtin "object.__setattr__"))
theorem SK.get {K:PySem.W.Frag}{C:Addr}(c:SK K C)(f:Str):PySem.W.plainGet K C f=true:=c.pg
section
end
section
end
section
variable {X:Cx}{pins:List (Addr×Obj)}{σ:St}{H:Hp}{s:Xw}{A:Yv}{E:Xv->Xw->Prop}{Q:Xv->Xw->Prop}{c:Xv}{b:Bool}
inductive iG (K:PySem.W.Frag) (H:Hp):V->Xv->Prop where
 |bP:iG K H .bP (.type "NoneType")
 |bl (x:Bool):iG K H (.bl x) (.type "bool")
 |int (i:Int):iG K H (.int i) (.type "int")
 |str (x:Str):iG K H (.str x) (.type "str")
 |JQ (x:UInt64):iG K H (.JQ x) (.type "float")
 |lst {a:Addr} {xs:List V} (e:H a=some (.lst xs)):iG K H (.ref a) (.type "list")
 |ux {a:Addr} {o:Obj} {xs:List V} (e:H a=some (.ux o (.lst xs))):iG K H (.ref a) (.type "list")
 |tup {a:Addr} {xs:List V} (e:H a=some (.tup xs)):iG K H (.ref a) (.type "tuple")
 |dK {a:Addr} {kvs:List (Key×V)} (e:H a=some (.dK kvs)):iG K H (.ref a) (.type "dict")
 |dT {a:Addr} {kvs:List (List Key×V)} (e:H a=some (.dT kvs)):iG K H (.ref a) (.type "dict")
 |ins {a C dx:Addr} {fs:List (Str×V)} (e:H a=some (.ins C dx fs)) (cl:SK K C) (ha:PySem.W.findIn K (.ref C) "__class__" = some (some (.builtin "object.__class__")))
   (hn:PySem.W.specialIn K (.builtin "object.__class__") "__get__" = some (some (.builtin "getset_descriptor.__get__"))) (TH:PySem.W.takesIn K (.builtin "object.__class__")=some true)
   (hm:PySem.W.mroIn K C (.type "object")=some true):iG K H (.ref a) (.ref C)
theorem yN {x:V}{u t:Xv}(I:Inv X pins σ H s)(rx:RelV x u)(ty:iG X.K H x t)(e:PySem.W.kitOne X.K t c=some b)(h:∀tk,Q (.bool b) {s with toks:=tk}):
  X4 (model X.prog X.w) A (call (.builtin "isinstance") [u,c]) Q E s:=by
 cases ty with
 |bP=>cases (show u=Value.none from rx);exact PySem.W.kia_one PySem.W.kitx_none I.jT Zw e (λz=>nomatch z) h
 |bl y=>cases (show u=Value.bool y from rx);exact PySem.W.kia_one PySem.W.kitx_bool I.jT Zw e (λz=>nomatch z) h
 |int i=>obtain⟨t,q⟩:=(show ∃t,u=Value.int i t from rx);cases q;exact PySem.W.kia_one PySem.W.kitx_int I.jT Zw e (λz=>nomatch z) h
 |str y=>obtain⟨t,q⟩:=(show ∃t,u=Value.str y t from rx);cases q;exact PySem.W.kia_one PySem.W.kitx_str I.jT Zw e (λz=>nomatch z) h
 |JQ y=>obtain⟨t,q⟩:=(show ∃t,u=Value.float y t from rx);cases q;exact PySem.W.kia_one PySem.W.kitx_float I.jT Zw e (λz=>nomatch z) h
 | @lst a xs ea =>
  cases (show u=Value.ref a from rx)
  obtain⟨_,_,n,_,h1⟩:=(show bb X.prog X.w H s.heap a (.lst xs) from I.bt a _ ea)
  exact PySem.W.kia_one PySem.W.kitx_list I.jT ⟨_,h1,rfl⟩ e (λz=>nomatch z) h
 | @ux a ob xs ea =>
  cases (show u=Value.ref a from rx)
  obtain⟨_,_,_,n,_,h1⟩:=(show bb X.prog X.w H s.heap a (.ux ob (.lst xs)) from I.bt a _ ea)
  exact PySem.W.kia_one PySem.W.kitx_list I.jT ⟨_,h1,rfl⟩ e (λz=>nomatch z) h
 | @tup a xs ea =>
  cases (show u=Value.ref a from rx)
  obtain⟨_,_,_,p⟩:=(show bb X.prog X.w H s.heap a (.tup xs) from I.bt a _ ea)
  obtain⟨o,h1,h2,_⟩:=p;exact PySem.W.kia_one PySem.W.kitx_tuple I.jT ⟨o,h1,h2⟩ e (λz=>nomatch z) h
 | @dK a kvs ea =>
  cases (show u=Value.ref a from rx)
  obtain⟨_,_,vs,_,p⟩:=(show bb X.prog X.w H s.heap a (.dK kvs) from I.bt a _ ea)
  obtain⟨o,es,ep,h1,h2,_⟩:=p;exact PySem.W.kia_one PySem.W.kitx_dict I.jT ⟨o,h1,h2.1⟩ e (λz=>nomatch z) h
 | @dT a kvs ea =>
  cases (show u=Value.ref a from rx)
  obtain⟨_,_,xs,_,o,es,ep,h1,h2,_⟩:=(show bb X.prog X.w H s.heap a (.dT kvs) from I.bt a _ ea)
  exact PySem.W.kia_one PySem.W.kitx_dict I.jT ⟨o,h1,h2.1⟩ e (λz=>nomatch z) h
 | @ins a C dx fs ea cl ha hn TH hm =>
  cases (show u=Value.ref a from rx)
  obtain⟨mA,O,_⟩:=dE I.bt ea;obtain⟨od,J,_⟩:=O.look;exact PySem.W.kia_one (PySem.W.kitx_own (cl.get _) cl.hd ha hn TH hm) I.jT J e (λz=>nomatch z) h
end
structure cT (k:Nat)(A:Yv):Prop where
 hd:A.handled=none
 dp:A.depth+3*k+5<recursionLimit
 un:A.units+16*k+200<ZQ
theorem cT.mono {j k:Nat}{A:Yv}(r:cT k A)(h:j<=k):cT j A:=⟨r.hd,by have:=r.dp;lia,by have:=r.un;lia⟩
theorem cT.deeper {k:Nat}{A:Yv}(r:cT (k+1) A)(env:Env):cT k (A.deeper env) :=
 ⟨r.hd,by have:=r.dp;show A.depth+1+3*k+5<_;lia,by have:=r.un;show A.units+3+16*k+200<_;lia⟩
theorem cT.depth {k:Nat}{A:Yv}(r:cT k A):A.depth<recursionLimit:=by have:=r.dp;lia
theorem cT.units {k:Nat}{A:Yv}(r:cT k A):A.units+64<ZQ:=by have:=r.un;lia
def K4:TA:=λ_ H Q=>Q [] H
def F7 (ta:TE)(tr:TA):TA:=λσ H Q=>ta σ H λx H1=>tr σ H1 λxs H2=>Q (x::xs) H2
section
variable {X:Cx}{e:Expr}{es:List Expr}{te:TE}{t:TA}{pos:Pos}
theorem dk:PA X [] K4:=λ_ _ _ _ H Q I h=>Calls.spliced_nil ⟨[],H,I,.nil,h⟩
theorem bo (ha:PE X e te)(hr:PA X es t)(hs:XZ (e::es) X.env=(false,eval e X.env)::XZ es X.env:=by rfl):PA X (e::es) (F7 te t):=by
 intro pos pins s σ H Q I h;rw[hs];show X4 _ _ (spliced ((false,eval e X.env)::ZT pos (XZ es X.env))) _ _ s;refine Calls.spliced_cons (bF (ha pins s σ H _ I h) λu s1 ⟨x,H1,I1,r1,q1⟩=>?_);exact bF (hr pos pins s1 σ H1 _ I1 q1) λus s2 ⟨xs,H2,I2,r2,q2⟩=>⟨x::xs,H2,I2,.cons r1 r2,q2⟩
def O6 (t:TA):TE:=λσ H Q=>t σ H λxs H1=>xs.length<=XO/\∀p,H1 p=none->Q (.ref p) (upd H1 p (.tup xs))
def Pa (t:TA):TE:=λσ H Q=>t σ H λxs H1=>xs.length<=XO/\∀p,H1 p=none->Q (.ref p) (upd H1 p (.lst xs))
theorem Bb {x1}(h:PA X es t):PE X (.Tuple es x1 pos) (O6 t):=by
 intro pins s σ H Q I hq;refine wpAny_Tuple_spliced (bF (h pos pins s σ H _ I hq) λus s1 ⟨xs,H1,I1,r,z,q⟩=>⟨by rw[<- r.length];exact z,?_⟩)
 have hf:H1 s1.heap.objs.size=none:=I1.bt.fresh (Xx _);refine⟨.ref s1.heap.objs.size,upd H1 s1.heap.objs.size (.tup xs),I1.laid (t':=s1.toks) (λb u e=>XA _ e) (Xx _) ?_,rfl,q _ hf⟩;exact⟨z,us,r,⟨_,X6 _ rfl,rfl,_,rfl⟩⟩
theorem va (h:PA X es t):PE X (.List es pos) (Pa t):=by
 intro pins s σ H Q I hq;refine wpAny_List_spliced (bF (h pos pins s σ H _ I hq) λus s1 ⟨xs,H1,I1,r,z,q⟩=>⟨by rw[<- r.length];exact z,?_⟩)
 have hf:H1 s1.heap.objs.size=none:=I1.bt.fresh (Xx _);refine⟨.ref s1.heap.objs.size,upd H1 s1.heap.objs.size (.lst xs),I1.laid (t':=s1.toks) (λb u e=>XA _ e) (Xx _) ?_,rfl,q _ hf⟩;exact⟨z,us,0,r,X6 _ rfl⟩
end
abbrev Sp:=List V->Hp->VK->XK->Prop
abbrev Dc:=List Env->Hp->Xw->XK->Xv->Xw->Prop
structure F4 (P:Xz)(w:XT)(K:PySem.W.Frag)(mg:Str->Option Xv)(base:Heap)(A:Yv)(outer:List Env)(s:Xw)(H:Hp):Prop where
 frames:A.frames=some outer
 mod:Mod K mg base
 bs:∀b o,base.get? b=some o->s.heap.get? b=some o/\H b=none
 G1:base.objs.size<=s.heap.objs.size
 mO:s.heap.FunFrames base outer
 Ky:∀b∈Ck outer,H b=none
 bt:iI P w H s.heap
 bare:AllBare s.gens
def CE (outer:List Env)(P:Xz)(w:XT)(H:Hp)(s:Xw)(Q:VK)(u:Xv)(s':Xw):Prop :=
 ∃v H',s'.os=s.os/\AllBare s'.gens/\Un (Ck outer) [] H H' s.heap s'.heap/\iI P w H' s'.heap/\RelV v u/\Q v H'
def CR (CX:Dc)(outer:List Env)(P:Xz)(w:XT)(H:Hp)(s:Xw)(Q:VK)(E:XK)(r:Result)(s':Xw):Prop :=
 match r with
 |.ok (.ret u)=>CE outer P w H s Q u s'
 |.ok _=>False
 |.error e=>CX outer H s E e s'
structure aN (P:Xz)(w:XT)(K:PySem.W.Frag)(mg:Str->Option Xv)(base:Heap)(CX:Dc)(k:Nat)(f:Addr)(fd:Yr)(ps:List Str)(sp:Sp):Prop where
 len:∀vs H Q E,sp vs H Q E->vs.length=ps.length
 run:∀(A:Yv) (outer:List Env) (s:Xw) (H:Hp) (args:Args) (us:List Xv) (vs:List V) (Q:VK) (E:XK),cT k A->F4 P w K mg base A outer s H->BindsTo s fd args (ps.zip us)->Vals vs us->sp vs H Q E ->
  aaM (model P w) A (.call (.ref f) args) (CR CX outer P w H s Q E) s
theorem aN.imp {P:Xz}{w:XT}{K:PySem.W.Frag}{mg:Str->Option Xv}{base:Heap}{CX:Dc}{k:Nat}{f:Addr}{fd:Yr}{ps:List Str}{sp SY:Sp}(F:aN P w K mg base CX k f fd ps sp)
  (h:∀vs H Q E,SY vs H Q E->sp vs H Q E):aN P w K mg base CX k f fd ps SY :=
 ⟨λvs H Q E q=>F.len vs H Q E (h _ _ _ _ q),λA outer s H args us vs Q E hr he hb hv hs=>F.run A outer s H args us vs Q E hr he hb hv (h _ _ _ _ hs)⟩
section
variable {X:Cx}{pins:List (Addr×Obj)}{σ:St}{H:Hp}{s s':Xw}
theorem Inv.R9 (I:Inv X pins σ H s):F4 X.prog X.w X.K X.mg X.base X.A X.stack s H :=
 ⟨I.ok.frames,I.ok.mod,I.bs,Ym I.ok.G1 I.sz,I.stack,I.wm,I.bt,I.bare⟩
theorem Inv.after {Q:VK}{u:Xv}(I:Inv X pins σ H s)(h:CE X.stack X.prog X.w H s Q u s'):EP X pins σ Q u s':=by
 obtain⟨v,H',os,bare,un,bt,r,q⟩:=h;obtain⟨hh,g,d,t,P6⟩:=s';obtain rfl:P6=s.os:=os;exact⟨v,H',I.call (h':=hh) (g':=g) (d':=d) (t':=t) (ch:=[]) un bt bare (λb z=>absurd z (by simp)),r,q⟩
end
def K8 (sp:Sp)(GW:List V)(E:XK)(t:TA):TE:=λσ H Q=>t σ H λvs H1=>sp (vs++GW) H1 Q E
def Binds (K:PySem.W.Frag)(fd:Yr)(ps:List Str)(ds:List Xv):Prop :=
 ∀(s:Xw) (us:List Xv),K.In s.heap->(us++ds).length=ps.length->BindsTo s fd ⟨us,[]⟩ (ps.zip (us++ds))
theorem Binds.all {K:PySem.W.Frag}{fd:Yr}{ps:List Str}(h:∀us:List Xv,us.length=ps.length->bindArgs fd ⟨us,[]⟩=pure (ps.zip us)):Binds K fd ps []:=λs us _ hl=>by
 rw[YX]at hl ⊢
 exact .of_eq (h us hl)
def Passes (CX:Dc)(X:Cx)(E:XK):Prop:=∀(pins:List (Addr×Obj)) (σ:St) (H:Hp) (s:Xw) (e:Xv) (s':Xw),Inv X pins σ H s->CX X.stack H s E e s'->X.xe e s'
section
variable {X:Cx}{CX:Dc}{k:Nat}{f:Addr}{fd:Yr}{ps:List Str}{sp:Sp}{GW:List V}{ds:List Xv}{E:XK}{x:Str}{p pos:Pos}{e:Expr}{es:List Expr}{t:TA}
theorem HP {pins:List (Addr×Obj)}{σ:St}{H:Hp}{s:Xw}{Q:VK}{us:List Xv}{vs:List V}(F:aN X.prog X.w X.K X.mg X.base CX k f fd ps sp)(hr:cT k X.A)(hb:Binds X.K fd ps ds)(hd:Vals GW ds)(hx:Passes CX X E)
  (I:Inv X pins σ H s) (r:Vals vs us) (h:sp (vs++GW) H Q E):X4 (model X.prog X.w) X.A (call (.ref f) us) (EP X pins σ Q) X.xe s:=by
 have r2:Vals (vs++GW) (us++ds):=r.append hd;have hl:(us++ds).length=ps.length:=by rw[<- r2.length];exact F.len _ _ _ _ h
 refine wpAny_call (aal (F.run X.A X.stack s H ⟨us,[]⟩ (us++ds) (vs++GW) Q E hr I.R9 (hb s us I.jT hl) r2 h) λr s' hq=>?_);cases r with
 |error e=>exact hx pins σ H s e s' I hq
 |ok fl =>
  cases fl with
  |ret u=>exact I.after hq
  |next=>exact Z2 hq
  |brk=>exact Z2 hq
  |cont=>exact Z2 hq
theorem wQ (F:aN X.prog X.w X.K X.mg X.base CX k f fd ps sp)(hr:cT k X.A)(hg:Gl X x)(hm:X.mg x=some (.ref f))(hk:PySem.W.keepIn X.K (.ref f)=true)(hb:Binds X.K fd ps ds)(hd:Vals GW ds)(hx:Passes CX X E)
  (ha:PA X (e::es) t) (hdb:(x==("__debug__" : Str))=false:=by decide) (he:XZ (e::es) X.env=(false,eval e X.env)::XZ es X.env:=by rfl) (hpl:(ZT pos (XZ es X.env)).any (·.1)=false:=by rfl) :
  PE X (.Call (.Name x p) (e::es) [] pos) (K8 sp GW E t):=by
 intro pins s σ H Q I h;refine wpAny_Call_Name_kw (E1 I hg hm ?_ hdb);refine PySem.W.callWith_K (h₀:=X.base) I.ok.mod.Ql hk (bF (ha pos pins s σ H _ I h) λus s1 ⟨vs,H1,I1,r,q⟩=>⟨I1.jT,?_⟩) he hpl;exact HP F hr hb hd hx I1 r q
end
section
end
structure aL (N P:List Str)(sc:aaa):Prop where
 kind:sc.kind=.function
 co:sc.isCoroutine=false
 gen:sc.isGenerator=false
 nd:N.Nodup
 pre:N.take P.length=P
 par:∀x∈P,sc.names.lookup x=some .local\/sc.names.lookup x=some .cell
 Iy:∀y∈sc.names,y.2≠.free
theorem pR {kindOf:Str->Option aas}{x:Str}:∀{binds:List (Str×Xv)} {m:Str->Option Xv},(∀v,(x,v)∉binds)->bindL kindOf binds m x=m x
 |[],_,_=>rfl
 | (n,v)::r,m,h=>by
  unfold bindL;rw[pR λw hw=>h w (XR _ hw)]
  split
  ·have:x≠n:=by rintro rfl;exact h v XN
   simp[this]
  ·rfl
theorem pT {kindOf:Str->Option aas}{x:Str}:∀{binds:List (Str×Xv)} {m:Str->Option Xv},(∀v,(x,v)∉binds)->bindC kindOf binds m x=m x
 |[],_,_=>rfl
 | (n,v)::r,m,h=>by
  unfold bindC;rw[pT λw hw=>h w (XR _ hw)]
  split
  ·rfl
  ·have:x≠n:=by rintro rfl;exact h v XN
   simp[this]
theorem pS {kindOf:Str->Option aas}{x:Str}{v:Xv}:∀{P:List Str} {vs:List Xv} {i:Nat} {m:Str->Option Xv},P.Nodup->P[i]?=some x->vs[i]?=some v->kindOf x=some .local ->
  bindL kindOf (P.zip vs) m x=some v
 |[],_,_,_,_,h,_,_=>by simp at h
 |_::_,[],_,_,_,_,h,_=>by simp at h
 |p::P,w::vs,0,m,nd,h1,h2,hk=>by
  simp at h1 h2;subst h1;subst h2;show bindL kindOf ((p,w)::P.zip vs) m p=_;unfold bindL;rw[pR λv hv=>(X9.mp nd).1 (aau hv).1,if_pos hk];simp
 |p::P,w::vs,i+1,m,nd,h1,h2,hk=>by
  show bindL kindOf ((p,w)::P.zip vs) m x=_;unfold bindL;exact pS (i:=i) (X9.mp nd).2 (by simpa using h1) (by simpa using h2) hk
theorem pU {kindOf:Str->Option aas}{x:Str}{v:Xv}:∀{P:List Str} {vs:List Xv} {i:Nat} {m:Str->Option Xv},P.Nodup->P[i]?=some x->vs[i]?=some v->kindOf x≠some .local ->
  bindC kindOf (P.zip vs) m x=some v
 |[],_,_,_,_,h,_,_=>by simp at h
 |_::_,[],_,_,_,_,h,_=>by simp at h
 |p::P,w::vs,0,m,nd,h1,h2,hk=>by
  simp at h1 h2;subst h1;subst h2;show bindC kindOf ((p,w)::P.zip vs) m p=_;unfold bindC;rw[pT λv hv=>(X9.mp nd).1 (aau hv).1,if_neg hk];simp
 |p::P,w::vs,i+1,m,nd,h1,h2,hk=>by
  show bindC kindOf ((p,w)::P.zip vs) m x=_;unfold bindC;exact pU (i:=i) (X9.mp nd).2 (by simpa using h1) (by simpa using h2) hk
def start (N:List Str)(vs:List V):St:=vs.map some++Yl (N.length-vs.length) none
def n_ (CX:Dc)(P:Xz)(w:XT)(K:PySem.W.Frag)(mg:Str->Option Xv)(base:Heap)(N:List Str)(qual:Str)(scope:aaa)(f:Addr)(cd:Xv)(A:Yv)(outer:List Env)(s:Xw)(H:Hp)(E:XK):Cx where
 prog:=P
 w:=w
 K:=K
 mg:=mg
 base:=base
 A:=A.deeper (envOfC qual scope s.heap.objs.size f cd)
 N:=N
 s₀:=s
 H₀:=H
 env:=envOfC qual scope s.heap.objs.size f cd
 outer:=outer
 stack:=envOfC qual scope s.heap.objs.size f cd::outer
 ex:=[]
 calm:=true
 fn:=λ_=>true
 pn:=[]
 xe:=λe s'=>X4 (model P w) (A.deeper (envOfC qual scope s.heap.objs.size f cd)) (leaving (envOfC qual scope s.heap.objs.size f cd) e) (λ_ Pr=>CX outer H s E e Pr) (λe' Pr=>CX outer H s E e' Pr) s'
theorem t_ {sc:aaa}{n:Nat}{x:Str}(h:sc.names.lookup x=some .cell):∃c,(cellsFrom n sc.names []).lookup x=some c:=by
 have q:=PySem.W.cellsFrom_some sc.names n [] (.inl h);exact Option.isSome_iff_exists.mp q
theorem yP {CX:Dc}{P:Xz}{w:XT}{K:PySem.W.Frag}{mg:Str->Option Xv}{base:Heap}{N ps:List Str}{qual:Str}{scope:aaa}{f:Addr}{cd:Xv}{A:Yv}{outer:List Env}{s s1:Xw}{H:Hp}{E:XK}{us:List Xv}{vs:List V}
  (S:aL N ps scope) (hd:A.handled=none) (e0:F4 P w K mg base A outer s H) (hl:vs.length=ps.length) (r:Vals vs us)
  (x:InCallC s s.heap.objs.size (bindL (envOfC qual scope s.heap.objs.size f cd).kindOf (ps.zip us) λ_=>none) (cellsFrom (s.heap.objs.size+1) scope.names []) (bindC (envOfC qual scope s.heap.objs.size f cd).kindOf (ps.zip us) λ_=>none) s1) :
  Inv (n_ CX P w K mg base N qual scope f cd A outer s H E) [] (start N vs) H s1:=by
 have hpl:ps.length<=N.length:=by have:=congrArg List.length S.pre;rw[X_]at this;lia
 obtain⟨h1,tk,rfl,hk⟩:=x.done;have LQ:∀b:Addr,b∉(n_ CX P w K mg base N qual scope f cd A outer s H E).ex:=λb z=>absurd (show b∈([]:List Addr) from z) (by simp)
 refine⟨⟨e0.mod,S.kind,rfl,rfl,Xx _,λy z c h1 h2=>?_,λy hy=>?_,λy c _ h=>?_,λ_=>hd,Around.frames_deeper e0.frames,.inr ⟨rfl,rfl⟩,λb z=>absurd z (LQ b),e0.bs,e0.G1,λb _ _=>LQ b,λb z=>absurd z (LQ b),e0.mO,e0.Ky⟩,
  rfl,e0.bare,Un.kept hk,⟨_,x.toInCall.ns,λi y v h1 h2 h3=>?_⟩,λy c h=>⟨_,x.cell y c h⟩,e0.bt.fresh (Xx _),λy c h=>?_,λp hp=>absurd (show p∈([]:List (Addr×Obj)) from hp) (by simp),e0.bt.kept hk,?_⟩
 ·exact name_of_addr x.apart (PySem.mem_of_lookup h1) (PySem.mem_of_lookup h2)
 ·have hy:scope.names.lookup y=some .cell\/scope.names.lookup y=some .free:=hy;rcases hy with hy|hy
  ·exact t_ hy
  ·exact absurd rfl (S.Iy _ (PySem.mem_of_lookup hy))
 ·exact Nat.le_of_lt (x.above y c (PySem.mem_of_lookup h))
 ·have hi:i<vs.length:=by
   unfold start at h2
   by_cases hi:i<vs.length
   ·exact hi
   ·rw[YI (by simpa using hi)]at h2
    rw[List.getElem?_replicate]at h2
    split at h2 <;> cases h2
  have ha:vs[i]?=some v:=by
   unfold start at h2;rw[Y4 (by simpa using hi),XM]at h2
   cases e:vs[i]? with
   |none=>rw[e]at h2;cases h2
   |some a=>rw[e]at h2;cases h2;rfl
  obtain⟨u,hu,rv⟩:=r.get ha;have hp:ps[i]?=some y:=by
   rw[<- S.pre,aac (by lia)];exact h1
  have Tj:ps.Nodup:=by rw[<- S.pre];exact S.nd.sublist (List.take_sublist _ _)
  refine⟨u,rv,?_⟩;rcases S.par y (Yq hp)with k|k
  ·exact .inl ⟨k,pS Tj hp hu k⟩
  ·obtain⟨c,e⟩:=t_ (n:=s.heap.objs.size+1) k;refine .inr ⟨.inl k,c,e,?_⟩;have q:=x.cell y c e;rw[pU Tj hp hu (by show scope.names.lookup y≠_;rw[k];decide)]at q
   exact q
 ·exact e0.bt.fresh (Nat.le_of_lt (x.above y c (PySem.mem_of_lookup h)))
 ·unfold start;show _=N.length;rw[Yb,Xu,List.length_replicate];lia
theorem Nz {CX:Dc}{P:Xz}{w:XT}{K:PySem.W.Frag}{mg:Str->Option Xv}{base:Heap}{k:Nat}{f:Addr}{name qual:Str}{params:Arguments}{body:List Stmt}{scope:aaa}{dV kV doc pm cP ct oc:Xv}{an od:Option Addr}
  {Ij:Array (Option Xv)} {N ps:List Str} {sp:Sp} (lk:K.lookup f=some ⟨oc,od,.func (PySem.W.fnOf name qual params body scope dV kV doc pm an cP ct),Ij⟩) (gZ:PySem.W.codeIn K cP qual=true) (S:aL N ps scope)
  (len:∀vs H Q E,sp vs H Q E->vs.length=ps.length)
  (mN:∀(A:Yv) (outer:List Env) (s:Xw) (H:Hp) (vs:List V) (Q:VK) (E:XK),cT k (A.deeper (envOfC qual scope s.heap.objs.size f cP))->sp vs H Q E ->
   ∃t,rg (n_ CX P w K mg base N qual scope f cP A outer s H E) body t/\t {nx:=λ_ H'=>Q .bP H',rt:=Q} (start N vs) H) :
  aN P w K mg base CX (k+1) f (PySem.W.fnOf name qual params body scope dV kV doc pm an cP ct) ps sp:=by
 refine⟨len,λA outer s H args us vs Q E hr e0 hb r mL=>?_⟩;have hl:=len _ _ _ _ mL;have KX:K.In s.heap:=e0.mod.Ql.keeps λb o e=>(e0.bs b o e).1;have lim:s.heap.NoLimit:=e0.mod.nolimit.keeps λb o e=>(e0.bs b o e).1;have Nh:∀y∈ps.zip us,scope.names.lookup y.1=some .local\/(scope.names.lookup y.1=some .cell/\((cellsFrom (s.heap.objs.size+1) scope.names []).lookup y.1).isSome=true):=λQH hy=>by
  obtain⟨n,v⟩:=QH;rcases S.par n (aau hy).1 with q|q
  ·exact .inl q
  ·exact .inr ⟨q,PySem.W.cellsFrom_some _ _ _ (.inl q)⟩
 refine codeAny_call_function hr.depth (KX _ _ lk) rfl S.co S.gen rfl (PySem.W.codeRec_of KX gZ) (hb _ _ _ _ ?_);refine wpAny_newFunctionEnv_cells S.kind Nh λenv he s1 x=>?_;subst he;refine⟨lim.keeps x.toInCall.keep,codeAny_func ?_⟩;obtain⟨t,ht,hq⟩:=mN A outer s H vs Q E (hr.deeper _) mL;have I:Inv (n_ CX P w K mg base N qual scope f cP A outer s H E) [] (start N vs) H s1:=yP S hr.hd e0 hl r x;refine aaD (ht [] s1 (start N vs) H _ I hq) (λfl s' hs=>?_) λe s' hs=>hs;have fin:∀{σ':St} {H':Hp} {v:V} {u:Xv},Inv (n_ CX P w K mg base N qual scope f cP A outer s H E) [] σ' H' s'->RelV v u->Q v H'->CE outer P w H s Q u s' :=
  λ{σ' H' v u} J rv q=>⟨v,H',J.os,J.bare,J.base,J.bt,rv,q⟩
 cases fl with
 |ret u =>
  obtain⟨v,σ',H',J,rv,q⟩:=hs;exact fin J rv q
 |next =>
  obtain⟨σ',H',J,q⟩:=hs;exact fin (v:=V.bP) (u:=Value.none) J rfl q
 |brk =>
  obtain⟨_,_,_,q⟩:=hs;exact Z2 q
 |cont =>
  obtain⟨_,_,_,q⟩:=hs;exact Z2 q
section
variable {X:Cx}{x:Str}{p pos:Pos}{e:Expr}{es:List Expr}{t:TA}{id T:String}{r:List V->Hp->VK->Prop}
def Pd (r:List V->Hp->VK->Prop)(t:TA):TE:=λσ H Q=>t σ H λvs H1=>r vs H1 Q
theorem i3 (hc:fh X (.builtin id) r) (hg:Gl X x) (hm:X.mg x=none) (hv:Yx x=some (.builtin id)) (ha:PA X (e::es) t) (hn:x≠"__name__" := by decide) (hdb:(x==("__debug__" : Str))=false:=by decide)
  (he:XZ (e::es) X.env=(false,eval e X.env)::XZ es X.env:=by rfl) (hpl:(ZT pos (XZ es X.env)).any (·.1)=false:=by rfl):PE X (.Call (.Name x p) (e::es) [] pos) (Pd r t):=by
 intro pins s σ H Q I h;refine wpAny_Call_Name_kw (iu I hg hm hv ?_ hn hdb);exact PyProof.Rows.callWith_builtin1 (bF (ha pos pins s σ H _ I h) λus s1 QG=>by obtain⟨vs,H1,I1,r1,q1⟩:=QG;exact hc pins s1 σ H1 vs us Q I1 r1 q1) he hpl
theorem oN (hc:fh X (.type T) r) (hg:Gl X x) (hm:X.mg x=none) (hv:Yx x=some (.type T)) (ha:PA X (e::es) t) (hn:x≠"__name__" := by decide) (hdb:(x==("__debug__" : Str))=false:=by decide)
  (he:XZ (e::es) X.env=(false,eval e X.env)::XZ es X.env:=by rfl) (hpl:(ZT pos (XZ es X.env)).any (·.1)=false:=by rfl):PE X (.Call (.Name x p) (e::es) [] pos) (Pd r t):=by
 intro pins s σ H Q I h;refine wpAny_Call_Name_kw (iu I hg hm hv ?_ hn hdb);exact Zr (bF (ha pos pins s σ H _ I h) λus s1 QF=>by obtain⟨vs,H1,I1,r1,q1⟩:=QF;exact hc pins s1 σ H1 vs us Q I1 r1 q1) he hpl
end
end L2
namespace HT
open PySem PyProof.Rows
def lexLt:List Int->List Int->Bool
 |[],[]=>false
 |[],_::_=>true
 |_::_,[]=>false
 |x::xs,y::ys=>if x=y then lexLt xs ys else decide (x<y)
theorem fB (x y:Int)(xs ys:List Int):lexLt (x::xs) (y::ys)=if x=y then lexLt xs ys else decide (x<y):=rfl
theorem nK:lexLt [] []=false:=rfl
theorem mD (y:Int)(ys:List Int):lexLt [] (y::ys)=true:=rfl
theorem mE (x:Int)(xs:List Int):lexLt (x::xs) []=false:=rfl
theorem Cz (A:Yv)(s:Xw)(a:Int)(t:Tok)(c:Int)(u:Tok):∃e,SeqAt.EqAt A s (.int a t) (.int c u) e/\(e=true↔a=c) :=
 ⟨(a==c),SeqAt.EqAt.int_int a t c u,by simp⟩
theorem AJ (A:Yv)(s:Xw)(a:Int)(t:Tok)(c:Int)(u:Tok)(prog:Xz)(w:XT)(E:Xv->Xw->Prop)(Q:Xv->Xw->Prop)(h:Q (.bool (decide (a<c))) s):
  X4 (model prog w) A (richCompare .Lt (.int a t) (.int c u)) Q E s :=
 (PyProof.Rows.lt_int h:X4 (model prog w) A (YK .Lt (.int a t) (.int c u)) Q E s)
section
open PySem.SeqAt
open PySem.AutoSeq1 (wpAny_loadPart')
open PySem.MeetsSeq PySem.MeetsSeq2 PySem.MeetsSeq3
theorem nE (l b:Addr)(items aD:Array Xv)(n n2:Nat)(dd Dr:Option Addr)(sl Dh:Array (Option Xv))(ns ms:List Int)(hi:Zb items.toList ns)(hj:Zb aD.toList ms):
  Meets (ZO.«tuple.__lt__» ⟨[.ref l,.ref b],[]⟩)
   (λ_ R s=>s.heap.get? l=some {cls:=.type "tuple",dict:=dd,data:=.seq items n,slots:=sl}/\s.heap.get? b=some {cls:=.type "tuple",dict:=Dr,data:=.seq aD n2,slots:=Dh} /\
    R (.ok (.ret (.bool (lexLt ns ms)))) s) :=
 .of_wp λprog w A R s h=>by
  obtain⟨hp,g,d,tk,os⟩:=s;obtain⟨hl,hb,h⟩:=h;have f2:=AutoSeq1.sub_tuple_tuple;have z1:items.size=ns.length:=by rw[<- hi.length];simp
  have z2:aD.size=ms.length:=by rw[<- hj.length];simp
  wp_walk using Yo hl,Yo hb,aaT _ (λrest b s'=>b.1=none/\s'=⟨hp,g,d,tk,os⟩/\∃(vs ws:List Xv) (oS Kr:List Int),rest=vs.zip ws /\
   Zb vs oS/\Zb ws Kr/\oS.length+aD.size=Kr.length+items.size/\R (.ok (.ret (.bool (lexLt oS Kr)))) ⟨hp,g,d,tk,os⟩) _
  case turn =>
   rintro⟨y,x⟩ rest b s' ⟨nR,rfl,vs,ws,oS,Kr,hz,Qz,Oz,hlen,hR⟩;cases Qz with
   |nil=>rw[aaN]at hz;cases hz
   |cons a t Qy =>
    cases Oz with
    |nil=>rw[List.zip_nil_right]at hz;cases hz
    |cons c u Qw =>
     rw[ZM]at hz;injection hz with VC BW
     injection VC with hy hx
     subst hy hx;rw[fB]at hR;simp only[XJ]at hlen;obtain⟨e,he,Nk⟩:=Cz A.in1 ⟨hp,g,d,tk,os⟩ a t c u;refine Xs (he prog w _ _ ?_);cases e with
     |true =>
      rw[if_pos (Nk.mp rfl)]at hR
      wp_walk
      exact⟨rfl,rfl,_,_,_,_,BW,Qy,Qw,by lia,hR⟩
     |false =>
      rw[if_neg (λq=>absurd (Nk.mpr q) YO)]at hR;have QE:=AJ A.in1 ⟨hp,g,d,tk,os⟩ a t c u prog w
      wp_walk using QE
      exact⟨_,rfl,by simpa using hR⟩
  case fin =>
   rintro⟨b1,b2⟩ s' ⟨nR,rfl,vs,ws,oS,Kr,hz,Qz,Oz,hlen,hR⟩;simp only at nR;subst nR;have hv:lexLt oS Kr=decide (items.size<aD.size):=by
    cases Qz with
    |nil =>
     cases Oz with
     |nil =>
      simp only[aag]at hlen;rw[nK];exact(decide_eq_false (by lia)).symm
     |cons c u hw =>
      simp only[aag,XJ]at hlen;rw[mD];exact(decide_eq_true (by lia)).symm
    |cons a t hv =>
     cases Oz with
     |nil =>
      simp only[aag,XJ]at hlen;rw[mE];exact(decide_eq_false (by lia)).symm
     |cons c u hw =>
      rw[ZM]at hz;cases hz
   rw[hv]at hR
   wp_walk
   exact⟨_,rfl,by simpa[Builtin.Tuple.tupleCompareSizes] using hR⟩
  case h =>
   exact⟨rfl,rfl,items.toList,aD.toList,ns,ms,rfl,hi,hj,by lia,h⟩
end
section
variable {prog:Xz}{w:XT}{A:Yv}{E:Xv->Xw->Prop}{s:Xw}
theorem vj {l b:Addr}{items aD:Array Xv}{ns ms:List Int}{Q:Xv->Xw->Prop}(hl:IsTup s.heap l items)(hb:IsTup s.heap b aD)(hi:Zb items.toList ns)(hj:Zb aD.toList ms)
  (hu:A.units<ZQ) (h:Q (.bool (lexLt ns ms)) s):X4 (model prog w) A (YK .Lt (.ref l) (.ref b)) Q E s:=by
 obtain⟨⟨cls,dd,data,sl⟩,ho,hc,n,hd⟩:=id hl;obtain⟨⟨Sj,Dr,data2,Dh⟩,GC,nP,n2,hd2⟩:=id hb;simp only at hc hd nP hd2;subst hc hd nP hd2;exact richCompare_meets_room (op:=.Lt) ⟨_,ho,rfl⟩ ⟨_,GC,rfl⟩ PySem.F.slot_tuple_lt PySem.F.entry_tuple_lt (PySem.F.args_tuple_lt_2 _ _) (nE l b items aD n n2 dd Dr sl Dh ns ms hi hj)
  ⟨ho,GC,show Value.bool (lexLt ns ms)≠Value.notImplemented/\Q (.bool (lexLt ns ms)) s from ⟨(λx=>nomatch x),h⟩⟩ hu
def lY (n d:Nat):Option Int->Nat
 |none=>d
 |some v=>if v<0 then (v+(n:Int)).toNat else min v.toNat n
theorem AG (n d:Nat):lY n d none=d:=rfl
theorem DY (n d k:Nat):lY n d (some (k:Int))=min k n:=by
 show (if (k:Int)<0 then ((k:Int)+(n:Int)).toNat else min (k:Int).toNat n)=min k n
 rw[if_neg (by lia),ZZ]
end
end HT
namespace L2
open PySem PySem.Spec PyProof.Rows
abbrev TO:=St->Hp->(Option Int->Hp->Prop)->Prop
def PO (X:Cx)(e:Option Expr)(t:TO):Prop :=
 ∀(pins:List (Addr×Obj)) (s:Xw) (σ:St) (H:Hp) (Q:Option Int->Hp->Prop),Inv X pins σ H s->t σ H Q ->
  X4 (model X.prog X.w) X.A (evalPart e X.env) (λu s'=>∃o H',Inv X pins σ H' s'/\IsPart u o/\Q o H') X.xe s
def DI:TO:=λ_ H Q=>Q none H
def K1 (t:TE):TO:=λσ H Q=>t σ H λx H1=>∃i,x=.int i/\Q (some i) H1
theorem intsAre_of {ns:List Int}:∀{us:List Xv},Vals (ns.map V.int) us->Zb us ns:=by
 induction ns with
 |nil=>intro us r;rw[List.map_nil]at r;cases r;exact .nil
 |cons n ns ih =>
  intro us r;rw[X5]at r;cases r with
  |cons r1 r2 =>
   obtain⟨t,e⟩:=r1;subst e;exact .cons n t (ih r2)
section
variable {X:Cx}{e:Expr}{te:TE}{lo hi:Option Expr}{tl th:TO}{pos p2:Pos}
theorem wJ:PO X none DI:=by
 intro pins s σ H Q I h;rw[evalPart_none];exact XB ⟨none,H,I,.none,h⟩
theorem wI (h:PE X e te):PO X (some e) (K1 te):=by
 intro pins s σ H Q I hw;rw[evalPart_some];refine bF (h pins s σ H _ I hw) λu s1 ⟨x,H1,I1,r1,q1⟩=>?_;obtain⟨i,rfl,q⟩:=q1;obtain⟨t,rfl⟩:=r1;exact⟨some i,H1,I1,.int i t,q⟩
def Su (X:Cx)(r:V->Option Int->Option Int->Hp->VK->Prop):Prop :=
 ∀(pins:List (Addr×Obj)) (s:Xw) (σ:St) (H:Hp) (x:V) (v vl vu:Xv) (lo hi:Option Int) (sl:Addr) (Q:VK),Inv X pins σ H s->RelV x v->s.heap.IsSliceOf sl vl vu .none->IsPart vl lo->IsPart vu hi->r x lo hi H Q ->
  ∃T id,typeLookup (.type T) "__getitem__" = pure (some (.builtin id))/\s.TypeIs v T/\X4 (model X.prog X.w) X.A (getItem v (.ref sl)) (EP X pins σ Q) X.xe s
def UL (r:V->Option Int->Option Int->Hp->VK->Prop)(te:TE)(tl th:TO):TE:=λσ H Q=>te σ H λx H1=>tl σ H1 λl H2=>th σ H2 λu H3=>r x l u H3 Q
theorem sd {r:V->Option Int->Option Int->Hp->VK->Prop}(hr:Su X r)(he:PE X e te)(hl:PO X lo tl)(hu:PO X hi th):PE X (.Subscript e (.Slice lo hi none p2) pos) (UL r te tl th):=by
 intro pins s σ H Q I h;refine Subscript_ (bF (he pins s σ H _ I h) λv s1 ⟨x,H1,I1,r1,q1⟩=>?_);refine wpAny_Slice (bF (hl pins s1 σ H1 _ I1 q1) λvl s2 ⟨l,H2,I2,pl,q2⟩=>bF (hu pins s2 σ H2 _ I2 q2) λvu s3 ⟨u,H3,I3,pu,q3⟩=>?_);rw[evalPart_none];refine XB ?_;have I4:Inv X pins σ H3 {s3 with heap:=s3.heap.push {cls:=.type "slice",data:=.fields #[vl,vu,.none]}}:=I3.kept (t':=s3.toks) λb ob q=>XA _ q
 obtain⟨T,id,hT,ht,hg⟩:=hr pins {s3 with heap:=s3.heap.push {cls:=.type "slice",data:=.fields #[vl,vu,.none]}} σ H3 x v vl vu l u s3.heap.objs.size Q I4 r1 (Heap.IsSliceOf.new ..) pl pu q3
 show X4 (model X.prog X.w) X.A (subscriptTail e (.Slice lo hi none p2) v (.ref s3.heap.objs.size)) (EP X pins σ Q) X.xe {s3 with heap:=s3.heap.push {cls:=.type "slice",data:=.fields #[vl,vu,.none]}}
 exact tail_any (ops:=[.ref s3.heap.objs.size,v]) ht hT hg (by with_unfolding_all rfl)
def t9 (xs:List V)(lo hi:Option Int):List V:=(xs.drop (HT.lY xs.length 0 lo)).take (HT.lY xs.length xs.length hi-HT.lY xs.length 0 lo)
theorem t7 (xs:List V)(lo hi:Option Int):(t9 xs lo hi).length<=xs.length:=by
 unfold t9;rw[X_,Z7];lia
end
def xb (n:Nat)(i:Int):Option Nat:=if 0<=i then (if i<n then some i.toNat else none) else if -(n:Int)<=i then some (i+n).toNat else none
def og {α:Type}(xs:List α)(i:Int):Option α:=(xb xs.length i).bind λj=>xs[j]?
theorem xa {n:Nat}{i:Int}{j:Nat}(h:xb n i=some j):seqIndex? i n=some j/\j<n/\-(n:Int)<=i/\i<n:=by
 unfold xb at h
 by_cases h0:0<=i
 ·rw[if_pos h0]at h
  by_cases h1:i<n
  ·rw[if_pos h1]at h;have e:i.toNat=j:=Yg h;exact⟨by rw[seqIndex_of h0 h1,e],by lia,by lia,h1⟩
  ·rw[if_neg h1]at h;cases h
 ·rw[if_neg h0]at h
  by_cases h1:-(n:Int)<=i
  ·rw[if_pos h1]at h;have e:(i+n).toNat=j:=Yg h;exact⟨by rw[seqIndex_neg (by lia) h1,e],by lia,h1,by lia⟩
  ·rw[if_neg h1]at h;cases h
theorem xJ {α:Type}{xs:List α}{i:Int}{v:α}(h:og xs i=some v):∃j,seqIndex? i xs.length=some j/\xs[j]?=some v/\j<xs.length/\-(xs.length:Int)<=i/\i<xs.length:=by
 unfold og at h;cases e:xb xs.length i with
 |none=>rw[e]at h;cases h
 |some j =>
  rw[e]at h;obtain⟨h1,h2,h3,h4⟩:=xa e;exact⟨j,h1,h,h2,h3,h4⟩
def lE (b:Expr):Prop:=∀o i,subscripted b false o i=operate [o,i] (getItem o i)
def G9 (X:Cx)(r:R2):Prop :=
 ∀(value slice:Expr) (pins:List (Addr×Obj)) (s:Xw) (σ:St) (H:Hp) (x y:V) (v u:Xv) (Q:VK),Inv X pins σ H s->RelV x v->RelV y u->r x y H Q ->
  subscripted slice false v u=operate [v,u] (getItem v u)->X4 (model X.prog X.w) X.A (subscriptTail value slice v u) (EP X pins σ Q) X.xe s
def Uq (X:Cx)(id:String)(r:V->List V->Hp->VK->Prop):Prop :=
 ∀(pins:List (Addr×Obj)) (s:Xw) (σ:St) (H:Hp) (x:V) (xs:List V) (v:Xv) (us:List Xv) (Q:VK),Inv X pins σ H s->RelV x v->Vals xs us->r x xs H Q ->
  X4 (model X.prog X.w) X.A (call (.builtin id) (v::us)) (EP X pins σ Q) X.xe s
section
variable {X:Cx}{a b:Expr}{ta tb:TE}{pos:Pos}
theorem kz {r:R2}(hr:G9 X r)(ha:PE X a ta)(hb:PE X b tb)(hs:lE b):PE X (.Subscript a b pos) (K2 r ta tb):=by
 intro pins s σ H Q I h;exact Subscript_ (Kb ha hb I h λv u s2 x y H2 I2 rx ry q=>hr a b pins s2 σ H2 x y v u Q I2 rx ry q (hs _ _))
def Ll (K:PySem.W.Frag):R2:=λx y H Q=>∃p xs i v,x=.ref p/\y=.int i/\c6 K H p xs/\og xs i=some v/\Q v H
def Lk (K:PySem.W.Frag):R2:=λx y H Q=>∃p xs i v,x=.ref p/\y=.int i/\qV K H p xs/\og xs i=some v/\Q v H
theorem eK:G9 X (Ll X.K):=by
 intro value slice pins s σ H x y v u Q I rx ry h hs;obtain⟨p,xs,i,z,rfl,rfl,hq,he,q⟩:=h;cases rx;obtain⟨t,rfl⟩:=ry;obtain⟨its,r,pl,hz⟩:=I.list hq;obtain⟨j,h1,h2,h3,h4,h5⟩:=xJ he;obtain⟨w,ew,Di⟩:=r.get h2;have hl:=r.length;have hn:=mB;have fin:EP X pins σ Q w s:=⟨z,H,I,Di,q⟩
 by_cases h0:0<=i
 ·have hj:i.toNat=j:=by
   rw[seqIndex_of h0 h5]at h1;exact Yg h1
  exact item_listR pl.isList h0 (by lia) (by rw[hj];simpa using ew) fin hs
 ·have hj:(i+(its.toArray.size:Int)).toNat=j:=by
   rw[seqIndex_neg (by lia) h4]at h1
   rw[X2,<- hl];exact Yg h1
  exact subscriptTail_builtinR (x:=w) pl.isList.typeIs slot_list_getitem.lookup
   (wpAny_getItem_list_neg (Q:=λr s'=>r=w/\EP X pins σ Q r s') pl.isList (by lia) (by rw[X2] <;> lia) (by lia) (by rw[hj];simpa using ew) ⟨rfl,fin⟩) hs
theorem BN:G9 X (Lk X.K):=by
 intro value slice pins s σ H x y v u Q I rx ry h hs;obtain⟨p,xs,i,z,rfl,rfl,hq,he,q⟩:=h;cases rx;obtain⟨t,rfl⟩:=ry;obtain⟨its,r,pl,hz⟩:=I.tuple hq;obtain⟨j,h1,h2,h3,h4,h5⟩:=xJ he;obtain⟨w,ew,Di⟩:=r.get h2;have hl:=r.length;have hn:=mB;have fin:EP X pins σ Q w s:=⟨z,H,I,Di,q⟩;exact subscriptTail_builtinR (x:=w) pl.typeIs slot_tuple_getitem.lookup
  (getItem_tuple (j:=j) (Q:=λr s'=>r=w/\EP X pins σ Q r s') pl (by lia) (by lia) (by rw[X2,<- hl];exact h1) (by simpa using ew) ⟨rfl,fin⟩) hs
theorem vh (its:List Xv)(n j:Nat)(u:Xv):Z1 (·.setIfInBounds j u) {cls:=.type "list",data:=.seq its.toArray n}={cls:=.type "list",data:=.seq (its.set j u).toArray n}:=by
 simp[Z1]
theorem Inv.lst {pins:List (Addr×Obj)}{σ:St}{H:Hp}{s:Xw}{p:Addr}{xs:List V}(I:Inv X pins σ H s)(h:H p=some (.lst xs)):
  ∃(its:List Xv) (n:Nat),Vals xs its/\s.heap.get? p=some {cls:=.type "list",data:=.seq its.toArray n}/\xs.length<=XO:=by
 obtain⟨z,its,n,r,e⟩:=I.bt p _ h;exact⟨its,n,r,e,z⟩
theorem Inv.IG {pins:List (Addr×Obj)}{σ:St}{H:Hp}{s:Xw}{p:Addr}{xs ys:List V}{its its':List Xv}{n n':Nat}{f:Obj->Obj}(I:Inv X pins σ H s)(h:H p=some (.lst xs))
  (ho:s.heap.get? p=some {cls:=.type "list",data:=.seq its.toArray n}) (hf:f {cls:=.type "list",data:=.seq its.toArray n}={cls:=.type "list",data:=.seq its'.toArray n'}) (r:Vals ys its') (hz:ys.length<=XO) (t:Nat) :
  Inv X pins σ (upd H p (.lst ys)) {s with heap:=s.heap.update p f,toks:=t}:=by
 have e:(s.heap.update p f).get? p=some {cls:=.type "list",data:=.seq its'.toArray n'}:=by
  rw[Heap.get?_update_self f ho (by rw[hf] <;> rfl),hf]
 refine I.write (x:=p) (e:=p) (by rw[h];trivial) (.inl rfl) (λb u hb q=>(Heap.get?_update_other _ _ (YS hb)).trans q) ⟨_,e⟩ ?_
 exact⟨hz,its',n',r,e⟩
def Lj:V->V->V->Hp->(Hp->Prop)->Prop:=λo i v H Q=>∃p xs k j,o=.ref p/\i=.int k/\H p=some (.lst xs)/\xb xs.length k=some j/\Q (upd H p (.lst (xs.set j v)))
theorem set_list:N2 X Lj:=by
 intro pins s σ H o i v ov iv u Q I ro ri rv h;obtain⟨p,xs,k,j,rfl,rfl,hp,hj,q⟩:=h;cases ro;obtain⟨t,rfl⟩:=ri;obtain⟨its,n,r,ho,hz⟩:=I.lst hp;obtain⟨h1,h2,h3,h4⟩:=xa hj;have hl:=r.length;have hn:=mB;have I':Inv X pins σ (upd H p (.lst (xs.set j v))) {s with heap:=s.heap.update p (Z1 (·.setIfInBounds j u))} :=
  I.IG hp ho (vh its n j u) (r.set rv j) (by rw[List.length_set];exact hz) s.toks
 by_cases h0:0<=k
 ·have hk:k.toNat=j:=by
   rw[seqIndex_of h0 h4]at h1;exact Yg h1
  exact PySem.W.ki_setAt ho h0 (by lia) (by rw[X2,<- hl];exact h4) (by rw[hk];exact⟨_,I',q⟩)
 ·have hk:(k+(its.toArray.size:Int)).toNat=j:=by
   rw[seqIndex_neg (by lia) h3]at h1
   rw[X2,<- hl];exact Yg h1
  exact PySem.W.ki_setBack ho (by lia) (by rw[X2,<- hl];exact h3) (by lia) (by rw[hk];exact⟨_,I',q⟩)
theorem qg (lo hi:Option Int)(n:Nat):(ZJ lo hi none n).1=((HT.lY n 0 lo:Nat):Int)/\(ZJ lo hi none n).2.1=((HT.lY n n hi:Nat):Int)/\(ZJ lo hi none n).2.2=1:=by
 refine⟨?_,?_,rfl⟩
 ·cases lo with
  |none=>simp[ZJ,HT.lY]
  |some i =>
   simp only[ZJ,HT.lY,Option.getD_none,show (1:Int)>0 by decide,if_true]
   by_cases h:i<0
   ·simp only[h,if_true] <;> lia
   ·simp only[h,if_false] <;> lia
 ·cases hi with
  |none=>simp[ZJ,HT.lY]
  |some i =>
   simp only[ZJ,HT.lY,Option.getD_none,show (1:Int)>0 by decide,if_true]
   by_cases h:i<0
   ·simp only[h,if_true] <;> lia
   ·simp only[h,if_false] <;> lia
theorem nG (its:List Xv)(lo hi:Option Int):slicePick its.toArray lo hi none=((its.drop (HT.lY its.length 0 lo)).take (HT.lY its.length its.length hi-HT.lY its.length 0 lo)).toArray:=by
 obtain⟨h1,h2,h3⟩:=qg lo hi its.toArray.size;unfold slicePick;rw[h1,h2,h3];simp only[sliceRange_one,pick_run,X2] <;> rfl
def Px (K:PySem.W.Frag):V->Option Int->Option Int->Hp->VK->Prop:=λx lo hi H Q=>∃a xs,x=.ref a/\c6 K H a xs/\∀p,H p=none->Q (.ref p) (upd H p (.lst (t9 xs lo hi)))
theorem wq:Su X (Px X.K):=by
 intro pins s σ H x v vl vu lo hi sl Q I rx hs pl pu h;obtain⟨a,xs,rfl,hx,q⟩:=h;cases rx;obtain⟨its,r,ht,hz⟩:=I.list hx;have hlen:=r.length;refine⟨"list",_,slot_list_getitem.lookup,ht.isList.typeIs,?_⟩;refine wpAny_getItem_list_slice ht.isList hs pl pu .none (by simp) ?_ (by rw[X2] <;> lia)
 rw[nG,<- hlen];refine⟨.ref s.heap.objs.size,_,I.laid (t':=s.toks) (o:=.lst (t9 xs lo hi)) (λb ob q=>XA _ q) (Xx _) ?_,rfl,q _ (I.bt.fresh (Xx _))⟩;exact⟨Ym (t7 xs lo hi) hz,_,0,(r.drop (HT.lY xs.length 0 lo)).take (HT.lY xs.length xs.length hi-HT.lY xs.length 0 lo),X6 _ rfl⟩
theorem ju:fh X (.builtin "len") (λxs H Q=>∃p ys,xs=[.ref p]/\(c6 X.K H p ys\/qV X.K H p ys)/\Q (.int ys.length) H):=by
 intro pins s σ H xs us Q I r h;obtain⟨p,ys,rfl,hq,q⟩:=h;obtain⟨u,rfl,rx⟩:=vals1 r;cases rx;have hn:=mB;rcases hq with hq|hq
 ·obtain⟨its,r',pl,hz⟩:=I.list hq;have hlen:=r'.length;exact Calls.call_len_list pl.isList (by simp only[X2] <;> lia) ⟨.int ys.length,H,I.tok _,⟨s.toks+1,by rw[X2,hlen]⟩,q⟩
 ·obtain⟨its,r',pl,hz⟩:=I.tuple hq;have hlen:=r'.length;exact len_tuple pl (by simp only[X2] <;> lia) ⟨.int ys.length,H,I.tok _,⟨s.toks+1,by rw[X2,hlen]⟩,q⟩
theorem jt:fh X (.type "list") (λxs H Q=>∃p ys,xs=[.ref p]/\(c6 X.K H p ys\/qV X.K H p ys)/\∀l,H l=none->Q (.ref l) (upd H l (.lst ys))):=by
 intro pins s σ H xs us Q I r h;obtain⟨p,ys,rfl,hq,q⟩:=h;obtain⟨u,rfl,rx⟩:=vals1 r;cases rx;have fin:∀(its:List Xv),Vals ys its->ys.length<=XO->∀(h':Heap) (c':Nat),(∀b o',s.heap.get? b=some o'->h'.get? b=some o') ->
   h'.get? s.heap.objs.size=some {cls:=.type "list",dict:=none,data:=.seq its.toArray c',slots:=#[]}->EP X pins σ Q (.ref s.heap.objs.size) {s with heap:=h'}:=λits r' hz h' c' kp e =>
  ⟨.ref s.heap.objs.size,_,I.laid (t':=s.toks) kp (Xx _) (show bb X.prog X.w _ h' _ (.lst ys) from ⟨hz,its,c',r',e⟩),rfl,q _ (I.bt.fresh (Xx _))⟩
 rcases hq with hq|hq
 ·obtain⟨its,r',pl,hz⟩:=I.list hq;have hlen:=r'.length;obtain⟨o,ho,hc,n,hd⟩:=pl.isList;exact call_list_seq p (.inl rfl) ho hc hd (λh' c' kp e=>fin its r' hz h' c' kp e) (by simp only[X2] <;> lia)
 ·obtain⟨its,r',pl,hz⟩:=I.tuple hq;have hlen:=r'.length;obtain⟨o,ho,hc,n,hd⟩:=pl;exact call_list_seq p (.inr rfl) ho hc hd (λh' c' kp e=>fin its r' hz h' c' kp e) (by simp only[X2] <;> lia)
def Oa (K:PySem.W.Frag)(T:String)(x:V)(H:Hp):Prop:=match x with
 |.str _=>T="str"
 |.int _=>T="int"
 |.ref p=>(T="list" /\ ∃xs,c6 K H p xs)\/(T="tuple" /\ ∃o,K.lookup p=some o/\o.cls=.type "tuple" /\ o.dict=none) \/
   (T="dict" /\ ((∃kvs,H p=some (.dK kvs))\/∃kvs,H p=some (.dT kvs)))\/(T="set" /\ ∃S n,H p=some (.set S n))
 |_=>False
theorem z_ {pins:List (Addr×Obj)}{σ:St}{H:Hp}{s:Xw}{T:String}{x:V}{v:Xv}(I:Inv X pins σ H s)(r:RelV x v)(ty:Oa X.K T x H):
  s.TypeIs v T/\∀a,v=.ref a->∃ob,s.heap.get? a=some ob/\ob.dict=none:=by
 cases x with
 |str z =>
  obtain⟨t,rfl⟩:=r;cases (show T="str" from ty)
  exact⟨typeIs_str s z t,λ_ e=>nomatch e⟩
 |int i =>
  obtain⟨t,rfl⟩:=r;cases (show T="int" from ty)
  exact⟨typeIs_int s i t,λ_ e=>nomatch e⟩
 |ref p =>
  cases r;rcases ty with⟨rfl,xs,hq⟩|⟨rfl,o,hk,hc,hd⟩|⟨rfl,hk⟩|⟨rfl,S,n,hk⟩
  ·obtain⟨its,_,pl,_⟩:=I.list hq;refine⟨pl.isList.typeIs,λa e=>?_⟩;cases e;obtain⟨o,n,e,c,hd,_⟩:=pl;exact⟨o,e,hd⟩
  ·refine⟨⟨o,I.jT p o hk,hc⟩,λa e=>?_⟩;cases e;exact⟨o,I.jT _ o hk,hd⟩
  ·have z:∃o,s.heap.get? p=some o/\o.ExactDict:=by
    rcases hk with⟨kvs,hk⟩|⟨kvs,hk⟩
    ·obtain⟨_,_,_,_,o,_,_,e,ex,_⟩:=I.bt p _ hk;exact⟨o,e,ex⟩
    ·obtain⟨_,_,_,_,o,_,_,e,ex,_⟩:=I.bt p _ hk;exact⟨o,e,ex⟩
   obtain⟨o,e,ex⟩:=z;refine⟨⟨o,e,ex.1⟩,λa e2=>?_⟩;cases e2;exact⟨o,e,ex.2.1⟩
  ·obtain⟨o,_,_,_,e,ex,_⟩:=I.bt p _ hk;refine⟨⟨o,e,ex.1⟩,λa e2=>?_⟩;cases e2;exact⟨o,e,ex.2.1⟩
 |_=>exact Z2 ty
def Pe (K:PySem.W.Frag)(T:String)(r:V->List V->Hp->VK->Prop)(to:TE):TE:=λσ H Q=>to σ H λx H1=>Oa K T x H1/\r x [] H1 Q
def UN (K:PySem.W.Frag)(T:String)(r:V->List V->Hp->VK->Prop)(to:TE)(t:TA):TE:=λσ H Q=>to σ H λx H1=>Oa K T x H1/\t σ H1 λxs H2=>r x xs H2 Q
variable {o e:Expr}{es:List Expr}{to:TE}{t:TA}{name:Str}{apos cpos:Pos}{T id:String}{r:V->List V->Hp->VK->Prop}
theorem Ie (pa:PlainAttrs T) (slot:Slot T name id) (QA:typeOf (.builtin id)=pure (.type "method_descriptor")) (hm:Uq X id r) (ho:PE X o to)
  (gj:aaq o name X.env (eval o X.env)=eval o X.env:=by rfl) (gh:(apos.endLine==cpos.line)=true:=by rfl):PE X (.Call (.Attribute o name apos) [] [] cpos) (Pe X.K T r to):=by
 intro pins s σ H Q I h;refine wpAny_Call_method0_late gj gh (bF (ho pins s σ H _ I h) λv s1 ⟨x,H1,I1,r1,ty,q1⟩=>?_);obtain⟨h1,h2⟩:=z_ I1 r1 ty;exact⟨T,id,pa,slot,QA,h1,h2,Calls.callWith_builtin rfl (PySem.evalArgs_none (hm pins s1 σ H1 x [] v [] Q I1 r1 .nil q1))⟩
theorem Bc (pa:PlainAttrs T) (slot:Slot T name id) (QA:typeOf (.builtin id)=pure (.type "method_descriptor")) (hm:Uq X id r) (ho:PE X o to) (ha:PA X (e::es) t)
  (gj:aaq o name X.env (eval o X.env)=eval o X.env:=by rfl)
  (vD:((ZT cpos (XZ (e::es) X.env)).all (λx=>!x.1)&&(backToKw cpos (keywordEach [] X.env)).all (λx=>x.1.isSome)
   && decide ((e::es).length+([]:List Keyword).length+(if ([]:List Keyword).isEmpty then 0 else 1)<30))=true:=by rfl)
  (gh:(apos.endLine==cpos.line)=true:=by rfl) (hs:XZ (e::es) X.env=(false,eval e X.env)::XZ es X.env:=by rfl) (iy:(ZT cpos (XZ es X.env)).any (·.1)=false:=by rfl) :
  PE X (.Call (.Attribute o name apos) (e::es) [] cpos) (UN X.K T r to t):=by
 intro pins s σ H Q I h;refine wpAny_Call_method_late gj vD gh rfl (bF (ho pins s σ H _ I h) λv s1 ⟨x,H1,I1,r1,ty,q1⟩=>?_);obtain⟨h1,h2⟩:=z_ I1 r1 ty;refine⟨T,id,pa,slot,QA,h1,h2,?_⟩;have hA:=ha cpos pins s1 σ H1 _ I1 q1;rw[hs]at hA ⊢
 refine Calls.callWith_builtin (by show (false || (ZT cpos (XZ es X.env)).any (·.1))=false;rw[iy] <;> rfl) (Calls.evalArgs_plain ?_)
 exact bF hA λus s2 ⟨vs,H2,I2,r2,q2⟩=>hm pins s2 σ H2 x vs v us Q I2 r1 r2 q2
end
def Sw (X:Cx)(id:String)(r:V->List V->Hp->VK->Prop):Prop :=
 ∀(pins:List (Addr×Obj)) (s:Xw) (σ:St) (H:Hp) (x:V) (xs:List V) (v:Xv) (us:List Xv) (Q:VK),Inv X pins σ H s->RelV x v->Vals xs us->r x xs H Q ->
  X4 (model X.prog X.w) X.A (call (.builtin id) (v::us)) (EP X pins σ Q) X.xe s
theorem Vals.one:∀{x:V} {us:List Xv},Vals [x] us->∃u,us=[u]/\RelV x u
 |_,_,.cons r .nil=>⟨_,rfl,r⟩
theorem Vals.zero:∀{us:List Xv},Vals [] us->us=[]
 |_,.nil=>rfl
theorem Vals.dropLast {xs:List V}{us:List Xv}(h:Vals xs us):Vals xs.dropLast us.dropLast:=by
 induction h with
 |nil=>exact .nil
 |cons r t ih =>
  cases t with
  |nil=>exact .nil
  |cons q t'=>exact .cons r ih
theorem Vals.rep {xs:List V}{us:List Xv}(h:Vals xs us):∀k:Nat,Vals (Yl k xs).flatten (Yl k us).flatten
 |0=>.nil
 |k+1=>by
  rw[Zc,Zc,ZA,ZA];exact Vals.append h (Vals.rep h k)
theorem vL {α:Type}(l:List α):l.eraseIdx (l.length-1)=l.dropLast:=by
 induction l with
 |nil=>rfl
 |cons a r ih =>
  cases r with
  |nil=>rfl
  |cons b r =>
   have e:(a::b::r).length-1=((b::r).length-1)+1:=by
    have h1:(a::b::r).length=r.length+2:=rfl;have h2:(b::r).length=r.length+1:=rfl;lia
   rw[e,List.eraseIdx_cons_succ,ih]
   all_goals rfl
theorem foldl_rep (its:List Xv):∀(k:Nat) (acc:List Xv),
  List.foldl (λx1 x2=>x1++x2) acc.toArray (Yl k its.toArray)=(acc++(Yl k its).flatten).toArray
 |0,acc=>by simp
 |k+1,acc=>by
  have e:acc.toArray++its.toArray=(acc++its).toArray:=by simp
  have e2:(acc++its)++(Yl k its).flatten=acc++(Yl (k+1) its).flatten:=by
   rw[Zc,ZA,YN]
  rw[<- e2,<- foldl_rep its k (acc++its),<- e,Zc,aav]
section
variable {X:Cx}{pins:List (Addr×Obj)}{σ:St}{H:Hp}{s:Xw}{l:Addr}{xs ys:List V}
theorem Inv.II {its its':List Xv}{n:Nat}{f:Array Xv->Array Xv}{t':Nat}(I:Inv X pins σ H s)(hH:H l=some (.lst xs))
  (e:s.heap.get? l=some {cls:=.type "list",data:=.seq its.toArray n}) (hf:f its.toArray=its'.toArray) (hv:Vals ys its') (hz:ys.length<=XO) :
  Inv X pins σ (upd H l (.lst ys)) {s with heap:=s.heap.update l (Z1 f),toks:=t'}:=by
 have q:=PySem.IsL.update e f;rw[hf]at q;refine I.write (x:=l) (e:=l) (by rw[hH];exact trivial) (.inl rfl) (λb' u hb hu=>(Heap.get?_update_other s.heap (Z1 f) (YS hb)).trans hu) ⟨_,q⟩ ?_
 exact⟨hz,its',_,hv,q⟩
theorem Inv.IL {its:List Xv}{t':Nat}(I:Inv X pins σ H s)(hv:Vals ys its)(hz:ys.length<=XO):
  Inv X pins σ (upd H s.heap.objs.size (.lst ys)) {s with heap:=s.heap.push {cls:=.type "list",data:=.seq its.toArray},toks:=t'} :=
 I.laid (λ_ _ q=>XA _ q) (Xx _) ⟨hz,its,0,hv,X6 _ rfl⟩
theorem Inv.fresh (I:Inv X pins σ H s):H s.heap.objs.size=none:=I.bt.fresh (Xx _)
theorem Inv.vm (I:Inv X pins σ H s)(hH:H l=some (.lst xs)):xs.length<=XO/\∃(its:List Xv) (n:Nat),Vals xs its/\xs.length=its.length/\s.heap.get? l=some {cls:=.type "list",data:=.seq its.toArray n}:=by
 obtain⟨z,its,n,r,e⟩:=I.bt l _ hH;exact⟨z,its,n,r,r.length,e⟩
theorem sj {n:Nat}(h:n<=XO):aae n=false:=by
 unfold aae;exact decide_eq_false (by lia)
end
section
variable {X:Cx}
def wy:V->List V->Hp->VK->Prop:=λx vs H Q=>∃l xs y,x=.ref l/\vs=[y]/\H l=some (.lst xs)/\xs.length<XO/\Q .bP (upd H l (.lst (xs++[y])))
theorem jN:Sw X "list.append" wy:=by
 intro pins s σ H x vs v us Q I rx rv h;obtain⟨l,xs,y,rfl,rfl,hH,hz,q⟩:=h;cases rx;obtain⟨u,rfl,ru⟩:=rv.one;obtain⟨z,its,n,r,hl,e⟩:=I.vm hH;refine call_meets F.slot_list_append ⟨_,e,rfl⟩ F.entry_list_append (F.args_list_append_2 _ _) (PySem.list_append l its.toArray n u (by rw[X2];lia)) ⟨e,?_⟩
 refine⟨.bP,_,I.II (its':=its++[u]) hH e (by simp) (r.append (.cons ru .nil)) ?_,rfl,q⟩
 rw[Yb,ZU];lia
def Eb:V->List V->Hp->VK->Prop:=λx vs H Q=>∃l b xs zs,x=.ref l/\vs=[.ref b]/\H l=some (.lst xs)/\H b=some (.lst zs)/\xs.length+zs.length<=XO/\Q .bP (upd H l (.lst (xs++zs)))
theorem yC:Sw X "list.extend" Eb:=by
 intro pins s σ H x vs v us Q I rx rv h;obtain⟨l,b,xs,zs,rfl,rfl,hH,hB,hz,q⟩:=h;cases rx;obtain⟨u,rfl,ru⟩:=rv.one;cases ru;obtain⟨z,its,n,r,hl,e⟩:=I.vm hH;obtain⟨z2,nL,n2,r2,VV,e2⟩:=I.vm hB;have hsz:its.toArray.size+nL.toArray.size<=XO:=by rw[X2,X2];lia
 have B_:¬ (!its.toArray.isEmpty&&aae (its.toArray.size+nL.toArray.size))=true:=by
  rw[sj hsz,Bool.and_false];exact YO
 refine call_meets F.slot_list_extend ⟨_,e,rfl⟩ F.entry_list_extend (F.args_list_extend_2 _ _)
  (AutoSeq1.list_extend_list_list_0 l its.toArray n b nL.toArray n2 B_ (by rw[X2];lia) (by lia)) ⟨e,e2,?_⟩
 refine⟨.bP,_,I.II (its':=its++nL) hH e (by simp) (r.append r2) ?_,rfl,q⟩
 rw[Yb];lia
def Pz:V->List V->Hp->VK->Prop:=λx vs H Q=>∃l xs y,x=.ref l/\vs=[]/\H l=some (.lst xs)/\xs[xs.length-1]?=some y/\Q y (upd H l (.lst xs.dropLast))
theorem IE:Sw X "list.pop" Pz:=by
 intro pins s σ H x vs v us Q I rx rv h;obtain⟨l,xs,y,rfl,rfl,hH,hy,q⟩:=h;cases rx;have BV:=rv.zero;subst BV;obtain⟨z,its,n,r,hl,e⟩:=I.vm hH;obtain⟨u,hu,ru⟩:=r.get hy;have Qu:its.toArray[its.toArray.size-1]?=some u:=by
  show its.toArray[its.length-1]?=some u;rw[<- X0,<- hl];exact hu
 refine call_meets F.slot_list_pop ⟨_,e,rfl⟩ F.entry_list_pop (F.args_list_pop_1 _) (MeetsSeq.list_pop_last l its.toArray n u Qu (by rw[X2];lia)) ⟨e,?_⟩
 refine⟨y,_,I.II (its':=its.dropLast) hH e ?_ r.dropLast ?_,ru,q⟩
 ·show its.toArray.eraseIdxIfInBounds (its.toArray.size-1)=its.dropLast.toArray;rw[X2,List.eraseIdxIfInBounds_toArray,vL]
 ·rw[List.length_dropLast];lia
def PF:R2:=λx y H Q=>∃l b xs zs,x=.ref l/\y=.ref b/\H l=some (.lst xs)/\H b=some (.lst zs)/\xs.length+zs.length<=XO/\∀p,H p=none->Q (.ref p) (upd H p (.lst (xs++zs)))
theorem Bm:iH X (ZE .Add) PF:=by
 intro pins s σ H x y v u Q I rx ry h;obtain⟨l,b,xs,zs,rfl,rfl,hH,hB,hz,q⟩:=h;cases rx;cases ry;obtain⟨z,its,n,r,hl,e⟩:=I.vm hH;obtain⟨z2,nL,n2,r2,VV,e2⟩:=I.vm hB;refine PySem.P.add_list e e2 ?_ (by rw[X2,X2];lia)
 have ea:its.toArray++nL.toArray=(its++nL).toArray:=by simp
 rw[ea];exact⟨.ref _,_,I.IL (t':=s.toks) (r.append r2) (by rw[Yb];lia),rfl,q _ I.fresh⟩
def Py:R2:=λx y H Q=>∃l k xs,x=.ref l/\y=.int k/\H l=some (.lst xs)/\-(2 ^ 63)<=k/\k<2 ^ 63/\xs.length*k.toNat<=XO /\
 ∀p,H p=none->Q (.ref p) (upd H p (.lst (Yl k.toNat xs).flatten))
theorem len_rep {α:Type}(xs:List α)(k:Nat):(Yl k xs).flatten.length=k*xs.length:=by
 induction k with
 |zero=>simp
 |succ k ih=>rw[Zc,ZA,Yb,ih,Nat.succ_mul,Nat.add_comm]
theorem Il:iH X (ZE .Mult) Py:=by
 intro pins s σ H x y v u Q I rx ry h;obtain⟨l,k,xs,rfl,rfl,hH,h1,h2,hz,q⟩:=h;cases rx;obtain⟨t,rfl⟩:=ry;obtain⟨z,its,n,r,hl,e⟩:=I.vm hH;have hlen:its.toArray.size*k.toNat<=XO:=by rw[X2,<- hl];exact hz
 have RL:¬ its.toArray.size*k.toNat>(2 ^ 63-1) / 8:=by
  have:(XO:Nat)<=(2 ^ 63-1) / 8:=by decide
  lia
 have RD:¬ (!Builtin.List.listFitsIndex k)=true:=by
  rw[fitsIndex_both h1 h2];exact YO
 have B_:¬ aae (its.toArray.size*k.toNat)=true:=by
  rw[sj hlen];exact YO
 have JD:List.foldl (λx1 x2=>x1++x2) #[] (Yl (if its.toArray.isEmpty=true then 0 else k.toNat) its.toArray)=(Yl k.toNat its).flatten.toArray:=by
  have f0:∀m:Nat,List.foldl (λx1 x2=>x1++x2) #[] (Yl m its.toArray)=(Yl m its).flatten.toArray:=λm=>by
   have:=foldl_rep its m [];rw[List.nil_append]at this;exact this
  rw[f0];cases its with
  |nil=>simp
  |cons a r'=>rw[if_neg (by simp)]
 refine wpAny_binaryOp_repeat_ref (T:="list") (U:="int") (by decide) ⟨_,e,rfl⟩ (λs'=>typeIs_int s' k t) noFill_list_mul F.fills_int_mul F.slot_int_rmul repeat_list F.slot_int_index.lookup
  (call_meets F.slot_int_rmul (typeIs_int s k t) F.entry_int_rmul (F.args_int_rmul_2 _ _) (int___rmul___int_list k t l its.toArray n)
   ⟨e,rfl,⟨_,e,rfl⟩,call_meets F.slot_list_mul ⟨_,e,rfl⟩ F.entry_list_mul (F.args_list_mul_2 _ _) (AutoListH.list___mul___list_int_3 l its.toArray n k t RD RL B_) ⟨e,?_⟩⟩)
 rw[JD];exact⟨.ref _,_,I.IL (t':=s.toks) (r.rep k.toNat) (by rw[len_rep,Nat.mul_comm];exact hz),rfl,q _ I.fresh⟩
end
section
end
section
end
end L2
namespace Ux
open PySem PySem.W PySem.Calls PyProof.Rows
theorem kY {P:Params}{h:Heap}:∀(ns:List Int) (vs:List Xv),WellAll P h vs (ns.map WData.int)->Zb vs ns:=by
 intro ns
 induction ns with
 |nil =>
  intro vs w;rw[List.map_nil]at w;cases w;exact .nil
 |cons n ns ih =>
  intro vs w;rw[X5]at w;cases w with
  |cons a b =>
   cases a;exact .cons _ _ (ih _ b)
theorem yf {l:OpenLaw}{n:Nat}(hn:l.most=some n){P:Params}{h:Heap}{args:List WData}{vals:List Xv}
  (Fc:l.row.toRowW.claim.pre args=true) (Qv:WellAll P h vals args) :
  ∃a vs ns,vals=[Value.ref a]/\args=[WData.list (ns.map WData.int)]/\h.get? a=some {cls:=.type "list",data:=.seq vs.toArray}/\Zb vs ns/\ns.length<=n:=by
 have VE:WShape.hasAll [] args [.list .int]=true:=(pre_splitW Fc).1;have hc:l.pre.holds [] {args:=args}=true:=(pre_splitW Fc).2;obtain⟨d,r,rfl,h1,h2⟩:=hasAllW_cons VE;obtain rfl:=hasAllW_nil h2;obtain⟨xs,rfl,h3⟩:=hasW_list h1;obtain⟨ns,rfl⟩:=items_int h3;have hlen:ns.length<=n:=by
  unfold OpenLaw.pre at hc;have h4:(WTm.not (.lt (.lit (.int (n:Int))) (.len (.arg 0)))).holds [] {args:=[.list (ns.map .int)]}=true:=by
   have h4:=(holds_andW hc).1;rw[hn]at h4;exact h4
  have h5:=condW_of h4 (w_not (w_lt w_lit (w_len_list (w_arg rfl))));rw[Xu]at h5;refine Nat.le_of_not_lt λq=>?_;have q':(n:Int)<((ns.length:Nat):Int):=by lia
  first
   | (rw[decide_eq_true q']at h5;exact absurd h5 (by decide))
   | (simp at h5;lia)
 cases Qv with
 |cons w1 w2 =>
  cases w2;cases w1 with
  |list ho jZ=>exact⟨_,_,ns,rfl,rfl,ho,kY ns _ jZ,hlen⟩
theorem yr (l:OpenLaw)(args:List WData):l.row.toRowW.claim.post args (.bool true) args=true :=
 postW_of (r:=l.row.toRowW) (X:=(true==true))
  (show WShape.has [] (.bool true) .bool=true by first|rfl|decide|simp[WShape.has,WShape.arms,WShape.armsAll])
  (show (WTm.eq .res (.lit (.bool true))).value [] {args:=args,res:=some (.bool true),after:=args}=some (.bool (true==true)) from w_eq_bool (w_res rfl) w_lit) rfl
theorem ue {l:OpenLaw}{n:Nat}{q:Xz}{loose:List Str}{XP:(Str->Option Xv)->Heap->Prop}{YP:XT->Heap->Prop}{d:DefRec}
  (hn:l.most=some n) (OG:d.params.defaults=[])
  (call:∀(w:XT) (s₀ s₁:Xw) (mg mb:Str->Option Xv) (fa:Addr) (o:Obj) (pm cd doc:Xv) (a:Addr) (vs:List Xv) (ns:List Int),
   Ground q loose [] XP w s₀ mg mb s₁.heap->YP w s₁.heap ->
   s₁.heap.get? fa=some o->o.data=.func (docDef d.name d.params d.body d.scope pm cd doc)->s₁.heap.CodeRec cd d.name->mg d.name=some (.ref fa) ->
   s₁.heap.get? a=some {cls:=.type "list",data:=.seq vs.toArray}->Zb vs ns->ns.length<=n->s₁.gens=#[] ->
   aaM (model l.prog w) callerA (.call (.ref fa) ⟨[.ref a],[]⟩) (λr s'=>r=.ok (.ret (.bool true))/\OldK s₁.heap s'.heap/\s'.os=s₁.os/\AllBare s'.gens) s₁) :
  WalkO q loose XP YP l.row.toRowW d [] (λf vs=>PySem.call f vs):=by
 intro w s₀ s₁ mg mb G Y fa o pm cd doc dV kV ho hd gZ hD Rc hg args vals as Fc VU Xa Qv OD;obtain rfl:dV=.none:=Dflts.none hD OG;obtain rfl:kV=.none:=Dflts.noKw hD;obtain⟨a,vs,ns,rfl,rfl,JB,hints,hlen⟩:=yf hn Fc Qv;refine enter_call (aal (call w s₀ s₁ mg mb fa o pm cd doc a vs ns G Y ho (fd_plain hd) gZ Rc JB hints hlen hg) λr s' hq=>?_);obtain⟨rfl,h2,h3,h4⟩:=hq;exact⟨.inl ⟨.bool true,.bool true,[],rfl,λ_=>rfl,.bool true,yr l _,λ_=>⟨List.Pairwise.nil,λ_ hm=>(nomatch hm)⟩⟩,h2,h3,h4⟩
section
end
end Ux
namespace L2
open PySem PySem.Spec PyProof.Rows
theorem ou:∀{vs:List Xv} {ns:List Int},Zb vs ns->Vals (ns.map V.int) vs
 |_,_,.nil=>.nil
 |_,_,.cons n t h=>.cons ⟨t,rfl⟩ (ou h)
def Kh (H:Hp):Prop:=∀b,H b=none\/∃o xs,H b=some (.ux o (.lst xs))
theorem BH {P:Xz}{w:XT}{K:PySem.W.Frag}{mg mb:Str->Option Xv}{CX:Dc}{k:Nat}{fa a:Addr}{fd:Yr}{x:Str}{sp:Sp}{s₁:Xw}{vs:List Xv}{ns:List Int}
  (KX:K.In s₁.heap) (OB:s₁.heap.Ns Zy mg) (hb:s₁.heap.Ns builtinsNs mb) (V5:∀x:Str,x≠"__name__" -> mb x=Yx x) (Ri:s₁.heap.NoLimit) (hg:s₁.gens=#[])
  (ha:s₁.heap.get? a=some {cls:=.type "list",data:=.seq vs.toArray}) (hi:Zb vs ns) (hl:ns.length<=XO) (hr:cT k callerA)
  (F:∀base:Heap,K.In base->base.Ns Zy mg->aN P w K mg base CX k fa fd [x] sp) (Nq:∀(s:Xw) (u:Xv),BindsTo s fd ⟨[u],[]⟩ [(x,u)])
  (mL:∀H:Hp,Kh H->c6 K H a (ns.map V.int)->sp [.ref a] H (λv _=>v=.bl true) λ_ _ _=>False)
  (RU:∀H e s',CX [] H s₁ (λ_ _ _=>False) e s'->False) :
  aaM (model P w) callerA (.call (.ref fa) ⟨[.ref a],[]⟩) (λr s'=>r=.ok (.ret (.bool true))/\OldK s₁.heap s'.heap/\s'.os=s₁.os/\AllBare s'.gens) s₁:=by
 have rv:=ou hi;have Qh:=hi.length;have core:∀H:Hp,Kh H->c6 K H a (ns.map V.int)->iI P w H s₁.heap->(∀b,H b≠none->b=a)->(H a≠none->K.lookup a=none) ->
   aaM (model P w) callerA (.call (.ref fa) ⟨[.ref a],[]⟩) (λr s'=>r=.ok (.ret (.bool true))/\OldK s₁.heap s'.heap/\s'.os=s₁.os/\AllBare s'.gens) s₁:=by
  intro H hO hS bt hA hK;have xI:∀{b:Addr} {o:Obj},s₁.heap.get? b=some o->H b=none->(qL s₁.heap H).get? b=some o:=λe n=>Cb e n;have LQ:∀{b:Addr} {o:Obj} {es:Array DictEntry} {ep:Nat},s₁.heap.get? b=some o->o.data=.dict es ep->H b=none:=λ{b o es ep} e d=>by
   cases q:H b with
   |none=>rfl
   |some u =>
    have e':b=a:=hA b (by rw[q];simp)
    subst e';rw[ha]at e;cases e;have d':Data.seq vs.toArray _=Data.dict es ep:=d;cases d'
  have Oo:∀{b:Addr} {m:Str->Option Xv},s₁.heap.Ns b m->(qL s₁.heap H).Ns b m:=λ{b m} ⟨o,es,ep,e,d,r⟩=>⟨o,es,ep,xI e (LQ e d),d,r⟩;have Uc:K.In (qL s₁.heap H):=λb o e=>xI (KX b o e) (by
   cases q:H b with
   |none=>rfl
   |some u =>
    have e':b=a:=hA b (by rw[q];simp)
    subst e';rw[hK (by rw[q];simp)]at e;cases e)
  have hM:Mod K mg (qL s₁.heap H):=⟨Uc,Oo OB,⟨mb,Oo hb,V5⟩,let ⟨mc,h1,h2⟩:=Ri;⟨mc,Oo h1,h2⟩⟩
  have e0:F4 P w K mg (qL s₁.heap H) callerA [] s₁ H:=⟨rfl,hM,λb o e=>EK e,Nat.le_of_eq (yU _ _),trivial,λb hb=>absurd (show b∈([]:List Addr) from hb) (by simp),bt,.of_eq hg⟩
  refine aal ((F _ Uc (Oo OB)).run callerA [] s₁ H ⟨[.ref a],[]⟩ [.ref a] [.ref a] _ _ hr e0 (Nq s₁ (.ref a)) (.cons rfl .nil) (mL H hO hS)) λr s' h=>?_;cases r with
  |error e=>exact(RU H e s' h).elim
  |ok fl =>
   cases fl with
   |next=>exact Z2 h
   |brk=>exact Z2 h
   |cont=>exact Z2 h
   |ret u =>
    obtain⟨v,H',os,bare,un,Q4,r',q⟩:=h;have q':v=.bl true:=q;subst q';obtain rfl:u=Value.bool true:=r';refine⟨rfl,OldK.of_keep λb o e=>?_,os,bare⟩;cases q:H b with
    |none=>exact un.keep b o e q (by intro z;exact absurd (show b∈([]:List Addr) from z) (by simp)) (by simp)
    |some u =>
     rcases hO b with z|⟨ob,xs,z⟩
     ·rw[q]at z;cases z
     ·have z2:=un.nU b ob _ z;obtain⟨e1,_⟩:=bt b _ z;obtain⟨e2,_⟩:=Q4 b _ z2;rw[e]at e1;cases e1;exact e2
 cases hk:K.lookup a with
 |some o =>
  have e:=KX a o hk;rw[ha]at e;cases e;refine core (λ_=>none) (λ_=>.inl rfl) (.inr ⟨_,vs.toArray,_,hk,rfl,rfl,rfl,by rw[X2,Qh];exact hl,by simpa using rv⟩) (λb u z=>by have z':(none:Option HO)=some u:=z;cases z') (λb z=>absurd rfl z) λz=>absurd rfl z
 |none =>
  refine core (λb=>if b=a then some (.ux {cls:=.type "list",data:=.seq vs.toArray} (.lst (ns.map V.int))) else none) (λb=>?_) (.inl (.inr ⟨{cls:=.type "list",data:=.seq vs.toArray},if_pos rfl⟩)) (λb u z=>?_) (λb z=>?_) λ_=>hk
  ·by_cases hb:b=a
   ·exact .inr ⟨_,_,if_pos hb⟩
   ·exact .inl (if_neg hb)
  ·by_cases hb:b=a
   ·have z':=(if_pos hb).symm.trans z;cases z';subst hb;exact⟨ha,by rw[Xu];exact hl,vs,_,rv,ha⟩
   ·have z':=(if_neg hb).symm.trans z;cases z'
  ·by_cases hb:b=a
   ·exact hb
   ·exact absurd (if_neg hb) z
theorem DF {l:PySem.W.OpenLaw}{n k:Nat}{q:Xz}{loose:List Str}{XP:(Str->Option Xv)->Heap->Prop}{YP:XT->Heap->Prop}{d:DefRec}{K:Params->PySem.W.Frag}{CX:XT->Dc}{sp:XT->Sp}{x:Str}
  (hn:l.most=some n) (Kt:n<=XO) (OG:d.params.defaults=[]) (hr:cT k callerA)
  (hY:∀(w:XT) (h:Heap),YP w h->(K w.params).In h)
  (F:∀(w:XT) (mg:Str->Option Xv) (fa:Addr) (h:Heap),(K w.params).In h->h.Ns Zy mg->mg d.name=some (.ref fa) ->
   ∃fd:Yr,(∀(s:Xw) (u:Xv),BindsTo s fd ⟨[u],[]⟩ [(x,u)]) /\
    ∀base:Heap,(K w.params).In base->base.Ns Zy mg->aN l.prog w (K w.params) mg base (CX w) k fa fd [x] (sp w))
  (mL:∀(w:XT) (H:Hp) (a:Addr) (ns:List Int),ns.length<=n->Kh H->c6 (K w.params) H a (ns.map V.int)->sp w [.ref a] H (λv _=>v=.bl true) λ_ _ _=>False)
  (RU:∀(w:XT) (H:Hp) (s:Xw) (e:Xv) (s':Xw),CX w [] H s (λ_ _ _=>False) e s'->False) :
  PySem.W.WalkO q loose XP YP l.row.toRowW d [] (λf vs=>PySem.call f vs):=by
 refine Ux.ue hn OG λw s₀ s₁ mg mb fa o pm cd doc a vs ns G Y ho hd gZ Rc JB hints hlen hg=>?_;have KX:=hY w _ Y;obtain⟨fd,hb,hF⟩:=F w mg fa _ KX G.T.g Rc;exact BH KX G.T.g G.T.b G.T.builtins G.T.nolimit hg JB hints (Ym hlen Kt) hr hF hb (λH hO hS=>mL w H a ns hlen hO hS) λH e s'=>RU w H s₁ e s'
def lz (s:Stmt):Arguments:=match s with
 |.FunctionDef _ a _ _ _ _ _ _ _ _=>a
 |_=>{posonlyargs:=[],args:=[],vararg:=none,kwonlyargs:=[],kw_defaults:=[],kwarg:=none,defaults:=[]}
def eO (s:Stmt):List Stmt:=match s with
 |.FunctionDef _ _ b _ _ _ _ _ _ _=>b
 |_=>[]
def aw (s:Stmt):aaa:=match s with
 |.FunctionDef _ _ _ _ _ _ sc _ _ _=>sc
 |_=>{kind:=.function,names:=[],isGenerator:=false,isCoroutine:=false}
abbrev bU:Dc:=λ_ _ _ _ _ _=>False
abbrev E0:XK:=λ_ _ _=>False
theorem Ge {X:Cx}:Passes bU X E0:=λ_ _ _ _ _ _ _ h=>h.elim
structure Dx (K:PySem.W.Frag)(x qual:Str)(st:Stmt)(f:Addr)(fd:Yr):Prop where
 ex:∃(oc:Xv) (od:Option Addr) (kV doc pm:Xv) (an:Option Addr) (cP ct:Xv) (Ij:Array (Option Xv)),
  fd=PySem.W.fnOf x qual (lz st) (eO st) (aw st) .none kV doc pm an cP ct/\K.lookup f=some ⟨oc,od,.func fd,Ij⟩/\PySem.W.codeIn K cP qual=true
 kp:PySem.W.keepIn K (.ref f)=true
section
variable {P:Xz}{w:XT}{K:PySem.W.Frag}{mg:Str->Option Xv}{base:Heap}
theorem Dx.ok {x qual:Str}{st:Stmt}{f:Addr}{fd:Yr}{N ps:List Str}{k:Nat}{sp:Sp}(F:Dx K x qual st f fd)(S:aL N ps (aw st))(len:∀vs H Q E,sp vs H Q E->vs.length=ps.length)
  (mN:∀(cP:Xv) (A:Yv) (outer:List Env) (s:Xw) (H:Hp) (vs:List V) (Q:VK) (E:XK),cT k (A.deeper (envOfC qual (aw st) s.heap.objs.size f cP))->sp vs H Q E ->
   ∃t,rg (n_ bU P w K mg base N qual (aw st) f cP A outer s H E).Gh (eO st) t/\t {nx:=λ_ H'=>Q .bP H',rt:=Q} (start N vs) H):aN P w K mg base bU (k+1) f fd ps sp:=by
 obtain⟨oc,od,kV,doc,pm,an,cP,ct,Ij,rfl,lk,gZ⟩:=F.ex;refine Nz lk gZ S len λA outer s H vs Q E hr mL=>?_;obtain⟨t,h,q⟩:=mN cP A outer s H vs Q E hr mL;exact⟨t,h.Gh,q⟩
theorem JP {x qual:Str}{st:Stmt}{f:Addr}{oc:Xv}{od an:Option Addr}{Ij:Array (Option Xv)}{kV doc pm cP ct:Xv}(l:K.lookup f=some ⟨oc,od,.func (PySem.W.fnOf x qual (lz st) (eO st) (aw st) .none kV doc pm an cP ct),Ij⟩)
  (c:PySem.W.codeIn K cP qual=true) (k:PySem.W.keepIn K (.ref f)=true):Dx K x qual st f (PySem.W.fnOf x qual (lz st) (eO st) (aw st) .none kV doc pm an cP ct):=⟨⟨oc,od,kV,doc,pm,an,cP,ct,Ij,rfl,l,c⟩,k⟩
end
section
variable {X:Cx}
theorem pv (i:Nat){x:Str}{pos:Pos}(hN:X.N[i]?=some x:=by rfl)(hv:vW X.env.scope x:=by first|exact Or.inl rfl|exact Or.inr (Or.inl rfl)|exact Or.inr (Or.inr rfl))(hd:(x==("__debug__" : Str))=false:=by decide)
  (gZ:(x==("__classdict__" : Str))=false:=by decide):PE X (.Name x pos) (KY i):=dj hN hv hd gZ
end
def au (H H':Hp):Prop:=∀b o,H b=some o->H' b=some o
theorem au.refl (H:Hp):au H H:=λ_ _ h=>h
theorem au.trans {H H1 H2:Hp}(a:au H H1)(b:au H1 H2):au H H2:=λc o h=>b c o (a c o h)
theorem au.free {H H':Hp}(e:au H H'){l:Addr}(h:H' l=Option.none):H l=Option.none:=by
 cases q:H l with
 |none=>rfl
 |some o =>
  rw[e l o q]at h;cases h
theorem au.seq {K:PySem.W.Frag}{H H':Hp}{a:Addr}{xs:List V}(e:au H H')(h:c6 K H a xs):c6 K H' a xs:=by
 rcases h with (h|⟨o,h⟩)|h
 ·exact .inl (.inl (e _ _ h))
 ·exact .inl (.inr ⟨o,e _ _ h⟩)
 ·exact .inr h
section
variable {X:Cx}{a b c:Expr}{ta tb:TE}{pos:Pos}
def ur (i j:Int):Prop:=0<j/\j.natAbs.log2<9000
theorem ur.of {i j:Int}(h0:0<j)(h:j<2 ^ 200):ur i j:=by
 refine⟨h0,?_⟩;have h2:j.natAbs<2 ^ 200:=by lia
 have:=(Nat.log2_lt (n:=j.natAbs) (k:=200) (by lia)).mpr h2
 lia
theorem si:iH X (ZE .FloorDiv) (rI ur λi j=>.int (i / j)):=Om λi j _ _ _ _ _ hc q=>by
 have h1:(0:Int)<j:=hc.1;exact floordiv_int (by lia) (by rw[Int.fdiv_eq_ediv_of_nonneg i (by lia)];exact q) (.inl (PyProof.noPylong_of_log2 hc.2))
def G7 (X:Cx)(ops:List aat)(rs:List Expr)(t:V->TE):Prop :=
 ∀(pos:Pos) (pins:List (Addr×Obj)) (s:Xw) (σ:St) (H:Hp) (x:V) (v:Xv) (Q:VK),Inv X pins σ H s->RelV x v->t x σ H Q ->
  X4 (model X.prog X.w) X.A (compareChain pos v ops (evalEach rs X.env)) (EP X pins σ Q) X.xe s
def uo (X:Cx)(ops:List aat)(rs:List Expr)(t:V->TT):Prop :=
 ∀(pos:Pos) (pins:List (Addr×Obj)) (s:Xw) (σ:St) (H:Hp) (x:V) (v:Xv) (Q:Bool->Hp->Prop),Inv X pins σ H s->RelV x v->t x σ H Q ->
  X4 (model X.prog X.w) X.A (testChain pos v ops (evalEach rs X.env)) (TP X pins σ Q) X.xe s
variable {op Io:aat}{ops:List aat}{rs:List Expr}{r:R2}{t:V->TE}{tt:V->TT}
theorem J5 (ho:iH X (YK op) r)(hb:PE X b tb):G7 X [op] [b] (λx σ H Q=>tb σ H λy H2=>r x y H2 Q):=by
 intro pos pins s σ H x v Q I rx h;exact chain_last (bF (hb pins s σ H _ I h) λu s1 vB=>by obtain⟨y,H1,I1,r1,q1⟩:=vB;exact ho pins s1 σ H1 x y v u Q I1 rx r1 q1)
theorem FR (ho:iH X (YK op) r)(hb:PE X b tb)(hc:G7 X (Io::ops) (c::rs) t):
  G7 X (op::Io::ops) (b::c::rs) (λx σ H Q=>tb σ H λy H2=>r x y H2 λz H3=>∃k,z=.bl k/\(if k=true then t y σ H3 Q else Q (.bl false) H3)):=by
 intro pos pins s σ H x v Q I rx h;refine chain_link (bF (hb pins s σ H _ I h) λu s1 ⟨y,H1,I1,r1,q1⟩=>bF (ho pins s1 σ H1 x y v u _ I1 rx r1 q1) λd s3 ⟨z,H3,I3,r3,k,e,q3⟩=>?_);subst e;cases r3;refine Y6 ?_;cases k with
 |false=>exact ite_ff ⟨.bl false,H3,I3,rfl,q3⟩
 |true=>exact ite_tt (hc pos pins s3 σ H3 y u Q I3 r1 q3)
theorem yw {dX dW:aat}(ha:PE X a ta)(hc:G7 X (dX::dW::ops) (b::c::rs) t)(hm:lastMarks (dX::dW::ops) (b::c::rs)=false:=by with_unfolding_all rfl):
  PE X (.Compare a (dX::dW::ops) (b::c::rs) pos) (λσ H Q=>ta σ H λx H1=>t x σ H1 Q):=by
 intro pins s σ H Q I h;exact Compare_chain (bF (ha pins s σ H _ I h) λv s1 Jn=>by obtain⟨x,H1,I1,r1,q1⟩:=Jn;exact hc pos pins s1 σ H1 x v Q I1 r1 q1) hm
theorem FQ (ho:iH X (YK op) r)(hb:PE X b tb):uo X [op] [b] (λx σ H Q=>tb σ H λy H2=>r x y H2 λz H3=>∃k,z=.bl k/\Q k H3):=by
 intro pos pins s σ H x v Q I rx h;refine test_last (bF (hb pins s σ H _ I h) λu s1 ⟨y,H1,I1,r1,q1⟩=>bF (ho pins s1 σ H1 x y v u _ I1 rx r1 q1) λd s3 ⟨z,H3,I3,r3,k,e,q3⟩=>?_);subst e;cases r3;exact Y6 ⟨H3,I3,q3⟩
theorem CQ (ho:iH X (YK op) r)(hb:PE X b tb)(hc:uo X (Io::ops) (c::rs) tt):
  uo X (op::Io::ops) (b::c::rs) (λx σ H Q=>tb σ H λy H2=>r x y H2 λz H3=>∃k,z=.bl k/\(if k=true then tt y σ H3 Q else Q false H3)):=by
 intro pos pins s σ H x v Q I rx h;refine test_link (bF (hb pins s σ H _ I h) λu s1 ⟨y,H1,I1,r1,q1⟩=>bF (ho pins s1 σ H1 x y v u _ I1 rx r1 q1) λd s3 ⟨z,H3,I3,r3,k,e,q3⟩=>?_);subst e;cases r3;refine Y6 ?_;cases k with
 |false=>exact ite_ff ⟨H3,I3,q3⟩
 |true=>exact ite_tt (hc pos pins s3 σ H3 y u Q I3 r1 q3)
theorem yo {dX dW:aat}(ha:PE X a ta)(hc:uo X (dX::dW::ops) (b::c::rs) tt)(hm:lastMarks (dX::dW::ops) (b::c::rs)=false:=by with_unfolding_all rfl):
  PT X (.Compare a (dX::dW::ops) (b::c::rs) pos) (λσ H Q=>ta σ H λx H1=>tt x σ H1 Q):=by
 intro pins s σ H Q I h;exact isTrue_chain (bF (ha pins s σ H _ I h) λv s1 Jj=>by obtain⟨x,H1,I1,r1,q1⟩:=Jj;exact hc pos pins s1 σ H1 x v Q I1 r1 q1) hm
theorem CT:fh X (.builtin "isinstance") (λxs H Q=>∃x n t k,xs=[x,.ty n]/\iG X.K H x t/\PySem.W.kitOne X.K t (.type n)=some k/\Q (.bl k) H):=by
 intro pins s σ H xs us Q I r h;obtain⟨x,n,t,k,rfl,ty,e,q⟩:=h;obtain⟨u,w',rfl,r1,r2⟩:=vals2 r;cases r2;exact yN I r1 ty e λtk=>⟨.bl k,H,I.tok _,rfl,q⟩
end
theorem nj:Yx "max" = some (.builtin "max"):=by decide +kernel
theorem vT:Yx "min" = some (.builtin "min"):=by decide +kernel
theorem vU:Yx "int" = some (.type "int"):=by decide +kernel
theorem FU:Yx "bool" = some (.type "bool"):=by decide +kernel
theorem ub:Yx "tuple" = some (.type "tuple"):=by decide +kernel
theorem jv:Yx "list" = some (.type "list"):=by decide +kernel
theorem j9:Yx "sorted" = some (.builtin "sorted"):=by decide +kernel
theorem CY:Yx "isinstance" = some (.builtin "isinstance"):=by decide +kernel
theorem nk:Yx "len" = some (.builtin "len"):=by decide +kernel
theorem Me {c A B:Prop}[Decidable c](hc:c)(h:A):if decide c=true then A else B:=by
 rw[if_pos (decide_eq_true hc)];exact h
theorem Mf {c A B:Prop}[Decidable c](hc:¬ c)(h:B):if decide c=true then A else B:=by
 rw[if_neg (by simp[hc])]
 exact h
theorem Qn {c A B:Prop}[Decidable c](h1:c->A)(h2:¬ c->B):if decide c=true then A else B:=by
 by_cases h:c
 ·exact Me h (h1 h)
 ·exact Mf h (h2 h)
def Fm (h:Addr)(H H':Hp):Prop:=∀b o,H b=some o->b≠h->H' b=some o
theorem Fm.upd {h:Addr}{H:Hp}{o:HO}:Fm h H (upd H h o):=λb u e n=>by rw[ao n];exact e
theorem au.new {H:Hp}{p:Addr}{o:HO}(n:H p=none):au H (L2.upd H p o):=λb u e=>by rw[ao (cC e n)];exact e
def Hand (H:Hp)(h:Addr):Prop:=∃x y:Int,H h=some (.lst [.int x,.int y])/\0<=x/\0<=y/\y<2147483647
def Av:Sp:=λvs H Q _=>∃c:Int,vs=[.int c]/\∀p H',H p=none->Hand H' p->au H H'->Q (.ref p) H'
def As:Sp:=λvs H Q _=>∃(h:Addr) (n:Int),vs=[.ref h,.int n]/\Hand H h/\0<n/\n<2 ^ 200 /\
 ∀(r:Int) (H':Hp),0<=r->r<n->Hand H' h->Fm h H H'->Q (.int r) H'
structure WV (mg:Str->Option Xv):Prop where
 max:mg "max" = none
 min:mg "min" = none
 int:mg "int" = none
section
end
theorem A9:Dd 10 18:=⟨by decide,by decide,by decide⟩
section
theorem ll {a:Int}{b:Int}(h:0<b):0<=a % b/\a % b<b:=⟨Int.emod_nonneg a (by lia),Int.emod_lt_of_pos a h⟩
end
def aA (X:Cx)(scope:aaa)(N':List Str)(cl:List (Str×Addr))(C:Addr)(s:Xw)(H:Hp)(ex:List Addr):Cx :=
 {X with N:=N',s₀:=s,H₀:=H,env:=compEnvC scope cl C X.env,outer:=X.stack,stack:=X.stack,ex:=ex,fn:=λ_=>false,pn:=[],xe:=λ_ _=>False}
theorem iE {env:Env}:∀(names:List (Str×aas)) (cs:List (Str×Addr)),(∀x,(x,Yz)∈names->∃c,env.cells.lookup x=some c) ->
  (∀x c,cs.lookup x=some c->env.cells.lookup x=some c) ->
  ∃cl,(forIn names cs λ(p:Str×aas) (cs:List (Str×Addr))=>do
   if p.2==.free then do
    let a <- cellOf env p.1
    pure (ForInStep.yield ((p.1,a)::cs))
   else pure (ForInStep.yield cs):Sem (List (Str×Addr)))=pure cl /\
   (∀x,((x,Yz)∈names\/(∃c,cs.lookup x=some c))->∃c,cl.lookup x=some c)/\∀x c,cl.lookup x=some c->env.cells.lookup x=some c
 |[],cs,_,OI=>⟨cs,rfl,λx h=>h.elim (λz=>nomatch z) id,OI⟩
 | (n,k)::names,cs,hf,OI=>by
  by_cases hk:k=.free
  ·subst hk;obtain⟨c,hc⟩:=hf n (XN ..);obtain⟨cl,e,h1,h2⟩:=iE names ((n,c)::cs) (λx hx=>hf x (XR _ hx)) (λx c' hx=>by
    rw[Y3]at hx;cases q:x==n with
    |true=>rw[q]at hx;cases hx;rw[eq_of_beq q];exact hc
    |false=>rw[q]at hx;exact OI x c' hx)
   refine⟨cl,?_,λx hx=>h1 x ?_,h2⟩
   ·rw[List.forIn_cons];have ec:cellOf env n=pure c:=by unfold cellOf;rw[hc]
    simp only[beq_self_eq_true,if_true,ec];exact e
   ·rcases hx with hx|⟨c',hx⟩
    ·rcases Xy.mp hx with z|z
     ·cases z;exact .inr ⟨c,by simp⟩
     ·exact .inl z
    ·right
     rw[Y3];cases q:x==n with
     |true=>exact⟨c,rfl⟩
     |false=>exact⟨c',hx⟩
  ·obtain⟨cl,e,h1,h2⟩:=iE names cs (λx hx=>hf x (XR _ hx)) OI;refine⟨cl,?_,λx hx=>h1 x ?_,h2⟩
   ·rw[List.forIn_cons];have hb:(k==Yz)=false:=by simpa using hk
    simp only[hb,Bool.false_eq_true,if_false];exact e
   ·rcases hx with hx|hx
    ·rcases Xy.mp hx with z|z
     ·cases z;exact absurd rfl hk
     ·exact .inl z
    ·exact .inr hx
theorem hZ {env:Env}{scope:aaa}(h:∀x,(x,Yz)∈scope.names->∃c,env.cells.lookup x=some c):
  ∃cl,closureFor scope env=pure cl/\(∀x,(x,Yz)∈scope.names->∃c,cl.lookup x=some c)/\∀x c,cl.lookup x=some c->env.cells.lookup x=some c:=by
 obtain⟨cl,e,h1,h2⟩:=iE scope.names [] h (λx c z=>by simp at z)
 refine⟨cl,?_,λx hx=>h1 x (.inl hx),h2⟩;unfold closureFor;refine Eq.trans ?_ (congrArg (· >>= pure) e);rfl
structure Links (X:Cx)(scope:aaa)(N':List Str)(lk:List (Option Nat)):Prop where
 kind:scope.kind=.function
 ve:∀x∈scope.names,x.2≠.cell
 names:∀x∈scope.names,x.2=.local->scope.names.lookup x.1=some .local
 free:∀x,(x,Yz)∈scope.names->X.env.kindOf x=some .cell\/X.env.kindOf x=some .free
 len:lk.length=N'.length
 link:∀(i j:Nat),lk[i]?=some (some j)->∃x,N'[i]?=some x/\X.N[j]?=some x/\(x,Yz)∈scope.names/\scope.names.lookup x=some .free
def gc (outer:List (Str×aas))(N:List Str)(scope:aaa)(N':List Str)(lk:List (Option Nat)):Bool :=
 (scope.kind==.function)&&scope.names.all (λx=>x.2 != .cell&&(x.2 != .local || scope.names.lookup x.1==some .local)&&(x.2 != .free || outer.lookup x.1==some .cell || outer.lookup x.1==some .free)) &&
 lk.length==N'.length&&(XD lk.length).all λi=>match lk[i]? with
  |some (some j)=>match N'[i]? with
   |some x=>N[j]?==some x&&scope.names.contains (x,.free)&&scope.names.lookup x==some .free
   |none=>false
  |_=>true
theorem Links.of {X:Cx}{scope:aaa}{N':List Str}{lk:List (Option Nat)}(h:gc X.env.scope.names X.N scope N' lk=true):Links X scope N' lk:=by
 simp only[gc,Yn]at h;obtain⟨⟨⟨h1,h2⟩,h3⟩,h4⟩:=h;rw[ZH]at h2 h4;refine⟨by simpa using h1,λx hx=>?_,λx hx hl=>?_,λx hx=>?_,by simpa using h3,λi j aJ=>?_⟩
 ·have:=h2 x hx;simp only[Yn]at this;simpa using this.1.1
 ·have:=h2 x hx;simp only[Yn]at this;have q:=this.1.2;rw[hl]at q;simpa using q
 ·have:=h2 _ hx;simp only[Yn]at this;have q:=this.2;simp only[Bool.or_eq_true]at q;rcases q with (q|q)|q
  ·simp at q
  ·exact .inl (show X.env.scope.names.lookup x=some .cell by simpa using q)
  ·exact .inr (show X.env.scope.names.lookup x=some .free by simpa using q)
 ·have hi:i<lk.length:=(XI.mp aJ).1;have q:=h4 i (YV.mpr hi);rw[aJ]at q;simp only at q;cases e:N'[i]? with
  |none=>rw[e]at q;simp at q
  |some x =>
   rw[e]at q;simp only[Yn]at q;obtain⟨⟨q1,q2⟩,q3⟩:=q;exact⟨x,rfl,by simpa using q1,by simpa using q2,by simpa using q3⟩
def da (lk:List (Option Nat))(σ:St):St:=lk.map λl=>match l with|some j=>(match σ[j]? with|some v=>v|none=>none)|none=>none
theorem dy {env:Env}:∀{names:List (Str×aas)} {x:Str},names.lookup x=some .free ->
  (names.map λ(n,k)=>if (k==Yz&&env.scope.kind==.function&&env.kindOf n==some .cell) then (n,aab) else (n,k)).lookup x=some .cell \/
  (names.map λ(n,k)=>if (k==Yz&&env.scope.kind==.function&&env.kindOf n==some .cell) then (n,aab) else (n,k)).lookup x=some .free
 |[],_,h=>by simp at h
 | (n,k)::r,x,h=>by
  have ih:=@dy env r x;show List.lookup x ((if (k==Yz&&env.scope.kind==.function&&env.kindOf n==some .cell)=true then (n,aab) else (n,k))::_)=_ \/
   List.lookup x ((if (k==Yz&&env.scope.kind==.function&&env.kindOf n==some .cell)=true then (n,aab) else (n,k))::_)=_
  cases hx:x==n with
  |true =>
   simp only[Y3,hx]at h;cases h
   by_cases hc:(Yz==Yz&&env.scope.kind==.function&&env.kindOf n==some .cell)=true
   ·rw[if_pos hc];left;simp[Y3,hx]
   ·rw[if_neg hc];right;simp[Y3,hx]
  |false =>
   simp only[Y3,hx]at h
   by_cases hc:(k==Yz&&env.scope.kind==.function&&env.kindOf n==some .cell)=true
   ·rw[if_pos hc];simp only[Y3,hx];exact ih h
   ·rw[if_neg hc];simp only[Y3,hx];exact ih h
theorem du {env:Env}:∀{names:List (Str×aas)} {x:Str} {k:aas},(k=.cell\/k=.free)->(∀y∈names,y.2≠.cell) ->
  (names.map λ(n,k)=>if (k==Yz&&env.scope.kind==.function&&env.kindOf n==some .cell) then (n,aab) else (n,k)).lookup x=some k->(x,Yz)∈names
 |[],_,_,_,_,h=>by simp at h
 | (n,k')::r,x,k,hk,hc,h=>by
  have ih:=@du env r x k hk (λy hy=>hc y (XR _ hy));have h':List.lookup x ((if (k'==Yz&&env.scope.kind==.function&&env.kindOf n==some .cell)=true then (n,aab) else (n,k'))::(r.map λ(n,k)=>if (k==Yz&&env.scope.kind==.function&&env.kindOf n==some .cell) then (n,aab) else (n,k)))=some k:=h
  have GG:=hc (n,k') (XN ..)
  by_cases Fh:(k'==Yz&&env.scope.kind==.function&&env.kindOf n==some .cell)=true
  ·rw[if_pos Fh]at h';simp only[Yn,beq_iff_eq]at Fh;cases hx:x==n with
   |true=>rw[eq_of_beq hx,Fh.1.1];exact XN ..
   |false=>rw[Y3,hx]at h';exact XR _ (ih h')
  ·rw[if_neg Fh]at h';cases hx:x==n with
   |true =>
    rw[Y3,hx]at h';have e:k'=k:=by simpa using h'
    subst e;rcases hk with hk|hk
    ·exact absurd hk GG
    ·rw[eq_of_beq hx,hk];exact XN ..
   |false=>rw[Y3,hx]at h';exact XR _ (ih h')
section
variable {X:Cx}{pins:List (Addr×Obj)}{σ:St}{H:Hp}{s:Xw}{scope:aaa}{N':List Str}{lk:List (Option Nat)}{cl:List (Str×Addr)}{ex:List Addr}
theorem BR {h':Heap}{t':Nat}(I:Inv X pins σ H s)(L:Links X scope N' lk)(hex:∀b∈ex,gw X pins H b)(Q6:∀b∈ex,∃o,s.heap.get? b=some o)
  (nQ:∀x,(x,Yz)∈scope.names->∃c,cl.lookup x=some c) (nP:∀x c,cl.lookup x=some c->X.env.cells.lookup x=some c)
  (hn:h'.Ns s.heap.objs.size (λ_=>none)) (hk:∀b o,s.heap.get? b=some o->h'.get? b=some o) :
  Inv (aA X scope N' cl s.heap.objs.size s H ex) [] (da lk σ) H {s with heap:=h',toks:=t'}:=by
 obtain⟨m,hm,hl⟩:=I.loc;have Wj:∀b∈ex,b≠s.heap.objs.size:=λb hb=>by
  obtain⟨o,e⟩:=Q6 b hb;exact Yc (XU e)
 refine⟨⟨I.ok.mod,L.kind,I.ok.glob,I.ok.blt,Xx _,λx y c h1 h2=>I.ok.inj x y c (nP _ _ h1) (nP _ _ h2),λx hx=>?_,λx c z=>(nomatch z),I.ok.hd,I.ok.frames,.inl rfl,
  λb hb=>⟨Wj b hb,λx c e=>(hex b hb).2.2.2.2.1 x c (nP _ _ e)⟩,I.bs,Ym I.ok.G1 I.sz,λb o e z=>?_,λb hb z=>?_,I.stack,I.wm⟩,
  rfl,I.bare,Un.kept hk,⟨_,hn,λi x v h1 h2 h3=>?_⟩,λx c e=>?_,I.bt.fresh (Xx _),λx c e=>I.g_ x c (nP _ _ e),λp hp=>absurd (show p∈([]:List (Addr×Obj)) from hp) (by simp),I.bt.kept hk,?_⟩
 ·have Dn:(relabel scope X.env).names.lookup x=some .cell\/(relabel scope X.env).names.lookup x=some .free:=hx;rcases Dn with q|q
  ·exact nQ x (du (.inl rfl) L.ve q)
  ·exact nQ x (du (.inr rfl) L.ve q)
 ·obtain⟨f0,f1,f2,f3,_⟩:=hex b z;rcases f3 with q|q
  ·exact I.ok.Bv b o e q
  ·have h1:=XU e;have h2:=I.ok.G1;exact absurd (Yi h1 (Ym h2 q)) (aar _)
 ·obtain⟨f0,f1,f2,f3,_⟩:=hex b hb;rcases Xy.mp (I.uO b z)with q|q
  ·exact f1 q
  ·exact f2 q
 ·have hi:∃j,lk[i]?=some (some j)/\σ[j]?=some (some v):=by
   have Ce:(da lk σ)[i]?=some (some v):=h2;unfold da at Ce;rw[XM]at Ce;cases e:lk[i]? with
   |none=>rw[e]at Ce;cases Ce
   |some l =>
    cases l with
    |none=>rw[e]at Ce;cases Ce
    |some j =>
     rw[e]at Ce;cases e2:σ[j]? with
     |none=>simp[e2]at Ce
     |some w' =>
      simp only[Option.map_some,e2,Option.some.injEq]at Ce;subst Ce;exact⟨j,rfl,e2⟩
  obtain⟨j,hj,hσ⟩:=hi;obtain⟨y,e1,e2,e3,e4⟩:=L.link i j hj;have Wi:x=y:=by
   have Fn:N'[i]?=some x:=h1;rw[e1]at Fn;exact(Yg Fn).symm
  subst Wi;have Qx:vW X.env.scope x:=by
   rcases L.free x e3 with q|q
   ·exact .inr (.inl q)
   ·exact .inr (.inr q)
  obtain⟨u,ru,lu⟩:=hl j x v e2 hσ Qx;refine⟨u,ru,.inr ⟨?_,?_⟩⟩
  ·exact dy e4
  ·rcases lu with⟨k,_⟩|⟨_,c,hc,z⟩
   ·rcases L.free x e3 with q|q <;> (rw[k]at q;cases q)
   ·obtain⟨c',pC⟩:=nQ x e3;have:=nP x c' pC;rw[hc]at this;cases this;obtain⟨o,ho,hd⟩:=z;exact⟨c,pC,o,hk _ _ ho,hd⟩
 ·obtain⟨v,o,ho,hd⟩:=I.cell x c (nP _ _ e);exact⟨v,o,hk _ _ ho,hd⟩
 ·show (da lk σ).length=N'.length;unfold da;rw[Xu,L.len]
theorem BS {s':Xw}{σ':St}{H':Hp}{pl:List (Addr×Obj)}{C:Addr}{h'':Heap}(I:Inv X pins σ H s)(hex:∀b∈ex,gw X pins H b)
  (J:Inv (aA X scope N' cl s.heap.objs.size s H ex) pl σ' H' s') (hs:Zh s.heap.objs.size s'.heap h''):Inv X pins σ H' {s' with heap:=h''}:=by
 have hC:H' s.heap.objs.size=none:=J.free;have u:=J.base;refine I.NT (ch:=ex) (s':={s' with heap:=h''}) J.os ?_ ?_ J.bare (λb hb=>?_)
 ·have kk:∀b o,b≠s.heap.objs.size->s'.heap.get? b=some o->h''.get? b=some o:=λb o hb e=>(hs.2 b hb).trans e;have ne:∀b o,s.heap.get? b=some o->b≠s.heap.objs.size:=λb o e=>Yc (XU e);refine⟨λb o e n hb hx=>kk b _ (ne b o e) (u.keep b o e n hb hx),λb o e n hb hx=>?_,u.free,λb o e hx=>?_,u.p_,u.nU,u.qa⟩
  ·obtain⟨sl,q⟩:=u.slot b o e n hb hx;exact⟨sl,kk b _ (ne b o e) q⟩
  ·obtain⟨o',q⟩:=u.there b o e hx;exact⟨o',kk b _ (ne b o e) q⟩
 ·intro b o e;have hb:b≠s.heap.objs.size:=λz=>by rw[z]at e;rw[hC]at e;cases e
  refine(J.bt b o e).rF (λc v hc q=>(hs.2 c ?_).trans q) (λ_ q=>q) λ_ _ q=>q;rcases hc with z|z
  ·rw[z];exact hb
  ·intro z';rw[z']at z;rw[hC]at z;cases z
 ·obtain⟨f0,f1,f2,f3,f4,f5⟩:=hex b hb;exact⟨f3,f1,f4,f5⟩
end
def lK (g:aad)(after:Sem Fin->Sem Fin)(e:Expr)(d:Nat)(it acc:Xv)(env:Env):Sem Fin:=do
 aaL g.iter.pos
 match <- aaE it with
 |none=>pure (.done .next)
 |some v =>
  letOwnedTupleGo g.target it v
  assign g.target env v
  let mut ok:=true
  for c in g.ifs do
   if ok then ok <- isTrue c env (eval c env)
  if ok then after (again (.compLoop e d it acc env)) else again (.compLoop e d it acc env)
def qD (e:Expr)(d:Nat)(g':aad)(acc:Xv)(env:Env)(k:Sem Fin):Sem Fin:=do
 let x <- eval g'.iter env
 aaL g'.iter.pos
 let x <- Yy g'.iter env x
 let _ <- runOwn (.compStart e (d+1) (<- holding [x] (pyIter x)) acc env) env
 k
def lN (t:Sem Unit)(k:Sem Fin):Sem Fin:=do
 t
 k
def xt (elt:Expr)(acc:Xv)(env:Env):Sem Unit:=do let _ <- call (.builtin "list.append") [acc,<- eval elt env]
def CB (k v:Expr)(acc:Xv)(env:Env):Sem Unit:=do
    let kv <- eval k env
    let vv <- holding [kv] (eval v env)
    match acc with
    |.ref d=>do
     aaL {k.pos with endLine:=v.pos.endLine,endCol:=v.pos.endCol}
     holding [kv,vv] (dictSet d kv vv)
    |_=>unsupported "internal:dictcomp"
structure h_ (e:Expr)(d:Nat)(g:aad)(acc:Xv)(env:Env)(after:Sem Fin->Sem Fin):Prop where
 turn:∀it,compTurn e d it acc env=lK g after e d it acc env
 cl:(clausesOf e)[d]?=some g
 sync:g.is_async=0
 quiet:∀it,(aaQ e d it acc env).quiet=true
 under:∀(A:Yv) it,A.under (aaQ e d it acc env)=A
 Hr:∀(A:Yv) it,A.under (Code.compStart e d it acc env)=A
 Iz:∀it,(aaQ e d it acc env).isFrame=false
 LP:∀it,(Code.compStart e d it acc env).isFrame=false
section
variable {elt tg Ae cj nM k v:Expr}{ifs nN:List Expr}{sc:aaa}{pos:Pos}{acc:Xv}{env:Env}
theorem xF:h_ (.ListComp elt [⟨tg,cj,ifs,0⟩] sc pos) 0 ⟨tg,cj,ifs,0⟩ acc env (lN (xt elt acc env)) :=
 ⟨λ_=>rfl,rfl,rfl,λ_=>rfl,λ_ _=>rfl,λ_ _=>rfl,λ_=>rfl,λ_=>rfl⟩
theorem NR:h_ (.DictComp k v [⟨tg,cj,ifs,0⟩] sc pos) 0 ⟨tg,cj,ifs,0⟩ acc env (lN (CB k v acc env)) :=
 ⟨λ_=>rfl,rfl,rfl,λ_=>rfl,λ_ _=>rfl,λ_ _=>rfl,λ_=>rfl,λ_=>rfl⟩
theorem J7:h_ (.ListComp elt [⟨tg,cj,ifs,0⟩,⟨Ae,nM,nN,0⟩] sc pos) 0 ⟨tg,cj,ifs,0⟩ acc env (qD (.ListComp elt [⟨tg,cj,ifs,0⟩,⟨Ae,nM,nN,0⟩] sc pos) 0 ⟨Ae,nM,nN,0⟩ acc env) :=
 ⟨λ_=>rfl,rfl,rfl,λ_=>rfl,λ_ _=>rfl,λ_ _=>rfl,λ_=>rfl,λ_=>rfl⟩
theorem J6:h_ (.ListComp elt [⟨tg,cj,ifs,0⟩,⟨Ae,nM,nN,0⟩] sc pos) 1 ⟨Ae,nM,nN,0⟩ acc env (lN (xt elt acc env)) :=
 ⟨λ_=>rfl,rfl,rfl,λ_=>rfl,λ_ _=>rfl,λ_ _=>rfl,λ_=>rfl,λ_=>rfl⟩
end
def KZ:TT:=λ_ H Q=>Q true H
def uk (X:Cx)(ifs:List Expr)(t:TT):Prop :=
 ∀(pins:List (Addr×Obj)) (s:Xw) (σ:St) (H:Hp) (Q:Bool->Hp->Prop),Inv X pins σ H s->t σ H Q ->
  X4 (model X.prog X.w) X.A (forIn ifs true λc r=>if r=true then do let ok <- isTrue c X.env (eval c X.env);pure (ForInStep.yield ok) else pure (ForInStep.yield r)) (TP X pins σ Q) X.xe s
theorem Ef {X:Cx}:uk X [] KZ:=λ_ _ _ H _ I h=>wpAny_tests_nil ⟨H,I,h⟩
theorem Ee {X:Cx}{c:Expr}{t:TT}(h:PT X c t):uk X [c] t:=λpins s σ H Q I q=>wpAny_tests_one (h pins s σ H Q I q)
abbrev nu:=(St->Hp->Prop)->St->Hp->Prop
def qX (X:Cx)(after:Sem Fin->Sem Fin)(t:nu):Prop :=
 ∀(pins:List (Addr×Obj)) (s:Xw) (σ:St) (H:Hp) (N:St->Hp->Prop) (k:Sem Fin) (Q:Fin->Xw->Prop) (E:Xv->Xw->Prop),Inv X pins σ H s->t N σ H ->
  (∀σ' H' s',Inv X pins σ' H' s'->N σ' H'->X4 (model X.prog X.w) X.A k Q E s')->X4 (model X.prog X.w) X.A (after k) Q E s
theorem eI {X:Cx}(hx:X.xe=λ_ _=>False){α:Type}{t:Sem α}{Q:α->Xw->Prop}{E:Xv->Xw->Prop}{s:Xw}(h:X4 (model X.prog X.w) X.A t Q X.xe s):X4 (model X.prog X.w) X.A t Q E s :=
 aaD h (λ_ _ q=>q) λe s q=>by rw[hx]at q;exact q.elim
def fG (J:It)(g:TG)(tt:TT)(ta:nu)(End:St->Hp->Prop):St->Hp->Prop:=λσ H =>
 ∃W:Nat->Nat->St->Hp->Prop,(∃m,W 0 m σ H)/\∀i m σ H,W i m σ H->(J.stop i H/\End σ H) \/
  (J.go i H/\∃N:St->Hp->Prop,(∀σ' H',N σ' H'->∃m',m'<m/\W (i+1) m' σ' H')/\∀x H',J.KR i H x H'->g x σ H' λσ2 H2=>tt σ2 H2 λb H3=>if b=true then ta N σ2 H3 else N σ2 H3)
section
variable {X:Cx}{e:Expr}{d:Nat}{g:aad}{acc:Xv}{after:Sem Fin->Sem Fin}{tg:TG}{tt:TT}{ta:nu}
theorem ze (hx:X.xe=λ_ _=>False)(hc:X.calm=true)(F:h_ e d g acc X.env after)(hg:PG X g.target tg)(ht:uk X g.ifs tt)(ha:qX X after ta)
  {it:Addr} {fp:List Addr} {tn:Nat->Heap->Prop} {J:It} (T:Turn X.prog X.w X.K g.target J fp it tn) {pins:List (Addr×Obj)} {σ:St} {H:Hp} {s:Xw} {End:St->Hp->Prop}
  (I:Inv X pins σ H s) (st:tn 0 s.heap) (hf:∀b∈fp,gw X pins H b) (h:fG J tg tt ta End σ H) :
  aaM (model X.prog X.w) X.A (.compLoop e d (.ref it) acc X.env) (λr s'=>r=.ok .next/\∃σ' H',Inv X pins σ' H' s'/\End σ' H') s:=by
 obtain⟨W,⟨m0,w0⟩,turn⟩:=h;have uP:∀{H':Hp},(∀b∈fp,H' b=none)->∀b∈fp,gw X pins H' b:=λhn b hb=>⟨hn b hb,(hf b hb).2⟩;refine codeAny_loop (F.quiet _) (λn s'=>∃i σ' H',Inv X pins σ' H' s'/\tn i s'.heap/\(∀b∈fp,H' b=none)/\W i n σ' H') (λn s3 hI=>?_) m0 ⟨0,σ,H,I,st,λb hb=>(hf b hb).1,w0⟩;obtain⟨i,σ3,H3,I3,lP,Nw,w3⟩:=hI;rw[F.under];have JK:(model X.prog X.w).den (.compLoop e d (.ref it) acc X.env)=(lK g after e d (.ref it) acc X.env).onRaise (λx=>do noteFrame x X.env;theTreesLotGoes x):=by
  rw[<- F.turn];show (if (aaQ e d (.ref it) acc X.env).isFrame then _ else _)=_
  rw[F.Iz];rfl
 rw[JK];refine wpAny_noted ?_;unfold lK;rcases turn i n σ3 H3 w3 with⟨stop,qn⟩|⟨go,N,hN,step⟩
 ·refine Xs (ZR (Xs (bF (T.done X rfl rfl rfl hc i pins s3 σ3 H3 _ I3 (uP Nw) lP stop) λr s4 ⟨hr,I4⟩=>?_)));subst hr;exact XB ⟨rfl,σ3,H3,I4,qn⟩
 ·refine Xs (ZR (Xs (bF (T.item X rfl rfl rfl hc i pins s3 σ3 H3 _ I3 (uP Nw) lP go) λr s4 ⟨u,hr,h4⟩=>?_)));subst hr;refine Xs (bF h4 λ_ s5 ⟨x,H5,I5,r5,y5,Dg,RY⟩=>?_);have Sz:=I5.pinned (uP RY) (T.obj _ _ Dg);refine Xs (bF (eI hx (hg _ s5 σ3 H5 x u _ Sz r5 (step x H5 y5))) λ_ s6 ⟨σ6,H6,I6,q6⟩=>?_);refine Xs (bF (eI hx (ht _ s6 σ6 H6 _ I6 q6)) λok s7 ⟨H7,I7,q7⟩=>?_);have C5:∀{σ8:St} {H8:Hp} {s8:Xw},Inv X (pins++l8 fp s5.heap) σ8 H8 s8->N σ8 H8->∃m,m<n/\∃i σ' H',Inv X pins σ' H' s8/\tn i s8.heap/\(∀b∈fp,H' b=none)/\W i m σ' H':=λ{σ8 H8 s8} I8 n8=>by
   obtain⟨m',hm,w8⟩:=hN σ8 H8 n8;refine⟨m',hm,i+1,σ8,H8,I8.iQ,T.keep _ _ _ Dg λb hb o e=>(I8.pin (b,o) (Yk _ (Yk _ (fz hb e)))).1,λb hb=>?_,w8⟩;obtain⟨o,e,d⟩:=T.obj _ _ Dg b hb;exact(I8.pin (b,o) (Yk _ (Yk _ (fz hb e)))).2.1
  cases ok with
  |false=>exact XB ⟨rfl,C5 I7 (by simpa using q7)⟩
  |true =>
   exact ha _ s7 σ6 H7 N _ _ _ I7 (by simpa using q7) λσ8 H8 s8 I8 n8=>XB ⟨rfl,C5 I8 n8⟩
theorem ng (hx:X.xe=λ_ _=>False)(hc:X.calm=true)(F:h_ e d g acc X.env after)(hg:PG X g.target tg)(ht:uk X g.ifs tt)(ha:qX X after ta)
  {it:Addr} {fp:List Addr} {tn:Nat->Heap->Prop} {J:It} (T:Turn X.prog X.w X.K g.target J fp it tn) {pins:List (Addr×Obj)} {σ:St} {H:Hp} {s:Xw} {End:St->Hp->Prop}
  (I:Inv X pins σ H s) (st:tn 0 s.heap) (hf:∀b∈fp,gw X pins H b) (h:fG J tg tt ta End σ H) :
  aaM (model X.prog X.w) X.A (.compStart e d (.ref it) acc X.env) (λr s'=>r=.ok .next/\∃σ' H',Inv X pins σ' H' s'/\End σ' H') s:=by
 have lp:=ze hx hc F hg ht ha T I st hf h;refine codeAny_of_tree ?_;rw[F.Hr];have JK:(model X.prog X.w).den (.compStart e d (.ref it) acc X.env)=(compStart e d (.ref it) acc X.env).onRaise (λx=>do noteFrame x X.env;aaL theWindowsPlace):=by
  show (if (Code.compStart e d (.ref it) acc X.env).isFrame then _ else _)=_
  rw[F.LP];rfl
 rw[JK];refine wpAny_notedAt ?_;unfold compStart;rw[F.cl];simp only[Option.elim_some,F.sync];show X4 _ _ (ask >>= _) _ _ s;refine Xs (aaU (wpAny_ite ?_))
 split
 ·first
   |exact Xs (XB (XB (And.intro (F.quiet _) lp)))
   |exact XB (And.intro (F.quiet _) lp)
 ·have h2:∀(E:Xv->Xw->Prop),X4 (model X.prog X.w) X.A (pyIter (.ref it)) (λOx s'=>(aaQ e d Ox acc X.env).quiet=true/\aaM (model X.prog X.w) X.A (.compLoop e d Ox acc X.env) (λr s'=>r=.ok .next/\∃σ' H',Inv X pins σ' H' s'/\End σ' H') s') E s :=
   λE=>T.self X.A 0 s _ E st ⟨F.quiet _,lp⟩
  first
   |exact Xs (ZK (Xs (ZR (Xs (aaD (h2 _) (λOx s' h'=>XB h') λ_ _ x=>x)))))
   | (refine Xs (ZK ?_);exact Xs (ZR (Xs (aaD (h2 _) (λOx s' h'=>XB h') λ_ _ x=>x))))
theorem En {g':aad}{wi:TI}(hx:X.xe=λ_ _=>False)(hc:X.calm=true)(F:h_ e (d+1) g' acc X.env after)(hi:PI X g'.target g'.iter wi)(hg:PG X g'.target tg)(ht:uk X g'.ifs tt)(ha:qX X after ta)
  (hs:∀x,Yy g'.iter X.env x=pure x:=by intro _;rfl) :
  qX X (qD e d g' acc X.env) (λN σ H=>wi σ H λJ H1=>fG J tg tt ta N σ H1):=by
 intro pins s σ H N k Q E I h hk;unfold qD;refine Xs (bF (eI hx (hi pins s σ H _ I h)) λx s1 h1=>?_);refine Xs (ZR (Xs (wpAny_of_eq (hs x) ?_)));refine Xs (Y0 (bF (eI hx h1) λGv s2 h2=>?_));obtain⟨it,fp,tn,J,H2,e1,I2,T,fH,f2,hl⟩:=h2;subst e1;refine Xs (wpAny_runOwn (aal (ng hx hc F hg ht ha T I2 fH f2 hl) λr s' hr=>?_));obtain⟨rfl,σ',H',I',q⟩:=hr;exact hk σ' H' s' I' q
theorem f6 {elt:Expr}{te:TE}{a:Addr}(hx:X.xe=λ_ _=>False)(he:PE X elt te):
  qX X (lN (xt elt (.ref a) X.env)) (λN σ H=>te σ H λv H1=>∃xs,H1 a=some (.lst xs)/\xs.length<XO/\N σ (upd H1 a (.lst (xs++[v])))):=by
 intro pins s σ H N k Q E I h hk;unfold lN xt;refine Xs (Xs (bF (eI hx (he pins s σ H _ I h)) λu s1 ⟨v,H1,I1,r1,xs,hH,hz,q⟩=>?_));refine Xs (bF (eI hx <| jN (X:=X) pins s1 σ H1 (.ref a) [v] (.ref a) [u] (λw' H'=>N σ H') I1 rfl (.cons r1 .nil) ⟨a,xs,v,rfl,rfl,hH,hz,q⟩) λ_ s2 ⟨_,H2,I2,_,q2⟩=>?_)
 exact XB (hk σ H2 s2 I2 q2)
end
section
variable {X:Cx}{e:Expr}
structure ny (X:Cx)(eU:Sem Xv)(o:HO):Prop where
 ok:∀(pins:List (Addr×Obj)) (s:Xw) (σ:St) (H:Hp) (Q:Xv->Xw->Prop) (E:Xv->Xw->Prop),Inv X pins σ H s ->
  (∀a s',s.heap.objs.size<=a->H a=none->(∀b o,s.heap.get? b=some o->s'.heap.get? b=some o)->Inv X pins σ (upd H a o) s'->Q (.ref a) s')->X4 (model X.prog X.w) X.A eU Q E s
theorem f7:ny X (newList []) (.lst []) :=
 ⟨λpins s σ H Q E I h=>Zx (h _ _ (Xx _) I.fresh (λb o e=>XA _ e) (I.IL (its:=[]) (t':=s.toks) .nil (XG _)))⟩
theorem Inv.sameBut {pins:List (Addr×Obj)}{σ:St}{H:Hp}{s:Xw}{C:Addr}{h':Heap}(I:Inv X pins σ H s)(f:gw X pins H C)(hs:Zh C s.heap h'):Inv X pins σ H {s with heap:=h'}:=by
 obtain⟨f0,f1,f2,f3,f4,f5⟩:=f;exact I.turned (t':=s.toks) (λb o hb e=>(hs.2 b hb).trans e) f0 f1 f3 f4 f5
end
end L2
namespace ST
open PySem PySem.SetTable
def it:Nat->Nat->Nat
 |0,x=>x
 |n+1,x=>5*it n x+1
theorem vw (a:Nat):∀(b x:Nat),it (a+b) x=it b (it a x)
 |0,x=>rfl
 |b+1,x=>by
  show 5*it (a+b) x+1=5*it b (it a x)+1;rw[vw a b x]
theorem BO:∀j:Nat,∃a b:Nat,∀x,it (2 ^ j) x=(1+4*2 ^ j*a)*x+2 ^ j*(1+2*b)
 |0=>⟨1,0,λx=>by show 5*x+1=_;simp⟩
 |j+1=>by
  obtain⟨a,b,h⟩:=BO j;refine⟨a+2*2 ^ j*a*a,b+2 ^ j*a*(1+2*b),λx=>?_⟩;rw[show 2 ^ (j+1)=2 ^ j+2 ^ j by rw[aaC];lia,vw,h,h]
  generalize 2 ^ j=P
  grind
theorem lift:∀(j x t:Nat),∃k,k<2 ^ j/\it k x % 2 ^ j=t % 2 ^ j
 |0,x,t=>⟨0,by decide,by rw[Nat.pow_zero,Nat.mod_one,Nat.mod_one]⟩
 |j+1,x,t=>by
  obtain⟨k,hk,e⟩:=lift j x t;obtain⟨a,b,h⟩:=BO j;have hP:0<2 ^ j:=Nat.pow_pos (by decide)
  rw[aaC]
  by_cases q:it k x % (2 ^ j*2)=t % (2 ^ j*2)
  ·exact⟨k,by lia,q⟩
  ·refine⟨k+2 ^ j,by lia,?_⟩
   rw[vw,h];generalize it k x=y at *
   generalize 2 ^ j=P at *
   have e1:((1+4*P*a)*y+P*(1+2*b))=(y+P)+(P*2)*(2*a*y+b):=by grind
   rw[e1,Nat.add_mul_mod_self_left,Nat.mod_mul,Nat.mod_mul];rw[Nat.mod_mul,Nat.mod_mul,e]at q;rw[Nat.add_mod_right,Nat.add_div_right _ hP,e];have u1:y / P % 2<2:=aaF _ (by decide)
   have u2:t / P % 2<2:=aaF _ (by decide)
   have u3:y / P % 2≠t / P % 2:=λz=>q (by rw[z])
   have u4:(y / P).succ % 2=t / P % 2:=by lia
   rw[u4]
def de (m:Nat)(p:Probe):Probe:=advance {mask:=m,place:=#[],dummies:=#[],finger:=0,led:=true,moves:=0,plain:=true} p
def Ph (m:Nat)(h:Int):Probe:=probeStart {mask:=m,place:=#[],dummies:=#[],finger:=0,led:=true,moves:=0,plain:=true} h
theorem HD (t:SetTable)(h:Int):probeStart t h=Ph t.mask h:=rfl
def fT (m:Nat)(h:Int):Nat->Probe
 |0=>Ph m h
 |n+1=>de m (fT m h n)
def cH (m:Nat)(h:Int)(n:Nat):Nat:=(fT m h n).j
def lp (m:Nat)(h:Int):Nat->Nat×Nat
 |0=>(bits h % (m+1),bits h)
 |k+1=>leap m (lp m h k).1 (lp m h k).2
def KJ (m:Nat)(x:Nat×Nat):Probe:={j:=x.1,more:=runEnd m x.1-x.1,i:=x.1,perturb:=x.2,dummy:=none}
theorem HN (m i:Nat):runEnd m i-i<=9:=by
 unfold runEnd
 split <;> lia
theorem vz (m:Nat)(h:Int)(x:Nat×Nat)(n:Nat)(e:fT m h n=KJ m x):∀d,d<=runEnd m x.1-x.1->fT m h (n+d)={KJ m x with j:=x.1+d,more:=runEnd m x.1-x.1-d}
 |0,_=>by rw[Nat.add_zero,e];rfl
 |d+1,hd=>by
  show de m (fT m h (n+d))=_;rw[vz m h x n e d (by lia)]
  unfold de advance;rw[if_pos (by show runEnd m x.1-x.1-d>0;lia)]
  rfl
theorem uc (m:Nat)(h:Int)(x:Nat×Nat)(n:Nat)(e:fT m h n=KJ m x):fT m h (n+(runEnd m x.1-x.1)+1)=KJ m (leap m x.1 x.2):=by
 show de m (fT m h (n+(runEnd m x.1-x.1)))=_;rw[vz m h x n e _ (Xx _)];unfold de advance;rw[if_neg (by show ¬ runEnd m x.1-x.1-(runEnd m x.1-x.1)>0;lia)]
 rfl
theorem CZ (m:Nat)(h:Int):∀k,∃n,n<=10*k/\fT m h n=KJ m (lp m h k)
 |0=>⟨0,Xx _,rfl⟩
 |k+1=>by
  obtain⟨n,h1,h2⟩:=CZ m h k;refine⟨n+(runEnd m (lp m h k).1-(lp m h k).1)+1,?_,uc m h _ n h2⟩;have:=HN m (lp m h k).1;lia
theorem BC (m:Nat)(h:Int):∀k,(lp m h k).2=bits h / 32 ^ k
 |0=>by rw[Nat.pow_zero,Nat.div_one];rfl
 |k+1=>by
  show (lp m h k).2 / 32=_;rw[BC m h k,Nat.div_div_eq_div_mul,aaC]
theorem FV (h:Int):bits h<2 ^ 64:=by
 unfold bits;have h1:=Int.emod_lt_of_pos h (show (0:Int)<2 ^ 64 by decide)
 have h2:=Int.emod_nonneg h (show (2 ^ 64:Int)≠0 by decide)
 lia
theorem EX (m:Nat)(h:Int){k:Nat}(hk:13<=k):(lp m h k).2=0:=by
 rw[BC];refine Nat.div_eq_of_lt (Yi (FV h) ?_);have:32 ^ 13<=32 ^ k:=Zz (by decide) hk
 exact Ym (by decide) this
theorem Gn {j:Nat}(h:Int):∀d,(lp (2 ^ j-1) h (13+d)).1=it d (lp (2 ^ j-1) h 13).1 % 2 ^ j:=by
 have hP:2 ^ j-1+1=2 ^ j:=by have:0<2 ^ j:=Nat.pow_pos (by decide);lia
 have lt:∀k,(lp (2 ^ j-1) h k).1<2 ^ j:=λk=>by
  cases k with
  |zero=>show bits h % (2 ^ j-1+1)<_;rw[hP];exact aaF _ (by lia)
  |succ k=>show (_*5+1+_ / 32) % (2 ^ j-1+1)<_;rw[hP];exact aaF _ (by lia)
 intro d
 induction d with
 |zero=>exact(Nat.mod_eq_of_lt (lt 13)).symm
 |succ d ih =>
  show ((lp (2 ^ j-1) h (13+d)).1*5+1+(lp (2 ^ j-1) h (13+d)).2 / 32) % (2 ^ j-1+1)=(5*it d _+1) % 2 ^ j;rw[hP,EX _ h (by lia),ih,Nat.zero_div,Nat.add_zero,Nat.mul_comm]
  conv=>rhs;rw[Nat.add_mod,Nat.mul_mod]
  rw[Nat.add_mod,Nat.mul_mod,Nat.mod_mod]
theorem Ww (j:Nat)(h:Int){t:Nat}(ht:t<2 ^ j):∃n,n<10*turns (2 ^ j-1)/\cH (2 ^ j-1) h n=t:=by
 obtain⟨k,hk,e⟩:=lift j (lp (2 ^ j-1) h 13).1 t;obtain⟨n,h1,h2⟩:=CZ (2 ^ j-1) h (13+k);refine⟨n,by unfold turns;lia,?_⟩
 unfold cH;rw[h2];show (lp (2 ^ j-1) h (13+k)).1=t;rw[Gn,e,Nat.mod_eq_of_lt ht]
abbrev g (xs:Array Nat)(i:Nat):Nat:=xs.getD i 0
theorem vG {xs:Array Nat}{i:Nat}(h:i<xs.size):xs[i]?=some (g xs i):=by
 rw[getElem?_pos xs i h,g,X1,getElem?_pos xs i h];rfl
def G5 (xs:Array Nat):Prop:=∀i j,i<j->j<xs.size->g xs i<g xs j
theorem G5.inj {xs:Array Nat}(r:G5 xs){i j:Nat}(hi:i<xs.size)(hj:j<xs.size)(e:g xs i=g xs j):i=j:=by
 rcases Nat.lt_trichotomy i j with h|h|h
 ·have:=r i j h hj;lia
 ·exact h
 ·have:=r j i h hi;lia
theorem nr {xs:Array Nat}{j:Nat}(r:G5 xs):∀(f lo hi:Nat),hi<=xs.size->lo<=hi->hi-lo<=f->(∀k,k<lo->g xs k<j)->(∀k,hi<=k->k<xs.size->j<=g xs k) ->
  below.go xs j f lo hi<=xs.size/\(∀k,k<below.go xs j f lo hi->g xs k<j)/\(∀k,below.go xs j f lo hi<=k->k<xs.size->j<=g xs k)
 |0,lo,hi,h1,h2,h3,h4,h5=>by
  obtain rfl:lo=hi:=by omega
  exact⟨h1,h4,h5⟩
 |f+1,lo,hi,h1,h2,h3,h4,h5=>by
  unfold below.go
  by_cases hl:lo<hi
  ·rw[if_pos hl];dsimp only;have hm:(lo+hi) / 2<xs.size:=by omega
   have e:xs.getD ((lo+hi) / 2) j=g xs ((lo+hi) / 2):=by
    rw[g,X1,X1,getElem?_pos xs _ hm];rfl
   rw[e]
   by_cases hc:g xs ((lo+hi) / 2)<j
   ·rw[if_pos hc];refine nr r f _ _ h1 (by omega) (by omega) (λk hk=>?_) h5
    by_cases Rn:k=(lo+hi) / 2
    ·rw[Rn];exact hc
    ·have:=r k ((lo+hi) / 2) (by omega) hm;omega
   ·rw[if_neg hc];refine nr r f _ _ (by omega) (by omega) (by omega) h4 (λk hk GG=>?_)
    by_cases Rn:k=(lo+hi) / 2
    ·rw[Rn];omega
    ·have:=r ((lo+hi) / 2) k (by omega) GG;omega
  ·rw[if_neg hl];obtain rfl:lo=hi:=by omega
   exact⟨h1,h4,h5⟩
theorem fE {xs:Array Nat}(r:G5 xs)(j:Nat):below xs j<=xs.size/\(∀k,k<below xs j->g xs k<j)/\(∀k,below xs j<=k->k<xs.size->j<=g xs k) :=
 nr r xs.size 0 xs.size (Xx _) (XG _) (Xx _) (λk hk=>by lia) (λk h1 h2=>by lia)
theorem below_at {xs:Array Nat}(r:G5 xs){i:Nat}(hi:i<xs.size):below xs (g xs i)=i:=by
 obtain⟨h1,h2,h3⟩:=fE r (g xs i);rcases Nat.lt_trichotomy (below xs (g xs i)) i with h|h|h
 ·have:=h3 (below xs (g xs i)) (Xx _) (by omega)
  have:=r _ _ h hi;omega
 ·exact h
 ·have:=h2 i h;omega
def qY (t:SetTable)(x:Nat):Prop:=∃i,i<t.place.size/\g t.place i=x
theorem oH {t:SetTable}(r:G5 t.place){i:Nat}(hi:i<t.place.size):t.slot (g t.place i)=.live i:=by
 unfold slot;dsimp only;rw[below_at r hi,if_pos (by rw[vG hi];exact beq_self_eq_true _)]
theorem yc {t:SetTable}(r:G5 t.place)(d:t.dummies=#[]){x:Nat}(h:¬ qY t x):t.slot x=.empty:=by
 unfold slot;dsimp only;rw[if_neg ?_,if_neg ?_]
 ·rw[d];unfold has;simp
 ·intro q;have q:=eq_of_beq q;have hl:below t.place x<t.place.size:=by
   rcases YQ (below t.place x) t.place.size with z|z
   ·exact z
   ·rw[Zt z]at q;cases q
  rw[vG hl]at q;exact h ⟨_,hl,Yg q⟩
structure WF (t:SetTable)(hs:List Int):Prop where
 KA:t.dummies=#[]
 sz:t.place.size=hs.length
 ym:G5 t.place
 Um:∀i,i<t.place.size->g t.place i<=t.mask
 Gm:∃j,3<=j/\t.mask=2 ^ j-1
 room:t.place.size<=t.mask
 S4:∀i h,hs[i]?=some h->∃n,cH t.mask h n=g t.place i/\∀k,k<n->qY t (cH t.mask h k)
theorem least {p:Nat->Prop}[DecidablePred p]:∀n,p n->∃m,m<=n/\p m/\∀k,k<m->¬ p k:=by
 intro n
 induction n using Nat.strongRecOn with
 |_ n ih =>
  intro hn
  by_cases h:∃k,k<n/\p k
  ·obtain⟨k,hk,hp⟩:=h;obtain⟨m,h1,h2,h3⟩:=ih k hk hp;exact⟨m,by lia,h2,h3⟩
  ·exact⟨n,Xx _,hn,λk hk hp=>h ⟨k,hk,hp⟩⟩
instance (t:SetTable):DecidablePred (qY t):=λx=>decidable_of_iff (∃i,i<t.place.size/\g t.place i=x) Iff.rfl
theorem WF.hole {t:SetTable}{hs:List Int}(w:WF t hs):∃x,x<=t.mask/\¬ qY t x:=by
 refine Z9 λB7=>?_;have all:∀x,x<=t.mask->qY t x:=λx hx=>Z9 λq=>B7 ⟨x,hx,q⟩;have up:∀x,x<=t.mask->∃i,i<t.place.size/\g t.place i=x/\x<=i:=by
  intro x
  induction x with
  |zero =>
   intro hx;obtain⟨i,h1,h2⟩:=all 0 hx;exact⟨i,h1,h2,XG _⟩
  |succ x ih =>
   intro hx;obtain⟨i,h1,h2,h3⟩:=ih (by lia)
   obtain⟨i',h4,h5⟩:=all (x+1) hx;refine⟨i',h4,h5,?_⟩;rcases YQ i i' with q|q
   ·lia
   ·rcases YQ i' i with q2|q2
    ·have:=w.ym i' i q2 h1;lia
    ·obtain rfl:i=i':=by lia
     lia
 obtain⟨i,h1,h2,h3⟩:=up t.mask (Xx _);have:=w.room;lia
theorem WF.first {t:SetTable}{hs:List Int}(w:WF t hs)(h:Int):∃n,n<10*turns t.mask/\¬ qY t (cH t.mask h n)/\∀k,k<n->qY t (cH t.mask h k):=by
 obtain⟨x,hx,hf⟩:=w.hole;obtain⟨j,_,hj⟩:=w.Gm;have Dn:x<2 ^ j:=by have:0<2 ^ j:=Nat.pow_pos (by decide);lia
 obtain⟨n,h1,h2⟩:=Ww j h Dn;rw[<- hj]at h1 h2;obtain⟨m,g1,g2,g3⟩:=least (p:=λn=>¬ qY t (cH t.mask h n)) n (by rw[h2];exact hf)
 exact⟨m,by lia,g2,λk hk=>Z9 λq=>g3 k hk q⟩
theorem jJ (m:Nat)(h:Int):∀n,(fT m h n).dummy=none
 |0=>rfl
 |n+1=>by
  show (de m (fT m h n)).dummy=none;unfold de advance
  split
  ·exact jJ m h n
  ·exact jJ m h n
theorem rY {t:SetTable}{hs:List Int}(w:WF t hs)(ha:Nat->Int)(h:Int){N:Nat}(hN:¬ qY t (cH t.mask h N))(hO:∀k,k<N->qY t (cH t.mask h k)):∀(d n f:Nat),n+d=N->d<f ->
  (probe.go t ha h f (fT t.mask h n)=some (.empty (cH t.mask h N) none)/\∀k,n<=k->k<N->∀i,i<t.place.size->g t.place i=cH t.mask h k->ha i≠h) \/
  ∃m i,n<=m/\m<N/\i<t.place.size/\g t.place i=cH t.mask h m/\ha i=h/\probe.go t ha h f (fT t.mask h n)=some (.candidate (cH t.mask h m) i (fT t.mask h (m+1)))/\∀k,n<=k->k<m->∀i,i<t.place.size->g t.place i=cH t.mask h k->ha i≠h
 |0,n,f,e,hf=>by
  obtain rfl:n=N:=by lia
  obtain⟨f,rfl⟩:∃f',f=f'+1:=⟨f-1,by lia⟩
  refine .inl ⟨?_,λk h1 h2=>by lia⟩
  unfold probe.go;rw[show t.slot (fT t.mask h n).j=.empty from yc w.ym w.KA hN]
  dsimp only;rw[jJ];rfl
 |d+1,n,f,e,hf=>by
  obtain⟨f,rfl⟩:∃f',f=f'+1:=⟨f-1,by lia⟩
  obtain⟨i,hi,hg⟩:=hO n (by lia)
  have Ks:t.slot (fT t.mask h n).j=.live i:=by
   show t.slot (cH t.mask h n)=.live i;rw[<- hg];exact oH w.ym hi
  by_cases hh:ha i=h
  ·refine .inr ⟨n,i,Xx _,by lia,hi,hg,hh,?_,λk h1 h2=>by lia⟩
   unfold probe.go;rw[Ks];dsimp only;rw[if_pos (by rw[hh];exact beq_self_eq_true _)]
   rfl
  ·have st:probe.go t ha h (f+1) (fT t.mask h n)=probe.go t ha h f (fT t.mask h (n+1)):=by
    conv=>lhs;unfold probe.go
    rw[Ks];dsimp only;rw[if_neg (by simpa using hh)]
    rfl
   rw[st];have here:∀i',i'<t.place.size->g t.place i'=cH t.mask h n->ha i'≠h:=λi' h1 h2=>by
    rw[w.ym.inj h1 hi (h2.trans hg.symm)];exact hh
   rcases rY w ha h hN hO d (n+1) f (by lia) (by lia)with⟨q1,q2⟩|⟨m,i',q1,q2,q3,q4,q5,q6,q7⟩
   ·refine .inl ⟨q1,λk h1 h2=>?_⟩
    by_cases hk:k=n
    ·subst hk;exact here
    ·exact q2 k (by lia) h2
   ·refine .inr ⟨m,i',by lia,q2,q3,q4,q5,q6,λk h1 h2=>?_⟩
    by_cases hk:k=n
    ·subst hk;exact here
    ·exact q7 k (by lia) h2
theorem mK {α:Type}(xs:Array α)(p:Nat)(x:α):(insertAt xs p x).toList=xs.toList.take p++x::xs.toList.drop p:=by
 unfold insertAt;rw[Y5,Zn,Array.toList_extract,Array.toList_extract,aaJ,aaJ,YN];simp[Za]
theorem BU {α:Type}{xs:Array α}{p:Nat}{x:α}(h:p<=xs.size):(insertAt xs p x).size=xs.size+1:=by
 rw[<- XF,mK,Yb,XJ,X_,Z7,XF];lia
theorem dE {xs:Array Nat}{p x:Nat}(h:p<=xs.size)(k:Nat):g (insertAt xs p x) k=if k<p then g xs k else if k=p then x else g xs (k-1):=by
 have e:∀(ys:Array Nat) (k:Nat),g ys k=(ys.toList[k]?).getD 0:=λys k=>by rw[g,X1,X0]
 rw[e,e,e,mK]
 by_cases h1:k<p
 ·rw[if_pos h1,Y4 (by rw[X_,XF];lia),aac h1]
 ·rw[if_neg h1,YI (by rw[X_];lia),X_,XF,show min p xs.size=p by lia]
  by_cases h2:k=p
  ·rw[if_pos h2,h2,aaB];rfl
  ·rw[if_neg h2,show k-p=k-p-1+1 by lia,aah,aaH,show p+(k-p-1)=k-1 by lia]
theorem WF.put {t:SetTable}{hs:List Int}(w:WF t hs){h:Int}{N:Nat}(hb:cH t.mask h N<=t.mask)(hN:¬ qY t (cH t.mask h N))(hO:∀k,k<N->qY t (cH t.mask h k))(hr:t.place.size+1<=t.mask):
  WF (t.put (cH t.mask h N)).1 (hs.take (t.put (cH t.mask h N)).2++h::hs.drop (t.put (cH t.mask h N)).2)/\(t.put (cH t.mask h N)).2<=t.place.size:=by
 obtain⟨b1,b2,b3⟩:=fE w.ym (cH t.mask h N);have hp:(t.put (cH t.mask h N)).2=below t.place (cH t.mask h N):=rfl;rw[hp];generalize hx:cH t.mask h N=x at *
 generalize hq:below t.place x=p at *
 have e:(t.put x).1={t with place:=insertAt t.place p x}:=by
  unfold SetTable.put;dsimp only;rw[w.KA,hq];unfold has;simp
 have ne:∀k,p<=k->k<t.place.size->x<g t.place k:=λk h1 h2=>by
  have:=b3 k h1 h2;rcases YQ x (g t.place k)with q|q
  ·exact q
  ·exact absurd ⟨k,h2,by lia⟩ hN
 have Pg:(insertAt t.place p x).size=t.place.size+1:=BU b1;have Td:∀y,qY t y->qY {t with place:=insertAt t.place p x} y:=by
  rintro y ⟨i,h1,h2⟩
  by_cases hi:i<p
  ·exact⟨i,by show i<(insertAt t.place p x).size;lia,by show g (insertAt t.place p x) i=y;rw[dE b1,if_pos hi];exact h2⟩
  ·exact⟨i+1,by show i+1<(insertAt t.place p x).size;lia,by show g (insertAt t.place p x) (i+1)=y;rw[dE b1,if_neg (by lia),if_neg (by lia)];exact h2⟩
 rw[e];refine⟨⟨w.KA,?_,?_,?_,w.Gm,?_,?_⟩,b1⟩
 ·show (insertAt t.place p x).size=_;rw[Pg,Yb,XJ,X_,Z7,<- w.sz];lia
 ·intro i j aJ hj;have hj:j<t.place.size+1:=by rw[<- Pg];exact hj
  show g (insertAt t.place p x) i<g (insertAt t.place p x) j;rw[dE b1,dE b1]
  by_cases h1:i<p
  ·rw[if_pos h1]
   by_cases h2:j<p
   ·rw[if_pos h2];exact w.ym i j aJ (by lia)
   ·rw[if_neg h2]
    by_cases h3:j=p
    ·rw[if_pos h3];exact b2 i h1
    ·rw[if_neg h3];exact w.ym i (j-1) (by lia) (by lia)
  ·rw[if_neg h1,if_neg (show ¬ j<p by lia)]
   by_cases h3:i=p
   ·rw[if_pos h3,if_neg (show ¬ j=p by lia)];exact ne _ (by lia) (by lia)
   ·rw[if_neg h3,if_neg (show ¬ j=p by lia)];exact w.ym (i-1) (j-1) (by lia) (by lia)
 ·intro i hi;have hi:i<t.place.size+1:=by rw[<- Pg];exact hi
  show g (insertAt t.place p x) i<=t.mask;rw[dE b1]
  split
  ·exact w.Um i (by lia)
  ·split
   ·exact hb
   ·exact w.Um _ (by lia)
 ·show (insertAt t.place p x).size<=t.mask;lia
 ·intro i h' fQ;show ∃n,cH t.mask h' n=g (insertAt t.place p x) i/\_;have old:∀i h',hs[i]?=some h'->∃n,cH t.mask h' n=g t.place i/\∀k,k<n->qY {t with place:=insertAt t.place p x} (cH t.mask h' k):=λi h' q=>by
   obtain⟨n,h1,h2⟩:=w.S4 i h' q;exact⟨n,h1,λk hk=>Td _ (h2 k hk)⟩
  have hpl:p<=hs.length:=by rw[<- w.sz];exact b1
  by_cases h1:i<p
  ·rw[Y4 (by rw[X_];lia),aac h1]at fQ
   rw[dE b1,if_pos h1];exact old i h' fQ
  ·rw[YI (by rw[X_];lia),X_,show min p hs.length=p by lia]at fQ
   rw[dE b1,if_neg h1]
   by_cases h2:i=p
   ·rw[h2,aaB]at fQ;rw[if_pos h2];obtain rfl:h=h':=Yg fQ;exact⟨N,hx,λk hk=>Td _ (hO k hk)⟩
   ·rw[show i-p=i-p-1+1 by lia,aah,aaH,show p+(i-p-1)=i-1 by lia]at fQ
    rw[if_neg h2];exact old (i-1) h' fQ
theorem gD {m i:Nat}(h:i<=m):i<=runEnd m i/\runEnd m i<=m:=by
 unfold runEnd
 split <;> lia
theorem AR (m:Nat)(h:Int):∀n,(fT m h n).j+(fT m h n).more<=m
 |0=>by
  show bits h % (m+1)+(runEnd m (bits h % (m+1))-bits h % (m+1))<=m;have hl:bits h % (m+1)<=m:=Nat.le_of_lt_succ (aaF _ (Nat.succ_pos _));have:=gD hl;lia
 |n+1=>by
  have ih:=AR m h n;show (de m (fT m h n)).j+(de m (fT m h n)).more<=m;unfold de advance
  split
  ·show (fT m h n).j+1+((fT m h n).more-1)<=m;lia
  ·show (leap m (fT m h n).i (fT m h n).perturb).1+(runEnd m (leap m (fT m h n).i (fT m h n).perturb).1-(leap m (fT m h n).i (fT m h n).perturb).1)<=m;have hl:(leap m (fT m h n).i (fT m h n).perturb).1<=m:=Nat.le_of_lt_succ (aaF _ (Nat.succ_pos _));have:=gD hl;lia
theorem k8 (m:Nat)(h:Int)(n:Nat):cH m h n<=m:=by
 have:=AR m h n;unfold cH;lia
abbrev Ow:=Array (Option Nat)
def fJ (o:Ow)(j:Nat):Bool:=(o.getD j (some 0)).isNone
theorem pE {m:Nat}{o:Ow}(h:Int):∀(f b n:Nat) (j:Nat),fT m h n=KJ m (lp m h b)->layClean.free m o f (lp m h b).1 (lp m h b).2=some j->∃N,n<=N/\cH m h N=j/\fJ o j=true/\∀k,n<=k->k<N->fJ o (cH m h k)=false
 |0,b,n,j,_,e=>by cases e
 |f+1,b,n,j,hb,e=>by
  unfold layClean.free at e;have Qo:∀d,d<=runEnd m (lp m h b).1-(lp m h b).1->cH m h (n+d)=(lp m h b).1+d:=λd hd=>by
   unfold cH;rw[vz m h _ n hb d hd]
  have hl:(lp m h b).1<=m:=by
   have:=k8 m h n;unfold cH at this;rw[hb]at this;exact this
  have hr:=gD hl;cases hf:(XD (runEnd m (lp m h b).1+1-(lp m h b).1)).find? (λk=>(o.getD ((lp m h b).1+k) (some 0)).isNone)with
  |some k =>
   rw[hf]at e;dsimp only at e;obtain⟨h1,h2,h3⟩:=List.find?_range_eq_some.mp hf;have h2:=YV.mp h2;refine⟨n+k,by lia,?_,?_,λx g1 g2=>?_⟩
   ·rw[Qo k (by lia)]
    exact Yg e
   ·rw[<- Yg e];exact h1
   ·have:=h3 (x-n) (by lia)
    rw[show x=n+(x-n) by lia,Qo (x-n) (by lia)]
    unfold fJ;simpa using this
  |none =>
   rw[hf]at e;dsimp only at e;have h3:=List.find?_range_eq_none.mp hf;obtain⟨N,q1,q2,q3,q4⟩:=pE h f (b+1) (n+(runEnd m (lp m h b).1-(lp m h b).1)+1) j (uc m h _ n hb) e;refine⟨N,by lia,q2,q3,λx g1 g2=>?_⟩
   by_cases hx:n+(runEnd m (lp m h b).1-(lp m h b).1)+1<=x
   ·exact q4 x hx g2
   ·have:=h3 (x-n) (by lia)
    rw[show x=n+(x-n) by lia,Qo (x-n) (by lia)]
    unfold fJ;simpa using this
theorem pF {m:Nat}{o:Ow}(h:Int):∀(f b:Nat),layClean.free m o f (lp m h b).1 (lp m h b).2=none->∀d,d<f->(lp m h (b+d)).1<=m->fJ o (lp m h (b+d)).1=false
 |0,b,_,d,hd,_=>by lia
 |f+1,b,e,d,hd,hl=>by
  unfold layClean.free at e;cases hf:(XD (runEnd m (lp m h b).1+1-(lp m h b).1)).find? (λk=>(o.getD ((lp m h b).1+k) (some 0)).isNone)with
  |some k =>
   rw[hf]at e;cases e
  |none =>
   rw[hf]at e;dsimp only at e;cases d with
   |zero =>
    have:=List.find?_range_eq_none.mp hf 0 (by have:=gD hl;rw[Nat.add_zero]at this;lia)
    unfold fJ;simpa using this
   |succ d =>
    have:=pF h f (b+1) e d (by lia) (by rw[show b+1+d=b+(d+1) by lia];exact hl)
    rw[show b+1+d=b+(d+1) by lia]at this
    exact this
theorem IJ (j:Nat)(h:Int){t:Nat}(ht:t<2 ^ j):∃k,k<turns (2 ^ j-1)/\(lp (2 ^ j-1) h k).1=t:=by
 obtain⟨k,hk,e⟩:=lift j (lp (2 ^ j-1) h 13).1 t;refine⟨13+k,by unfold turns;lia,?_⟩
 rw[Gn,e,Nat.mod_eq_of_lt ht]
def ow (o:Ow)(j:Nat):Option Nat:=o.getD j none
theorem d4 {α:Type}{f f':Nat->Option α}:∀(l:List Nat),(∀k∈l,f' k=f k)->l.filterMap f'=l.filterMap f
 |[],_=>rfl
 |x::l,h=>by
  rw[YG,YG,h x XN,d4 l λk hk=>h k (XR _ hk)]
theorem tF {α:Type}{f f':Nat->Option α}(l:List Nat)(h:∀k∈l,f' k=f k):l.filterMap f'=l.filterMap f:=d4 l h
theorem tx {α:Type}(f f':Nat->Option α)(j:Nat)(v:α)(h1:f j=none)(h2:f' j=some v)(h3:∀k,k≠j->f' k=f k):∀N,j<N->((XD N).filterMap f').Perm (v::(XD N).filterMap f)
 |0,h=>by lia
 |N+1,h=>by
  rw[List.range_succ,List.filterMap_append,List.filterMap_append]
  by_cases e:j=N
  ·subst e;have e1:(XD j).filterMap f'=(XD j).filterMap f:=by
    exact d4 _ λk hk=>h3 k (Yc (YV.mp hk))
   rw[e1,YG,h2,YG,h1,List.filterMap_nil,List.filterMap_nil];show ((XD j).filterMap f++[v]).Perm (v::((XD j).filterMap f++[]));rw[YX];exact List.perm_append_comm
  ·have ih:=tx f f' j v h1 h2 h3 N (by lia)
   have e2:[N].filterMap f'=[N].filterMap f:=d4 _ λk hk=>by
    rw[XQ.mp hk];exact h3 N (λz=>e z.symm)
   rw[e2];exact ih.append_right _
theorem tG {α:Type}(f:Nat->Option α):∀N,(∀k,k<N->(f k).isSome=true)->((XD N).filterMap f).length=N
 |0,_=>rfl
 |N+1,h=>by
  rw[List.range_succ,List.filterMap_append,Yb,tG f N λk hk=>h k (by lia)]
  have:=h N (by lia)
  cases e:f N with
  |none=>rw[e]at this;cases this
  |some x=>rw[YG,e];rfl
structure Ld (m:Nat)(hs:Array Int)(o:Ow)(k:Nat):Prop where
 sz:o.size=m+1
 P1:((XD (m+1)).filterMap (ow o)).Perm (XD k)
 way:∀j a,ow o j=some a->a<k/\∃n,cH m (hs.getD a 0) n=j/\∀x,x<n->fJ o (cH m (hs.getD a 0) x)=false
theorem l_ {o:Ow}{j:Nat}(h:j<o.size):fJ o j=true↔ow o j=none:=by
 unfold fJ ow;rw[X1,X1,getElem?_pos o j h];show (o[j]).isNone=true↔o[j]=none;exact Option.isNone_iff_eq_none
theorem Ld.next {j0:Nat}{hs:Array Int}{o:Ow}{k:Nat}(L:Ld (2 ^ j0-1) hs o k)(hk:k<=2 ^ j0-1)(h:Int)(hh:hs.getD k 0=h):
  ∃j,layClean.free (2 ^ j0-1) o (turns (2 ^ j0-1)) (bits h % (2 ^ j0-1+1)) (bits h)=some j/\Ld (2 ^ j0-1) hs (o.setIfInBounds j (some k)) (k+1):=by
 have hP:0<2 ^ j0:=Nat.pow_pos (by decide)
 generalize hm:2 ^ j0-1=m at *
 obtain⟨x,hx,VL⟩:∃x,x<=m/\ow o x=none:=by
  refine Z9 λB7=>?_;have:=tG (ow o) (m+1) λx hx=>by
   cases e:ow o x with
   |none=>exact absurd ⟨x,by lia,e⟩ B7
   |some _=>rfl
  rw[L.P1.length_eq,Ye]at this;lia
 cases hf:layClean.free m o (turns m) (bits h % (m+1)) (bits h)with
 |none =>
  exfalso
  obtain⟨c,hc,he⟩:=IJ j0 h (t:=x) (by lia)
  rw[hm]at hc he;have:=pF (m:=m) (o:=o) h (turns m) 0 hf c hc (by rw[ZL,he];exact hx)
  rw[ZL,he]at this;have q:=(l_ (o:=o) (j:=x) (by rw[L.sz];lia)).mpr VL
  rw[q]at this;cases this
 |some j =>
  refine⟨j,rfl,?_⟩;obtain⟨N,_,q2,q3,q4⟩:=pE (m:=m) (o:=o) h (turns m) 0 0 j rfl hf;have hj:j<=m:=by rw[<- q2];exact k8 m h N
  have Rq:j<o.size:=by rw[L.sz];lia
  have Nd:ow o j=none:=(l_ Rq).mp q3;have same:∀i,i≠j->ow (o.setIfInBounds j (some k)) i=ow o i:=λi hi=>by
   unfold ow;rw[X1,X1,Array.getElem?_setIfInBounds_ne (λz=>hi z.symm)]
  have here:ow (o.setIfInBounds j (some k)) j=some k:=by
   unfold ow;rw[X1,Array.getElem?_setIfInBounds_self_of_lt Rq];rfl
  have Lf:∀i,fJ o i=false->fJ (o.setIfInBounds j (some k)) i=false:=λi hi=>by
   unfold fJ at *
   rw[X1]at *
   by_cases e:i=j
   ·subst e;rw[Array.getElem?_setIfInBounds_self_of_lt Rq];rfl
   ·rw[Array.getElem?_setIfInBounds_ne (λz=>e z.symm)];exact hi
  refine⟨by rw[aaR];exact L.sz,?_,λi a OE=>?_⟩
  ·refine(tx (ow o) _ j k Nd here same (m+1) (by lia)).trans ?_
   refine(L.P1.cons k).trans ?_;rw[List.range_succ];exact(List.perm_append_singleton k _).symm
  ·by_cases e:i=j
   ·subst e;rw[here]at OE;obtain rfl:=Yg OE;refine⟨Nat.lt_succ_self _,N,by rw[hh];exact q2,λx hx=>Lf _ ?_⟩
    rw[hh];exact q4 x (XG _) hx
   ·rw[same i e]at OE;obtain⟨g1,n,g2,g3⟩:=L.way i a OE;exact⟨by lia,n,g2,λx hx=>Lf _ (g3 x hx)⟩
theorem ni {j0:Nat}{hs:Array Int}(hk:hs.size<=2 ^ j0-1):∀(l:List Int) (k:Nat) (o:Ow),hs.toList.drop k=l->k+l.length=hs.size->Ld (2 ^ j0-1) hs o k ->
  ∃o',(l.foldl (λ(acc:Option (Ow×Nat)) h=>do
   let (owner,k) <- acc
   let j <- layClean.free (2 ^ j0-1) owner (turns (2 ^ j0-1)) (bits h % (2 ^ j0-1+1)) (bits h)
   pure (owner.setIfInBounds j (some k),k+1)) (some (o,k)))=some (o',hs.size)/\Ld (2 ^ j0-1) hs o' hs.size
 |[],k,o,e,z,L=>by
  obtain rfl:k=hs.size:=z;exact⟨o,rfl,L⟩
 |h::l,k,o,e,z,L=>by
  rw[XJ]at z;have d9:k<hs.toList.length:=by rw[XF];lia
  rw[Yp d9]at e;injection e with e1 e2
  have hh:hs.getD k 0=h:=by
   rw[X1,<- X0,XH d9,e1];rfl
  obtain⟨j,q1,q2⟩:=L.next (by lia) h hh
  rw[aav];show ∃o',(l.foldl _ (do
   let j <- layClean.free (2 ^ j0-1) o (turns (2 ^ j0-1)) (bits h % (2 ^ j0-1+1)) (bits h)
   pure (o.setIfInBounds j (some k),k+1)))=_/\_
  rw[q1];exact ni hk l (k+1) _ e2 (by lia) q2
theorem Ld.start (m:Nat)(hs:Array Int):Ld m hs (Array.replicate (m+1) none) 0:=by
 have e:∀j,ow (Array.replicate (m+1) none) j=none:=λj=>by
  unfold ow;rw[X1,Array.getElem?_replicate]
  split <;> rfl
 refine⟨Array.size_replicate,?_,λj a h=>by rw[e]at h;cases h⟩
 rw[d4 (f:=λ_=>(none:Option Nat)) _ λk _=>e k];have:∀l:List Nat,l.filterMap (λ_=>(none:Option Nat))=[]:=λl=>by
  induction l with
  |nil=>rfl
  |cons x l ih=>rw[YG];exact ih
 rw[this];exact .refl _
theorem E2 {j0:Nat}{hs:Array Int}(h3:3<=j0)(hk:hs.size<=2 ^ j0-1)(finger moves:Nat)(led plain:Bool):
  ∃t order,laid (2 ^ j0-1) finger moves led plain hs=some (t,order)/\t.mask=2 ^ j0-1/\t.led=led/\t.plain=plain/\t.moves=moves/\order.toList.Perm (XD hs.size)/\WF t (order.toList.map λa=>hs.getD a 0)/\t.place.size=hs.size:=by
 obtain⟨o,e1,L⟩:=ni hk hs.toList 0 _ rfl (by rw[ZL,XF]) (Ld.start _ hs)
 have e2:layClean (2 ^ j0-1) hs=some o:=by
  unfold layClean;rw[<- Array.foldl_toList];exact congrArg (Option.map (·.1)) e1
 generalize hm:2 ^ j0-1=m at *
 have L8:∀(l:List Nat),((l.filterMap λj=>(o.getD j none).map (j,·)).map (·.2))=l.filterMap (ow o):=λl=>by
  rw[List.map_filterMap];refine tF l λj _=>?_;rw[Option.map_map];show ((o.getD j none).map λa=>a)=_;rw[Option.map_id'];rfl
 generalize Ng:((XD (m+1)).filterMap λj=>(o.getD j none).map (j,·))=live at *
 have pw:live.Pairwise (λx y=>x.1<y.1):=by
  rw[<- Ng,List.pairwise_filterMap];refine List.pairwise_lt_range.imp λ{a b} Nv x hx y hy=>?_;obtain⟨_,_,rfl⟩:=XY.mp hx;obtain⟨_,_,rfl⟩:=XY.mp hy;exact Nv
 have mem:∀x∈live,x.1<m+1/\ow o x.1=some x.2:=λx hx=>by
  rw[<- Ng]at hx;obtain⟨j,hj,e⟩:=aaG.mp hx;obtain⟨a,ha,rfl⟩:=XY.mp e;exact⟨YV.mp hj,ha⟩
 have ord:(live.map (·.2)).Perm (XD hs.size):=by
  rw[<- Ng,L8];exact L.P1
 have len:live.length=hs.size:=by
  have:=ord.length_eq;rw[Xu,Ye]at this;exact this
 have gp:∀i (hi:i<live.length),g (live.map (·.1)).toArray i=(live[i]).1:=λi hi=>by
  rw[g,X1,List.getElem?_toArray,XM,XH hi];rfl
 refine⟨{mask:=m,place:=(live.map (·.1)).toArray,dummies:=#[],finger,led,moves,plain},(live.map (·.2)).toArray,?_,rfl,rfl,rfl,rfl,ord,?_,?_⟩
 ·unfold laid;rw[e2,<- Ng];rfl
 ·have PZ:(live.map (·.1)).toArray.size=live.length:=by rw[X2,Xu]
  refine⟨rfl,?_,?_,?_,⟨j0,h3,hm.symm⟩,?_,?_⟩
  ·show (live.map (·.1)).toArray.size=_;rw[PZ,Xu,Xu]
  ·intro i j aJ hj;have hj:j<live.length:=by rw[<- PZ];exact hj
   show g (live.map (·.1)).toArray i<g (live.map (·.1)).toArray j;rw[gp i (by lia),gp j hj]
   exact aaI.mp pw i j (by lia) hj aJ
  ·intro i hi;have hi:i<live.length:=by rw[<- PZ];exact hi
   show g (live.map (·.1)).toArray i<=m;rw[gp i hi];have:=(mem _ (ZG hi)).1;lia
  ·show (live.map (·.1)).toArray.size<=m;lia
  ·intro i h hi;show ∃n,cH m h n=g (live.map (·.1)).toArray i/\_;rw[XM,XM]at hi;have Ff:i<live.length:=by
    rcases YQ i live.length with q|q
    ·exact q
    ·rw[Ys q]at hi;cases hi
   rw[XH Ff]at hi;have hi:hs.getD (live[i]).2 0=h:=Yg hi;obtain⟨_,n,g2,g3⟩:=L.way _ _ (mem _ (ZG Ff)).2;rw[hi]at g2 g3;refine⟨n,by rw[gp i Ff];exact g2,λk hk=>?_⟩
   have hv:=k8 m h k;have VG:cH m h k<o.size:=by rw[L.sz];lia
   have:=g3 k hk;cases eo:ow o (cH m h k)with
   |none =>
    rw[(l_ VG).mpr eo]at this;cases this
   |some a =>
    have iA:(cH m h k,a)∈live:=by
     rw[<- Ng];exact aaG.mpr ⟨cH m h k,YV.mpr (by lia),by show (ow o (cH m h k)).map _=_;rw[eo];rfl⟩
    obtain⟨i',fQ,e'⟩:=List.getElem_of_mem iA;exact⟨i',by show i'<(live.map (·.1)).toArray.size;lia,by show g (live.map (·.1)).toArray i'=_;rw[gp i' fQ,e']⟩
 ·show (live.map (·.1)).toArray.size=hs.size;rw[X2,Xu];exact len
end ST
namespace TS
open PySem PyProof.Rows
def cz:Bool->XC->Array XC->Nat->Nat->Nat->StateT Yd Sem (Option Nat):=sortPriv% PySem.Builtin.gallop
def i_:Array XC->Array XC->StateT Yd Sem (Array XC):=sortPriv% PySem.Builtin.mergeLo
def je:Array XC->Array XC->StateT Yd Sem (Array XC):=sortPriv% PySem.Builtin.mergeHi
abbrev cA (st:Yd)(g:Nat):Yd:=SortSt.mk' (kindOf st) (Yj st) (X8 st) g (aak st)
theorem vF (left:Bool)(key:XC)(arr:Array XC)(base n hint:Nat):cz left key arr base n hint=(do
  let ask:=λ(at_:Nat)=>(do
   let z <- elem' arr (base+at_)
   if left then lt' z key else return (<- lt' key z).map (!·):StateT Yd Sem (Option Bool))
  let mut before:=0
  let mut step:=1
  let mut u:=0
  let mut v:=0
  let some up <- ask hint|return none
  if up then
   let room:=n-hint
   for _ in [0:n] do
    if step >= room then break
    let some on <- ask (hint+step)|return none
    if !on then break
    before:=step
    step:=2*step+1
   u:=hint+before+1
   v:=hint+min step room
  else
   let room:=hint+1
   for _ in [0:n] do
    if step >= room then break
    let some hit <- ask (hint-step)|return none
    if hit then break
    before:=step
    step:=2*step+1
   u:=hint+1-min step room
   v:=hint-before
  for _ in [0:n] do
   if u >= v then break
   let mid:=u+(v-u) / 2
   let some on <- ask mid|return none
   if on then u:=mid+1 else v:=mid
  return some v):=rfl
theorem sG (p q:Array XC):i_ p q=(do
  rule "list.sort.merge-lo"
  let all:=p.size+q.size
  let rest:=λ(to:Array XC) (i j:Nat)=>to++p.extract i p.size++q.extract j q.size
  let tail:=λ(to:Array XC) (i j:Nat)=>to++q.extract j q.size++p.extract i p.size
  let mut to:Array XC:=#[<- elem' q 0]
  let mut i:=0
  let mut j:=1
  if j==q.size then return rest to i j
  if i+1==p.size then return tail to i j
  let mut mg:=gallopOf (<- get)
  for _ in [0:all] do
   let mut m:=0
   let mut n:=0
   for _ in [0:all] do
    let some Hl <- lt' (<- elem' q j) (<- elem' p i)|return rest to i j
    if Hl then
     to:=to.push (<- elem' q j);j:=j+1;n:=n+1;m:=0
     if j==q.size then return rest to i j
     if n >= mg then break
    else
     to:=to.push (<- elem' p i);i:=i+1;m:=m+1;n:=0
     if i+1==p.size then return tail to i j
     if m >= mg then break
   rule "list.sort.gallop"
   mg:=mg+1
   for _ in [0:all] do
    if mg>1 then mg:=mg-1
    modify λst=>cA st mg
    let some k <- cz false (<- elem' q j) p i (p.size-i) 0|return rest to i j
    m:=k
    if k>0 then
     to:=to++p.extract i (i+k);i:=i+k
     if i+1==p.size then return tail to i j
     if i==p.size then return rest to i j
    to:=to.push (<- elem' q j);j:=j+1
    if j==q.size then return rest to i j
    let some k <- cz true (<- elem' p i) q j (q.size-j) 0|return rest to i j
    n:=k
    if k>0 then
     to:=to++q.extract j (j+k);j:=j+k
     if j==q.size then return rest to i j
    to:=to.push (<- elem' p i);i:=i+1
    if i+1==p.size then return tail to i j
    if m<7&&n<7 then break
   mg:=mg+1
   modify λst=>cA st mg
  unsupported "internal:list.sort.merge-bound"):=rfl
theorem sI (p q:Array XC):je p q=(do
  rule "list.sort.merge-hi"
  let all:=p.size+q.size
  let rest:=λ(to:Array XC) (i j:Nat)=>p.extract 0 i++q.extract 0 j++to.reverse
  let tail:=λ(to:Array XC) (i j:Nat)=>q.extract 0 j++p.extract 0 i++to.reverse
  let mut i:=p.size-1
  let mut j:=q.size
  let mut to:Array XC:=#[<- elem' p i]
  if i==0 then return rest to i j
  if j==1 then return tail to i j
  let mut mg:=gallopOf (<- get)
  for _ in [0:all] do
   let mut m:=0
   let mut n:=0
   for _ in [0:all] do
    let some Hl <- lt' (<- elem' q (j-1)) (<- elem' p (i-1))|return rest to i j
    if Hl then
     i:=i-1;to:=to.push (<- elem' p i);m:=m+1;n:=0
     if i==0 then return rest to i j
     if m >= mg then break
    else
     j:=j-1;to:=to.push (<- elem' q j);n:=n+1;m:=0
     if j==1 then return tail to i j
     if n >= mg then break
   rule "list.sort.gallop"
   mg:=mg+1
   for _ in [0:all] do
    if mg>1 then mg:=mg-1
    modify λst=>cA st mg
    let some h <- cz false (<- elem' q (j-1)) p 0 i (i-1)|return rest to i j
    let k:=i-h
    m:=k
    if k>0 then
     to:=to++(p.extract h i).reverse;i:=h
     if i==0 then return rest to i j
    j:=j-1;to:=to.push (<- elem' q j)
    if j==1 then return tail to i j
    let some h <- cz true (<- elem' p (i-1)) q 0 j (j-1)|return rest to i j
    let k:=j-h
    n:=k
    if k>0 then
     to:=to++(q.extract h j).reverse;j:=h
     if j==1 then return tail to i j
     if j==0 then return rest to i j
    i:=i-1;to:=to.push (<- elem' p i)
    if i==0 then return rest to i j
    if m<7&&n<7 then break
   mg:=mg+1
   modify λst=>cA st mg
  unsupported "internal:list.sort.merge-bound"):=rfl
theorem sL (i:Nat):mergeAt' i=(do
  let st <- get
  let (some (sa,na,pw),some (sb,nb,_)):=((X8 st)[i]?,(X8 st)[i+1]?)|unsupported "internal:list.sort.pending"
  set (aao st (((X8 st).setIfInBounds i (sa,na+nb,pw)).eraseIdxIfInBounds (i+1)))
  let some k <- cz false (<- elem' (Yj st) sb) (Yj st) sa na 0|return false
  let (sa,na):=(sa+k,na-k)
  if na==0 then return true
  let some nb <- cz true (<- elem' (Yj st) (sa+na-1)) (Yj st) sb nb (nb-1)|return false
  if nb==0 then return true
  let x:=(Yj st).extract sa sb
  let y:=(Yj st).extract sb (sb+nb)
  let got <- if na<=nb then i_ x y else je x y
  modify λs2=>YY s2 (got.toList.zipIdx.foldl (λa (p,j)=>a.setIfInBounds (sa+j) p) (Yj s2))
  return (aak (<- get)).isNone):=rfl
structure cf (c:XC->XC->Bool):Prop where
 NV:∀x y,c x y=true->c y x=false
 Tf:∀x y z,c x z=true->c x y=true\/c y z=true
def le (c:XC->XC->Bool)(x y:XC):Prop:=c y x=false
section
variable {c:XC->XC->Bool}
theorem cf.refl (O:cf c)(x:XC):le c x x:=by
 cases h:c x x
 ·exact h
 ·exact O.NV _ _ h
theorem cf.trans (O:cf c){x y z:XC}(h1:le c x y)(h2:le c y z):le c x z:=by
 cases h:c z x
 ·exact h
 ·rcases O.Tf _ y _ h with q|q
  ·exact absurd (q.symm.trans h2) (by simp)
  ·exact absurd (q.symm.trans h1) (by simp)
theorem cf.of_lt (O:cf c){x y:XC}(h:c x y=true):le c x y:=O.NV _ _ h
def el (a:Array XC)(i:Nat):XC:=a.getD i (Value.none,Value.none)
theorem js {a:Array XC}{i:Nat}(h:i<a.size):a[i]?=some (el a i):=by
 rw[getElem?_pos a i h,el,X1,getElem?_pos a i h];rfl
theorem xu {a:Array XC}{i:Nat}{x:XC}(h:a[i]?=some x):el a i=x:=by
 rw[el,X1,h];rfl
theorem d6 {a b:Array XC}{i j:Nat}(h:a[i]?=b[j]?):el a i=el b j:=by
 rw[el,el,X1,X1,h]
def SR (c:XC->XC->Bool)(a:Array XC)(lo hi:Nat):Prop:=∀i j,lo<=i->i<=j->j<hi->le c (el a i) (el a j)
def eW (prog:Xz)(w:XT)(A:Yv)(E:Xv->Xw->Prop)(s:Xw)(κ:ZF)(c:XC->XC->Bool)(S:XC->Prop):Prop :=
 ∀(x y:XC) (st:Yd) (Q:Option Bool->Yd->Prop),S x->S y->kindOf st=κ->Q (some (c x y)) st->wpS (model prog w) A E s (lt' x y) Q st
end
section
variable {prog:Xz}{w:XT}{A:Yv}{E:Xv->Xw->Prop}{s:Xw}{κ:ZF}{c:XC->XC->Bool}{S:XC->Prop}
theorem aO {a:Array XC}{i:Nat}{Q:XC->Yd->Prop}{st:Yd}(h:i<a.size)(q:Q (el a i) st):wpS (model prog w) A E s (elem' a i) Q st:=by
 rw[elem'_eq,js h];exact XS q
def d7 (c:XC->XC->Bool)(left:Bool)(key:XC)(a:Array XC)(base i:Nat):Bool:=if left=true then c (el a (base+i)) key else !c key (el a (base+i))
theorem FT (O:cf c){left:Bool}{key:XC}{a:Array XC}{base n i j:Nat}(hs:SR c a base (base+n))(aJ:i<=j)(hj:j<n)(h:d7 c left key a base j=true):d7 c left key a base i=true:=by
 have hl:=hs (base+i) (base+j) (by lia) (by lia) (by lia)
 unfold d7 at *
 cases left with
 |true =>
  rw[if_pos rfl]at *
  rcases O.Tf _ (el a (base+i)) _ h with q|q
  ·exact absurd (q.symm.trans hl) (by simp)
  ·exact q
 |false =>
  rw[if_neg (by simp)]at *
  rw[aam]at *
  exact O.trans hl h
theorem iP (L:eW prog w A E s κ c S){left:Bool}{key:XC}{a:Array XC}{base n i:Nat}{Q:Option Bool->Yd->Prop}{st:Yd}(hk:kindOf st=κ)(hK:S key)(hA:∀i,i<n->S (el a (base+i)))(hn:base+n<=a.size)(hi:i<n)
  (h:Q (some (d7 c left key a base i)) st):wpS (model prog w) A E s (do
   let z <- elem' a (base+i)
   if left then lt' z key else return (<- lt' key z).map (!·):StateT Yd Sem (Option Bool)) Q st:=by
 refine XE (aO (by lia) ?_)
 unfold d7 at h;cases left with
 |true =>
  rw[if_pos rfl]at *
  exact L _ _ st Q (hA i hi) hK hk h
 |false =>
  rw[if_neg (by simp)]at *
  exact XE (L _ _ st _ hK (hA i hi) hk (XS h))
theorem dF (O:cf c)(L:eW prog w A E s κ c S){left:Bool}{key:XC}{a:Array XC}{base n hint:Nat}{Q:Option Nat->Yd->Prop}{st:Yd}(hk:kindOf st=κ)(hK:S key)(hA:∀i,i<n->S (el a (base+i)))(hn:base+n<=a.size)
  (hs:SR c a base (base+n)) (hh:hint<n) (h:∀k,k<=n->(∀i,i<k->d7 c left key a base i=true)->(∀i,k<=i->i<n->d7 c left key a base i=false)->Q (some k) st) :
  wpS (model prog w) A E s (cz left key a base n hint) Q st:=by
 rw[vF];dsimp only;have up:∀{i j},i<=j->j<n->d7 c left key a base j=true->d7 c left key a base i=true:=λh1 h2 h3=>FT O hs h1 h2 h3;refine XE (iP L hk hK hA hn hh ?_);dsimp only;have dn:∀{i j},i<=j->j<n->d7 c left key a base i=false->d7 c left key a base j=false:=λ{i j} h1 h2 h3=>by
  cases q:d7 c left key a base j
  ·rfl
  ·rw[up h1 h2 q]at h3;exact absurd h3 (by simp)
 cases Kw:d7 c left key a base hint with
 |true =>
  rw[if_pos rfl];refine XE (Zi (YL (I:=λx r aB=>aB=st/\∃be de,r=(none,be,de)/\hint+be<n/\be<de/\x+1<=de/\d7 c left key a base (hint+be)=true)
   (Q:=λr aB=>aB=st/\∃be de,r=(none,be,de)/\hint+be<n/\be<de/\d7 c left key a base (hint+be)=true/\(n-hint<=de\/(hint+de<n/\d7 c left key a base (hint+de)=false))) ?_ ?_ ?_) ?_)
  ·rintro x r aB _ hx ⟨rfl,be,de,rfl,h1,h2,h3,h4⟩;dsimp only
   by_cases hr:de >= n-hint
   ·rw[if_pos hr];exact XS ⟨rfl,be,de,rfl,h1,h2,h4,.inl hr⟩
   ·rw[if_neg hr];refine XE (iP L hk hK hA hn (by omega) ?_)
    dsimp only;cases hb:d7 c left key a base (hint+de)with
    |true =>
     rw[if_neg (by simp)]
     exact XS ⟨rfl,de,_,rfl,by omega,by omega,by omega,hb⟩
    |false =>
     rw[if_pos (by simp)]
     exact XS ⟨rfl,be,de,rfl,h1,h2,h4,.inr ⟨by omega,hb⟩⟩
  ·rintro r aB ⟨rfl,be,de,rfl,h1,h2,h3,h4⟩;exact⟨rfl,be,de,rfl,h1,h2,h4,.inl (by omega)⟩
  ·exact⟨rfl,0,1,rfl,by omega,by omega,by omega,Kw⟩
  rintro r aB ⟨e0,be,de,rfl,h1,h2,h4,h5⟩;rw[e0];dsimp only;have g1:∀i,i<hint+be+1->d7 c left key a base i=true:=λi hi=>up (j:=hint+be) (by omega) h1 h4
  have g2:∀i,hint+min de (n-hint)<=i->i<n->d7 c left key a base i=false:=λi hi fQ=>by
   rcases h5 with q|⟨q1,q2⟩
   ·omega
   ·exact dn (i:=hint+de) (by omega) fQ q2
  refine XE (Zi (YL (I:=λx r aB=>aB=st/\∃u v,r=(none,u,v)/\u<=v/\v<=n/\v-u<=n-x/\(∀i,i<u->d7 c left key a base i=true)/\(∀i,v<=i->i<n->d7 c left key a base i=false))
   (Q:=λr aB=>aB=st/\∃v,r=(none,v,v)/\v<=n/\(∀i,i<v->d7 c left key a base i=true)/\(∀i,v<=i->i<n->d7 c left key a base i=false)) ?_ ?_ ?_) ?_)
  ·rintro x r aB _ hx ⟨rfl,u,v,rfl,h1,h2,h3,h4,h5⟩;dsimp only
   by_cases Ms:u >= v
   ·rw[if_pos Ms];obtain rfl:u=v:=by omega
    exact XS ⟨rfl,u,rfl,h2,h4,h5⟩
   ·rw[if_neg Ms];refine XE (iP L hk hK hA hn (by omega) ?_)
    dsimp only;cases hb:d7 c left key a base (u+(v-u) / 2)with
    |true =>
     rw[if_pos rfl];exact XS ⟨rfl,_,v,rfl,by omega,h2,by omega,λi hi=>up (j:=u+(v-u) / 2) (by omega) (by omega) hb,h5⟩
    |false =>
     rw[if_neg (by simp)]
     exact XS ⟨rfl,u,_,rfl,by omega,by omega,by omega,h4,λi hi fQ=>dn (i:=u+(v-u) / 2) (by omega) (by omega) hb⟩
  ·rintro r aB ⟨rfl,u,v,rfl,h1,h2,h3,h4,h5⟩;obtain rfl:u=v:=by omega
   exact⟨rfl,u,rfl,h2,h4,h5⟩
  ·exact⟨rfl,_,_,rfl,by omega,by omega,by omega,by assumption,by assumption⟩
  ·rintro r aB ⟨rfl,v,rfl,h2,h4,h5⟩;exact XS (h v h2 h4 h5)
 |false =>
  rw[if_neg (by simp)]
  refine XE (Zi (YL (I:=λx r aB=>aB=st/\∃be de,r=(none,be,de)/\be<=hint/\be<de/\x+1<=de/\d7 c left key a base (hint-be)=false)
   (Q:=λr aB=>aB=st/\∃be de,r=(none,be,de)/\be<=hint/\be<de/\d7 c left key a base (hint-be)=false/\(hint+1<=de\/(de<=hint/\d7 c left key a base (hint-de)=true))) ?_ ?_ ?_) ?_)
  ·rintro x r aB _ hx ⟨rfl,be,de,rfl,h1,h2,h3,h4⟩;dsimp only
   by_cases hr:de >= hint+1
   ·rw[if_pos hr];exact XS ⟨rfl,be,de,rfl,h1,h2,h4,.inl hr⟩
   ·rw[if_neg hr];refine XE (iP L hk hK hA hn (by omega) ?_)
    dsimp only;cases hb:d7 c left key a base (hint-de)with
    |true =>
     rw[if_pos rfl];exact XS ⟨rfl,be,de,rfl,h1,h2,h4,.inr ⟨by omega,hb⟩⟩
    |false =>
     rw[if_neg (by simp)]
     exact XS ⟨rfl,de,_,rfl,by omega,by omega,by omega,hb⟩
  ·rintro r aB ⟨rfl,be,de,rfl,h1,h2,h3,h4⟩;exact⟨rfl,be,de,rfl,h1,h2,h4,.inl (by omega)⟩
  ·exact⟨rfl,0,1,rfl,by omega,by omega,by omega,Kw⟩
  rintro r aB ⟨e0,be,de,rfl,h1,h2,h4,h5⟩;rw[e0];dsimp only;have g1:∀i,i<hint+1-min de (hint+1)->d7 c left key a base i=true:=λi hi=>by
   rcases h5 with q|⟨q1,q2⟩
   ·omega
   ·exact up (j:=hint-de) (by omega) (by omega) q2
  have g2:∀i,hint-be<=i->i<n->d7 c left key a base i=false:=λi hi fQ=>dn (i:=hint-be) hi fQ h4;refine XE (Zi (YL (I:=λx r aB=>aB=st/\∃u v,r=(none,u,v)/\u<=v/\v<=n/\v-u<=n-x/\(∀i,i<u->d7 c left key a base i=true)/\(∀i,v<=i->i<n->d7 c left key a base i=false))
   (Q:=λr aB=>aB=st/\∃v,r=(none,v,v)/\v<=n/\(∀i,i<v->d7 c left key a base i=true)/\(∀i,v<=i->i<n->d7 c left key a base i=false)) ?_ ?_ ?_) ?_)
  ·rintro x r aB _ hx ⟨rfl,u,v,rfl,h1,h2,h3,h4,h5⟩;dsimp only
   by_cases Ms:u >= v
   ·rw[if_pos Ms];obtain rfl:u=v:=by omega
    exact XS ⟨rfl,u,rfl,h2,h4,h5⟩
   ·rw[if_neg Ms];refine XE (iP L hk hK hA hn (by omega) ?_)
    dsimp only;cases hb:d7 c left key a base (u+(v-u) / 2)with
    |true =>
     rw[if_pos rfl];exact XS ⟨rfl,_,v,rfl,by omega,h2,by omega,λi hi=>up (j:=u+(v-u) / 2) (by omega) (by omega) hb,h5⟩
    |false =>
     rw[if_neg (by simp)]
     exact XS ⟨rfl,u,_,rfl,by omega,by omega,by omega,h4,λi hi fQ=>dn (i:=u+(v-u) / 2) (by omega) (by omega) hb⟩
  ·rintro r aB ⟨rfl,u,v,rfl,h1,h2,h3,h4,h5⟩;obtain rfl:u=v:=by omega
   exact⟨rfl,u,rfl,h2,h4,h5⟩
  ·exact⟨rfl,_,_,rfl,by omega,by omega,by omega,by assumption,by assumption⟩
  ·rintro r aB ⟨rfl,v,rfl,h2,h4,h5⟩;exact XS (h v h2 h4 h5)
end
section
variable {c:XC->XC->Bool}{p q:Array XC}{t:List XC}{i j:Nat}
theorem wb {a:Array XC}{i:Nat}(h:i<a.size):a.toList.take (i+1)=a.toList.take i++[el a i]:=by
 have e:a.toList[i]?=some (el a i):=by rw[X0];exact js h
 rw[List.take_succ,e];rfl
theorem xv {a:Array XC}{i:Nat}(h:i<a.size):a.toList.drop i=el a i::a.toList.drop (i+1):=by
 have hl:i<a.toList.length:=by rw[XF];exact h
 have e:a.toList[i]=el a i:=by
  have h1:=XH hl;rw[X0,js h]at h1;exact(Yg h1).symm
 rw[Yp hl,e]
structure Mg (c:XC->XC->Bool)(p q:Array XC)(t:List XC)(i j:Nat):Prop where
 hi:i<=p.size
 hj:j<=q.size
 perm:t.Perm (p.toList.take i++q.toList.take j)
 gS:t.Pairwise (le c)
 ap:∀x∈t,∀k,i<=k->k<p.size->le c x (el p k)
 aq:∀x∈t,∀k,j<=k->k<q.size->le c x (el q k)
def Gd (c:XC->XC->Bool)(p q:Array XC)(t:List XC):Prop:=t.Perm (p.toList++q.toList)/\t.Pairwise (le c)
theorem rJ {x:XC}(h:t.Pairwise (le c))(hx:∀y∈t,le c y x):(t++[x]).Pairwise (le c):=by
 rw[List.pairwise_append];exact⟨h,List.pairwise_singleton _ _,λy hy z hz=>by rw[XQ.mp hz];exact hx y hy⟩
theorem Mg.kq (m:Mg c p q t i j)(hj:j<q.size)(sq:SR c q 0 q.size)(hle:∀k,i<=k->k<p.size->le c (el q j) (el p k)):Mg c p q (t++[el q j]) i (j+1) where
 hi:=m.hi
 hj:=hj
 perm:=by
  rw[wb hj,<- YN];exact m.perm.append_right _
 gS:=rJ m.gS λy hy=>m.aq y hy j (Xx _) hj
 ap:=λx hx k h1 h2=>by
  rcases XW.mp hx with h|h
  ·exact m.ap x h k h1 h2
  ·rw[XQ.mp h];exact hle k h1 h2
 aq:=λx hx k h1 h2=>by
  rcases XW.mp hx with h|h
  ·exact m.aq x h k (by lia) h2
  ·rw[XQ.mp h];exact sq j k (by lia) (by lia) h2
theorem Mg.ku (m:Mg c p q t i j)(hi:i<p.size)(sp:SR c p 0 p.size)(hle:∀k,j<=k->k<q.size->le c (el p i) (el q k)):Mg c p q (t++[el p i]) (i+1) j where
 hi:=hi
 hj:=m.hj
 perm:=by
  rw[wb hi];refine(m.perm.append_right _).trans ?_;rw[YN,YN];exact List.Perm.append_left _ List.perm_append_comm
 gS:=rJ m.gS λy hy=>m.ap y hy i (Xx _) hi
 ap:=λx hx k h1 h2=>by
  rcases XW.mp hx with h|h
  ·exact m.ap x h k (by lia) h2
  ·rw[XQ.mp h];exact sp i k (by lia) (by lia) h2
 aq:=λx hx k h1 h2=>by
  rcases XW.mp hx with h|h
  ·exact m.aq x h k h1 h2
  ·rw[XQ.mp h];exact hle k h1 h2
theorem gm {a:Array XC}{i k:Nat}(h:i+k<a.size):(a.toList.drop i).take (k+1)=(a.toList.drop i).take k++[el a (i+k)]:=by
 have e:(a.toList.drop i)[k]?=some (el a (i+k)):=by rw[aaH,X0];exact js h
 rw[List.take_succ,e];rfl
theorem Mg.iS (m:Mg c p q t i j)(sp:SR c p 0 p.size):∀(k:Nat),i+k<=p.size->(∀x,x<k->∀y,j<=y->y<q.size->le c (el p (i+x)) (el q y))->Mg c p q (t++(p.toList.drop i).take k) (i+k) j
 |0,_,_=>by simpa using m
 |k+1,h,hle=>by
  have m':=Mg.iS m sp k (by lia) λx hx=>hle x (by lia)
  rw[gm (by lia),<- YN,<- Nat.add_assoc]
  exact m'.ku (by lia) sp (hle k (by lia))
theorem Mg.iR (m:Mg c p q t i j)(sq:SR c q 0 q.size):∀(k:Nat),j+k<=q.size->(∀x,x<k->∀y,i<=y->y<p.size->le c (el q (j+x)) (el p y))->Mg c p q (t++(q.toList.drop j).take k) i (j+k)
 |0,_,_=>by simpa using m
 |k+1,h,hle=>by
  have m':=Mg.iR m sq k (by lia) λx hx=>hle x (by lia)
  rw[gm (by lia),<- YN,<- Nat.add_assoc]
  exact m'.kq (by lia) sq (hle k (by lia))
theorem Mg.full (m:Mg c p q t p.size q.size):Gd c p q t:=by
 refine⟨?_,m.gS⟩;have h:=m.perm;rw[Za (by rw[XF];lia),Za (by rw[XF];lia)]at h
 exact h
theorem cu (a:Array XC)(i j:Nat):(a.extract i j).toList=(a.toList.drop i).take (j-i):=by
 rw[Array.toList_extract,aaJ]
theorem tX {a:Array XC}{i j:Nat}(h:a.size<=i):(a.toList.drop i).take (j-i)=[]:=by
 rw[Zs (by rw[XF];exact h)]
 simp
theorem Mg.done {to:Array XC}(m:Mg c p q to.toList i j)(sp:SR c p 0 p.size)(sq:SR c q 0 q.size)(h:i=p.size\/j=q.size):Gd c p q (to++p.extract i p.size++q.extract j q.size).toList:=by
 rw[Y5,Y5,cu,cu];rcases h with rfl|rfl
 ·rw[tX (Xx _),YX];have m':=m.iR sq (q.size-j) (by have:=m.hj;lia) λx hx y h1 h2=>by lia
  rw[show j+(q.size-j)=q.size by have:=m.hj;lia]at m'
  exact m'.full
 ·rw[tX (a:=q) (Xx _),YX];have m':=m.iS sp (p.size-i) (by have:=m.hi;lia) λx hx y h1 h2=>by lia
  rw[show i+(p.size-i)=p.size by have:=m.hi;lia]at m'
  exact m'.full
theorem Mg.tail {to:Array XC}(O:cf c)(m:Mg c p q to.toList i j)(sp:SR c p 0 p.size)(sq:SR c q 0 q.size)(h:i+1=p.size)(hl:∀y,y<q.size->c (el q y) (el p (p.size-1))=true):Gd c p q (to++q.extract j q.size++p.extract i p.size).toList:=by
 rw[Y5,Y5,cu,cu];have m':=m.iR sq (q.size-j) (by have:=m.hj;lia) λx hx y h1 h2=>by
  rw[show y=p.size-1 by lia]
  exact O.of_lt (hl _ (by lia))
 rw[show j+(q.size-j)=q.size by have:=m.hj;lia]at m'
 have m2:=m'.iS sp (p.size-i) (by have:=m.hi;lia) λx hx y h1 h2=>by lia
 rw[show i+(p.size-i)=p.size by have:=m.hi;lia]at m2
 exact m2.full
theorem xM (to a:Array XC)(i k:Nat):(to++a.extract i (i+k)).toList=to.toList++(a.toList.drop i).take k:=by
 rw[Y5,cu,show i+k-i=k by lia]
theorem Mg.start (O:cf c)(sp:SR c p 0 p.size)(sq:SR c q 0 q.size)(hq:0<q.size)(hp:0<p.size)(h:c (el q 0) (el p 0)=true):Mg c p q [el q 0] 0 1:=by
 have m:Mg c p q [] 0 0:=⟨XG _,XG _,(by simp),.nil,(λx hx=>by cases hx),(λx hx=>by cases hx)⟩
 exact m.kq hq sq λk _ hk=>O.trans (O.of_lt h) (sp 0 k (by lia) (by lia) hk)
end
structure kh (st aB:Yd):Prop where
 kind:kindOf aB=kindOf st
 arr:Yj aB=Yj st
 pend:X8 aB=X8 st
 fail:aak aB=aak st
theorem kh.refl (st:Yd):kh st st:=⟨rfl,rfl,rfl,rfl⟩
theorem kh.GQ {st aB:Yd}(e:kh st aB)(g:Nat):kh st (cA aB g):=⟨e.kind,e.arr,e.pend,e.fail⟩
abbrev RI:=Array XC×Nat×Nat×Nat×Nat
abbrev RG:=Array XC×Nat×Nat×Nat×Nat×Nat
abbrev RO:=Array XC×Nat×Nat×Nat
def Qe (p q t:Array XC)(i j mg m n:Nat):StateT Yd Sem (ForInStep (Option (Array XC)×RG)):=do
 let z <- elem' p i
 if (i+1+1==p.size)=true then pure (.done (some (t.push z++q.extract j++p.extract (i+1)),t.push z,i+1,j,mg,m,n))
 else if (decide (m<7)&&decide (n<7))=true then pure (.done (none,t.push z,i+1,j,mg,m,n)) else pure (.yield (none,t.push z,i+1,j,mg,m,n))
def Qg (p q t:Array XC)(i j mg m n:Nat):StateT Yd Sem (ForInStep (Option (Array XC)×RG)):=do
 let y <- elem' q j
 if (j+1==q.size)=true then pure (.done (some (t.push y++p.extract i++q.extract (j+1)),t.push y,i,j+1,mg,m,n))
 else do
  let x <- elem' p i
  let r <- cz true x q (j+1) (q.size-(j+1)) 0
  match r with
  |some k=>if k>0 then (if (j+1+k==q.size)=true then pure (.done (some (t.push y++q.extract (j+1) (j+1+k)++p.extract i++q.extract (j+1+k)),t.push y++q.extract (j+1) (j+1+k),i,j+1+k,mg,m,k))
    else Qe p q (t.push y++q.extract (j+1) (j+1+k)) i (j+1+k) mg m k) else Qe p q (t.push y) i (j+1) mg m k
  |_=>pure (.done (some (t.push y++p.extract i++q.extract (j+1)),t.push y,i,j+1,mg,m,n))
def L7 (p q t:Array XC)(i j mg m n:Nat):StateT Yd Sem (ForInStep (Option (Array XC)×RG)):=do
 modify λst=>cA st mg
 let y <- elem' q j
 let r <- cz false y p i (p.size-i) 0
 match r with
 |some k=>if k>0 then (if (i+k+1==p.size)=true then pure (.done (some (t++p.extract i (i+k)++q.extract j++p.extract (i+k)),t++p.extract i (i+k),i+k,j,mg,k,n))
   else if (i+k==p.size)=true then pure (.done (some (t++p.extract i (i+k)++p.extract (i+k)++q.extract j),t++p.extract i (i+k),i+k,j,mg,k,n))
   else Qg p q (t++p.extract i (i+k)) (i+k) j mg k n) else Qg p q t i j mg k n
 |_=>pure (.done (some (t++p.extract i++q.extract j),t,i,j,mg,m,n))
def Vr (p q:Array XC)(s:Option (Array XC)×RG):StateT Yd Sem (ForInStep (Option (Array XC)×RG)):=if s.2.2.2.2.1>1 then L7 p q s.2.1 s.2.2.1 s.2.2.2.1 (s.2.2.2.2.1-1) s.2.2.2.2.2.1 s.2.2.2.2.2.2 else L7 p q s.2.1 s.2.2.1 s.2.2.2.1 s.2.2.2.2.1 s.2.2.2.2.2.1 s.2.2.2.2.2.2
def L6 (p q:Array XC)(mg:Nat)(s:Option (Array XC)×RI):StateT Yd Sem (ForInStep (Option (Array XC)×RI)):=do
 let y <- elem' q s.2.2.2.1
 if (s.2.2.2.1+1==q.size)=true then pure (.done (some (s.2.1.push y++p.extract s.2.2.1++q.extract (s.2.2.2.1+1)),s.2.1.push y,s.2.2.1,s.2.2.2.1+1,0,s.2.2.2.2.2+1))
 else if s.2.2.2.2.2+1 >= mg then pure (.done (none,s.2.1.push y,s.2.2.1,s.2.2.2.1+1,0,s.2.2.2.2.2+1)) else pure (.yield (none,s.2.1.push y,s.2.2.1,s.2.2.2.1+1,0,s.2.2.2.2.2+1))
def L5 (p q:Array XC)(mg:Nat)(s:Option (Array XC)×RI):StateT Yd Sem (ForInStep (Option (Array XC)×RI)):=do
 let x <- elem' p s.2.2.1
 if (s.2.2.1+1+1==p.size)=true then pure (.done (some (s.2.1.push x++q.extract s.2.2.2.1++p.extract (s.2.2.1+1)),s.2.1.push x,s.2.2.1+1,s.2.2.2.1,s.2.2.2.2.1+1,0))
 else if s.2.2.2.2.1+1 >= mg then pure (.done (none,s.2.1.push x,s.2.2.1+1,s.2.2.2.1,s.2.2.2.2.1+1,0)) else pure (.yield (none,s.2.1.push x,s.2.2.1+1,s.2.2.2.1,s.2.2.2.2.1+1,0))
def Qd (p q:Array XC)(mg:Nat)(s:Option (Array XC)×RI):StateT Yd Sem (ForInStep (Option (Array XC)×RI)):=do
 let y <- elem' q s.2.2.2.1
 let x <- elem' p s.2.2.1
 let r <- lt' y x
 match r with
 |some Hl=>if Hl=true then L6 p q mg s else L5 p q mg s
 |_=>pure (.done (some (s.2.1++p.extract s.2.2.1++q.extract s.2.2.2.1),s.2.1,s.2.2.1,s.2.2.2.1,s.2.2.2.2.1,s.2.2.2.2.2))
def Ts (p q:Array XC)(s:Option (Array XC)×RO):StateT Yd Sem (ForInStep (Option (Array XC)×RO)):=do
 let s1 <- forIn [:p.size+q.size] ((none,s.2.1,s.2.2.1,s.2.2.2.1,0,0):Option (Array XC)×RI) λ_ r=>Qd p q s.2.2.2.2 r
 match s1.1 with
 |some r=>pure (.done (some r,s1.2.1,s1.2.2.1,s1.2.2.2.1,s.2.2.2.2))
 |none=>do
  liftM (rule "list.sort.gallop")
  let s2 <- forIn [:p.size+q.size] ((none,s1.2.1,s1.2.2.1,s1.2.2.2.1,s.2.2.2.2+1,s1.2.2.2.2.1,s1.2.2.2.2.2):Option (Array XC)×RG) λ_ r=>Vr p q r
  match s2.1 with
  |some r=>pure (.done (some r,s2.2.1,s2.2.2.1,s2.2.2.2.1,s2.2.2.2.2.1))
  |none=>do
   modify λst=>cA st (s2.2.2.2.2.1+1)
   pure (.yield (none,s2.2.1,s2.2.2.1,s2.2.2.2.1,s2.2.2.2.2.1+1))
theorem sH (p q:Array XC):i_ p q=(do
  liftM (rule "list.sort.merge-lo")
  let y <- elem' q 0
  if (1==q.size)=true then pure (#[y]++p.extract 0++q.extract 1)
  else if (0+1==p.size)=true then pure (#[y]++q.extract 1++p.extract 0)
  else do
   let st <- get
   let s <- forIn [:p.size+q.size] ((none,#[y],0,1,gallopOf st):Option (Array XC)×RO) λ_ s=>Ts p q s
   match s.1 with
   |some r=>pure r
   |none=>liftM (unsupported "internal:list.sort.merge-bound" : Sem (Array XC))):=by
 rw[sG];dsimp only;refine congrArg (bind _) (funext λ_=>?_);refine congrArg (bind _) (funext λy=>?_);refine congrArg (ite _ _) (congrArg (ite _ _) ?_);refine congrArg (bind _) (funext λy=>?_);refine congr (congrArg bind (congrArg _ (funext λ_=>funext λs=>?_))) (funext λs=>?_)
 ·refine congr (congrArg bind (congrArg _ (funext λ_=>funext λs=>?_))) (funext λs=>?_)
  ·rfl
  ·cases s.1
   ·refine congrArg (bind _) (funext λ_=>?_);refine congr (congrArg bind (congrArg _ (funext λ_=>funext λs=>?_))) (funext λs=>?_)
    ·rfl
    ·cases s.1 <;> rfl
   ·rfl
 ·cases s.1 <;> rfl
section
variable {prog:Xz}{w:XT}{A:Yv}{E:Xv->Xw->Prop}{s:Xw}{κ:ZF}{c:XC->XC->Bool}{S:XC->Prop}{p q:Array XC}
theorem zT {st:Yd}{Q:ForInStep (Option (Array XC)×RG)->Yd->Prop}{t:Array XC}{i j mg m n:Nat}(O:cf c)(sp:SR c p 0 p.size)(sq:SR c q 0 q.size)(hl:∀y,y<q.size->c (el q y) (el p (p.size-1))=true)(m3:Mg c p q t.toList i j)(hi:i+1<p.size)(g3:∀y,j<=y->y<q.size->le c (el p i) (el q y))
  (hd:∀out r,Gd c p q out.toList->Q (.done (some out,r)) st) (hn:∀t' m n,Mg c p q t'.toList (i+1) j->i+1+1<p.size->Q (.done (none,t',i+1,j,mg,m,n)) st/\Q (.yield (none,t',i+1,j,mg,m,n)) st):wpS (model prog w) A E s (Qe p q t i j mg m n) Q st:=by
 refine XE (aO (by lia) ?_)
 have m4:Mg c p q (t.push (el p i)).toList (i+1) j:=by
  rw[Zn];exact m3.ku (by lia) sp g3
 by_cases e5:(i+1+1==p.size)=true
 ·rw[if_pos e5];exact XS (hd _ _ (m4.tail O sp sq (by simpa using e5) hl))
 rw[if_neg e5];have h5:i+1+1≠p.size:=by simpa using e5
 obtain⟨h6,h7⟩:=hn (t.push (el p i)) m n m4 (by lia)
 split
 ·exact XS h6
 ·exact XS h7
theorem zU {st:Yd}{Q:ForInStep (Option (Array XC)×RG)->Yd->Prop}{t:Array XC}{i j mg m n:Nat}(O:cf c)(L:eW prog w A E s κ c S)(hk:kindOf st=κ)(Sp:∀i,i<p.size->S (el p i))(Sq:∀i,i<q.size->S (el q i))(sp:SR c p 0 p.size)(sq:SR c q 0 q.size)(hl:∀y,y<q.size->c (el q y) (el p (p.size-1))=true)(m1:Mg c p q t.toList i j)(hi:i+1<p.size)(hj:j<q.size)(g1:∀y,i<=y->y<p.size->le c (el q j) (el p y))
  (hd:∀out r,Gd c p q out.toList->Q (.done (some out,r)) st) (hn:∀t' j' m n,Mg c p q t'.toList (i+1) j'->i+1+1<p.size->j<j'->j'<q.size->Q (.done (none,t',i+1,j',mg,m,n)) st/\Q (.yield (none,t',i+1,j',mg,m,n)) st):wpS (model prog w) A E s (Qg p q t i j mg m n) Q st:=by
 refine XE (aO hj ?_);have m2:Mg c p q (t.push (el q j)).toList i (j+1):=by
  rw[Zn];exact m1.kq hj sq g1
 by_cases e3:(j+1==q.size)=true
 ·rw[if_pos e3];exact XS (hd _ _ (m2.done sp sq (.inr (by simpa using e3))))
 rw[if_neg e3];have h3:j+1≠q.size:=by simpa using e3
 refine XE (aO (by lia) (XE (dF O L hk (Sp _ (by lia)) (λx hx=>Sq _ (by lia)) (by lia) (λa b h1 h2 h3=>sq a b (by lia) h2 (by lia)) (by lia) λk k1 k2 k3=>?_)))
 have g3:∀y,j+1+k<=y->y<q.size->le c (el p i) (el q y):=λy h1 h2=>by
  have:=k3 (y-(j+1)) (by lia) (by lia)
  unfold d7 at this;rw[if_pos rfl,show j+1+(y-(j+1))=y by lia]at this
  exact this
 dsimp only
 by_cases zI:k>0
 ·rw[if_pos zI];have m3:Mg c p q (t.push (el q j)++q.extract (j+1) (j+1+k)).toList i (j+1+k):=by
   rw[xM];exact m2.iR sq k (by lia) λx hx y h1 h2=>O.trans (O.of_lt (show c (el q (j+1+x)) (el p i)=true from k2 x hx)) (sp _ y (by lia) h1 h2)
  by_cases e4:(j+1+k==q.size)=true
  ·rw[if_pos e4];exact XS (hd _ _ (m3.done sp sq (.inr (by simpa using e4))))
  rw[if_neg e4];have h4:j+1+k≠q.size:=by simpa using e4
  exact zT O sp sq hl m3 hi g3 hd λt' m n h1 h2=>hn t' _ m n h1 h2 (by lia) (by lia)
 ·rw[if_neg zI];exact zT O sp sq hl m2 hi (λy h1 h2=>g3 y (by lia) h2) hd λt' m n h1 h2=>hn t' _ m n h1 h2 (by lia) (by lia)
theorem Hf {st:Yd}{Q:ForInStep (Option (Array XC)×RG)->Yd->Prop}{t:Array XC}{i j mg m n:Nat}(O:cf c)(L:eW prog w A E s κ c S)(hk:kindOf st=κ)(Sp:∀i,i<p.size->S (el p i))(Sq:∀i,i<q.size->S (el q i))(sp:SR c p 0 p.size)(sq:SR c q 0 q.size)(hl:∀y,y<q.size->c (el q y) (el p (p.size-1))=true)(m0:Mg c p q t.toList i j)(hi:i+1<p.size)(hj:j<q.size)
  (hd:∀out r,Gd c p q out.toList->Q (.done (some out,r)) (cA st mg)) (hn:∀t' i' j' m n,Mg c p q t'.toList i' j'->i'+1<p.size->j'<q.size->i+j<i'+j'->Q (.done (none,t',i',j',mg,m,n)) (cA st mg)/\Q (.yield (none,t',i',j',mg,m,n)) (cA st mg)):wpS (model prog w) A E s (L7 p q t i j mg m n) Q st:=by
 refine XE (Z0 (XE (aO hj (XE (dF O L hk (Sq _ hj) (λx hx=>Sp _ (by lia)) (by lia) (λa b h1 h2 h3=>sp a b (by lia) h2 (by lia)) (by lia) λk k1 k2 k3=>?_)))))
 have g0:∀x,x<k->le c (el p (i+x)) (el q j):=λx hx=>by
  have:=k2 x hx;unfold d7 at this;rw[if_neg (by simp),aam]at this
  exact this
 have g1:∀y,i+k<=y->y<p.size->le c (el q j) (el p y):=λy h1 h2=>by
  have:=k3 (y-i) (by lia) (by lia)
  unfold d7 at this;rw[if_neg (by simp),Bool.not_eq_false',show i+(y-i)=y by lia]at this
  exact O.of_lt this
 have Rk:i+k<p.size:=by
  rcases YQ (i+k) p.size with d9|Xi
  ·exact d9
  ·have h1:=g0 (p.size-1-i) (by lia)
   rw[show i+(p.size-1-i)=p.size-1 by lia]at h1
   exact absurd ((hl j hj).symm.trans h1) (by simp)
 dsimp only
 by_cases zI:k>0
 ·rw[if_pos zI];have m1:Mg c p q (t++p.extract i (i+k)).toList (i+k) j:=by
   rw[xM];exact m0.iS sp k (by lia) λx hx y h1 h2=>O.trans (g0 x hx) (sq j y (by lia) h1 h2)
  by_cases e1:(i+k+1==p.size)=true
  ·rw[if_pos e1];exact XS (hd _ _ (m1.tail O sp sq (by simpa using e1) hl))
  rw[if_neg e1];have Fn:i+k+1≠p.size:=by simpa using e1
  rw[if_neg (by simp;lia)]
  exact zU O L hk Sp Sq sp sq hl m1 (by lia) hj g1 hd λt' j' m n h1 h2 h3 h4=>hn t' _ j' m n h1 h2 h4 (by lia)
 ·rw[if_neg zI];exact zU O L hk Sp Sq sp sq hl m0 hi hj (λy h1 h2=>g1 y (by lia) h2) hd λt' j' m n h1 h2 h3 h4=>hn t' _ j' m n h1 h2 h4 (by lia)
theorem He {st:Yd}{Q:ForInStep (Option (Array XC)×RI)->Yd->Prop}{t:Array XC}{i j mg ma na:Nat}(O:cf c)(L:eW prog w A E s κ c S)(hk:kindOf st=κ)(Sp:∀i,i<p.size->S (el p i))(Sq:∀i,i<q.size->S (el q i))(sp:SR c p 0 p.size)(sq:SR c q 0 q.size)(hl:∀y,y<q.size->c (el q y) (el p (p.size-1))=true)(m:Mg c p q t.toList i j)(hi:i+1<p.size)(hj:j<q.size)
  (hd:∀out r,Gd c p q out.toList->Q (.done (some out,r)) st) (hn:∀t' i' j' m n,Mg c p q t'.toList i' j'->i'+1<p.size->j'<q.size->i+j<i'+j'->Q (.done (none,t',i',j',m,n)) st/\Q (.yield (none,t',i',j',m,n)) st):wpS (model prog w) A E s (Qd p q mg (none,t,i,j,ma,na)) Q st:=by
 unfold Qd L6 L5;dsimp only;refine XE (aO hj (XE (aO (by lia) (XE (L _ _ st _ (Sq _ hj) (Sp _ (by lia)) hk ?_)))))
 dsimp only;cases hc:c (el q j) (el p i)with
 |true =>
  rw[if_pos rfl];refine XE (aO hj ?_);have m1:Mg c p q (t.push (el q j)).toList i (j+1):=by
   rw[Zn];exact m.kq hj sq λk h1 h2=>O.trans (O.of_lt hc) (sp i k (by lia) h1 h2)
  by_cases e3:(j+1==q.size)=true
  ·rw[if_pos e3];exact XS (hd _ _ (m1.done sp sq (.inr (by simpa using e3))))
  rw[if_neg e3];have h3:j+1≠q.size:=by simpa using e3
  obtain⟨h6,h7⟩:=hn _ _ _ 0 (na+1) m1 hi (by lia) (by lia)
  split
  ·exact XS h6
  ·exact XS h7
 |false =>
  rw[if_neg (by simp)]
  refine XE (aO (by lia) ?_)
  have m1:Mg c p q (t.push (el p i)).toList (i+1) j:=by
   rw[Zn];exact m.ku (by lia) sp λk h1 h2=>O.trans (show le c (el p i) (el q j) from hc) (sq j k (by lia) h1 h2)
  by_cases e3:(i+1+1==p.size)=true
  ·rw[if_pos e3];exact XS (hd _ _ (m1.tail O sp sq (by simpa using e3) hl))
  rw[if_neg e3];have h3:i+1+1≠p.size:=by simpa using e3
  obtain⟨h6,h7⟩:=hn _ _ _ (ma+1) 0 m1 (by lia) hj (by lia)
  split
  ·exact XS h6
  ·exact XS h7
theorem uF (O:cf c)(L:eW prog w A E s κ c S){Q:Array XC->Yd->Prop}{st:Yd}(hk:kindOf st=κ)(Sp:∀i,i<p.size->S (el p i))(Sq:∀i,i<q.size->S (el q i))(sp:SR c p 0 p.size)(sq:SR c q 0 q.size)
  (hp:0<p.size) (hq:0<q.size) (hf:c (el q 0) (el p 0)=true) (hl:∀y,y<q.size->c (el q y) (el p (p.size-1))=true) (h:∀to aB,kh st aB->Gd c p q to.toList->Q to aB) :
  wpS (model prog w) A E s (i_ p q) Q st:=by
 rw[sH];refine XE (aaS (ZK ⟨rfl,?_⟩));refine XE (aO hq ?_);have m0:Mg c p q (#[el q 0]:Array XC).toList 0 1:=Mg.start O sp sq hq hp hf
 by_cases h1:(1==q.size)=true
 ·rw[if_pos h1];exact XS (h _ st (kh.refl st) (m0.done sp sq (.inr (by simpa using h1))))
 rw[if_neg h1]
 by_cases h2:(0+1==p.size)=true
 ·rw[if_pos h2];exact XS (h _ st (kh.refl st) (m0.tail O sp sq (by simpa using h2) hl))
 rw[if_neg h2];refine XE (aaz ?_);refine XE (Zi (YL
  (I:=λx r aB=>kh st aB/\∃to i j mg,r=(none,to,i,j,mg)/\Mg c p q to.toList i j/\i+1<p.size/\j<q.size/\x<i+j)
  (Q:=λr aB=>kh st aB/\∃out r',r=(some out,r')/\Gd c p q out.toList) ?_ ?_ ?_) ?_)
 ·rintro x r aB _ hx ⟨e,to,i,j,mg,rfl,m,hi,hj,hb⟩;unfold Ts;dsimp only;refine XE (Zi (YL
   (I:=λy r aB=>kh st aB/\∃to i j m n,r=(none,to,i,j,m,n)/\Mg c p q to.toList i j/\i+1<p.size/\j<q.size/\x+min y 1<i+j)
   (Q:=λr aB=>kh st aB/\((∃out r',r=(some out,r')/\Gd c p q out.toList)\/∃to i j m n,r=(none,to,i,j,m,n)/\Mg c p q to.toList i j/\i+1<p.size/\j<q.size/\x+1<i+j)) ?_ ?_ ?_) ?_)
  ·rintro y r fH _ hy ⟨e2,to,i,j,ma,na,rfl,m,hi,hj,hb⟩;exact He O L (e2.kind.trans hk) Sp Sq sp sq hl m hi hj (λout r h=>⟨e2,.inl ⟨_,_,rfl,h⟩⟩) λt' i' j' m n h1 h2 h3 h4=>⟨⟨e2,.inr ⟨_,_,_,_,_,rfl,h1,h2,h3,by lia⟩⟩,⟨e2,_,_,_,_,_,rfl,h1,h2,h3,by lia⟩⟩
  ·rintro r fH ⟨e2,to,i,j,ma,na,rfl,m,hi,hj,hb⟩;exact⟨e2,.inr ⟨_,_,_,_,_,rfl,m,hi,hj,by lia⟩⟩
  ·exact⟨e,_,_,_,_,_,rfl,m,hi,hj,by lia⟩
  rintro r fH ⟨e2,⟨out,r',rfl,g⟩|⟨to,i,j,ma,na,rfl,m,hi,hj,hb⟩⟩
  ·exact XS ⟨e2,_,_,rfl,g⟩
  dsimp only;refine XE (aaS (ZK ⟨rfl,?_⟩));refine XE (Zi (YL
   (I:=λy r aB=>kh st aB/\∃to i j mg m n,r=(none,to,i,j,mg,m,n)/\Mg c p q to.toList i j/\i+1<p.size/\j<q.size/\x+1<i+j)
   (Q:=λr aB=>kh st aB/\((∃out r',r=(some out,r')/\Gd c p q out.toList)\/∃to i j mg m n,r=(none,to,i,j,mg,m,n)/\Mg c p q to.toList i j/\i+1<p.size/\j<q.size/\x+1<i+j)) ?_ ?_ ?_) ?_)
  ·rintro y r fH _ hy ⟨e2,to,i,j,mg,ma,na,rfl,m,hi,hj,hb⟩;show wpS (model prog w) A E s (if mg>1 then L7 p q to i j (mg-1) ma na else L7 p q to i j mg ma na) _ fH
   split <;> exact Hf O L (e2.kind.trans hk) Sp Sq sp sq hl m hi hj (λout r h=>⟨e2.GQ _,.inl ⟨_,_,rfl,h⟩⟩) λt' i' j' m n h1 h2 h3 h4=>⟨⟨e2.GQ _,.inr ⟨_,_,_,_,_,_,rfl,h1,h2,h3,by lia⟩⟩,⟨e2.GQ _,_,_,_,_,_,_,rfl,h1,h2,h3,by lia⟩⟩
  ·rintro r fH ⟨e2,to,i,j,mg,ma,na,rfl,m,hi,hj,hb⟩;exact⟨e2,.inr ⟨_,_,_,_,_,_,rfl,m,hi,hj,hb⟩⟩
  ·exact⟨e2,_,_,_,_,_,_,rfl,m,hi,hj,hb⟩
  rintro r fH ⟨e2,⟨out,r',rfl,g⟩|⟨to,i,j,mg,ma,na,rfl,m,hi,hj,hb⟩⟩
  ·exact XS ⟨e2,_,_,rfl,g⟩
  dsimp only;refine XE (Z0 (XS ⟨e2.GQ _,_,_,_,_,rfl,m,hi,hj,by lia⟩))
 ·rintro r aB ⟨e,to,i,j,mg,rfl,m,hi,hj,hb⟩
  exfalso
  rw[show max 0 (p.size+q.size)=p.size+q.size by lia]at hb
  lia
 ·exact⟨kh.refl st,_,_,_,_,rfl,m0,by simp at h2;lia,by simp at h1;lia,by lia⟩
 ·rintro r aB ⟨e,out,r',rfl,g⟩;exact XS (h _ aB e g)
end
section
variable {c:XC->XC->Bool}{p q:Array XC}{t:List XC}{i j:Nat}
structure Mh (c:XC->XC->Bool)(p q:Array XC)(t:List XC)(i j:Nat):Prop where
 hi:i<=p.size
 hj:j<=q.size
 perm:t.Perm (p.toList.drop i++q.toList.drop j)
 gS:t.Pairwise (le c)
 ap:∀x∈t,∀k,k<i->le c (el p k) x
 aq:∀x∈t,∀k,k<j->le c (el q k) x
theorem pM {a:Array XC}{i:Nat}(h0:0<i)(h:i<=a.size):a.toList.drop (i-1)=el a (i-1)::a.toList.drop i:=by
 rw[xv (by lia),show i-1+1=i by lia]
theorem Mh.ku (m:Mh c p q t i j)(h0:0<i)(sp:SR c p 0 p.size)(hle:∀k,k<j->le c (el q k) (el p (i-1))):Mh c p q (el p (i-1)::t) (i-1) j where
 hi:=by have:=m.hi;lia
 hj:=m.hj
 perm:=by
  rw[pM h0 m.hi];exact m.perm.cons _
 gS:=Yt.mpr ⟨λx hx=>m.ap x hx _ (by lia),m.gS⟩
 ap:=λx hx k hk=>by
  rcases Xy.mp hx with rfl|h
  ·exact sp k (i-1) (by lia) (by lia) (by have:=m.hi;lia)
  ·exact m.ap x h k (by lia)
 aq:=λx hx k hk=>by
  rcases Xy.mp hx with rfl|h
  ·exact hle k hk
  ·exact m.aq x h k hk
theorem Mh.kq (m:Mh c p q t i j)(h0:0<j)(sq:SR c q 0 q.size)(hle:∀k,k<i->le c (el p k) (el q (j-1))):Mh c p q (el q (j-1)::t) i (j-1) where
 hi:=m.hi
 hj:=by have:=m.hj;lia
 perm:=by
  rw[pM h0 m.hj];exact(m.perm.cons _).trans aaX.symm
 gS:=Yt.mpr ⟨λx hx=>m.aq x hx _ (by lia),m.gS⟩
 ap:=λx hx k hk=>by
  rcases Xy.mp hx with rfl|h
  ·exact hle k hk
  ·exact m.ap x h k hk
 aq:=λx hx k hk=>by
  rcases Xy.mp hx with rfl|h
  ·exact sq k (j-1) (by lia) (by lia) (by have:=m.hj;lia)
  ·exact m.aq x h k (by lia)
theorem oz {a:Array XC}{i k:Nat}(h0:k<i)(h:i<=a.size):(a.toList.drop (i-(k+1))).take (k+1)=el a (i-(k+1))::(a.toList.drop (i-k)).take k:=by
 rw[xv (by lia),show i-(k+1)+1=i-k by lia,List.take_succ_cons]
theorem Mh.Ah (m:Mh c p q t i j)(sp:SR c p 0 p.size):∀(k:Nat),k<=i->(∀x,i-k<=x->x<i->∀y,y<j->le c (el q y) (el p x))->Mh c p q ((p.toList.drop (i-k)).take k++t) (i-k) j
 |0,_,_=>by simpa using m
 |k+1,h,hle=>by
  have m':=Mh.Ah m sp k (by lia) λx h1 h2=>hle x (by lia) h2
  rw[oz (by lia) m.hi,Z8]
  exact m'.ku (by lia) sp λy hy=>hle _ (by lia) (by lia) y hy
theorem Mh.Ag (m:Mh c p q t i j)(sq:SR c q 0 q.size):∀(k:Nat),k<=j->(∀x,j-k<=x->x<j->∀y,y<i->le c (el p y) (el q x))->Mh c p q ((q.toList.drop (j-k)).take k++t) i (j-k)
 |0,_,_=>by simpa using m
 |k+1,h,hle=>by
  have m':=Mh.Ag m sq k (by lia) λx h1 h2=>hle x (by lia) h2
  rw[oz (by lia) m.hj,Z8]
  exact m'.kq (by lia) sq λy hy=>hle _ (by lia) (by lia) y hy
theorem Mh.iS (m:Mh c p q t i j)(sp:SR c p 0 p.size){h:Nat}(hh:h<=i)(hle:∀x,h<=x->x<i->∀y,y<j->le c (el q y) (el p x)):Mh c p q ((p.toList.drop h).take (i-h)++t) h j:=by
 have m':=m.Ah sp (i-h) (by lia) λx h1 h2=>hle x (by lia) h2
 rw[show i-(i-h)=h by lia]at m'
 exact m'
theorem Mh.iR (m:Mh c p q t i j)(sq:SR c q 0 q.size){h:Nat}(hh:h<=j)(hle:∀x,h<=x->x<j->∀y,y<i->le c (el p y) (el q x)):Mh c p q ((q.toList.drop h).take (j-h)++t) i h:=by
 have m':=m.Ag sq (j-h) (by lia) λx h1 h2=>hle x (by lia) h2
 rw[show j-(j-h)=h by lia]at m'
 exact m'
theorem Mh.full (m:Mh c p q t 0 0):Gd c p q t:=⟨m.perm,m.gS⟩
theorem LC (a b to:Array XC)(i j:Nat):(a.extract 0 i++b.extract 0 j++to.reverse).toList=(a.toList.drop 0).take (i-0)++((b.toList.drop 0).take (j-0)++to.toList.reverse):=by
 rw[Y5,Y5,cu,cu,Array.toList_reverse,YN]
theorem Mh.done {to:Array XC}(m:Mh c p q to.toList.reverse i j)(sp:SR c p 0 p.size)(sq:SR c q 0 q.size)(h:i=0\/j=0):Gd c p q (p.extract 0 i++q.extract 0 j++to.reverse).toList:=by
 rw[LC];rcases h with rfl|rfl
 ·have m':=m.iR sq (h:=0) (XG _) λx _ _ y hy=>by lia
  exact(m'.iS sp (h:=0) (XG _) λx _ hx=>by lia).full
 ·have m':=m.iR sq (h:=0) (XG _) λx _ hx=>by lia
  exact(m'.iS sp (h:=0) (XG _) λx _ hx y hy=>by lia).full
theorem Mh.tail {to:Array XC}(O:cf c)(m:Mh c p q to.toList.reverse i j)(sp:SR c p 0 p.size)(sq:SR c q 0 q.size)(h:j=1)(hf:c (el q 0) (el p 0)=true):Gd c p q (q.extract 0 j++p.extract 0 i++to.reverse).toList:=by
 rw[LC];subst h;have m':=m.iS sp (h:=0) (XG _) λx _ hx y hy=>by
  obtain rfl:y=0:=by lia
  exact O.trans (O.of_lt hf) (sp 0 x (by lia) (by lia) (by have:=m.hi;lia))
 exact(m'.iR sq (h:=0) (XG _) λx _ _ y hy=>by lia).full
theorem iX (to:Array XC)(x:XC):(to.push x).toList.reverse=x::to.toList.reverse:=by
 rw[Zn,aay];rfl
theorem xK (to a:Array XC)(h i:Nat):(to++(a.extract h i).reverse).toList.reverse=(a.toList.drop h).take (i-h)++to.toList.reverse:=by
 rw[Y5,aay,Array.toList_reverse,List.reverse_reverse,cu]
theorem Mh.start (sp:SR c p 0 p.size)(O:cf c)(hp:0<p.size)(hl:∀y,y<q.size->c (el q y) (el p (p.size-1))=true):Mh c p q [el p (p.size-1)] (p.size-1) q.size:=by
 have m:Mh c p q [] p.size q.size:=⟨Xx _,Xx _,by rw[Zs (by simp),Zs (by simp)];exact .refl _,.nil,(λx hx=>by cases hx),(λx hx=>by cases hx)⟩
 exact m.ku hp sp λk hk=>O.of_lt (hl k hk)
end
abbrev RJ:=Nat×Nat×Array XC×Nat×Nat
abbrev RH:=Nat×Nat×Array XC×Nat×Nat×Nat
abbrev RP:=Nat×Nat×Array XC×Nat
def Rv (p q t:Array XC)(i j mg m n:Nat):StateT Yd Sem (ForInStep (Option (Array XC)×RH)):=do
 let z <- elem' p (i-1)
 if (i-1==0)=true then pure (.done (some (p.extract 0 (i-1)++q.extract 0 j++(t.push z).reverse),i-1,j,t.push z,mg,m,n))
 else if (decide (m<7)&&decide (n<7))=true then pure (.done (none,i-1,j,t.push z,mg,m,n)) else pure (.yield (none,i-1,j,t.push z,mg,m,n))
def Rw (p q t:Array XC)(i j mg m n:Nat):StateT Yd Sem (ForInStep (Option (Array XC)×RH)):=do
 let y <- elem' q (j-1)
 if (j-1==1)=true then pure (.done (some (q.extract 0 (j-1)++p.extract 0 i++(t.push y).reverse),i,j-1,t.push y,mg,m,n))
 else do
  let x <- elem' p (i-1)
  let r <- cz true x q 0 (j-1) (j-1-1)
  match r with
  |some h=>if j-1-h>0 then (if (h==1)=true then pure (.done (some (q.extract 0 h++p.extract 0 i++(t.push y++(q.extract h (j-1)).reverse).reverse),i,h,t.push y++(q.extract h (j-1)).reverse,mg,m,j-1-h))
    else if (h==0)=true then pure (.done (some (p.extract 0 i++q.extract 0 h++(t.push y++(q.extract h (j-1)).reverse).reverse),i,h,t.push y++(q.extract h (j-1)).reverse,mg,m,j-1-h))
    else Rv p q (t.push y++(q.extract h (j-1)).reverse) i h mg m (j-1-h)) else Rv p q (t.push y) i (j-1) mg m (j-1-h)
  |_=>pure (.done (some (p.extract 0 i++q.extract 0 (j-1)++(t.push y).reverse),i,j-1,t.push y,mg,m,n))
def Nl (p q t:Array XC)(i j mg m n:Nat):StateT Yd Sem (ForInStep (Option (Array XC)×RH)):=do
 modify λst=>cA st mg
 let y <- elem' q (j-1)
 let r <- cz false y p 0 i (i-1)
 match r with
 |some h=>if i-h>0 then (if (h==0)=true then pure (.done (some (p.extract 0 h++q.extract 0 j++(t++(p.extract h i).reverse).reverse),h,j,t++(p.extract h i).reverse,mg,i-h,n))
   else Rw p q (t++(p.extract h i).reverse) h j mg (i-h) n) else Rw p q t i j mg (i-h) n
 |_=>pure (.done (some (p.extract 0 i++q.extract 0 j++t.reverse),i,j,t,mg,m,n))
def VX (p q:Array XC)(s:Option (Array XC)×RH):StateT Yd Sem (ForInStep (Option (Array XC)×RH)):=if s.2.2.2.2.1>1 then Nl p q s.2.2.2.1 s.2.1 s.2.2.1 (s.2.2.2.2.1-1) s.2.2.2.2.2.1 s.2.2.2.2.2.2 else Nl p q s.2.2.2.1 s.2.1 s.2.2.1 s.2.2.2.2.1 s.2.2.2.2.2.1 s.2.2.2.2.2.2
def Ru (p q t:Array XC)(mg i j m:Nat):StateT Yd Sem (ForInStep (Option (Array XC)×RJ)):=do
 let x <- elem' p (i-1)
 if (i-1==0)=true then pure (.done (some (p.extract 0 (i-1)++q.extract 0 j++(t.push x).reverse),i-1,j,t.push x,m+1,0))
 else if m+1 >= mg then pure (.done (none,i-1,j,t.push x,m+1,0)) else pure (.yield (none,i-1,j,t.push x,m+1,0))
def Rt (p q t:Array XC)(mg i j n:Nat):StateT Yd Sem (ForInStep (Option (Array XC)×RJ)):=do
 let y <- elem' q (j-1)
 if (j-1==1)=true then pure (.done (some (q.extract 0 (j-1)++p.extract 0 i++(t.push y).reverse),i,j-1,t.push y,0,n+1))
 else if n+1 >= mg then pure (.done (none,i,j-1,t.push y,0,n+1)) else pure (.yield (none,i,j-1,t.push y,0,n+1))
def T7 (p q t:Array XC)(mg i j m n:Nat):StateT Yd Sem (ForInStep (Option (Array XC)×RJ)):=do
 let y <- elem' q (j-1)
 let x <- elem' p (i-1)
 let r <- lt' y x
 match r with
 |some Hl=>if Hl=true then Ru p q t mg i j m else Rt p q t mg i j n
 |_=>pure (.done (some (p.extract 0 i++q.extract 0 j++t.reverse),i,j,t,m,n))
def T6 (p q:Array XC)(s:Option (Array XC)×RP):StateT Yd Sem (ForInStep (Option (Array XC)×RP)):=do
 let s1 <- forIn [:p.size+q.size] ((none,s.2.1,s.2.2.1,s.2.2.2.1,0,0):Option (Array XC)×RJ) λ_ r=>T7 p q r.2.2.2.1 s.2.2.2.2 r.2.1 r.2.2.1 r.2.2.2.2.1 r.2.2.2.2.2
 match s1.1 with
 |some r=>pure (.done (some r,s1.2.1,s1.2.2.1,s1.2.2.2.1,s.2.2.2.2))
 |none=>do
  liftM (rule "list.sort.gallop")
  let s2 <- forIn [:p.size+q.size] ((none,s1.2.1,s1.2.2.1,s1.2.2.2.1,s.2.2.2.2+1,s1.2.2.2.2.1,s1.2.2.2.2.2):Option (Array XC)×RH) λ_ r=>VX p q r
  match s2.1 with
  |some r=>pure (.done (some r,s2.2.1,s2.2.2.1,s2.2.2.2.1,s2.2.2.2.2.1))
  |none=>do
   modify λst=>cA st (s2.2.2.2.2.1+1)
   pure (.yield (none,s2.2.1,s2.2.2.1,s2.2.2.2.1,s2.2.2.2.2.1+1))
theorem sJ (p q:Array XC):je p q=(do
  liftM (rule "list.sort.merge-hi")
  let y <- elem' p (p.size-1)
  if (p.size-1==0)=true then pure (p.extract 0 (p.size-1)++q.extract 0++#[y].reverse)
  else if (q.size==1)=true then pure (q.extract 0++p.extract 0 (p.size-1)++#[y].reverse)
  else do
   let st <- get
   let s <- forIn [:p.size+q.size] ((none,p.size-1,q.size,#[y],gallopOf st):Option (Array XC)×RP) λ_ s=>T6 p q s
   match s.1 with
   |some r=>pure r
   |none=>liftM (unsupported "internal:list.sort.merge-bound" : Sem (Array XC))):=by
 rw[sI];dsimp only;refine congrArg (bind _) (funext λ_=>?_);refine congrArg (bind _) (funext λy=>?_);refine congrArg (ite _ _) (congrArg (ite _ _) ?_);refine congrArg (bind _) (funext λy=>?_);refine congr (congrArg bind (congrArg _ (funext λ_=>funext λs=>?_))) (funext λs=>?_)
 ·refine congr (congrArg bind (congrArg _ (funext λ_=>funext λs=>?_))) (funext λs=>?_)
  ·rfl
  ·cases s.1
   ·refine congrArg (bind _) (funext λ_=>?_);refine congr (congrArg bind (congrArg _ (funext λ_=>funext λs=>?_))) (funext λs=>?_)
    ·rfl
    ·cases s.1 <;> rfl
   ·rfl
 ·cases s.1 <;> rfl
section
variable {prog:Xz}{w:XT}{A:Yv}{E:Xv->Xw->Prop}{s:Xw}{κ:ZF}{c:XC->XC->Bool}{S:XC->Prop}{p q:Array XC}
theorem zV {st:Yd}{Q:ForInStep (Option (Array XC)×RH)->Yd->Prop}{t:Array XC}{i j mg m n:Nat}(sp:SR c p 0 p.size)(sq:SR c q 0 q.size)(m3:Mh c p q t.toList.reverse i j)(hi:0<i)(g3:∀k,k<j->le c (el q k) (el p (i-1)))
  (hd:∀out r,Gd c p q out.toList->Q (.done (some out,r)) st) (hn:∀t' m n,Mh c p q t'.toList.reverse (i-1) j->0<i-1->Q (.done (none,i-1,j,t',mg,m,n)) st/\Q (.yield (none,i-1,j,t',mg,m,n)) st):wpS (model prog w) A E s (Rv p q t i j mg m n) Q st:=by
 have fQ:=m3.hi;refine XE (aO (by lia) ?_)
 have m4:Mh c p q (t.push (el p (i-1))).toList.reverse (i-1) j:=by
  rw[iX];exact m3.ku hi sp g3
 by_cases e5:(i-1==0)=true
 ·rw[if_pos e5];exact XS (hd _ _ (m4.done sp sq (.inl (by simpa using e5))))
 rw[if_neg e5];have h5:i-1≠0:=by simpa using e5
 obtain⟨h6,h7⟩:=hn (t.push (el p (i-1))) m n m4 (by lia)
 split
 ·exact XS h6
 ·exact XS h7
theorem zW {st:Yd}{Q:ForInStep (Option (Array XC)×RH)->Yd->Prop}{t:Array XC}{i j mg m n:Nat}(O:cf c)(L:eW prog w A E s κ c S)(hk:kindOf st=κ)(Sp:∀i,i<p.size->S (el p i))(Sq:∀i,i<q.size->S (el q i))(sp:SR c p 0 p.size)(sq:SR c q 0 q.size)(hf:c (el q 0) (el p 0)=true)(m1:Mh c p q t.toList.reverse i j)(hi:0<i)(hj:1<j)(g1:∀x,x<i->le c (el p x) (el q (j-1)))
  (hd:∀out r,Gd c p q out.toList->Q (.done (some out,r)) st) (hn:∀t' j' m n,Mh c p q t'.toList.reverse (i-1) j'->0<i-1->1<j'->j'<j->Q (.done (none,i-1,j',t',mg,m,n)) st/\Q (.yield (none,i-1,j',t',mg,m,n)) st):wpS (model prog w) A E s (Rw p q t i j mg m n) Q st:=by
 have mi:=m1.hi;have mj:=m1.hj;refine XE (aO (by lia) ?_)
 have m2:Mh c p q (t.push (el q (j-1))).toList.reverse i (j-1):=by
  rw[iX];exact m1.kq (by lia) sq g1
 by_cases e3:(j-1==1)=true
 ·rw[if_pos e3];exact XS (hd _ _ (m2.tail O sp sq (by simpa using e3) hf))
 rw[if_neg e3];have h3:j-1≠1:=by simpa using e3
 refine XE (aO (by lia) (XE (dF O L hk (Sp _ (by lia)) (λx hx=>Sq _ (by lia)) (by lia) (λa b h1 h2 h3=>sq a b (by lia) h2 (by lia)) (by lia) λh k1 k2 k3=>?_)))
 have g2:∀x,x<h->c (el q x) (el p (i-1))=true:=λx hx=>by
  have:=k2 x hx;unfold d7 at this;rw[if_pos rfl,ZL]at this;exact this
 have g4:∀x,h<=x->x<j-1->le c (el p (i-1)) (el q x):=λx h1 h2=>by
  have:=k3 x h1 h2;unfold d7 at this;rw[if_pos rfl,ZL]at this;exact this
 have hh:0<h:=by
  rcases Nat.eq_zero_or_pos h with z|z
  ·subst z;have h2:=O.trans (sp 0 (i-1) (by lia) (by lia) (by lia)) (g4 0 (Xx _) (by lia))
   exact absurd (hf.symm.trans h2) (by simp)
  ·exact z
 dsimp only
 by_cases zI:j-1-h>0
 ·rw[if_pos zI];have m3:Mh c p q (t.push (el q (j-1))++(q.extract h (j-1)).reverse).toList.reverse i h:=by
   rw[xK];exact m2.iR sq k1 λx h1 h2 y hy=>O.trans (sp y (i-1) (by lia) (by lia) (by lia)) (g4 x h1 h2)
  by_cases e4:(h==1)=true
  ·rw[if_pos e4];exact XS (hd _ _ (m3.tail O sp sq (by simpa using e4) hf))
  rw[if_neg e4];have h4:h≠1:=by simpa using e4
  rw[if_neg (by simp;lia)]
  exact zV sp sq m3 hi (λk hk=>O.of_lt (g2 k hk)) hd λt' m n h1 h2=>hn t' _ m n h1 h2 (by lia) (by lia)
 ·rw[if_neg zI];exact zV sp sq m2 hi (λk hk=>O.of_lt (g2 k (by lia))) hd λt' m n h1 h2=>hn t' _ m n h1 h2 (by lia) (by lia)
theorem Hh {st:Yd}{Q:ForInStep (Option (Array XC)×RH)->Yd->Prop}{t:Array XC}{i j mg m n:Nat}(O:cf c)(L:eW prog w A E s κ c S)(hk:kindOf st=κ)(Sp:∀i,i<p.size->S (el p i))(Sq:∀i,i<q.size->S (el q i))(sp:SR c p 0 p.size)(sq:SR c q 0 q.size)(hf:c (el q 0) (el p 0)=true)(m0:Mh c p q t.toList.reverse i j)(hi:0<i)(hj:1<j)
  (hd:∀out r,Gd c p q out.toList->Q (.done (some out,r)) (cA st mg)) (hn:∀t' i' j' m n,Mh c p q t'.toList.reverse i' j'->0<i'->1<j'->i'+j'<i+j->Q (.done (none,i',j',t',mg,m,n)) (cA st mg)/\Q (.yield (none,i',j',t',mg,m,n)) (cA st mg)):wpS (model prog w) A E s (Nl p q t i j mg m n) Q st:=by
 have mi:=m0.hi;have mj:=m0.hj;refine XE (Z0 (XE (aO (by lia) (XE (dF O L hk (Sq _ (by lia)) (λx hx=>Sp _ (by lia)) (by lia) (λa b h1 h2 h3=>sp a b (by lia) h2 (by lia)) (by lia) λh k1 k2 k3=>?_)))))
 have g0:∀x,x<h->le c (el p x) (el q (j-1)):=λx hx=>by
  have:=k2 x hx;unfold d7 at this;rw[if_neg (by simp),aam,ZL]at this
  exact this
 have g5:∀x,h<=x->x<i->le c (el q (j-1)) (el p x):=λx h1 h2=>by
  have:=k3 x h1 h2;unfold d7 at this;rw[if_neg (by simp),Bool.not_eq_false',ZL]at this
  exact O.of_lt this
 dsimp only
 by_cases zI:i-h>0
 ·rw[if_pos zI];have m1:Mh c p q (t++(p.extract h i).reverse).toList.reverse h j:=by
   rw[xK];exact m0.iS sp k1 λx h1 h2 y hy=>O.trans (sq y (j-1) (by lia) (by lia) (by lia)) (g5 x h1 h2)
  by_cases e1:(h==0)=true
  ·rw[if_pos e1];exact XS (hd _ _ (m1.done sp sq (.inl (by simpa using e1))))
  rw[if_neg e1];have Fn:h≠0:=by simpa using e1
  exact zW O L hk Sp Sq sp sq hf m1 (by lia) hj g0 hd λt' j' m n h1 h2 h3 h4=>hn t' _ j' m n h1 h2 h3 (by lia)
 ·rw[if_neg zI];exact zW O L hk Sp Sq sp sq hf m0 hi hj (λx hx=>g0 x (by lia)) hd λt' j' m n h1 h2 h3 h4=>hn t' _ j' m n h1 h2 h3 (by lia)
theorem Hg {st:Yd}{Q:ForInStep (Option (Array XC)×RJ)->Yd->Prop}{t:Array XC}{i j mg ma na:Nat}(O:cf c)(L:eW prog w A E s κ c S)(hk:kindOf st=κ)(Sp:∀i,i<p.size->S (el p i))(Sq:∀i,i<q.size->S (el q i))(sp:SR c p 0 p.size)(sq:SR c q 0 q.size)(hf:c (el q 0) (el p 0)=true)(m:Mh c p q t.toList.reverse i j)(hi:0<i)(hj:1<j)
  (hd:∀out r,Gd c p q out.toList->Q (.done (some out,r)) st) (hn:∀t' i' j' m n,Mh c p q t'.toList.reverse i' j'->0<i'->1<j'->i'+j'<i+j->Q (.done (none,i',j',t',m,n)) st/\Q (.yield (none,i',j',t',m,n)) st):wpS (model prog w) A E s (T7 p q t mg i j ma na) Q st:=by
 have fQ:=m.hi;have Dq:=m.hj;refine XE (aO (by lia) (XE (aO (by lia) (XE (L _ _ st _ (Sq _ (by lia)) (Sp _ (by lia)) hk ?_)))))
 dsimp only;cases hc:c (el q (j-1)) (el p (i-1))with
 |true =>
  rw[if_pos rfl];refine XE (aO (by lia) ?_)
  have m1:Mh c p q (t.push (el p (i-1))).toList.reverse (i-1) j:=by
   rw[iX];exact m.ku hi sp λk hk=>O.trans (sq k (j-1) (by lia) (by lia) (by lia)) (O.of_lt hc)
  by_cases e3:(i-1==0)=true
  ·rw[if_pos e3];exact XS (hd _ _ (m1.done sp sq (.inl (by simpa using e3))))
  rw[if_neg e3];have h3:i-1≠0:=by simpa using e3
  obtain⟨h6,h7⟩:=hn _ _ _ (ma+1) 0 m1 (by lia) hj (by lia)
  split
  ·exact XS h6
  ·exact XS h7
 |false =>
  rw[if_neg (by simp)]
  refine XE (aO (by lia) ?_)
  have m1:Mh c p q (t.push (el q (j-1))).toList.reverse i (j-1):=by
   rw[iX];exact m.kq (by lia) sq λk hk=>O.trans (sp k (i-1) (by lia) (by lia) (by lia)) (show le c (el p (i-1)) (el q (j-1)) from hc)
  by_cases e3:(j-1==1)=true
  ·rw[if_pos e3];exact XS (hd _ _ (m1.tail O sp sq (by simpa using e3) hf))
  rw[if_neg e3];have h3:j-1≠1:=by simpa using e3
  obtain⟨h6,h7⟩:=hn _ _ _ 0 (na+1) m1 hi (by lia) (by lia)
  split
  ·exact XS h6
  ·exact XS h7
theorem uG (O:cf c)(L:eW prog w A E s κ c S){Q:Array XC->Yd->Prop}{st:Yd}(hk:kindOf st=κ)(Sp:∀i,i<p.size->S (el p i))(Sq:∀i,i<q.size->S (el q i))(sp:SR c p 0 p.size)(sq:SR c q 0 q.size)
  (hp:0<p.size) (hq:0<q.size) (hf:c (el q 0) (el p 0)=true) (hl:∀y,y<q.size->c (el q y) (el p (p.size-1))=true) (h:∀to aB,kh st aB->Gd c p q to.toList->Q to aB) :
  wpS (model prog w) A E s (je p q) Q st:=by
 rw[sJ];refine XE (aaS (ZK ⟨rfl,?_⟩));refine XE (aO (by lia) ?_)
 have m0:Mh c p q (#[el p (p.size-1)]:Array XC).toList.reverse (p.size-1) q.size:=Mh.start sp O hp hl
 by_cases h1:(p.size-1==0)=true
 ·rw[if_pos h1];exact XS (h _ st (kh.refl st) (m0.done sp sq (.inl (by simpa using h1))))
 rw[if_neg h1];have Fn:p.size-1≠0:=by simpa using h1
 by_cases h2:(q.size==1)=true
 ·rw[if_pos h2];exact XS (h _ st (kh.refl st) (m0.tail O sp sq (by simpa using h2) hf))
 rw[if_neg h2];have Ce:q.size≠1:=by simpa using h2
 refine XE (aaz ?_);refine XE (Zi (YL
  (I:=λx r aB=>kh st aB/\∃i j to mg,r=(none,i,j,to,mg)/\Mh c p q to.toList.reverse i j/\0<i/\1<j/\i+j+x<p.size+q.size)
  (Q:=λr aB=>kh st aB/\∃out r',r=(some out,r')/\Gd c p q out.toList) ?_ ?_ ?_) ?_)
 ·rintro x r aB _ hx ⟨e,i,j,to,mg,rfl,m,hi,hj,hb⟩;unfold T6;dsimp only;refine XE (Zi (YL
   (I:=λy r aB=>kh st aB/\∃i j to m n,r=(none,i,j,to,m,n)/\Mh c p q to.toList.reverse i j/\0<i/\1<j/\i+j+x+min y 1<p.size+q.size)
   (Q:=λr aB=>kh st aB/\((∃out r',r=(some out,r')/\Gd c p q out.toList)\/∃i j to m n,r=(none,i,j,to,m,n)/\Mh c p q to.toList.reverse i j/\0<i/\1<j/\i+j+x+1<p.size+q.size)) ?_ ?_ ?_) ?_)
  ·rintro y r fH _ hy ⟨e2,i,j,to,ma,na,rfl,m,hi,hj,hb⟩;exact Hg O L (e2.kind.trans hk) Sp Sq sp sq hf m hi hj (λout r h=>⟨e2,.inl ⟨_,_,rfl,h⟩⟩) λt' i' j' m n h1 h2 h3 h4=>⟨⟨e2,.inr ⟨_,_,_,_,_,rfl,h1,h2,h3,by lia⟩⟩,⟨e2,_,_,_,_,_,rfl,h1,h2,h3,by lia⟩⟩
  ·rintro r fH ⟨e2,i,j,to,ma,na,rfl,m,hi,hj,hb⟩;exact⟨e2,.inr ⟨_,_,_,_,_,rfl,m,hi,hj,by lia⟩⟩
  ·exact⟨e,_,_,_,_,_,rfl,m,hi,hj,by lia⟩
  rintro r fH ⟨e2,⟨out,r',rfl,g⟩|⟨i,j,to,ma,na,rfl,m,hi,hj,hb⟩⟩
  ·exact XS ⟨e2,_,_,rfl,g⟩
  dsimp only;refine XE (aaS (ZK ⟨rfl,?_⟩));refine XE (Zi (YL
   (I:=λy r aB=>kh st aB/\∃i j to mg m n,r=(none,i,j,to,mg,m,n)/\Mh c p q to.toList.reverse i j/\0<i/\1<j/\i+j+x+1<p.size+q.size)
   (Q:=λr aB=>kh st aB/\((∃out r',r=(some out,r')/\Gd c p q out.toList)\/∃i j to mg m n,r=(none,i,j,to,mg,m,n)/\Mh c p q to.toList.reverse i j/\0<i/\1<j/\i+j+x+1<p.size+q.size)) ?_ ?_ ?_) ?_)
  ·rintro y r fH _ hy ⟨e2,i,j,to,mg,ma,na,rfl,m,hi,hj,hb⟩;show wpS (model prog w) A E s (if mg>1 then Nl p q to i j (mg-1) ma na else Nl p q to i j mg ma na) _ fH
   split <;> exact Hh O L (e2.kind.trans hk) Sp Sq sp sq hf m hi hj (λout r h=>⟨e2.GQ _,.inl ⟨_,_,rfl,h⟩⟩) λt' i' j' m n h1 h2 h3 h4=>⟨⟨e2.GQ _,.inr ⟨_,_,_,_,_,_,rfl,h1,h2,h3,by lia⟩⟩,⟨e2.GQ _,_,_,_,_,_,_,rfl,h1,h2,h3,by lia⟩⟩
  ·rintro r fH ⟨e2,i,j,to,mg,ma,na,rfl,m,hi,hj,hb⟩;exact⟨e2,.inr ⟨_,_,_,_,_,_,rfl,m,hi,hj,hb⟩⟩
  ·exact⟨e2,_,_,_,_,_,_,rfl,m,hi,hj,hb⟩
  rintro r fH ⟨e2,⟨out,r',rfl,g⟩|⟨i,j,to,mg,ma,na,rfl,m,hi,hj,hb⟩⟩
  ·exact XS ⟨e2,_,_,rfl,g⟩
  dsimp only;refine XE (Z0 (XS ⟨e2.GQ _,_,_,_,_,rfl,m,hi,hj,by lia⟩))
 ·rintro r aB ⟨e,i,j,to,mg,rfl,m,hi,hj,hb⟩
  exfalso
  rw[show max 0 (p.size+q.size)=p.size+q.size by lia]at hb
  lia
 ·exact⟨kh.refl st,_,_,_,_,rfl,m0,by lia,by lia,by lia⟩
 ·rintro r aB ⟨e,out,r',rfl,g⟩;exact XS (h _ aB e g)
end
section
variable {c:XC->XC->Bool}{a b:Array XC}
structure Rg (a b:Array XC)(lo hi:Nat):Prop where
 perm:b.Perm a
 out:∀k,(k<lo\/hi<=k)->el b k=el a k
theorem Rg.refl {lo hi:Nat}:Rg a a lo hi:=⟨Array.Perm.refl _,λ_ _=>rfl⟩
theorem Rg.trans {d:Array XC}{lo hi:Nat}(x:Rg a b lo hi)(y:Rg b d lo hi):Rg a d lo hi:=⟨y.perm.trans x.perm,λk h=>(y.out k h).trans (x.out k h)⟩
theorem Rg.mono {lo hi Gp fQ:Nat}(x:Rg a b lo hi)(h1:Gp<=lo)(h2:hi<=fQ):Rg a b Gp fQ:=⟨x.perm,λk h=>x.out k (by lia)⟩
theorem Rg.size {lo hi:Nat}(x:Rg a b lo hi):b.size=a.size:=x.perm.size_eq
theorem SR.congr {lo hi:Nat}(h:SR c a lo hi)(e:∀k,lo<=k->k<hi->el b k=el a k):SR c b lo hi:=λi j h1 h2 h3=>by
 rw[e i h1 (by lia),e j (by lia) h3]
 exact h i j h1 h2 h3
def NI (c:XC->XC->Bool)(a:Array XC)(lo hi:Nat):Prop:=∀i j,lo<=i->i<=j->j<hi->le c (el a j) (el a i)
theorem cc {i j:Nat}(hj:j<=a.size)(k:Nat):el (mirror a i j ((j-i) / 2)) k=if i<=k/\k<j then el a (i+j-1-k) else el a k:=by
 have e:=getElem?_mirror_all (i:=i) hj k
 by_cases h:i<=k/\k<j
 ·rw[if_pos h]at e ⊢
  exact d6 e
 ·rw[if_neg h]at e ⊢
  exact d6 e
theorem fe {i j:Nat}(hj:j<=a.size):Rg a (mirror a i j ((j-i) / 2)) i j:=⟨mirror_perm _ _ _ _,λk h=>by rw[cc hj,if_neg (by lia)]⟩
theorem oU {i j:Nat}(hj:j<=a.size)(h:NI c a i j):SR c (mirror a i j ((j-i) / 2)) i j:=λx y h1 h2 h3=>by
 rw[cc hj,cc hj,if_pos (by lia),if_pos (by lia)]
 exact h _ _ (by lia) (by lia) (by lia)
theorem jO {lo i j:Nat}(OD:lo<=i)(hj:j<=a.size)(h:NI c a lo j)(he:∀x y,i<=x->x<j->i<=y->y<j->le c (el a x) (el a y)):NI c (mirror a i j ((j-i) / 2)) lo j:=λx y h1 h2 h3=>by
 rw[cc hj,cc hj]
 by_cases hx:i<=x/\x<j
 ·rw[if_pos hx,if_pos (by lia)]
  exact he _ _ (by lia) (by lia) (by lia) (by lia)
 ·rw[if_neg hx]
  by_cases hy:i<=y/\y<j
  ·rw[if_pos hy];exact h _ _ (by lia) (by lia) (by lia)
  ·rw[if_neg hy];exact h _ _ h1 h2 h3
theorem SR.snoc {lo n:Nat}(O:cf c)(h:SR c a lo (lo+n))(h1:0<n)(hn:le c (el a (lo+n-1)) (el a (lo+n))):SR c a lo (lo+(n+1)):=λi j h2 h3 h4=>by
 by_cases hj:j<lo+n
 ·exact h i j h2 h3 hj
 ·obtain rfl:j=lo+n:=by lia
  by_cases hi:i<lo+n
  ·exact O.trans (h i (lo+n-1) h2 (by lia) (by lia)) hn
  ·obtain rfl:i=lo+n:=by lia
   exact O.refl _
theorem NI.snoc {lo n:Nat}(O:cf c)(h:NI c a lo (lo+n))(h1:0<n)(hn:le c (el a (lo+n)) (el a (lo+n-1))):NI c a lo (lo+(n+1)):=λi j h2 h3 h4=>by
 by_cases hj:j<lo+n
 ·exact h i j h2 h3 hj
 ·obtain rfl:j=lo+n:=by lia
  by_cases hi:i<lo+n
  ·exact O.trans hn (h i (lo+n-1) h2 (by lia) (by lia))
  ·obtain rfl:i=lo+n:=by lia
   exact O.refl _
theorem SR.one {lo:Nat}(O:cf c):SR c a lo (lo+1):=λi j h1 h2 h3=>by
 obtain rfl:i=j:=by lia
 exact O.refl _
end
structure kg (κ:ZF)(a₀:Array XC)(st:Yd):Prop where
 kind:kindOf st=κ
 fail:aak st=none
 perm:(Yj st).Perm a₀
section
variable {prog:Xz}{w:XT}{A:Yv}{E:Xv->Xw->Prop}{s:Xw}{κ:ZF}{c:XC->XC->Bool}{a₀:Array XC}
theorem kg.size {st:Yd}(h:kg κ a₀ st):(Yj st).size=a₀.size:=h.perm.size_eq
theorem kg.mem {st:Yd}(h:kg κ a₀ st){i:Nat}(hi:i<a₀.size):el (Yj st) i∈a₀.toList:=by
 have h1:i<(Yj st).size:=by rw[h.size];exact hi
 refine(Z3.mp h.perm).mem_iff.mp ?_;have:=js h1;rw[<- X0]at this;exact Yq this
theorem kg.set {st:Yd}{b:Array XC}{lo hi:Nat}(h:kg κ a₀ st)(r:Rg (Yj st) b lo hi):kg κ a₀ (YY st b):=⟨h.kind,h.fail,r.perm.trans h.perm⟩
theorem pZ (L:eW prog w A E s κ c (·∈a₀.toList)){st:Yd}{i j:Nat}{Q:Option Bool->Yd->Prop}(h:kg κ a₀ st)(hi:i<a₀.size)(hj:j<a₀.size)(q:Q (some (c (el (Yj st) i) (el (Yj st) j))) st):
  wpS (model prog w) A E s (ltAt' i j) Q st:=by
 rw[ltAt'_eq];refine XE (aaz ?_);exact XE (aO (by rw[h.size];exact hi) (XE (aO (by rw[h.size];exact hj) (L _ _ st Q (h.mem hi) (h.mem hj) h.kind q))))
theorem iO (L:eW prog w A E s κ c (·∈a₀.toList)){st:Yd}{b:Array XC}{i j lo hi:Nat}{Q:Option Bool->Yd->Prop}(h:kg κ a₀ st)(R:Rg (Yj st) b lo hi)(hi:i<a₀.size)(hj:j<a₀.size)(q:Q (some (c (el b i) (el b j))) (YY st b)):
  wpS (model prog w) A E s (ltAt' i j) Q (YY st b):=pZ L (h.set R) hi hj q
theorem iN {st:Yd}{i j:Nat}{Q:Unit->Yd->Prop}(q:Q () (YY st (mirror (Yj st) i j ((j-i) / 2)))):wpS (model prog w) A E s (reverseSlice' i j) Q st:=by
 rw[reverseSlice'_eq];exact Z0 q
theorem zX (O:cf c)(L:eW prog w A E s κ c (·∈a₀.toList)){st:Yd}{lo fb:Nat}{Q:Option Nat->Yd->Prop}(h0:kg κ a₀ st)(h1:1<=fb)(hn:lo+fb<=a₀.size)
  (h:∀n b,1<=n->n<=fb->Rg (Yj st) b lo (lo+fb)->SR c b lo (lo+n)->Q (some n) (YY st b)):wpS (model prog w) A E s (countRun' lo fb) Q st:=by
 rw[countRun'_eq];dsimp only;refine XE (Zi (YL (I:=λx r aB=>aB=st/\∃n,r=(none,n)/\n=x/\SR c (Yj st) lo (lo+n))
  (Q:=λr aB=>aB=st/\∃n,r=(none,n)/\1<=n/\n<=fb/\SR c (Yj st) lo (lo+n)/\(n=fb\/(n<fb/\c (el (Yj st) (lo+n)) (el (Yj st) (lo+n-1))=true))) ?_ ?_ ?_) ?_)
 ·rintro x r aB Gy hx ⟨rfl,n,rfl,rfl,hs⟩;dsimp only;refine XE (pZ L h0 (by lia) (by lia) ?_)
  dsimp only;cases hc:c (el (Yj aB) (lo+n)) (el (Yj aB) (lo+n-1))with
  |true =>
   rw[if_pos rfl];exact XS ⟨rfl,n,rfl,Gy,by lia,hs,.inr ⟨by lia,hc⟩⟩
  |false =>
   rw[if_neg (by simp)]
   exact XS ⟨rfl,n+1,rfl,rfl,hs.snoc O Gy hc⟩
 ·rintro r aB ⟨rfl,n,rfl,hx,hs⟩;exact⟨rfl,n,rfl,by lia,by lia,hs,.inl (by lia)⟩
 ·exact⟨rfl,1,rfl,rfl,SR.one O⟩
 rintro r aB ⟨e0,n,rfl,TR,Kt,hs,hc⟩;rw[e0];dsimp only
 by_cases Q8:(n==fb)=true
 ·rw[if_pos Q8];exact XS (h n (Yj st) TR Kt Rg.refl hs)
 rw[if_neg Q8];have VN:n≠fb:=by simpa using Q8
 have hc:c (el (Yj st) (lo+n)) (el (Yj st) (lo+n-1))=true:=by
  rcases hc with q|q
  ·lia
  ·exact q.2
 refine(λ(key:∀b,Rg (Yj st) b lo (lo+fb)->NI c b lo (lo+(n+1))->wpS (model prog w) A E s ?cont Q (YY st b))=>?main) ?key
 case main =>
  by_cases h2:n>1
  ·rw[if_pos h2];refine XE (pZ L h0 (by lia) (by lia) ?_)
   dsimp only;cases hr:c (el (Yj st) lo) (el (Yj st) (lo+n-1))with
   |true =>
    rw[if_pos rfl];exact XS (h n (Yj st) TR Kt Rg.refl hs)
   |false =>
    rw[if_neg (by simp)]
    refine XE (iN ?_);have hz:lo+n<=(Yj st).size:=by have:=h0.size;lia
    have R0:Rg (Yj st) (mirror (Yj st) lo (lo+n) ((lo+n-lo) / 2)) lo (lo+fb):=(fe hz).mono (Xx _) (by lia)
    have all:∀u v,lo<=u->u<lo+n->lo<=v->v<lo+n->le c (el (Yj st) u) (el (Yj st) v):=λu v h1 h2 h3 h4 =>
     O.trans (hs u (lo+n-1) h1 (by lia) (by lia)) (O.trans hr (hs lo v (Xx _) h3 h4))
    have N0:NI c (mirror (Yj st) lo (lo+n) ((lo+n-lo) / 2)) lo (lo+(n+1)):=by
     refine NI.snoc O (jO (Xx _) hz (λu v h1 h2 h3=>all v u (by lia) (by lia) h1 (by lia)) λu v h1 h2 h3 h4=>all u v h1 h2 h3 h4) (by lia) ?_
     rw[cc hz,cc hz,if_neg (by lia),if_pos (by lia)]
     exact O.trans (O.of_lt hc) (all _ _ (by lia) (by lia) (by lia) (by lia))
    exact key _ R0 N0
  ·rw[if_neg h2];have N0:NI c (Yj st) lo (lo+(n+1)):=NI.snoc O (λu v h1 h2 h3=>by
    obtain rfl:u=v:=by lia
    exact O.refl _) (by lia) (O.of_lt hc)
   show wpS _ _ _ _ _ Q (YY st (Yj st));exact key _ Rg.refl N0
 case key =>
  intro b0 R0 N0;refine XE (aaS (ZK ⟨rfl,?_⟩));refine XE (Zi (YL (I:=λx r aB=>∃b n kA,aB=YY st b/\r=(none,n,kA)/\n=x/\Rg (Yj st) b lo (lo+fb)/\NI c b lo (lo+n)/\kA<n/\(∀u v,lo+n-1-kA<=u->u<lo+n->lo+n-1-kA<=v->v<lo+n->le c (el b u) (el b v)))
   (Q:=λr aB=>∃b n kA,aB=YY st b/\r=(none,n,kA)/\1<=n/\n<=fb/\Rg (Yj st) b lo (lo+fb)/\NI c b lo (lo+n)/\kA<n/\(∀u v,lo+n-1-kA<=u->u<lo+n->lo+n-1-kA<=v->v<lo+n->le c (el b u) (el b v))) ?_ ?_ ?_) ?_)
  ·rintro x r aB Gy hx ⟨b,n',kA,rfl,rfl,rfl,R,N,hq,he⟩;dsimp only;refine XE (iO L h0 R (by lia) (by lia) ?_)
   dsimp only;cases nQ:c (el b (lo+n')) (el b (lo+n' - 1))with
   |true =>
    rw[if_pos rfl]
    by_cases B8:kA>0
    ·rw[if_pos B8];refine XE (iN (XS ?_));have hz:lo+n'<=b.size:=by have:=R.size;have:=h0.size;lia
     refine⟨mirror b (lo+n' - (kA+1)) (lo+n') ((lo+n' - (lo+n' - (kA+1))) / 2),n'+1,0,rfl,rfl,rfl,R.trans ((fe hz).mono (by lia) (by lia)),?_,by lia,?_⟩
     ·refine NI.snoc O (jO (by lia) hz N λu v h1 h2 h3 h4=>he u v (by lia) h2 (by lia) h4) (by lia) ?_
      rw[cc hz,cc hz,if_neg (by lia),if_pos (by lia)]
      exact O.trans (O.of_lt nQ) (he _ _ (by lia) (by lia) (by lia) (by lia))
     ·intro u v h1 h2 h3 h4;obtain rfl:u=v:=by lia
      exact O.refl _
    ·rw[if_neg B8];refine XS ⟨b,n'+1,0,rfl,rfl,rfl,R,N.snoc O (by lia) (O.of_lt nQ),by lia,?_⟩
     intro u v h1 h2 h3 h4;obtain rfl:u=v:=by lia
     exact O.refl _
   |false =>
    rw[if_neg (by simp)]
    refine XE (iO L h0 R (by lia) (by lia) ?_)
    dsimp only;cases nP:c (el b (lo+n' - 1)) (el b (lo+n'))with
    |true =>
     rw[if_pos rfl];exact XS ⟨b,n',kA,rfl,rfl,by lia,by lia,R,N,hq,he⟩
    |false =>
     rw[if_neg (by simp)]
     refine XS ⟨b,n'+1,kA+1,rfl,rfl,rfl,R,N.snoc O (by lia) nP,by lia,?_⟩
     have hl:∀u,lo+n' - 1-kA<=u->u<lo+(n'+1)->le c (el b u) (el b (lo+n'))/\le c (el b (lo+n')) (el b u):=λu h1 h2=>by
      by_cases hu:u<lo+n'
      ·exact⟨O.trans (he u (lo+n' - 1) h1 hu (by lia) (by lia)) nQ,O.trans nP (he (lo+n' - 1) u (by lia) (by lia) h1 hu)⟩
      ·obtain rfl:u=lo+n':=by lia
       exact⟨O.refl _,O.refl _⟩
     intro u v h1 h2 h3 h4;exact O.trans (hl u (by lia) h2).1 (hl v (by lia) h4).2
  ·rintro r aB ⟨b,n',kA,rfl,rfl,hx,R,N,hq,he⟩;exact⟨b,n',kA,rfl,rfl,by lia,by lia,R,N,hq,he⟩
  ·refine⟨_,n+1,0,rfl,rfl,rfl,R0,N0,by lia,?_⟩
   intro u v h1 h2 h3 h4;obtain rfl:u=v:=by lia
   exact O.refl _
  rintro r aB ⟨b,n',kA,rfl,rfl,VP,VO,RB,NB,hq,he⟩;dsimp only
  by_cases B8:kA>0
  ·rw[if_pos B8];refine XE (iN ?_);have hz:lo+n'<=b.size:=by have:=RB.size;have:=h0.size;lia
   have NB:=jO (c:=c) (i:=lo+n' - (kA+1)) (by lia) hz NB λu v h1 h2 h3 h4=>he u v (by lia) h2 (by lia) h4
   have RB:=RB.trans ((fe (i:=lo+n' - (kA+1)) hz).mono (by lia) (by lia:lo+n'<=lo+fb))
   show wpS _ _ _ _ _ Q (YY st (mirror b (lo+n' - (kA+1)) (lo+n') ((lo+n' - (lo+n' - (kA+1))) / 2)));generalize mirror b (lo+n' - (kA+1)) (lo+n') ((lo+n' - (lo+n' - (kA+1))) / 2)=b1 at NB RB;refine XE (iN ?_);have R2:Rg (Yj st) (mirror b1 lo (lo+n') ((lo+n' - lo) / 2)) lo (lo+fb):=RB.trans ((fe (by have:=RB.size;have:=h0.size;lia)).mono (Xx _) (by lia))
   have S2:SR c (mirror b1 lo (lo+n') ((lo+n' - lo) / 2)) lo (lo+n'):=oU (by have:=RB.size;have:=h0.size;lia) NB
   show wpS _ _ _ _ _ Q (YY st (mirror b1 lo (lo+n') ((lo+n' - lo) / 2)));generalize mirror b1 lo (lo+n') ((lo+n' - lo) / 2)=b2 at R2 S2;refine XE (Zi (YL (I:=λx r aB=>aB=YY st b2/\∃m,r=(none,m)/\m=x/\SR c b2 lo (lo+m))
    (Q:=λr aB=>aB=YY st b2/\∃m,r=(none,m)/\1<=m/\m<=fb/\SR c b2 lo (lo+m)) ?_ ?_ ?_) ?_)
   ·rintro x r aB Gy hx ⟨rfl,m,rfl,rfl,hs⟩;dsimp only;refine XE (iO L h0 R2 (by lia) (by lia) ?_)
    dsimp only;cases hc:c (el b2 (lo+m)) (el b2 (lo+m-1))with
    |true =>
     rw[if_pos rfl];exact XS ⟨rfl,m,rfl,by lia,by lia,hs⟩
    |false =>
     rw[if_neg (by simp)]
     exact XS ⟨rfl,m+1,rfl,rfl,hs.snoc O (by lia) hc⟩
   ·rintro r aB ⟨rfl,m,rfl,hx,hs⟩;exact⟨rfl,m,rfl,by lia,by lia,hs⟩
   ·exact⟨rfl,n',rfl,rfl,S2⟩
   rintro r aB ⟨rfl,m,rfl,Rf,JF,hs⟩;exact XS (h m b2 Rf JF R2 hs)
  ·rw[if_neg B8];refine XE (iN ?_);have R2:Rg (Yj st) (mirror b lo (lo+n') ((lo+n' - lo) / 2)) lo (lo+fb):=RB.trans ((fe (by have:=RB.size;have:=h0.size;lia)).mono (Xx _) (by lia))
   have S2:SR c (mirror b lo (lo+n') ((lo+n' - lo) / 2)) lo (lo+n'):=oU (by have:=RB.size;have:=h0.size;lia) NB
   show wpS _ _ _ _ _ Q (YY st (mirror b lo (lo+n') ((lo+n' - lo) / 2)));generalize mirror b lo (lo+n') ((lo+n' - lo) / 2)=b2 at R2 S2;refine XE (Zi (YL (I:=λx r aB=>aB=YY st b2/\∃m,r=(none,m)/\m=x/\SR c b2 lo (lo+m))
    (Q:=λr aB=>aB=YY st b2/\∃m,r=(none,m)/\1<=m/\m<=fb/\SR c b2 lo (lo+m)) ?_ ?_ ?_) ?_)
   ·rintro x r aB Gy hx ⟨rfl,m,rfl,rfl,hs⟩;dsimp only;refine XE (iO L h0 R2 (by lia) (by lia) ?_)
    dsimp only;cases hc:c (el b2 (lo+m)) (el b2 (lo+m-1))with
    |true =>
     rw[if_pos rfl];exact XS ⟨rfl,m,rfl,by lia,by lia,hs⟩
    |false =>
     rw[if_neg (by simp)]
     exact XS ⟨rfl,m+1,rfl,rfl,hs.snoc O (by lia) hc⟩
   ·rintro r aB ⟨rfl,m,rfl,hx,hs⟩;exact⟨rfl,m,rfl,by lia,by lia,hs⟩
   ·exact⟨rfl,n',rfl,rfl,S2⟩
   rintro r aB ⟨rfl,m,rfl,Rf,JF,hs⟩;exact XS (h m b2 Rf JF R2 hs)
end
section
variable {c:XC->XC->Bool}{a:Array XC}
theorem j4 {src d:Nat}(hs:src<a.size)(hd:d<=src)(k:Nat):el (bubble a src d) k=if k=src-d then el a src else if src-d<k/\k<=src then el a (k-1) else el a k:=by
 have e:=getElem?_bubble hs d hd k
 by_cases h1:k=src-d
 ·rw[if_pos h1]at e ⊢
  exact d6 e
 ·rw[if_neg h1]at e ⊢
  by_cases h2:src-d<k/\k<=src
  ·rw[if_pos h2]at e ⊢
   exact d6 e
  ·rw[if_neg h2]at e ⊢
   exact d6 e
theorem zq {lo k l:Nat}(O:cf c)(hk:lo+k<a.size)(hl:l<=k)(h:SR c a lo (lo+k))(h1:∀i,i<l->le c (el a (lo+i)) (el a (lo+k)))(h2:∀i,l<=i->i<k->le c (el a (lo+k)) (el a (lo+i))):
  SR c (bubble a (lo+k) (lo+k-(lo+l))) lo (lo+(k+1)):=λi j g1 g2 g3=>by
 rw[j4 hk (by lia),j4 hk (by lia),show lo+k-(lo+k-(lo+l))=lo+l by lia]
 have q1:∀i,lo<=i->i<lo+l->le c (el a i) (el a (lo+k)):=λi x y=>by
  have:=h1 (i-lo) (by lia)
  rwa [show lo+(i-lo)=i by lia]at this
 have q2:∀i,lo+l<=i->i<lo+k->le c (el a (lo+k)) (el a i):=λi x y=>by
  have:=h2 (i-lo) (by lia) (by lia)
  rwa [show lo+(i-lo)=i by lia]at this
 by_cases ei:i=lo+l
 ·rw[if_pos ei]
  by_cases ej:j=lo+l
  ·rw[if_pos ej];exact O.refl _
  ·rw[if_neg ej,if_pos (by lia)]
   exact q2 _ (by lia) (by lia)
 ·rw[if_neg ei]
  by_cases ej:j=lo+l
  ·rw[if_pos ej,if_neg (by lia)]
   exact q1 _ (by lia) (by lia)
  ·rw[if_neg ej]
   by_cases fi:lo+l<i/\i<=lo+k
   ·rw[if_pos fi,if_pos (by lia)]
    exact h _ _ (by lia) (by lia) (by lia)
   ·rw[if_neg fi]
    by_cases fj:lo+l<j/\j<=lo+k
    ·rw[if_pos fj];exact h _ _ (by lia) (by lia) (by lia)
    ·rw[if_neg fj];exact h _ _ (by lia) (by lia) (by lia)
theorem zr {src d:Nat}(hs:src<a.size)(hd:d<=src):Rg a (bubble a src d) (src-d) (src+1):=⟨bubble_perm _ _ _,λk h=>by
 rw[j4 hs hd,if_neg (by lia),if_neg (by lia)]⟩
end
section
variable {prog:Xz}{w:XT}{A:Yv}{E:Xv->Xw->Prop}{s:Xw}{κ:ZF}{c:XC->XC->Bool}{a₀:Array XC}
theorem Hj (O:cf c)(L:eW prog w A E s κ c (·∈a₀.toList)){st:Yd}{lo n ok:Nat}{Q:Bool->Yd->Prop}(h0:kg κ a₀ st)(bt:ok<=n)(h1:1<=n)(hn:lo+n<=a₀.size)(hs:SR c (Yj st) lo (lo+ok))
  (h:∀b,Rg (Yj st) b lo (lo+n)->SR c b lo (lo+n)->Q true (YY st b)):wpS (model prog w) A E s (binarySort' lo n ok) Q st:=by
 rw[binarySort'_eq];refine XE (Zi (YL (I:=λk r aB=>r=(none,())/\k<=n/\∃b,aB=YY st b/\Rg (Yj st) b lo (lo+n)/\SR c b lo (lo+k))
  (Q:=λr aB=>r=(none,())/\∃b,aB=YY st b/\Rg (Yj st) b lo (lo+n)/\SR c b lo (lo+n)) ?_ ?_ ?_) ?_)
 ·rintro k r aB Ro hk ⟨rfl,_,b,rfl,R,yQ⟩;dsimp only;have hz:b.size=a₀.size:=R.size.trans h0.size;refine XE (Zi (YL (I:=λx r aB=>aB=YY st b/\∃l u,r=(none,l,u)/\l<=u/\u<=k/\u-l<=k-x/\(∀i,i<l->le c (el b (lo+i)) (el b (lo+k)))/\(∀i,u<=i->i<k->le c (el b (lo+k)) (el b (lo+i))))
   (Q:=λr aB=>aB=YY st b/\∃l,r=(none,l,l)/\l<=k/\(∀i,i<l->le c (el b (lo+i)) (el b (lo+k)))/\(∀i,l<=i->i<k->le c (el b (lo+k)) (el b (lo+i)))) ?_ ?_ ?_) ?_)
  ·rintro x r aB _ hx ⟨rfl,l,u,rfl,g1,g2,g3,g4,g5⟩;dsimp only
   by_cases TU:l >= u
   ·rw[if_pos TU];obtain rfl:l=u:=by lia
    exact XS ⟨rfl,l,rfl,g2,g4,g5⟩
   ·rw[if_neg TU];refine XE (iO L h0 R (by lia) (by lia) ?_)
    dsimp only;cases hc:c (el b (lo+k)) (el b (lo+(l+u) / 2))with
    |true =>
     rw[if_pos rfl];exact XS ⟨rfl,l,_,rfl,by lia,by lia,by lia,g4,λi h1 h2=>O.trans (O.of_lt hc) (yQ _ _ (by lia) (by lia) (by lia))⟩
    |false =>
     rw[if_neg (by simp)]
     exact XS ⟨rfl,_,u,rfl,by lia,by lia,by lia,λi h1=>O.trans (yQ _ _ (by lia) (by lia) (by lia)) (show le c (el b (lo+(l+u) / 2)) (el b (lo+k)) from hc),g5⟩
  ·rintro r aB ⟨rfl,l,u,rfl,g1,g2,g3,g4,g5⟩;obtain rfl:l=u:=by lia
   exact⟨rfl,l,rfl,g2,g4,g5⟩
  ·exact⟨rfl,0,k,rfl,XG _,Xx _,by lia,λi hi=>by lia,λi h1 h2=>by lia⟩
  rintro r aB ⟨rfl,l,rfl,g2,g4,g5⟩;dsimp only;rw[moveDown'_eq];refine XE (Z0 (XS ⟨rfl,by lia,_,rfl,R.trans ((zr (a:=b) (by lia) (by lia)).mono (by lia) (by lia)),zq (a:=b) O (by lia) g2 yQ g4 g5⟩))
 ·rintro r aB ⟨rfl,hx,b,rfl,R,yQ⟩;rw[show max (max ok 1) n=n by lia]at yQ
  exact⟨rfl,b,rfl,R,yQ⟩
 ·refine⟨rfl,by lia,Yj st,rfl,Rg.refl,?_⟩
  by_cases h2:ok=0
  ·subst h2;exact SR.one O
  ·rw[show max ok 1=ok by lia]
   exact hs
 ·rintro r aB ⟨rfl,b,rfl,R,yQ⟩;exact XS (h b R yQ)
theorem tu (base:Nat):∀(l:List XC) (off:Nat) (a:Array XC),base+off+l.length<=a.size->∀k:Nat,
  ((l.zipIdx off).foldl (λx (z:XC×Nat)=>x.setIfInBounds (base+z.2) z.1) a)[k]?=if base+off<=k/\k<base+off+l.length then l[k-(base+off)]? else a[k]?
 |[],off,a,_,k=>by
  rw[if_neg (by rw[aag];lia)]
  rfl
 |x::l,off,a,h,k=>by
  rw[XJ]at h;rw[List.zipIdx_cons,aav,tu base l (off+1) _ (by rw[aaR];lia)]
  by_cases h1:base+(off+1)<=k/\k<base+(off+1)+l.length
  ·rw[if_pos h1,if_pos (by rw[XJ];lia),show k-(base+off)=k-(base+(off+1))+1 by lia,aah]
  ·rw[if_neg h1,Array.getElem?_setIfInBounds]
   by_cases h2:base+off=k
   ·subst h2;rw[if_pos rfl,if_pos (by lia),if_pos (by rw[XJ];lia),aaB]
    rfl
   ·rw[if_neg h2,if_neg (by rw[XJ];lia)]
def Dz (a:Array XC)(base:Nat)(l:List XC):Array XC:=l.zipIdx.foldl (λx (z:XC×Nat)=>x.setIfInBounds (base+z.2) z.1) a
theorem pY {a:Array XC}{base:Nat}{l:List XC}(h:base+l.length<=a.size)(k:Nat):(Dz a base l)[k]?=if base<=k/\k<base+l.length then l[k-base]? else a[k]?:=tu base l 0 a h k
theorem zR {a:Array XC}{base:Nat}{l:List XC}(h:base+l.length<=a.size):(Dz a base l).toList=a.toList.take base++(l++a.toList.drop (base+l.length)):=by
 apply Zm;intro k;rw[X0,pY h];have hz:a.toList.length=a.size:=XF
 by_cases h1:base<=k/\k<base+l.length
 ·rw[if_pos h1,YI (by rw[X_];lia),X_,Y4 (by lia)]
  congr 1
  lia
 ·rw[if_neg h1]
  by_cases h2:k<base
  ·rw[Y4 (by rw[X_];lia),aac h2,X0]
  ·rw[YI (by rw[X_];lia),X_,YI (by lia),aaH,X0]
   congr 1
   lia
theorem HH (a:Array XC)(base m:Nat):a.toList=a.toList.take base++((a.toList.drop base).take m++a.toList.drop (base+m)):=by
 have h1:=(Ze base a.toList).symm;have h2:=(Ze m (a.toList.drop base)).symm;rw[List.drop_drop]at h2;rw[<- h2];exact h1
theorem Hd {a:Array XC}{base:Nat}{l:List XC}(h:base+l.length<=a.size)(hp:l.Perm ((a.toList.drop base).take l.length)):Rg a (Dz a base l) base (base+l.length) where
 perm:=by
  rw[Z3,zR h];refine List.Perm.trans ?_ (aaw (HH a base l.length).symm);exact List.Perm.append_left _ (hp.append_right _)
 out:=λk hk=>d6 (by rw[pY h,if_neg (by lia)])
end
section
variable {prog:Xz}{w:XT}{A:Yv}{E:Xv->Xw->Prop}{s:Xw}{κ:ZF}{c:XC->XC->Bool}{a₀:Array XC}
theorem DD {σ:Type}{M:Model}{Q:PUnit->σ->Prop}{st aB:σ}(h:Q ⟨⟩ aB):wpS M A E s (set aB:StateT σ Sem PUnit) Q st:=by
 unfold wpS;rw[StateT.run_set];exact XB ⟨rfl,h⟩
theorem vM {a:Array XC}{lo hi i:Nat}(h:i<hi-lo)(hh:hi<=a.size):el (a.extract lo hi) i=el a (lo+i) :=
 d6 (by rw[Array.getElem?_extract,if_pos (by lia)])
theorem mY {a:Array XC}{lo hi:Nat}(hh:hi<=a.size):(a.extract lo hi).size=hi-lo:=by
 rw[Array.size_extract];lia
theorem wX {a:Array XC}{lo hi:Nat}(hh:hi<=a.size){z:XC}(h:z∈(a.extract lo hi).toList):∃u,lo<=u/\u<hi/\z=el a u:=by
 obtain⟨i,fQ⟩:=List.getElem?_of_mem h;rw[X0]at fQ;have d9:i<(a.extract lo hi).size:=by
  rcases YQ i (a.extract lo hi).size with q|q
  ·exact q
  ·rw[Zt q]at fQ;cases fQ
 rw[mY hh]at d9;exact⟨lo+i,by lia,by lia,by rw[<- vM d9 hh,xu fQ]⟩
theorem uH (O:cf c)(L:eW prog w A E s κ c (·∈a₀.toList)){st:Yd}{i sa na pw sb nb PY:Nat}{Q:Bool->Yd->Prop}(h0:kg κ a₀ st)(p1:(X8 st)[i]?=some (sa,na,pw))(p2:(X8 st)[i+1]?=some (sb,nb,PY))
  (yQ:sb=sa+na) (Xc:1<=na) (Xb:1<=nb) (hz:sb+nb<=a₀.size) (s1:SR c (Yj st) sa sb) (s2:SR c (Yj st) sb (sb+nb))
  (h:∀aB,kindOf aB=κ->aak aB=none->X8 aB=((X8 st).setIfInBounds i (sa,na+nb,pw)).eraseIdxIfInBounds (i+1)->Rg (Yj st) (Yj aB) sa (sb+nb)->SR c (Yj aB) sa (sb+nb)->Q true aB) :
  wpS (model prog w) A E s (mergeAt' i) Q st:=by
 rw[sL];refine XE (aaz ?_);rw[p1,p2];dsimp only;refine XE (DD ?_);have hsz:=h0.size;have hm:∀{j},j<a₀.size->el (Yj st) j∈a₀.toList:=λhj=>h0.mem hj;generalize ha:Yj st=a at *
 have xY:kindOf (aao st (((X8 st).setIfInBounds i (sa,na+nb,pw)).eraseIdxIfInBounds (i+1)))=κ:=h0.kind;have HE:aak (aao st (((X8 st).setIfInBounds i (sa,na+nb,pw)).eraseIdxIfInBounds (i+1)))=none:=h0.fail;have HF:Yj (aao st (((X8 st).setIfInBounds i (sa,na+nb,pw)).eraseIdxIfInBounds (i+1)))=a:=ha;have Lb:X8 (aao st (((X8 st).setIfInBounds i (sa,na+nb,pw)).eraseIdxIfInBounds (i+1)))=((X8 st).setIfInBounds i (sa,na+nb,pw)).eraseIdxIfInBounds (i+1):=rfl;generalize hP:((X8 st).setIfInBounds i (sa,na+nb,pw)).eraseIdxIfInBounds (i+1)=P at *
 generalize aao st P=Lc at *
 refine XE (aO (by lia) ?_)
 refine XE (dF O L xY (hm (by lia)) (λx hx=>hm (by lia)) (by lia) (λx y h1 h2 h3=>s1 x y h1 h2 (by lia)) (by lia) λk k1 k2 k3=>?_)
 dsimp only;have g0:∀x,sa<=x->x<sa+k->le c (el a x) (el a sb):=λx h1 h2=>by
  have:=k2 (x-sa) (by lia)
  unfold d7 at this;rw[if_neg (by simp),aam,show sa+(x-sa)=x by lia]at this
  exact this
 by_cases e1:(na-k==0)=true
 ·rw[if_pos e1];have e1:na-k=0:=by simpa using e1
  refine XS (h Lc xY HE Lb (by rw[HF];exact Rg.refl) ?_)
  rw[HF];intro x y h1 h2 h3
  by_cases hx:x<sb
  ·by_cases hy:y<sb
   ·exact s1 x y h1 h2 hy
   ·exact O.trans (g0 x h1 (by lia)) (s2 sb y (Xx _) (by lia) h3)
  ·exact s2 x y (by lia) h2 h3
 rw[if_neg e1];have e1:na-k≠0:=by simpa using e1
 have g1:c (el a sb) (el a (sa+k))=true:=by
  have:=k3 k (Xx _) (by lia)
  unfold d7 at this;rw[if_neg (by simp),Bool.not_eq_false']at this
  exact this
 refine XE (aO (by lia) ?_)
 refine XE (dF O L xY (hm (by lia)) (λx hx=>hm (by lia)) (by lia) (λx y h1 h2 h3=>s2 x y h1 h2 (by lia)) (by lia) λm m1 m2 m3=>?_)
 dsimp only;rw[show sa+k+(na-k)-1=sb-1 by lia]at m2 m3
 have g2:∀x,sb<=x->x<sb+m->c (el a x) (el a (sb-1))=true:=λx h1 h2=>by
  have:=m2 (x-sb) (by lia)
  unfold d7 at this;rw[if_pos rfl,show sb+(x-sb)=x by lia]at this
  exact this
 have g3:∀x,sb+m<=x->x<sb+nb->le c (el a (sb-1)) (el a x):=λx h1 h2=>by
  have:=m3 (x-sb) (by lia) (by lia)
  unfold d7 at this;rw[if_pos rfl,show sb+(x-sb)=x by lia]at this
  exact this
 by_cases e2:(m==0)=true
 ·exfalso
  have e2:m=0:=by simpa using e2
  have:=O.trans (s1 (sa+k) (sb-1) (by lia) (by lia) (by lia)) (g3 sb (by lia) (by lia))
  exact absurd (g1.symm.trans this) (by simp)
 rw[if_neg e2];have e2:m≠0:=by simpa using e2
 have zx:(a.extract (sa+k) sb).size=sb-(sa+k):=mY (by lia)
 have zy:(a.extract sb (sb+m)).size=m:=by rw[mY (by lia)];lia
 have ex:∀{t},t<sb-(sa+k)->el (a.extract (sa+k) sb) t=el a (sa+k+t):=λht=>vM ht (by lia)
 have ey:∀{t},t<m->el (a.extract sb (sb+m)) t=el a (sb+t):=λht=>vM (by lia) (by lia)
 have fin:∀(out:Array XC) (fH:Yd),kh Lc fH->Gd c (a.extract (sa+k) sb) (a.extract sb (sb+m)) out.toList ->
   wpS (model prog w) A E s (do
    modify λs2=>YY s2 (out.toList.zipIdx.foldl (λx z=>match z with|(p,j)=>x.setIfInBounds (sa+k+j) p) (Yj s2))
    let y <- get
    pure (aak y).isNone:StateT Yd Sem Bool) Q fH:=by
  rintro out fH e ⟨gp,gs⟩;refine XE (Z0 (XE (aaz (XS ?_))));show Q (aak fH).isNone (YY fH (Dz (Yj fH) (sa+k) out.toList));rw[e.fail,HE,e.arr,HF];have zo:out.toList.length=sb-(sa+k)+m:=by
   rw[gp.length_eq,Yb,XF,XF,zx,zy]
  have hb:sa+k+out.toList.length<=a.size:=by lia
  have xy:(a.toList.drop (sa+k)).take out.toList.length=(a.extract (sa+k) sb).toList++(a.extract sb (sb+m)).toList:=by
   rw[cu,cu,zo,show sb+m-sb=m by lia,List.take_add,List.drop_drop,show sa+k+(sb-(sa+k))=sb by lia]
  have R:Rg a (Dz a (sa+k) out.toList) (sa+k) (sa+k+out.toList.length):=Hd hb (by rw[xy];exact gp)
  refine h _ (e.kind.trans xY) (e.fail.trans HE) (e.pend.trans Lb) (R.mono (by lia) (by lia)) ?_
  show SR c (Dz a (sa+k) out.toList) sa (sb+nb);have JE:∀t,sa+k<=t->t<sb+m->∃z,out.toList[t-(sa+k)]?=some z/\el (Dz a (sa+k) out.toList) t=z/\((∃u,sa+k<=u/\u<sb/\z=el a u)\/∃u,sb<=u/\u<sb+m/\z=el a u):=by
   intro t h1 h2;have hl:t-(sa+k)<out.toList.length:=by lia
   refine⟨out.toList[t-(sa+k)],XH hl,xu (by rw[pY hb,if_pos (by lia)];exact XH hl),?_⟩
   have iA:=gp.mem_iff.mp (ZG hl);rcases XW.mp iA with q|q
   ·exact .inl (wX (by lia) q)
   ·exact .inr (wX (by lia) q)
  have Uj:∀t,t<sa+k->el (Dz a (sa+k) out.toList) t=el a t:=λt ht=>R.out t (.inl ht);have ON:∀t,sb+m<=t->el (Dz a (sa+k) out.toList) t=el a t:=λt ht=>R.out t (.inr (by lia))
  intro x y h1 h2 h3
  by_cases hx:x<sa+k
  ·rw[Uj x hx]
   by_cases hy:y<sa+k
   ·rw[Uj y hy];exact s1 x y h1 h2 (by lia)
   ·by_cases Qs:y<sb+m
    ·obtain⟨z,_,ez,Qr⟩:=JE y (by lia) Qs
     rw[ez];rcases Qr with⟨u,u1,u2,rfl⟩|⟨u,u1,u2,rfl⟩
     ·exact s1 x u h1 (by lia) u2
     ·exact O.trans (g0 x h1 hx) (s2 sb u (Xx _) u1 (by lia))
    ·rw[ON y (by lia)]
     exact O.trans (g0 x h1 hx) (s2 sb y (Xx _) (by lia) h3)
  ·by_cases Mq:x<sb+m
   ·obtain⟨z,iz,ez,Qr⟩:=JE x (by lia) Mq
    rw[ez]
    by_cases Qs:y<sb+m
    ·obtain⟨z',Vy,R5,_⟩:=JE y (by lia) Qs
     rw[R5]
     by_cases Mo:x=y
     ·subst Mo;rw[ez]at R5;rw[R5];exact O.refl _
     ·obtain⟨q1,q2⟩:=XI.mp iz;obtain⟨q3,q4⟩:=XI.mp Vy;have:=aaI.mp gs _ _ q1 q3 (by lia)
      rw[q2,q4]at this;exact this
    ·rw[ON y (by lia)]
     rcases Qr with⟨u,u1,u2,rfl⟩|⟨u,u1,u2,rfl⟩
     ·exact O.trans (s1 u (sb-1) (by lia) (by lia) (by lia)) (g3 y (by lia) h3)
     ·exact s2 u y (by lia) (by lia) h3
   ·rw[ON x (by lia),ON y (by lia)]
    exact s2 x y (by lia) h2 h3
 have go:∀(out:Array XC) (fH:Yd),kh Lc fH->Gd c (a.extract (sa+k) sb) (a.extract sb (sb+m)) out.toList->wpS (model prog w) A E s (do
    modify λs2=>YY s2 (out.toList.zipIdx.foldl (λx z=>match z with|(p,j)=>x.setIfInBounds (sa+k+j) p) (Yj s2))
    let y <- get
    pure (aak y).isNone:StateT Yd Sem Bool) Q fH:=fin
 have TB:0<(a.extract (sa+k) sb).size:=by lia
 have Tz:0<(a.extract sb (sb+m)).size:=by lia
 have Sx:∀t,t<(a.extract (sa+k) sb).size->el (a.extract (sa+k) sb) t∈a₀.toList:=λt ht=>by rw[ex (by lia)];exact hm (by lia)
 have Sy:∀t,t<(a.extract sb (sb+m)).size->el (a.extract sb (sb+m)) t∈a₀.toList:=λt ht=>by rw[ey (by lia)];exact hm (by lia)
 have SX:SR c (a.extract (sa+k) sb) 0 (a.extract (sa+k) sb).size:=λx y h1 h2 h3=>by
  rw[ex (by lia),ex (by lia)]
  exact s1 _ _ (by lia) (by lia) (by lia)
 have SW:SR c (a.extract sb (sb+m)) 0 (a.extract sb (sb+m)).size:=λx y h1 h2 h3=>by
  rw[ey (by lia),ey (by lia)]
  exact s2 _ _ (by lia) (by lia) (by lia)
 have hf:c (el (a.extract sb (sb+m)) 0) (el (a.extract (sa+k) sb) 0)=true:=by
  rw[ex (by lia),ey (by lia)]
  exact g1
 have hl:∀y,y<(a.extract sb (sb+m)).size->c (el (a.extract sb (sb+m)) y) (el (a.extract (sa+k) sb) ((a.extract (sa+k) sb).size-1))=true:=λy hy=>by
  rw[ey (by lia),ex (by lia),show sa+k+((a.extract (sa+k) sb).size-1)=sb-1 by lia]
  exact g2 _ (by lia) (by lia)
 by_cases e3:na-k<=m
 ·rw[if_pos e3];exact XE (uF O L xY Sx Sy SX SW TB Tz hf hl go)
 ·rw[if_neg e3];exact XE (uG O L xY Sx Sy SX SW TB Tz hf hl go)
end
section
variable {c:XC->XC->Bool}{a b:Array XC}
def Runs (c:XC->XC->Bool)(a:Array XC):List (Nat×Nat×Nat)->Nat->Nat->Prop
 |[],lo,hi=>lo=hi
 |z::r,lo,hi=>z.1=lo/\1<=z.2.1/\SR c a lo (lo+z.2.1)/\Runs c a r (lo+z.2.1) hi
theorem Runs.app:∀{l r:List (Nat×Nat×Nat)} {lo hi:Nat},Runs c a (l++r) lo hi->∃m,Runs c a l lo m/\Runs c a r m hi
 |[],r,lo,hi,h=>⟨lo,rfl,h⟩
 |z::l,r,lo,hi,⟨h1,h2,h3,h4⟩=>by
  obtain⟨m,g1,g2⟩:=Runs.app h4;exact⟨m,⟨h1,h2,h3,g1⟩,g2⟩
theorem Runs.join:∀{l r:List (Nat×Nat×Nat)} {lo m hi:Nat},Runs c a l lo m->Runs c a r m hi->Runs c a (l++r) lo hi
 |[],r,lo,m,hi,h,g=>by
  obtain rfl:lo=m:=h;exact g
 |z::l,r,lo,m,hi,⟨h1,h2,h3,h4⟩,g=>⟨h1,h2,h3,Runs.join h4 g⟩
theorem Runs.len:∀{l:List (Nat×Nat×Nat)} {lo hi:Nat},Runs c a l lo hi->lo+l.length<=hi
 |[],lo,hi,h=>Nat.le_of_eq h
 |z::l,lo,hi,⟨h1,h2,h3,h4⟩=>by
  have:=Runs.len h4;rw[XJ];lia
theorem Runs.congr:∀{l:List (Nat×Nat×Nat)} {lo hi:Nat},Runs c a l lo hi->(∀k,lo<=k->k<hi->el b k=el a k)->Runs c b l lo hi
 |[],lo,hi,h,_=>h
 |z::l,lo,hi,⟨h1,h2,h3,h4⟩,e=>by
  have hl:=Runs.len h4;exact⟨h1,h2,h3.congr λk g1 g2=>e k g1 (by lia),Runs.congr h4 λk g1 g2=>e k (by lia) g2⟩
theorem Runs.pow:∀{l l':List (Nat×Nat×Nat)} {lo hi:Nat},Runs c a l lo hi->l'.map (λz=>(z.1,z.2.1))=l.map (λz=>(z.1,z.2.1))->Runs c a l' lo hi
 |[],[],_,_,h,_=>h
 |[],z::l',_,_,_,e=>by cases e
 |z::l,[],_,_,_,e=>by cases e
 |z::l,z'::l',lo,hi,⟨h1,h2,h3,h4⟩,e=>by
  rw[X5,X5]at e;injection e with e1 e2
  injection e1 with e3 e4
  exact⟨e3.trans h1,by rw[e4];exact h2,by rw[e4];exact h3,by rw[e4];exact Runs.pow h4 e2⟩
end
section
variable {prog:Xz}{w:XT}{A:Yv}{E:Xv->Xw->Prop}{s:Xw}{κ:ZF}{c:XC->XC->Bool}{a₀:Array XC}
theorem HI {α:Type}{l:List α}{i:Nat}(h:i+1<l.length):∃l1 x y l2,l=l1++x::y::l2/\l1.length=i:=by
 refine⟨l.take i,l[i],l[i+1],l.drop (i+2),?_,by rw[X_];lia⟩
 rw[<- Yp h,<- Yp (by lia),Ze]
theorem oq (O:cf c)(L:eW prog w A E s κ c (·∈a₀.toList)){st:Yd}{i hi:Nat}{Q:Bool->Yd->Prop}(h0:kg κ a₀ st)(hr:Runs c (Yj st) (X8 st).toList 0 hi)(hh:hi<=a₀.size)(GJ:i+1<(X8 st).size)
  (h:∀aB,kg κ a₀ aB->Rg (Yj st) (Yj aB) 0 hi->Runs c (Yj aB) (X8 aB).toList 0 hi->(X8 aB).size+1=(X8 st).size->Q true aB) :
  wpS (model prog w) A E s (mergeAt' i) Q st:=by
 obtain⟨l1,⟨sa,na,pw⟩,⟨sb,nb,PY⟩,l2,el,hl⟩:=HI (l:=(X8 st).toList) (i:=i) (by rw[XF];exact GJ)
 rw[el]at hr;obtain⟨m,r1,r2⟩:=hr.app;obtain⟨x1,x2,x3,y1,y2,y3,r3⟩:=r2;dsimp only at x1 x2 x3 y1 y2 y3 r3;have hlen:=r3.len;have TV:=r1.len;have p1:(X8 st)[i]?=some (sa,na,pw):=by
  rw[<- X0,el,YI (by lia),hl,aaB]
  rfl
 have p2:(X8 st)[i+1]?=some (sb,nb,PY):=by
  rw[<- X0,el,YI (by lia),hl,show i+1-i=1 by lia]
  rfl
 subst x1;refine uH O L h0 p1 p2 y1 x2 y2 (by lia) (by rw[y1];exact x3) (by rw[y1];exact y3) λaB k1 k2 k3 R S=>?_
 have ep:(X8 aB).toList=l1++(sa,na+nb,pw)::l2:=by
  rw[k3];have hz:i+1<((X8 st).setIfInBounds i (sa,na+nb,pw)).size:=by rw[aaR];exact GJ
  have e1:(((X8 st).setIfInBounds i (sa,na+nb,pw)).eraseIdxIfInBounds (i+1)).toList=((X8 st).toList.set i (sa,na+nb,pw)).eraseIdx (i+1):=by
   unfold Array.eraseIdxIfInBounds;rw[dif_pos hz,Array.toList_eraseIdx,Array.toList_setIfInBounds]
  rw[e1,el,<- hl,List.set_append_right _ _ (Xx _),aaB,List.set_cons_zero,List.eraseIdx_append_of_length_le (by lia),show l1.length+1-l1.length=1 by lia]
  rfl
 have out:∀k,(k<sa\/sb+nb<=k)->TS.el (Yj aB) k=TS.el (Yj st) k:=R.out;refine h aB ⟨k1,k2,R.perm.trans h0.perm⟩ (R.mono (XG _) (by lia)) ?_ ?_
 ·rw[ep];refine Runs.join (r1.congr λk g1 g2=>out k (.inl (by lia))) ⟨rfl,by show 1<=na+nb;lia,?_,?_⟩
  ·show SR c (Yj aB) sa (sa+(na+nb));rw[show sa+(na+nb)=sb+nb by lia]
   exact S
  ·show Runs c (Yj aB) l2 (sa+(na+nb)) hi;rw[show sa+(na+nb)=sa+na+nb by lia]
   exact r3.congr λk g1 g2=>out k (.inr (by lia))
 ·have e2:(X8 aB).size=l1.length+(l2.length+1):=by rw[<- XF,ep,Yb,XJ]
  have e3:(X8 st).size=l1.length+(l2.length+1+1):=by rw[<- XF,el,Yb,XJ,XJ]
  lia
theorem ml:∀(f n r:Nat),1<=n->1<=minRun' f n r
 |0,n,r,h=>by show 1<=n+r;lia
 |f+1,n,r,h=>by
  rw[minRun'_succ]
  split
  ·lia
  ·exact ml f _ _ (by lia)
theorem Ei (p:Array (Nat×Nat×Nat))(i w:Nat):(p.modify i λx=>(x.1,x.2.1,w)).toList.map (λz=>(z.1,z.2.1))=p.toList.map (λz=>(z.1,z.2.1)):=by
 apply Zm;intro k;rw[XM,XM,X0,X0,Array.getElem?_modify]
 split
 ·rw[Option.map_map];rfl
 ·rfl
theorem rj (O:cf c)(L:eW prog w A E s κ c (·∈a₀.toList)){st:Yd}{Q:Unit->Yd->Prop}(h0:kg κ a₀ st)(hp:X8 st=#[])(h2:2<=a₀.size)
  (h:∀aB,kg κ a₀ aB->SR c (Yj aB) 0 a₀.size->Q () aB):wpS (model prog w) A E s sortRuns' Q st:=by
 rw[sortRuns'_eq];refine XE (aaz ?_);dsimp only;rw[h0.size];have VQ:=ml a₀.size a₀.size 0 (by lia)
 generalize minRun' a₀.size a₀.size 0=mr at VQ;refine XE (Zi (YL (I:=λx r aB=>kg κ a₀ aB/\∃lo,r=(none,lo)/\lo<=a₀.size/\(a₀.size<=lo\/x<=lo)/\Runs c (Yj aB) (X8 aB).toList 0 lo)
  (Q:=λr aB=>kg κ a₀ aB/\r=(none,a₀.size)/\Runs c (Yj aB) (X8 aB).toList 0 a₀.size) ?_ ?_ ?_) ?_)
 ·rintro x r aB _ hx ⟨hS,lo,rfl,OD,VT,hr⟩;dsimp only
  by_cases hl:lo >= a₀.size
  ·rw[if_pos hl];obtain rfl:lo=a₀.size:=by lia
   exact XS ⟨hS,rfl,hr⟩
  rw[if_neg hl];refine XE (zX O L hS (by lia) (by lia) λn b n1 n2 R Sb=>?_)
  dsimp only;have uw:kg κ a₀ (YY aB b):=hS.set R;have qK:Runs c (Yj (YY aB b)) (X8 (YY aB b)).toList 0 lo:=Runs.congr (b:=b) hr λk q1 q2=>R.out k (.inl q2);refine(λ(key:∀(N:Nat) (stx:Yd),1<=N->lo+N<=a₀.size->Runs c (Yj stx) (X8 stx).toList 0 lo->kg κ a₀ stx->SR c (Yj stx) lo (lo+N)->(?G:Nat->Yd->Prop) N stx)=>?main) ?key
  case main =>
   by_cases TQ:n<mr
   ·rw[if_pos TQ];refine XE (aaS (ZK ⟨rfl,?_⟩));refine XE (Hj O L uw (by lia) (by lia) (by lia) Sb λb' R' WA=>?_)
    rw[if_neg (by simp)]
    have OK:1<=min (a₀.size-lo) mr:=by lia
    have RT:lo+min (a₀.size-lo) mr<=a₀.size:=by lia
    have qK:Runs c (Yj (YY (YY aB b) b')) (X8 (YY (YY aB b) b')).toList 0 lo:=Runs.congr (b:=b') qK λk q1 q2=>R'.out k (.inl q2);have uw:kg κ a₀ (YY (YY aB b) b'):=uw.set R';have G3:SR c (Yj (YY (YY aB b) b')) lo (lo+(min (a₀.size-lo) mr)):=WA;generalize YY (YY aB b) b'=stx at qK uw G3 ⊢
    generalize min (a₀.size-lo) mr=N at OK RT G3 ⊢
    exact key N stx OK RT qK uw G3
   ·rw[if_neg TQ];have G3:SR c (Yj (YY aB b)) lo (lo+n):=Sb;exact key n _ n1 (by lia) qK uw G3
  case key =>
   intro N stx OK RT qK uw G3;refine XE (aaz ?_);have N1:∀(lP:Yd),kg κ a₀ lP->SR c (Yj lP) lo (lo+N)->Runs c (Yj lP) (X8 lP).toList 0 lo->kg κ a₀ (aao lP ((X8 lP).push (lo,N,0)))/\∃Gp,((none,lo+N):Option Unit×Nat)=(none,Gp)/\Gp<=a₀.size/\(a₀.size<=Gp\/x+1<=Gp)/\Runs c (Yj lP) ((X8 lP).push (lo,N,0)).toList 0 Gp:=λlP g1 g2 g3 =>
    ⟨⟨g1.kind,g1.fail,g1.perm⟩,_,rfl,by lia,by lia,by rw[Zn];exact g3.join ⟨rfl,OK,g2,rfl⟩⟩
   cases hb:(X8 stx).back? with
   |none =>
    dsimp only;exact XE (Z0 (XS (N1 stx uw G3 qK)))
   |some z =>
    obtain⟨s1,n1,p1⟩:=z;dsimp only;refine XE (Zi (YL (I:=λx r aB=>r=(none,())/\kg κ a₀ aB/\SR c (Yj aB) lo (lo+N)/\Runs c (Yj aB) (X8 aB).toList 0 lo)
     (Q:=λr aB=>r=(none,())/\kg κ a₀ aB/\SR c (Yj aB) lo (lo+N)/\Runs c (Yj aB) (X8 aB).toList 0 lo) ?_ ?_ ?_) ?_)
    ·rintro y r lP _ _ ⟨rfl,g1,g2,g3⟩;refine XE (aaz ?_)
     by_cases Nb:(X8 lP).size>1
     ·rw[if_pos Nb];cases hq:(X8 lP)[(X8 lP).size-2]? with
      |none =>
       dsimp only;exact XS ⟨rfl,g1,g2,g3⟩
      |some z =>
       obtain⟨u,v,Tc⟩:=z;dsimp only
       split
       ·exact XS ⟨rfl,g1,g2,g3⟩
       ·refine XE (oq O L g1 g3 (by lia) (by lia) λLa f1 f2 f3 f4=>?_)
        exact XS ⟨rfl,f1,g2.congr λk q1 q2=>f2.out k (.inr q1),f3⟩
     ·rw[if_neg Nb];dsimp only;exact XS ⟨rfl,g1,g2,g3⟩
    ·rintro r lP ⟨rfl,g1,g2,g3⟩;exact⟨rfl,g1,g2,g3⟩
    ·exact⟨rfl,uw,G3,qK⟩
    rintro r lP ⟨rfl,g1,g2,g3⟩;dsimp only;refine XE (Z0 (XE (Z0 (XS ?_))));exact N1 (aao lP _) ⟨g1.kind,g1.fail,g1.perm⟩ g2 (g3.pow (Ei _ _ _))
 ·rintro r aB ⟨hS,lo,rfl,OD,VT,hr⟩;obtain rfl:lo=a₀.size:=by lia
  exact⟨hS,rfl,hr⟩
 ·exact⟨h0,0,rfl,XG _,.inr (Xx _),by rw[hp];rfl⟩
 rintro r aB ⟨hS,rfl,hr⟩;dsimp only;refine XE (Zi (YL (I:=λx r aB=>r=(none,())/\kg κ a₀ aB/\Runs c (Yj aB) (X8 aB).toList 0 a₀.size/\((X8 aB).size<=1\/(X8 aB).size+x<=a₀.size))
  (Q:=λr aB=>r=(none,())/\kg κ a₀ aB/\Runs c (Yj aB) (X8 aB).toList 0 a₀.size/\(X8 aB).size<=1) ?_ ?_ ?_) ?_)
 ·rintro x r fH _ hx ⟨rfl,uw,qK,hz⟩;refine XE (aaz ?_)
  by_cases h1:(X8 fH).size<=1
  ·rw[if_pos h1];exact XS ⟨rfl,uw,qK,h1⟩
  rw[if_neg h1];refine XE (oq O L uw qK (Xx _) ?_ λlP Wa R3 VH W9=>?_)
  ·split
   ·split <;> lia
   ·rw[if_neg (by simp)]
    lia
  ·exact XS ⟨rfl,Wa,VH,.inr (by lia)⟩
 ·rintro r fH ⟨rfl,uw,qK,hz⟩;exact⟨rfl,uw,qK,by lia⟩
 ·refine⟨rfl,hS,hr,.inr ?_⟩;have:=hr.len;rw[XF]at this;lia
 ·rintro r fH ⟨rfl,uw,qK,hz⟩;refine XS (h fH uw ?_)
  match hq:(X8 fH).toList,qK with
  |[],e=>
   have:(0:Nat)=a₀.size:=e;lia
  |[z],e =>
   obtain⟨e1,e2,e3,e4⟩:=e;have e4:0+z.2.1=a₀.size:=e4;rw[e4]at e3;exact e3
  |z::y::l,e =>
   have:(X8 fH).toList.length<=1:=by rw[XF];exact hz
   rw[hq]at this;simp at this
end
theorem lex_nil {y:List Int}:HT.lexLt [] y=decide (0<y.length):=by cases y <;> rfl
theorem gf {a b:Int}{x y:List Int}:HT.lexLt (a::x) (b::y)=if a=b then HT.lexLt x y else decide (a<b):=rfl
theorem mC:∀{x y:List Int},HT.lexLt x y=true->HT.lexLt y x=false
 |[],[],_=>rfl
 |[],_::_,_=>rfl
 |_::_,[],h=>by cases h
 |a::x,b::y,h=>by
  rw[gf]at h ⊢
  by_cases e:a=b
  ·rw[if_pos e]at h;rw[if_pos e.symm];exact mC h
  ·rw[if_neg e]at h;rw[if_neg λz=>e z.symm];have:=of_decide_eq_true h;exact decide_eq_false (by lia)
theorem qH:∀{x z:List Int} (y:List Int),HT.lexLt x z=true->HT.lexLt x y=true\/HT.lexLt y z=true
 |[],[],_,h=>by cases h
 |[],_::_,[],h=>.inr rfl
 |[],_::_,_::_,h=>.inl rfl
 |_::_,[],_,h=>by cases h
 |a::x,b::z,[],h=>.inr rfl
 |a::x,b::z,d::y,h=>by
  rw[gf]at h ⊢
  rw[gf]
  by_cases e:a=b
  ·subst e;rw[if_pos rfl]at h
   by_cases e2:a=d
   ·subst e2;rw[if_pos rfl,if_pos rfl];exact qH y h
   ·rw[if_neg e2,if_neg λq=>e2 q.symm]
    by_cases e3:a<d
    ·exact .inl (decide_eq_true e3)
    ·exact .inr (decide_eq_true (by lia))
  ·rw[if_neg e]at h;have h:=of_decide_eq_true h
   by_cases e2:a=d
   ·subst e2;rw[if_neg e];exact .inr (decide_eq_true h)
   ·rw[if_neg e2]
    by_cases e3:a<d
    ·exact .inl (decide_eq_true e3)
    ·rw[if_neg (by lia)]
     exact .inr (decide_eq_true (by lia))
theorem jR:∀{x y:List Int},HT.lexLt x y=false->HT.lexLt y x=false->x=y
 |[],[],_,_=>rfl
 |[],_::_,h,_=>by cases h
 |_::_,[],_,h=>by cases h
 |a::x,b::y,h1,h2=>by
  rw[gf]at h1 h2
  by_cases e:a=b
  ·subst e;rw[if_pos rfl]at h1 h2;rw[jR h1 h2]
  ·rw[if_neg e]at h1;rw[if_neg λq=>e q.symm]at h2;have h1:=of_decide_eq_false h1;have h2:=of_decide_eq_false h2;lia
def byKey (kf:Xv->List Int)(x y:XC):Bool:=HT.lexLt (kf x.1) (kf y.1)
theorem Et (kf:Xv->List Int):cf (byKey kf):=⟨λ_ _ h=>mC h,λ_ y _ h=>qH (kf y.1) h⟩
section
variable {prog:Xz}{w:XT}{A:Yv}{E:Xv->Xw->Prop}{s:Xw}
theorem sR {b:Bool}{Q:Bool->Xw->Prop}:∀{ns ms:List Int} {us vs:List Xv} (i:Nat),Zb us ns->Zb vs ms->Q (HT.lexLt ns ms) s->PySem.W.KatLex prog w A b (decide (ns.length<ms.length)) Q (us.zip vs) i s
 |[],ms,us,vs,i,hu,hv,q=>by
  cases hu;rw[aaN];rw[lex_nil]at q;exact PySem.W.kat_nil q
 |n::ns,[],us,vs,i,hu,hv,q=>by
  cases hv;rw[List.zip_nil_right];exact PySem.W.kat_nil q
 |n::ns,m::ms,us,vs,i,hu,hv,q=>by
  cases hu with
  |cons _ t hu =>
   cases hv with
   |cons _ t' hv =>
    rw[ZM];refine PySem.W.kat_cons (wpAny_eqBool_int ?_);rw[gf]at q
    by_cases e:n=m
    ·subst e;rw[if_pos rfl]at q;rw[beq_self_eq_true];have:=sR (b:=b) (Q:=Q) (i+1) hu hv q;rw[show decide ((n::ns).length<(n::ms).length)=decide (ns.length<ms.length) by rw[XJ,XJ];congr 1;simp]
     exact PySem.W.kat_yes this
    ·rw[if_neg e]at q;rw[show (n==m)=false from beq_eq_false_iff_ne.mpr e]
     refine PySem.W.kat_no ?_;cases b&&i==0 with
     |true=>exact oneLt_int q
     |false=>exact PySem.W.kat_one _ _ (lt_int q)
def oj (h:Heap)(kf:Xv->List Int)(a:Addr)(vs:List Xv):Prop :=
 ∀v∈vs,∃t o xs k,v=.ref t/\t≠a/\h.get? t=some o/\o.cls=.type "tuple" /\ o.data=.seq xs k/\Zb xs.toList (kf v)/\kf v≠[]
theorem yE {kf:Xv->List Int}{a:Addr}{vs:List Xv}{b:Bool}{a₀:Array XC}(T:oj s.heap kf a vs)(hm:∀z∈a₀.toList,z.1∈vs):eW prog w A E s (tuples' b) (byKey kf) (·∈a₀.toList):=by
 intro x y st Q hx hy hk q;obtain⟨t,o,xs,n,e1,_,e2,_,e3,e4,_⟩:=T _ (hm _ hx);obtain⟨t',o',N_,n',f1,_,f2,_,f3,f4,_⟩:=T _ (hm _ hy);rw[lt'_eq];refine XE (aaz ?_);rw[hk,e1,f1];have z1:xs.size=(kf x.1).length:=by rw[<- XF];exact e4.length
 have z2:N_.size=(kf y.1).length:=by rw[<- XF];exact f4.length
 refine XE (aaS (aap (PySem.W.kat_lt e2 e3 f2 f3 ?_)));rw[z1,z2];exact sR 0 e4 f4 ⟨rfl,XS q⟩
theorem lL {kf:Xv->List Int}{a:Addr}{h:Heap}:∀{vs:List Xv},oj h kf a vs->∃fs:List Xv,PySem.W.KatTups h vs fs/\fs.length=vs.length/\∀f∈fs,∃n t,f=Value.int n t
 |[],_=>⟨[],trivial,rfl,λf hf=>by cases hf⟩
 |v::vs,T=>by
  obtain⟨fs,h1,h2,h3⟩:=lL (vs:=vs) λu hu=>T u (XR _ hu);obtain⟨t,o,xs,k,rfl,_,e2,e3,e4,e5,e6⟩:=T v XN;obtain⟨f,r,ef,n,tk,hn⟩:∃f r,xs.toList=f::r/\∃n tk,f=Value.int n tk:=by
   generalize kf (.ref t)=ks at e5 e6;generalize xs.toList=us at e5;cases e5 with
   |nil=>exact absurd rfl e6
   |cons n tk r=>exact⟨_,_,rfl,_,_,rfl⟩
  have e:xs[0]?=some f:=by rw[<- X0,ef];rfl
  exact⟨f::fs,PySem.W.KatTups.cons e2 e3 e4 e h1,by rw[XJ,XJ,h2],λg hg=>by
   rcases Xy.mp hg with rfl|hg
   ·exact⟨_,_,hn⟩
   ·exact h3 g hg⟩
theorem yJ {kf:Xv->List Int}{a:Addr}{vs:List Xv}{Q:ZF->Xw->Prop}(T:oj s.heap kf a vs)(h0:0<vs.length)(q:Q (tuples' true) s):X4 (model prog w) A (keyKind' vs.toArray) Q E s:=by
 obtain⟨fs,h1,h2,h3⟩:=lL T;refine PySem.W.kat_kind (T:=.type "int") h1 (by lia) (λv hv=>?_) (by decide) q
 obtain⟨n,t,rfl⟩:=h3 v hv;exact .now
theorem AA {α:Type}{R:α->α->Prop}:∀{l:List α},l.length<2->l.Pairwise R
 |[],_=>.nil
 |[x],_=>List.pairwise_singleton _ _
 |_::_::_,h=>by
  rw[XJ,XJ]at h;lia
theorem mz {a:Addr} {vs:List Xv} {n:Nat} {κ:ZF} {c:Xv->Xv->Bool} {P:PySem.Fin->Xw->Prop} (ho:s.heap.get? a=some (Zq "list" vs.toArray n)) (hz:vs.length<=1000000) (O:cf λx y=>c x.1 y.1)
  (T:∀s':Xw,(∀t o,t≠a->s.heap.get? t=some o->s'.heap.get? t=some o)->(2<=vs.length->∀(Q:ZF->Xw->Prop),Q κ s'->X4 (model prog w) A (keyKind' vs.toArray) Q E s')/\eW prog w A E s' κ (λx y=>c x.1 y.1) (·∈(vs.toArray.zip vs.toArray).toList))
  (h:∀out:List Xv,out.Perm vs->out.Pairwise (λx y=>c y x=false)->P (.done (.ret .none)) {s with heap:=sortedHeap s.heap a vs out.toArray}) :
  X4 (model prog w) A (ZO.«list.sort» ⟨[.ref a],[]⟩) P E s:=by
 have la:a<s.heap.objs.size:=XU ho;obtain⟨ep,hc⟩:∃ep,(s.heap.update a (Z1 λ_=>#[])).get? a=some (Zq "list" #[] ep):=⟨_,get?_update_seq ho (λ_=>#[])⟩;have old:∀t o,t≠a->s.heap.get? t=some o->(((s.heap.update a (Z1 λ_=>#[])).push (Zq "tuple" vs.toArray 0)).push (Zq "list" #[] 0)).get? t=some o:=λt o ht e =>
  XA _ (XA _ (by rw[Heap.get?_update_ne _ _ _ _ ht];exact e))
 have pC:(((s.heap.update a (Z1 λ_=>#[])).push (Zq "tuple" vs.toArray 0)).push (Zq "list" #[] 0)).get? a=some (Zq "list" #[] ep):=XA _ (XA _ hc);have big:∀m:Nat,m<=vs.length->m<=XO:=λm hm=>by rw[YA];lia
 have zz:vs.toArray.size=vs.length:=by simp
 rw[list_sort_plain];refine Xs (listItems_at ho rfl ?_);refine Xs (listUpdate_at ho rfl ?_ (big _ (Nat.le_of_eq zz)) (XG _));refine Xs (seqEpoch_at hc rfl ?_);refine Xs (wpAny_newTuple ?_ (big _ (Xx _)));refine Xs (wpAny_newList ?_ (XG _));refine Y0 ?_;show X4 (model prog w) A _ P E {s with heap:=((s.heap.update a (Z1 λ_=>#[])).push (Zq "tuple" vs.toArray 0)).push (Zq "list" #[] 0)}
 dsimp only;have done:∀aB:Yd,(Yj aB).Perm (vs.toArray.zip vs.toArray)->(Yj aB).toList.Pairwise (le λx y=>c x.1 y.1)->P (.done (.ret .none)) {s with heap:=sortedHeap s.heap a vs ((Yj aB).map (·.2))}:=λaB hp hs=>by
  have h1:∀z∈(Yj aB).toList,z.1=z.2:=λz hz=>by
   have:=(Z3.mp hp).mem_iff.mp hz;rw[aaY]at this;obtain⟨i,hi⟩:=List.getElem?_of_mem this;rw[List.getElem?_zip_eq_some]at hi;exact Yg (hi.1.symm.trans hi.2)
  have e2:(Yj aB).map (·.2)=((Yj aB).toList.map (·.2)).toArray:=by
   apply Array.toList_inj.mp;rw[Array.toList_map]
  rw[e2];refine h _ ?_ ?_
  ·have:=(Z3.mp hp).map (λz:XC=>z.2);rw[aaY]at this;refine this.trans (aaw ?_);exact List.map_snd_zip (by simp)
  ·rw[Y7];refine hs.imp_of_mem λ{x y} hx hy hl=>?_;rw[<- h1 x hx,<- h1 y hy];exact hl
 by_cases h2:vs.toArray.size<2
 ·rw[if_pos h2,if_pos h2];refine Xs (XB ?_);rw[StateT.run_pure];refine Xs (XB ?_);dsimp only;refine Xs (seqEpoch_at pC rfl ?_);refine Xs (listUpdate_at pC rfl ?_ (XG _) (by rw[Array.size_map,Array.size_zip];exact Ym (big _ (by lia)) (Nat.le_succ _)))
  simp only[bne_self_eq_false,Bool.false_eq_true,if_false];refine XB (done (SortSt.mk' general' (vs.toArray.zip vs.toArray) #[] 7 none) (Array.Perm.refl _) ?_);refine AA ?_;show (vs.toArray.zip vs.toArray).toList.length<2;rw[XF,Array.size_zip];lia
 ·rw[if_neg h2,if_neg h2];obtain⟨hK,L⟩:=T {s with heap:=((s.heap.update a (Z1 λ_=>#[])).push (Zq "tuple" vs.toArray 0)).push (Zq "list" #[] 0)} old
  refine Xs (hK (by lia) _ ?_)
  have zp:(vs.toArray.zip vs.toArray).size=vs.length:=by rw[Array.size_zip];lia
  refine Xs (aaD (rj (Q:=λ_ aB=>(Yj aB).Perm (vs.toArray.zip vs.toArray)/\aak aB=none/\SR (λx y=>c x.1 y.1) (Yj aB) 0 vs.length) O L
   (st:=SortSt.mk' κ (vs.toArray.zip vs.toArray) #[] 7 none) ⟨rfl,rfl,Array.Perm.refl _⟩ rfl (by lia) λaB g1 g2=>⟨g1.perm,g1.fail,by rw[zp]at g2;exact g2⟩) ?_ λ_ _ e=>e)
  rintro⟨⟨⟩,aB⟩ s' ⟨rfl,hp,hf,hs⟩;dsimp only;have zs:(Yj aB).size=vs.length:=hp.size_eq.trans zp;refine Xs (seqEpoch_at pC rfl ?_);refine Xs (listUpdate_at pC rfl ?_ (XG _) (by rw[Array.size_map,zs];exact Ym (big _ (Xx _)) (Nat.le_succ _)))
  rw[hf];simp only[bne_self_eq_false,Bool.false_eq_true,if_false];refine XB (done aB hp ?_);rw[aaI];intro i j hi hj aJ;rw[XF]at hi hj;have:=hs i j (XG _) (by lia) (by lia)
  have ei:el (Yj aB) i=(Yj aB).toList[i]:=xu (by rw[<- X0];exact XH _)
  have ej:el (Yj aB) j=(Yj aB).toList[j]:=xu (by rw[<- X0];exact XH _)
  rw[ei,ej]at this;exact this
theorem my {a:Addr} {vs:List Xv} {n:Nat} {kf:Xv->List Int} {P:PySem.Fin->Xw->Prop} (ho:s.heap.get? a=some (Zq "list" vs.toArray n)) (hz:vs.length<=1000000) (T:oj s.heap kf a vs)
  (h:∀out:List Xv,out.Perm vs->out.Pairwise (λx y=>HT.lexLt (kf y) (kf x)=false)->P (.done (.ret .none)) {s with heap:=sortedHeap s.heap a vs out.toArray}) :
  X4 (model prog w) A (ZO.«list.sort» ⟨[.ref a],[]⟩) P E s:=by
 refine mz (κ:=tuples' true) (c:=λx y=>HT.lexLt (kf x) (kf y)) ho hz (Et kf) (λs' kp=>?_) h;have T':oj s'.heap kf a vs:=λv hv=>by
  obtain⟨t,o,xs,k,e1,e2,e3,r⟩:=T v hv;exact⟨t,o,xs,k,e1,e2,kp t o e2 e3,r⟩
 exact⟨λh2 Q q=>yJ T' (by lia) q,yE T' λz hz=>by
  rw[aaY]at hz;exact(aau hz).1⟩
end
end TS
namespace ST
open PySem PyProof.Rows
section
variable {prog:Xz}{w:XT}{A:Yv}{E:Xv->Xw->Prop}{s:Xw}
abbrev TK (prog:Xz)(w:XT):=aaV (intKind prog w)
abbrev kH (prog:Xz)(w:XT)(k:List Int):Int:=(TK prog w).hash k
abbrev ent (prog:Xz)(w:XT)(x:Addr×List Int):Int×Xv:=(kH prog w x.2,.ref x.1)
structure cQ (prog:Xz)(w:XT)(o:Obj)(ts:List (Addr×List Int))(es:Array (Int×Xv))(ep:Nat)(t:SetTable):Prop where
 ex:o.ExactSet
 dat:o.data=.set es ep t
 JX:es.toList=ts.map (ent prog w)
 wf:WF t (ts.map λx=>kH prog w x.2)
 Pt:t.place.size*5<t.mask*3
 Gm:t.mask<=8191
 led:t.led=!w.params.followText "set-order"
 Kq:t.plain=true
 P_:(ts.map (·.2)).Nodup
def FZ (prog:Xz)(w:XT)(h:Heap)(ts:List (Addr×List Int)):Prop:=∀x∈ts,(TK prog w).is h x.2 x.1
theorem cQ.fits {o:Obj}{ts:List (Addr×List Int)}{es:Array (Int×Xv)}{ep:Nat}{t:SetTable}(S:cQ prog w o ts es ep t):t.fits es.size=true:=by
 have h1:=S.wf.sz;have h2:es.size=ts.length:=by rw[<- XF,S.JX,Xu]
 rw[Xu]at h1;unfold SetTable.fits SetTable.fill;rw[S.wf.KA,h2,h1];have:=S.Pt;simp;lia
theorem cQ.size {o:Obj}{ts:List (Addr×List Int)}{es:Array (Int×Xv)}{ep:Nat}{t:SetTable}(S:cQ prog w o ts es ep t):es.size=ts.length/\t.place.size=ts.length:=by
 have h1:=S.wf.sz;rw[Xu]at h1;exact⟨by rw[<- XF,S.JX,Xu],h1⟩
theorem zf (d:Nat)(n:Int)(tk:Tok):ofAClassStatement d (.int n tk)=pure false:=by
 cases d <;> rfl
theorem rm {k:List Int}{b:Addr}{Q:Bool->Xw->Prop}(hk:(TK prog w).is s.heap k b)(q:Q false s):X4 (model prog w) A (ofAClassStatement 8 (.ref b)) Q E s:=by
 obtain⟨o,items,n,ho,hc,hd,hi⟩:=hk;have hT:s.TypeIs (.ref b) "tuple" := ⟨o,ho,hc⟩;unfold ofAClassStatement;refine Xs (wpAny_typeOf hT ?_);dsimp only;rw[if_pos (by rfl)]
 refine Xs (XB ?_);rw[if_neg (by simp)]
 refine Xs (Zj ho hd ?_);dsimp only;rw[<- Array.forIn_toList];refine Xs (aaT _ (λrest r s'=>r=(none,())/\s'=s/\∀v∈rest,∃n tk,v=Value.int n tk) _ ?_ ?_ _ _ ⟨rfl,rfl,?_⟩)
 ·rintro v rest r s' ⟨rfl,rfl,jZ⟩;obtain⟨n,tk,rfl⟩:=jZ v XN;rw[zf];refine Xs (XB ?_);rw[if_neg (by simp)]
  exact XB ⟨rfl,rfl,λu hu=>jZ u (XR _ hu)⟩
 ·rintro r s' ⟨rfl,rfl,_⟩;exact XB q
 ·generalize items.toList=vs at hi
  induction hi with
  |nil=>intro v hv;cases hv
  | @cons k v ks vs h1 h2 ih =>
   intro u hu;rcases Xy.mp hu with rfl|hu
   ·obtain⟨t,rfl⟩:=Value.isInt_shape h1;exact⟨_,_,rfl⟩
   ·exact ih u hu
theorem DA {k:List Int}{b:Addr}(hk:(TK prog w).is s.heap k b)(l:List (Addr×List Int)){Q:Bool->Xw->Prop}(T:FZ prog w s.heap l)(q:Q false s):X4 (model prog w) A (searchCouldBeSeen (.ref b) (l.map λx=>Value.ref x.1)) Q E s:=by
 unfold searchCouldBeSeen;refine Xs (aaT _ (λrest r s'=>r=(none,())/\s'=s/\∀v∈rest,∃x∈l,v=Value.ref x.1) _ ?_ ?_ _ _ ⟨rfl,rfl,?_⟩)
 ·rintro v rest r s' ⟨rfl,rfl,jZ⟩;obtain⟨x,hx,rfl⟩:=jZ v XN;have GO:∀v∈rest,∃x∈l,v=Value.ref x.1:=λu hu=>jZ u (XR _ hu);dsimp only
  split
  ·exact XB ⟨rfl,rfl,GO⟩
  ·refine Xs ((TK prog w).quiet hk ?_);rw[if_neg (by simp)]
   refine Xs ((TK prog w).quiet (T x hx) ?_);rw[if_neg (by simp)]
   refine Xs (rm hk ?_);rw[if_neg (by simp)]
   refine Xs (rm (T x hx) ?_);rw[if_neg (by simp)]
   exact XB ⟨rfl,rfl,GO⟩
 ·rintro r s' ⟨rfl,rfl,_⟩;exact XB q
 ·intro v hv;obtain⟨x,hx,rfl⟩:=X7.mp hv;exact⟨x,hx,rfl⟩
end
end ST
namespace L2
open PySem PySem.Spec PyProof.Rows
inductive D where
 |bP|bl (b:Bool)|int (i:Int)|str (x:Str)|obj (a:Addr)
 |tup (ds:List D)|lst (ds:List D)
 |dT (ks:List (List Key)) (ds:List D)|dK (ks:List Key) (ds:List D)
 |sT (ts:List (List Int))
def HM (P:Xz)(w:XT)(a:Addr)(ts:List (Addr×List Int))(h:Heap):Prop:=∃o es ep t,h.get? a=some o/\ST.cQ P w o ts es ep t
abbrev F1 (P:Xz)(w:XT)(a:Addr)(ts:List (Addr×List Int)):HO:=.ext (HM P w a ts)
def F0 (P:Xz)(w:XT)(H:Hp)(a:Addr)(ts:List (List Int)):Prop :=
 ∃df:List (Addr×List Int),H a=some (F1 P w a df)/\(∀x∈df,H x.1=some (.tup (x.2.map V.int)))/\(df.map (·.2)).Perm ts
section
variable (P:Xz)(w:XT)(W:Addr->Prop)(H:Hp)
mutual
def ay:D->V->Prop
 |.bP,v=>v=.bP
 |.bl b,v=>v=.bl b
 |.int i,v=>v=.int i
 |.str x,v=>v=.str x
 |.obj a,v=>v=.ref a
 |.tup ds,v=>∃a vs,v=.ref a/\H a=some (.tup vs)/\ai ds vs
 |.lst ds,v=>∃a vs,v=.ref a/\H a=some (.lst vs)/\¬ W a/\ai ds vs
 |.dT ks ds,v=>∃a vs,v=.ref a/\H a=some (.dT (ks.zip vs))/\ks.length=vs.length/\¬ W a/\ai ds vs
 |.dK ks ds,v=>∃a vs,v=.ref a/\H a=some (.dK (ks.zip vs))/\ks.length=vs.length/\¬ W a/\ai ds vs
 |.sT ts,v=>∃a,v=.ref a/\F0 P w H a ts/\¬ W a
def ai:List D->List V->Prop
 |[],vs=>vs=[]
 |d::ds,vs=>∃v r,vs=v::r/\ay d v/\ai ds r
end
end
mutual
def D.flat:D->Bool
 |.tup ds=>D.bQ ds
 |.lst _=>false
 |.dT _ _=>false
 |.dK _ _=>false
 |.sT _=>false
 |_=>true
def D.bQ:List D->Bool
 |[]=>true
 |d::ds=>D.flat d&&D.bQ ds
end
structure Kp (W:Addr->Prop)(H H':Hp):Prop where
 out:∀b o,H b=some o->¬ W b->H' b=some o
 tup:∀b xs,H b=some (.tup xs)->H' b=some (.tup xs)
theorem Kp.refl {W:Addr->Prop}{H:Hp}:Kp W H H:=⟨λ_ _ e _=>e,λ_ _ e=>e⟩
theorem Kp.trans {W:Addr->Prop}{H H1 H2:Hp}(a:Kp W H H1)(b:Kp W H1 H2):Kp W H H2:=⟨λc o e n=>b.out c o (a.out c o e n) n,λc xs e=>b.tup c xs (a.tup c xs e)⟩
theorem au.kp {W:Addr->Prop}{H H':Hp}(h:au H H'):Kp W H H':=⟨λb o e _=>h b o e,λb xs e=>h b _ e⟩
theorem Kp.mono {W W':Addr->Prop}{H H':Hp}(h:Kp W H H')(s:∀a,W a->W' a):Kp W' H H':=⟨λb o e n=>h.out b o e λz=>n (s b z),h.tup⟩
section
variable {P:Xz}{w:XT}{W W':Addr->Prop}{H H':Hp}
mutual
theorem ay.keep (k:Kp W H H'):∀{d:D} {v:V},ay P w W H d v->ay P w W H' d v
 |.bP,_,h=>h
 |.bl _,_,h=>h
 |.int _,_,h=>h
 |.str _,_,h=>h
 |.obj _,_,h=>h
 |.tup ds,_,⟨a,vs,e,t,r⟩=>⟨a,vs,e,k.tup a vs t,ai.keep k r⟩
 |.lst ds,_,⟨a,vs,e,t,n,r⟩=>⟨a,vs,e,k.out a _ t n,n,ai.keep k r⟩
 |.dT ks ds,_,⟨a,vs,e,t,l,n,r⟩=>⟨a,vs,e,k.out a _ t n,l,n,ai.keep k r⟩
 |.dK ks ds,_,⟨a,vs,e,t,l,n,r⟩=>⟨a,vs,e,k.out a _ t n,l,n,ai.keep k r⟩
 |.sT ts,_,⟨a,e,⟨df,t,r,z⟩,n⟩=>⟨a,e,⟨df,k.out a _ t n,λx hx=>k.tup _ _ (r x hx),z⟩,n⟩
theorem ai.keep (k:Kp W H H'):∀{ds:List D} {vs:List V},ai P w W H ds vs->ai P w W H' ds vs
 |[],_,h=>h
 |d::ds,_,⟨v,r,e,h1,h2⟩=>⟨v,r,e,ay.keep k h1,ai.keep k h2⟩
end
mutual
theorem ay.aV (s:∀a,W' a->W a):∀{d:D} {v:V},ay P w W H d v->ay P w W' H d v
 |.bP,_,h=>h
 |.bl _,_,h=>h
 |.int _,_,h=>h
 |.str _,_,h=>h
 |.obj _,_,h=>h
 |.tup ds,_,⟨a,vs,e,t,r⟩=>⟨a,vs,e,t,ai.aV s r⟩
 |.lst ds,_,⟨a,vs,e,t,n,r⟩=>⟨a,vs,e,t,λz=>n (s a z),ai.aV s r⟩
 |.dT ks ds,_,⟨a,vs,e,t,l,n,r⟩=>⟨a,vs,e,t,l,λz=>n (s a z),ai.aV s r⟩
 |.dK ks ds,_,⟨a,vs,e,t,l,n,r⟩=>⟨a,vs,e,t,l,λz=>n (s a z),ai.aV s r⟩
 |.sT ts,_,⟨a,e,t,n⟩=>⟨a,e,t,λz=>n (s a z)⟩
theorem ai.aV (s:∀a,W' a->W a):∀{ds:List D} {vs:List V},ai P w W H ds vs->ai P w W' H ds vs
 |[],_,h=>h
 |d::ds,_,⟨v,r,e,h1,h2⟩=>⟨v,r,e,ay.aV s h1,ai.aV s h2⟩
end
mutual
theorem ay.flat:∀{d:D} {v:V},d.flat=true->ay P w W H d v->ay P w W' H d v
 |.bP,_,_,h=>h
 |.bl _,_,_,h=>h
 |.int _,_,_,h=>h
 |.str _,_,_,h=>h
 |.obj _,_,_,h=>h
 |.tup ds,_,f,⟨a,vs,e,t,r⟩=>⟨a,vs,e,t,ai.flat (by simpa[D.flat] using f) r⟩
 |.lst ds,_,f,_=>by simp[D.flat]at f
 |.dT ks ds,_,f,_=>by simp[D.flat]at f
 |.dK ks ds,_,f,_=>by simp[D.flat]at f
 |.sT ts,_,f,_=>by simp[D.flat]at f
theorem ai.flat:∀{ds:List D} {vs:List V},D.bQ ds=true->ai P w W H ds vs->ai P w W' H ds vs
 |[],_,_,h=>h
 |d::ds,_,f,⟨v,r,e,h1,h2⟩=>by
  have f':(d.flat&&D.bQ ds)=true:=f;rw[Yn]at f';exact⟨v,r,e,ay.flat f'.1 h1,ai.flat f'.2 h2⟩
end
theorem ay.same (s:au H H'){d:D}{v:V}(h:ay P w W H d v):ay P w W H' d v:=h.keep s.kp
theorem ai.same (s:au H H'){ds:List D}{vs:List V}(h:ai P w W H ds vs):ai P w W H' ds vs:=h.keep s.kp
theorem ai.length:∀{ds:List D} {vs:List V},ai P w W H ds vs->vs.length=ds.length
 |[],_,h=>by rw[show _=[] from h];rfl
 |d::ds,_,⟨v,r,e,h1,h2⟩=>by rw[e,XJ,XJ,ai.length h2]
theorem ai.get:∀{ds:List D} {vs:List V} {i:Nat} {d:D},ai P w W H ds vs->ds[i]?=some d->∃v,vs[i]?=some v/\ay P w W H d v
 |[],_,_,_,_,e=>by simp at e
 |d::ds,_,0,_,⟨v,r,e,h1,h2⟩,e'=>by simp at e';subst e' e;exact⟨v,by simp,h1⟩
 |d::ds,_,i+1,_,⟨v,r,e,h1,h2⟩,e'=>by
  subst e;obtain⟨u,e1,e2⟩:=ai.get (i:=i) h2 (by simpa using e')
  exact⟨u,by simpa using e1,e2⟩
theorem ai.append:∀{ds ds':List D} {vs vs':List V},ai P w W H ds vs->ai P w W H ds' vs'->ai P w W H (ds++ds') (vs++vs')
 |[],_,_,_,h,h'=>by rw[show _=[] from h];exact h'
 |d::ds,_,_,_,⟨v,r,e,h1,h2⟩,h'=>by subst e;exact⟨v,_,rfl,h1,ai.append h2 h'⟩
theorem ai.one {d:D}{v:V}(h:ay P w W H d v):ai P w W H [d] [v]:=⟨v,[],rfl,h,rfl⟩
theorem ai.take:∀{ds:List D} {vs:List V} (n:Nat),ai P w W H ds vs->ai P w W H (ds.take n) (vs.take n)
 |[],_,n,h=>by rw[show _=[] from h];simp[ai]
 |d::ds,_,0,_=>by simp[ai]
 |d::ds,_,n+1,⟨v,r,e,h1,h2⟩=>by subst e;exact⟨v,_,rfl,h1,ai.take n h2⟩
theorem ai.drop:∀{ds:List D} {vs:List V} (n:Nat),ai P w W H ds vs->ai P w W H (ds.drop n) (vs.drop n)
 |[],_,n,h=>by rw[show _=[] from h];simp[ai]
 |d::ds,_,0,h=>h
 |d::ds,_,n+1,⟨v,r,e,h1,h2⟩=>by subst e;exact ai.drop n h2
end
open PySem.SeqAt
abbrev Dm (W:Addr->Prop)(H:Hp):Prop:=∀a,W a->H a≠none
theorem Dm.same {W:Addr->Prop}{H H':Hp}(d:Dm W H)(s:au H H'):Dm W H':=λa h e=>d a h (s.free e)
abbrev Rp (X:Cx)(W:Addr->Prop)(H:Hp)(d:D)(v:V):Prop:=ay X.prog X.w W H d v
abbrev jy (X:Cx)(W:Addr->Prop)(H:Hp)(ds:List D)(vs:List V):Prop:=ai X.prog X.w W H ds vs
def S6 (X:Cx)(f:D->Option D):V->Hp->VK->Prop:=λx H Q=>∃W d1 d,Dm W H/\Rp X W H d1 x/\f d1=some d/\∀v H',au H H'->Rp X W H' d v->Q v H'
def S5 (X:Cx)(f:D->D->Option D):R2:=λx y H Q=>∃W d1 d2 d,Dm W H/\Rp X W H d1 x/\Rp X W H d2 y/\f d1 d2=some d/\∀v H',au H H'->Rp X W H' d v->Q v H'
def U4 (X:Cx)(f:List D->Option D):List V->Hp->VK->Prop:=λxs H Q=>∃W ds d,Dm W H/\jy X W H ds xs/\f ds=some d/\∀v H',au H H'->Rp X W H' d v->Q v H'
abbrev bK (X:Cx)(f:Xv->Xv->Sem Xv)(g:D->D->Option D):Prop:=iH X f (S5 X g)
abbrev bG (X:Cx)(f:Xv)(g:List D->Option D):Prop:=fh X f (U4 X g)
section
variable {X:Cx}{W:Addr->Prop}{H:Hp}
theorem wW {p:Addr}(d:Dm W H)(n:H p=none):¬ W p:=λz=>d p z n
theorem Rp.f_ {p:Addr}{vs:List V}{ds:List D}(d:Dm W H)(n:H p=none)(r:jy X W H ds vs):Rp X W (upd H p (.lst vs)) (.lst ds) (.ref p) :=
 ⟨p,vs,rfl,ar,wW d n,r.same (au.new n)⟩
theorem Rp.Ht {p:Addr}{vs:List V}{ds:List D}(n:H p=none)(r:jy X W H ds vs):Rp X W (upd H p (.tup vs)) (.tup ds) (.ref p) :=
 ⟨p,vs,rfl,ar,r.same (au.new n)⟩
theorem jy.nil:jy X W H [] []:=rfl
theorem jy.cons {d:D}{ds:List D}{v:V}{vs:List V}(h:Rp X W H d v)(r:jy X W H ds vs):jy X W H (d::ds) (v::vs):=⟨v,vs,rfl,h,r⟩
end
def D.Je:D->Option Int
 |.int i=>some i
 |_=>none
def D.Jd:D->Option (List D)
 |.lst a=>some a
 |_=>none
def D.Mi:D->Option (List D)
 |.tup a=>some a
 |_=>none
def D.Dk:D->Bool
 |.bP=>true
 |_=>false
theorem D.jl {d:D}{i:Int}(h:d.Je=some i):d=.int i:=by cases d <;> first|(cases h;rfl)|cases h
theorem D.mI {d:D}{i:List D}(h:d.Jd=some i):d=.lst i:=by cases d <;> first|(cases h;rfl)|cases h
theorem D.BQ {d:D}{i:List D}(h:d.Mi=some i):d=.tup i:=by cases d <;> first|(cases h;rfl)|cases h
theorem D.sY {d:D}(h:d.Dk=true):d=.bP:=by cases d <;> first|rfl|cases h
theorem D.E7 {d:D}:d=.bP↔d.Dk=true:=⟨λe=>by rw[e];rfl,D.sY⟩
def qI (f:Int->Int->Option D)(a b:D):Option D:=match a.Je,b.Je with
 |some i,some j=>f i j
 |_,_=>none
theorem jV {f:Int->Int->Option D}{a b d:D}(h:qI f a b=some d):∃i j,a=.int i/\b=.int j/\f i j=some d:=by
 unfold qI at h;cases ha:a.Je with
 |none=>rw[ha]at h;cases h
 |some i =>
  cases hb:b.Je with
  |none=>rw[ha,hb]at h;cases h
  |some j=>rw[ha,hb]at h;exact⟨i,j,D.jl ha,D.jl hb,h⟩
def IH (f:D->D->Option D)(g:List D->List D->Option D)(a b:D):Option D:=match a.Jd,b.Jd with
 |some i,some j=>g i j
 |_,_=>f a b
theorem yF {f:D->D->Option D}{g:List D->List D->Option D}{a b d:D}(h:IH f g a b=some d):(∃i j,a=.lst i/\b=.lst j/\g i j=some d)\/f a b=some d:=by
 unfold IH at h;cases ha:a.Jd with
 |none=>rw[ha]at h;exact .inr h
 |some i =>
  cases hb:b.Jd with
  |none=>rw[ha,hb]at h;exact .inr h
  |some j=>rw[ha,hb]at h;exact .inl ⟨i,j,D.mI ha,D.mI hb,h⟩
def vP:D->D->Option D:=IH (qI λi j=>some (.int (i+j))) λa b=>if a.length+b.length<=XO then some (.lst (a++b)) else none
def Se:D->D->Option D:=qI λi j=>some (.int (i-j))
instance (i j:Int):Decidable (qZ i j):=by unfold qZ;infer_instance
instance (i j:Int):Decidable (Dd i j):=by unfold Dd;infer_instance
def NJ:D->D->Option D:=qI λi j=>if qZ i j then some (.int (i*j)) else none
def NK:D->D->Option D:=qI λi j=>if 0<j then some (.int (i % j)) else none
def Sf:D->Option D
 |.int i=>some (.int (-i))
 |_=>none
section
variable {X:Cx}
theorem dv {c:Prop}[Decidable c]{α:Type}{a b:α}(h:(if c then some a else none)=some b):c/\b=a:=by
 by_cases hc:c
 ·rw[if_pos hc]at h;cases h;exact⟨hc,rfl⟩
 ·rw[if_neg hc]at h;cases h
theorem Gg {f:Xv->Xv->Sem Xv}{C:Int->Int->Prop}{g:Int->Int->V}{h:Int->Int->D}{F:Int->Int->Option D}(ho:iH X f (rI C g))(hF:∀i j d,F i j=some d->C i j/\d=h i j)
  (hg:∀(W:Addr->Prop) (H:Hp) i j,Rp X W H (h i j) (g i j)):bK X f (qI F):=by
 intro pins s σ H x y v u Q I rx ry hh;obtain⟨W,d1,d2,d,hd,r1,r2,e,q⟩:=hh;obtain⟨i,j,rfl,rfl,e⟩:=jV e;obtain⟨c,rfl⟩:=hF _ _ _ e;cases r1;cases r2;exact ho pins s σ H _ _ v u Q I rx ry ⟨i,j,rfl,rfl,c,q _ _ (au.refl _) (hg W H i j)⟩
theorem Bk {f:Xv->Xv->Sem Xv}{g:Int->Int->V}{h:Int->Int->D}(ho:iH X f (Dj g))
  (hg:∀(W:Addr->Prop) (H:Hp) i j,Rp X W H (h i j) (g i j)):bK X f (qI λi j=>some (h i j)):=by
 intro pins s σ H x y v u Q I rx ry hh;obtain⟨W,d1,d2,d,hd,r1,r2,e,q⟩:=hh;obtain⟨i,j,rfl,rfl,e⟩:=jV e;cases e;cases r1;cases r2;exact ho pins s σ H _ _ v u Q I rx ry ⟨i,j,rfl,rfl,q _ _ (au.refl _) (hg W H i j)⟩
theorem bz:bK X (ZE .Sub) Se:=Bk (h:=λi j=>.int (i-j)) Bg λ_ _ _ _=>rfl
theorem Ew:bK X (ZE .Mult) NJ:=Gg (h:=λi j=>.int (i*j)) vb (λ_ _ _ e=>dv e) λ_ _ _ _=>rfl
theorem Ex:bK X (ZE .Mod) NK:=Gg (h:=λi j=>.int (i % j)) md (λ_ _ _ e=>dv e) λ_ _ _ _=>rfl
theorem k9:NX X (unaryOp .USub) (S6 X Sf):=by
 intro pins s σ H x v Q I rx h;obtain⟨W,d1,d,hd,r1,e,q⟩:=h;cases d1 with
 |int i=>cases e;cases r1;exact z9 pins s σ H _ v Q I rx ⟨i,rfl,q _ _ (au.refl _) rfl⟩
 |_=>cases e
end
def CO (p:Int->Int->Bool):D->D->Option D:=qI λi j=>some (.bl (p i j))
abbrev OP:D->D->Option D:=CO λi j=>decide (i<j)
abbrev Wu:D->D->Option D:=CO λi j=>decide (i<=j)
abbrev xB:D->D->Option D:=CO λi j=>decide (j<i)
abbrev Wv:D->D->Option D:=CO λi j=>decide (j<=i)
section
variable {X:Cx}
theorem lj {p:Int->Int->Bool}{f:Xv->Xv->Sem Xv}(ho:iH X f (Dj λi j=>.bl (p i j))):bK X f (CO p):=Bk (h:=λi j=>.bl (p i j)) ho λ_ _ _ _=>rfl
theorem dq:bK X (YK .Lt) OP:=lj LF
theorem qw:bK X (YK .LtE) Wu:=lj LG
theorem Bl:bK X (YK .Gt) xB:=lj Gf
theorem vc:bK X (YK .GtE) Wv:=lj LH
end
mutual
def D.pd:D->PyData
 |.bP=>.none
 |.bl b=>.bool b
 |.int i=>.int i
 |.str x=>.str x
 |.tup ds=>.tuple (D.gH ds)
 |.lst ds=>.list (D.gH ds)
 |_=>.dict []
def D.gH:List D->List PyData
 |[]=>[]
 |d::ds=>d.pd::D.gH ds
end
abbrev D.uW (d:D):Bool:=shaped d.pd
mutual
theorem cN {X:Cx}{pins:List (Addr×Obj)}{σ:St}{H:Hp}{s:Xw}(I:Inv X pins σ H s){W:Addr->Prop}:∀{d:D} {v:V} {u:Xv},Rp X W H d v->RelV v u->d.pd.canLay0=true->∃as,Reads s.heap u d.pd as
 |.bP,_,_,h,r,_=>by cases h;cases r;exact⟨_,.none⟩
 |.bl b,_,_,h,r,_=>by cases h;cases r;exact⟨_,.bool b⟩
 |.int i,_,_,h,r,_=>by cases h;obtain⟨t,rfl⟩:=r;exact⟨_,.int i t⟩
 |.str x,_,_,h,r,_=>by cases h;obtain⟨t,rfl⟩:=r;exact⟨_,.str x t⟩
 |.tup ds,_,_,h,r,c=>by
  obtain⟨a,vs,rfl,e,q⟩:=h;cases r;obtain⟨its,rv,⟨o,ho,hc,n,hd⟩,hz⟩:=I.tuple (qV.of e);obtain⟨as,ha⟩:=fX I q rv (by simpa[D.pd,Y8] using c)
  exact⟨_,.tuple ho hc hd (by simpa using ha)⟩
 |.lst ds,_,_,h,r,c=>by
  obtain⟨a,vs,rfl,e,_,q⟩:=h;cases r;obtain⟨z,its,n,rv,e'⟩:=I.bt a _ e;obtain⟨as,ha⟩:=fX I q rv (by simpa[D.pd,Y8] using c)
  exact⟨_,.list e' rfl rfl (by simpa using ha)⟩
 |.obj _,_,_,_,_,c=>by simp[D.pd,Y8]at c
 |.dT _ _,_,_,_,_,c=>by simp[D.pd,Y8]at c
 |.dK _ _,_,_,_,_,c=>by simp[D.pd,Y8]at c
 |.sT _,_,_,_,_,c=>by simp[D.pd,Y8]at c
theorem fX {X:Cx}{pins:List (Addr×Obj)}{σ:St}{H:Hp}{s:Xw}(I:Inv X pins σ H s){W:Addr->Prop}:∀{ds:List D} {vs:List V} {us:List Xv},jy X W H ds vs->Vals vs us->ZW (D.gH ds)=true->∃as,ReadsAll s.heap us (D.gH ds) as
 |[],_,_,h,r,_=>by
  rw[show _=[] from h]at r
  cases r;exact⟨_,.nil⟩
 |d::ds,_,_,⟨v,vr,e,h1,h2⟩,r,c=>by
  subst e;have c':(d.pd.canLay0&&ZW (D.gH ds))=true:=c;rw[Yn]at c';cases r with
  |cons r1 r2 =>
   obtain⟨as,ha⟩:=cN I h1 r1 c'.1;obtain⟨bs,hb⟩:=fX I h2 r2 c'.2;exact⟨_,.cons ha hb⟩
end
def J2 (a b:D):Option D:=if a.uW=true/\b.uW=true then some (.bl (YR a.pd b.pd)) else none
def KD (a b:D):Option D:=if a.uW=true/\b.uW=true then some (.bl (!YR a.pd b.pd)) else none
section
variable {X:Cx}
theorem bW (hu:X.A.units+64<ZQ):bK X (YK .Eq) J2:=by
 intro pins s σ H x y v u Q I rx ry h;obtain⟨W,d1,d2,d,hd,r1,r2,e,q⟩:=h;obtain⟨⟨s1,s2⟩,rfl⟩:=dv e;obtain⟨as,ra⟩:=cN I r1 rx (Y2 s1);obtain⟨bs,rb⟩:=cN I r2 ry (Y2 s2);exact compareEq_shaped ra rb s1 s2 hu ⟨.bl _,H,I,rfl,q _ _ (au.refl _) rfl⟩
theorem me (hu:X.A.units+64<ZQ):bK X (YK .NotEq) KD:=by
 intro pins s σ H x y v u Q I rx ry h;obtain⟨W,d1,d2,d,hd,r1,r2,e,q⟩:=h;obtain⟨⟨s1,s2⟩,rfl⟩:=dv e;obtain⟨as,ra⟩:=cN I r1 rx (Y2 s1);obtain⟨bs,rb⟩:=cN I r2 ry (Y2 s2);exact compareNe_shaped ra rb s1 s2 hu ⟨.bl _,H,I,rfl,q _ _ (au.refl _) rfl⟩
def Sg (a b:D):Option D:=match b.Dk with
 |true=>some (.bl a.Dk)
 |false=>none
def NH (a b:D):Option D:=match b.Dk with
 |true=>some (.bl (!a.Dk))
 |false=>none
theorem Rp.EM {W:Addr->Prop}{H:Hp}{d:D}{v:V}(h:Rp X W H d v):v=.bP↔d=.bP:=by
 cases d with
 |bP=>cases h;simp
 |bl b=>cases h;simp
 |int i=>cases h;simp
 |str x=>cases h;simp
 |obj a=>cases h;simp
 |tup ds=>obtain⟨a,vs,rfl,_⟩:=h;simp
 |lst ds=>obtain⟨a,vs,rfl,_⟩:=h;simp
 |dT ks ds=>obtain⟨a,vs,rfl,_⟩:=h;simp
 |dK ks ds=>obtain⟨a,vs,rfl,_⟩:=h;simp
 |sT ts=>obtain⟨a,rfl,_⟩:=h;simp
theorem sZ {b d e:D}(h:(match b.Dk with|true=>some d|false=>none)=some e):b=.bP/\e=d:=by
 cases q:b.Dk with
 |true=>rw[q]at h;cases h;exact⟨D.sY q,rfl⟩
 |false=>rw[q]at h;cases h
theorem Rp.wV {W:Addr->Prop}{H:Hp}{d:D}{v:V}(h:Rp X W H d v):decide (v=.bP)=d.Dk:=by
 have q:=h.EM.trans D.E7;cases e:d.Dk with
 |true=>exact decide_eq_true (q.mpr e)
 |false=>exact decide_eq_false λz=>by rw[q.mp z]at e;cases e
theorem qz:bK X (YK .Is) Sg:=by
 intro pins s σ H x y v u Q I rx ry h;obtain⟨W,d1,d2,d,hd,r1,r2,e,q⟩:=h;obtain⟨rfl,rfl⟩:=sZ e;cases r2;exact Im pins s σ H _ _ v u Q I rx ry ⟨rfl,q _ _ (au.refl _) (congrArg V.bl r1.wV)⟩
theorem Bi:bK X (YK .IsNot) NH:=by
 intro pins s σ H x y v u Q I rx ry h;obtain⟨W,d1,d2,d,hd,r1,r2,e,q⟩:=h;obtain⟨rfl,rfl⟩:=sZ e;cases r2;exact Eu pins s σ H _ _ v u Q I rx ry ⟨rfl,q _ _ (au.refl _) (congrArg (λb=>V.bl (!b)) r1.wV)⟩
end
def NQ:D->D->Option Bool
 |a,.lst ds=>if a.uW=true/\(D.lst ds).uW=true then some ((D.gH ds).any λy=>YR y a.pd) else none
 |a,.tup ds=>if a.uW=true/\(D.tup ds).uW=true then some ((D.gH ds).any λy=>YR y a.pd) else none
 |_,_=>none
def Si (a b:D):Option D:=(NQ a b).map .bl
theorem wt {ds:List D}{n:PyData}(hn:n=.list (D.gH ds)\/n=.tuple (D.gH ds))(h:shaped n=true):ZW (D.gH ds)=true/\Zd (D.gH ds)<=64:=by
 have h1:=Y2 h;have h2:=depth_of_shaped h;rcases hn with rfl|rfl
 ·refine⟨by simpa[Y8] using h1,?_⟩
  have:Z6 (.list (D.gH ds))=Zd (D.gH ds)+1:=by simp[Z6]
  lia
 ·refine⟨by simpa[Y8] using h1,?_⟩
  have:Z6 (.tuple (D.gH ds))=Zd (D.gH ds)+1:=by simp[Z6]
  lia
section
variable {X:Cx}
theorem Bj (hu:X.A.units+64+1<ZQ):bK X (YK .In) Si:=by
 intro pins s σ H x y v u Q I rx ry h;obtain⟨W,d1,d2,d,hd,r1,r2,e,q⟩:=h;cases d2 with
 |lst ds =>
  obtain⟨b,e1,rfl⟩:=XY.mp e;obtain⟨⟨s1,s2⟩,rfl⟩:=dv e1;obtain⟨as,ra⟩:=cN I r1 rx (Y2 s1);obtain⟨bs,rb⟩:=cN I r2 ry (Y2 s2);obtain⟨c1,c2⟩:=wt (.inl rfl) s2;exact in_list_reads rb ra c1 (Y2 s1) (by have:=Nat.min_le_left (Zd (D.gH ds)) d1.pd.depth;lia) ⟨.bl _,H,I,rfl,q _ _ (au.refl _) rfl⟩
 |tup ds =>
  obtain⟨b,e1,rfl⟩:=XY.mp e;obtain⟨⟨s1,s2⟩,rfl⟩:=dv e1;obtain⟨as,ra⟩:=cN I r1 rx (Y2 s1);obtain⟨bs,rb⟩:=cN I r2 ry (Y2 s2);obtain⟨c1,c2⟩:=wt (.inr rfl) s2;exact in_tuple_reads rb ra c1 (Y2 s1) (by have:=Nat.min_le_left (Zd (D.gH ds)) d1.pd.depth;lia) ⟨.bl _,H,I,rfl,q _ _ (au.refl _) rfl⟩
 |_=>cases e
def pP (a b:D):Option D:=match b.Je with
 |some i=>match a.Jd with
  |some ds=>og ds i
  |none=>match a.Mi with
   |some ds=>og ds i
   |none=>none
 |none=>none
theorem CL {a b d:D}(h:pP a b=some d):∃ds i,(a=.lst ds\/a=.tup ds)/\b=.int i/\og ds i=some d:=by
 unfold pP at h;cases hb:b.Je with
 |none=>rw[hb]at h;cases h
 |some i =>
  rw[hb]at h;cases ha:a.Jd with
  |some ds=>rw[ha]at h;exact⟨ds,i,.inl (D.mI ha),D.jl hb,h⟩
  |none =>
   rw[ha]at h;cases ht:a.Mi with
   |some ds=>rw[ht]at h;exact⟨ds,i,.inr (D.BQ ht),D.jl hb,h⟩
   |none=>rw[ht]at h;cases h
theorem jy.og {W:Addr->Prop}{H:Hp}{ds:List D}{vs:List V}{i:Int}{d:D}(h:jy X W H ds vs)(e:L2.og ds i=some d):∃v,L2.og vs i=some v/\Rp X W H d v:=by
 unfold L2.og at *
 rw[h.length];cases q:xb ds.length i with
 |none=>rw[q]at e;cases e
 |some j =>
  rw[q]at e;exact ai.get h e
theorem Jb:G9 X (S5 X pP):=by
 intro value slice pins s σ H x y v u Q I rx ry h hs;obtain⟨W,d1,d2,d,hd,r1,r2,e,q⟩:=h;obtain⟨ds,i,h,rfl,e⟩:=CL e;cases r2;rcases h with rfl|rfl
 ·obtain⟨p,vs,rfl,h1,n1,q1⟩:=r1;obtain⟨z,hz,rz⟩:=jy.og (X:=X) q1 e;exact eK value slice pins s σ H _ _ v u Q I rx ry ⟨p,vs,i,z,rfl,rfl,c6.of h1,hz,q _ _ (au.refl _) rz⟩ hs
 ·obtain⟨p,vs,rfl,h1,q1⟩:=r1;obtain⟨z,hz,rz⟩:=jy.og (X:=X) q1 e;exact BN value slice pins s σ H _ _ v u Q I rx ry ⟨p,vs,i,z,rfl,rfl,qV.of h1,hz,q _ _ (au.refl _) rz⟩ hs
def cutD (xs:List D)(lo hi:Option Int):List D:=(xs.drop (HT.lY xs.length 0 lo)).take (HT.lY xs.length xs.length hi-HT.lY xs.length 0 lo)
def Uk:D->Option Int->Option Int->Option D
 |.lst ds,lo,hi=>some (.lst (cutD ds lo hi))
 |_,_,_=>none
def NP:List D->Option D
 |[.lst ds]=>some (.int ds.length)
 |[.tup ds]=>some (.int ds.length)
 |_=>none
theorem fg:bG X (.builtin "len") NP:=by
 intro pins s σ H xs us Q I r h;obtain⟨W,ds,d,hd,r1,e,q⟩:=h
 match ds,e with
 |[.lst es],e =>
  cases e;obtain⟨v,r',rfl,⟨p,vs,rfl,h1,n1,q1⟩,hr⟩:=r1;cases hr;refine ju pins s σ H _ us Q I r ⟨p,vs,rfl,.inl (c6.of h1),?_⟩;rw[q1.length];exact q _ _ (au.refl _) rfl
 |[.tup es],e =>
  cases e;obtain⟨v,r',rfl,⟨p,vs,rfl,h1,q1⟩,hr⟩:=r1;cases hr;refine ju pins s σ H _ us Q I r ⟨p,vs,rfl,.inr (qV.of h1),?_⟩;rw[q1.length];exact q _ _ (au.refl _) rfl
def dList:List D->Option D
 |[.lst ds]=>some (.lst ds)
 |[.tup ds]=>some (.lst ds)
 |_=>none
def NO:List D->Option D
 |[.int i,.int j]=>some (.int (if j>i then j else i))
 |_=>none
def NM:List D->Option D
 |[.int i,.int j]=>some (.int (if j<i then j else i))
 |_=>none
theorem pV {W:Addr->Prop}{H:Hp}{a b:D}{xs:List V}(h:jy X W H [a,b] xs):∃x y,xs=[x,y]/\Rp X W H a x/\Rp X W H b y:=by
 obtain⟨x,r,rfl,hx,y,r',rfl,hy,hr⟩:=h;cases hr;exact⟨x,y,rfl,hx,hy⟩
theorem jx {W:Addr->Prop}{H:Hp}{a:D}{xs:List V}(h:jy X W H [a] xs):∃x,xs=[x]/\Rp X W H a x:=by
 obtain⟨x,r,rfl,hx,hr⟩:=h;cases hr;exact⟨x,rfl,hx⟩
theorem vQ (hc:X.calm=true):bG X (.builtin "max") NO:=by
 intro pins s σ H xs us Q I r h;obtain⟨W,ds,d,hd,r1,e,q⟩:=h
 match ds,e with
 |[.int i,.int j],e =>
  cases e;obtain⟨x,y,rfl,hx,hy⟩:=pV r1;cases hx;cases hy;exact pQ hc pins s σ H _ us Q I r ⟨i,j,rfl,q _ _ (au.refl _) rfl⟩
theorem iF (hc:X.calm=true):bG X (.builtin "min") NM:=by
 intro pins s σ H xs us Q I r h;obtain⟨W,ds,d,hd,r1,e,q⟩:=h
 match ds,e with
 |[.int i,.int j],e =>
  cases e;obtain⟨x,y,rfl,hx,hy⟩:=pV r1;cases hx;cases hy;exact zh hc pins s σ H _ us Q I r ⟨i,j,rfl,q _ _ (au.refl _) rfl⟩
def Sh:List D->Option D
 |[.int i]=>some (.int i)
 |[.bl k]=>some (.int (if k then 1 else 0))
 |_=>none
theorem zm:bG X (.type "int") Sh:=by
 intro pins s σ H xs us Q I r h;obtain⟨W,ds,d,hd,r1,e,q⟩:=h
 match ds,e with
 |[.int i],e =>
  cases e;obtain⟨x,rfl,hx⟩:=jx r1;cases hx;exact j7 pins s σ H _ us Q I r (.inl ⟨i,rfl,q _ _ (au.refl _) rfl⟩)
 |[.bl k],e =>
  cases e;obtain⟨x,rfl,hx⟩:=jx r1;cases hx;exact j7 pins s σ H _ us Q I r (.inr ⟨k,rfl,q _ _ (au.refl _) rfl⟩)
end
abbrev zM:=List (Option D)
abbrev Kg:=zM->(D->Prop)->Prop
abbrev uj:=zM->(List D->Prop)->Prop
def vZ (P:Xz)(w:XT)(W:Addr->Prop)(H:Hp)(σ:St)(ρ:zM):Prop:=∀(i:Nat) (d:D),ρ[i]?=some (some d)->∃v,σ[i]?=some (some v)/\ay P w W H d v
theorem vZ.keep {P:Xz}{w:XT}{W:Addr->Prop}{H H':Hp}{σ:St}{ρ:zM}(e:vZ P w W H σ ρ)(k:Kp W H H'):vZ P w W H' σ ρ:=λi d h=>by
 obtain⟨v,h1,h2⟩:=e i d h;exact⟨v,h1,h2.keep k⟩
theorem vZ.same {P:Xz}{w:XT}{W:Addr->Prop}{H H':Hp}{σ:St}{ρ:zM}(e:vZ P w W H σ ρ)(s:au H H'):vZ P w W H' σ ρ:=e.keep s.kp
theorem PE.pre {X:Cx}{e:Expr}{t t':TE}(h:PE X e t)(k:∀σ H Q,t' σ H Q->t σ H Q):PE X e t':=λpins s σ H Q I q=>h pins s σ H Q I (k σ H Q q)
theorem PT.pre {X:Cx}{e:Expr}{t t':TT}(h:PT X e t)(k:∀σ H Q,t' σ H Q->t σ H Q):PT X e t':=λpins s σ H Q I q=>h pins s σ H Q I (k σ H Q q)
theorem PA.pre {X:Cx}{es:List Expr}{t t':TA}(h:PA X es t)(k:∀σ H Q,t' σ H Q->t σ H Q):PA X es t':=λpos pins s σ H Q I q=>h pos pins s σ H Q I (k σ H Q q)
structure KO (P:Xz)(w:XT)(W:Addr->Prop)(σ:St)(H:Hp)(ρ:zM):Prop where
 dm:Dm W H
 env:vZ P w W H σ ρ
abbrev SE (X:Cx):(Addr->Prop)->St->Hp->zM->Prop:=KO X.prog X.w
theorem KO.same {P:Xz}{w:XT}{W:Addr->Prop}{σ:St}{H H':Hp}{ρ:zM}(e:KO P w W σ H ρ)(s:au H H'):KO P w W σ H' ρ:=⟨e.dm.same s,e.env.same s⟩
def tD (X:Cx)(φ:Kg):TE:=λσ H Q=>∃W ρ,SE X W σ H ρ/\φ ρ λd=>∀v H',au H H'->Rp X W H' d v->Q v H'
def K6 (X:Cx)(φ:uj):TA:=λσ H Q=>∃W ρ,SE X W σ H ρ/\φ ρ λds=>∀vs H',au H H'->jy X W H' ds vs->Q vs H'
structure PV (X:Cx)(e:Expr)(φ:Kg):Prop where
 mono:∀ρ R R',(∀d,R d->R' d)->φ ρ R->φ ρ R'
 pe:PE X e (tD X φ)
structure NZ (X:Cx)(es:List Expr)(φ:uj):Prop where
 mono:∀ρ R R',(∀d,R d->R' d)->φ ρ R->φ ρ R'
 pa:PA X es (K6 X φ)
section
variable {X:Cx}{a e:Expr}{es:List Expr}{φ:Kg}{φs:uj}{pos:Pos}{W:Addr->Prop}{σ:St}{H:Hp}{ρ:zM}
theorem tD.of (h:PV X e φ)(se:SE X W σ H ρ){R:D->Prop}{Q:VK}(hr:φ ρ R)(k:∀d v H',R d->au H H'->Rp X W H' d v->Q v H'):tD X φ σ H Q :=
 ⟨W,ρ,se,h.mono ρ _ _ (λd hd v H' s r=>k d v H' hd s r) hr⟩
theorem K6.of (h:NZ X es φs)(se:SE X W σ H ρ){R:List D->Prop}{Q:List V->Hp->Prop}(hr:φs ρ R)(k:∀ds vs H',R ds->au H H'->jy X W H' ds vs->Q vs H'):K6 X φs σ H Q :=
 ⟨W,ρ,se,h.mono ρ _ _ (λd hd v H' s r=>k d v H' hd s r) hr⟩
def R1 (i:Nat):Kg:=λρ R=>∃d,ρ[i]?=some (some d)/\R d
theorem eS {i:Nat}{x:Str}(hN:X.N[i]?=some x:=by rfl)(hv:vW X.env.scope x:=by first|exact .inl rfl|exact .inr (.inl rfl)|exact .inr (.inr rfl))(hd:(x==("__debug__" : Str))=false:=by decide)(gZ:(x==("__classdict__" : Str))=false:=by decide):
  PV X (.Name x pos) (R1 i):=⟨λρ R R' k QM=> by obtain⟨d,e,h⟩ := QM;exact⟨d,e,k d h⟩,(dj hN hv hd gZ).pre λσ H Q QL=> by
 obtain⟨W,ρ,se,d,e,q⟩ := QL;obtain⟨v,h1,h2⟩:=se.env i d e;exact⟨v,h1,q v H (au.refl _) h2⟩⟩
theorem PW.pre {t t':TT}(h:PW X e t)(k:∀σ H Q,t' σ H Q->t σ H Q):PW X e t':=λw pins s σ H Q I q=>h w pins s σ H Q I (k σ H Q q)
def R4:uj:=λ_ R=>R []
def NA (φ:Kg)(φs:uj):uj:=λρ R=>φ ρ λd=>φs ρ λds=>R (d::ds)
theorem Ed:NZ X [] R4:=⟨λρ R R' k h=>k _ h,dk.pre λσ H Q QK=> by obtain⟨W,ρ,se,q⟩ := QK;exact q [] H (au.refl _) rfl⟩
theorem rX (ha:PV X a φ)(hr:NZ X es φs)(hs:XZ (a::es) X.env=(false,eval a X.env)::XZ es X.env:=by rfl):NZ X (a::es) (NA φ φs) :=
 ⟨λρ R R' k h=>ha.mono ρ _ _ (λd q=>hr.mono ρ _ _ (λds q2=>k _ q2) q) h,(bo ha.pe hr.pa hs).pre λσ H Q ⟨W,ρ,se,h⟩ =>
  tD.of ha se h λd1 v1 H1 h1 s1 r1=>K6.of hr (se.same s1) h1 λds vs H2 q s2 r2=>q (v1::vs) H2 (s1.trans s2) (.cons (r1.same s2) r2)⟩
end
abbrev FD:=List D->(D->Prop)->Prop
def cU (F:FD):Prop:=∀ds R R',(∀d,R d->R' d)->F ds R->F ds R'
section
end
section
variable {X:Cx}{e:Expr}{pos:Pos}{σ:St}{H:Hp}
theorem G7.pre {ops:List aat}{rs:List Expr}{t t':V->TE}(h:G7 X ops rs t)(k:∀x σ H Q,t' x σ H Q->t x σ H Q):G7 X ops rs t':=λpos pins s σ H x v Q I r q=>h pos pins s σ H x v Q I r (k x σ H Q q)
theorem uo.pre {ops:List aat}{rs:List Expr}{t t':V->TT}(h:uo X ops rs t)(k:∀x σ H Q,t' x σ H Q->t x σ H Q):uo X ops rs t':=λpos pins s σ H x v Q I r q=>h pos pins s σ H x v Q I r (k x σ H Q q)
theorem PO.pre {e:Option Expr}{t t':TO}(h:PO X e t)(k:∀σ H Q,t' σ H Q->t σ H Q):PO X e t':=λpins s σ H Q I q=>h pins s σ H Q I (k σ H Q q)
end
abbrev NF:D->Prop:=λd=>d.flat=true
section
abbrev NL:D->Prop:=λd=>match d with | .lst ds=>D.bQ ds=true|d=>d.flat=true
end
section
variable {P:Xz}{w:XT}{W W':Addr->Prop}{H:Hp}
mutual
theorem ay.grow (s:∀a,W' a->W a\/H a=none):∀{d:D} {v:V},ay P w W H d v->ay P w W' H d v
 |.bP,_,h=>h
 |.bl _,_,h=>h
 |.int _,_,h=>h
 |.str _,_,h=>h
 |.obj _,_,h=>h
 |.tup ds,_,⟨a,vs,e,t,r⟩=>⟨a,vs,e,t,ai.grow s r⟩
 |.lst ds,_,⟨a,vs,e,t,n,r⟩=>⟨a,vs,e,t,λz=>(s a z).elim n λq=>(by rw[t]at q;cases q),ai.grow s r⟩
 |.dT ks ds,_,⟨a,vs,e,t,l,n,r⟩=>⟨a,vs,e,t,l,λz=>(s a z).elim n λq=>(by rw[t]at q;cases q),ai.grow s r⟩
 |.dK ks ds,_,⟨a,vs,e,t,l,n,r⟩=>⟨a,vs,e,t,l,λz=>(s a z).elim n λq=>(by rw[t]at q;cases q),ai.grow s r⟩
 |.sT ts,_,⟨a,e,⟨df,t,r,z⟩,n⟩=>⟨a,e,⟨df,t,r,z⟩,λz=>(s a z).elim n λq=>(by rw[t]at q;cases q)⟩
theorem ai.grow (s:∀a,W' a->W a\/H a=none):∀{ds:List D} {vs:List V},ai P w W H ds vs->ai P w W' H ds vs
 |[],_,h=>h
 |d::ds,_,⟨v,r,e,h1,h2⟩=>⟨v,r,e,ay.grow s h1,ai.grow s h2⟩
end
end
def WB (X:Cx)(W:Addr->Prop)(J:It)(ds:List D)(H0:Hp):Prop:=∀(i:Nat) (H:Hp),Kp W H0 H ->
 (∀d,ds[i]?=some d->J.go i H/\∀x H1,J.KR i H x H1->au H H1/\Rp X W H1 d x)/\(ds.length<=i->J.stop i H)
def xQ (X:Cx)(W:Addr->Prop)(J:It)(ds:List D)(H0:Hp):Prop:=∀W':Addr->Prop,(∀b,W' b->W b\/H0 b=none)->WB X W' J ds H0
abbrev Kf:=zM->(List D->Prop)->Prop
structure Uo (X:Cx)(tg iter:Expr)(ι:Kf):Prop where
 mono:∀ρ R R',(∀d,R d->R' d)->ι ρ R->ι ρ R'
 pi:PI X tg iter λσ H R=>∃W ρ,SE X W σ H ρ/\ι ρ λds=>∀J H',au H H'->xQ X W J ds H'->R J H'
section
variable {X:Cx}{tg e:Expr}
theorem PI.pre {iter:Expr}{t t':TI}(h:PI X tg iter t)(k:∀σ H R,t' σ H R->t σ H R):PI X tg iter t':=λpins s σ H R I q=>h pins s σ H R I (k σ H R q)
theorem sX {W:Addr->Prop}{H:Hp}{p:Addr}{vs:List V}{ds:List D}(h1:H p=some (.lst vs))(n1:¬ W p)(q1:jy X W H ds vs):xQ X W (OX X.K p) ds H:=λW' hW i H' k=>by
 have h2:=k.out p _ h1 λz=>(hW p z).elim n1 λq=>by rw[h1]at q;cases q
 replace q1:=ai.grow hW q1;constructor
 ·intro d hd;obtain⟨v,hv,rv⟩:=ai.get q1 hd;refine⟨⟨vs,v,c6.of h2,hv⟩,λx H1 y=>?_⟩;obtain⟨rfl,y⟩:=y;have e:=y vs (c6.of h2);rw[hv]at e;cases e;exact⟨au.refl _,rv.keep k⟩
 ·intro hl;exact⟨vs,c6.of h2,by rw[q1.length];exact hl⟩
def qk (lo:Int)(n:Nat):List D:=(XD n).map λ(k:Nat)=>D.int (lo+(k:Int))
theorem jU {W:Addr->Prop}{H:Hp}{lo:Int}{n:Nat}:xQ X W (N6 lo n) (qk lo n) H:=λ_ _ i H' k=>by
 constructor
 ·intro d hd;unfold qk at hd;rw[XM]at hd;have hi:i<n:=by
   by_cases h:i<n
   ·exact h
   ·rw[Ys (by simpa using h)]at hd;cases hd
  rw[Zo hi]at hd;cases hd;refine⟨hi,λx H1 y=>?_⟩;obtain⟨rfl,rfl⟩:=y;exact⟨au.refl _,rfl⟩
 ·intro hl;unfold qk at hl;rw[Xu,Ye]at hl;exact hl
end
section
variable {X:Cx}{tg:Expr}{xV:List Expr}
theorem PG.pre {t t':TG}(h:PG X tg t)(k:∀v σ H Q,t' v σ H Q->t v σ H Q):PG X tg t':=λpins s σ H v u Q I r q=>h pins s σ H v u Q I r (k v σ H Q q)
theorem G6.pre {t t':G2}(h:G6 X xV t)(k:∀v σ H Q,t' v σ H Q->t v σ H Q):G6 X xV t':=λpins s σ H v u Q I r q=>h pins s σ H v u Q I r (k v σ H Q q)
end
theorem jS {H:Hp}{a:Addr}{o o':HO}(h:H a=some o)(ht:∀xs,o≠.tup xs):Kp (·=a) H (upd H a o') :=
 ⟨λb u e n=>by rw[ao n];exact e,λb xs e=>by rw[ao (Gj e h (λz=>ht xs z.symm))];exact e⟩
section
end
section
end
section
end
section
variable {σ:St}{β:a7}{own:Nat->List Addr}
def aS (own:Nat->List Addr)(i:Nat)(as:List Addr):Nat->List Addr:=λj=>if j=i then as else own j
theorem bV {own:Nat->List Addr}{i j:Nat}{a:Addr}(h:a∈aS own i [] j):a∈own j/\j≠i:=by
 unfold aS at h
 by_cases e:j=i
 ·rw[if_pos e]at h;cases h
 ·rw[if_neg e]at h;exact⟨h,e⟩
theorem bp {α:Type}{β:List α}{i j:Nat}{x:α}(h:i≠j):(β.set i x)[j]?=β[j]?:=by rw[ZY,if_neg h]
theorem bA {α:Type}{β:List α}{i:Nat}{x y:α}(h:(β.set i x)[i]?=some y):y=x/\i<β.length:=by
 rw[ZY,if_pos rfl]at h
 by_cases hi:i<β.length
 ·rw[if_pos hi]at h;cases h;exact⟨rfl,hi⟩
 ·rw[if_neg hi]at h;cases h
theorem get_set {α:Type}{σ:List α}{i:Nat}{x:α}(h:i<σ.length):(σ.set i x)[i]?=some x:=by rw[ZY,if_pos rfl,if_pos h]
end
structure Sn (Z:Hp×(Addr->Prop))(H:Hp)(W:Addr->Prop):Prop where
 w:∀b,W b->Z.2 b\/Z.1 b=none
 k:Kp (λb=>Z.2 b\/Z.1 b=none) Z.1 H
 d:∀b,Z.1 b≠none->H b≠none
theorem Sn.refl {H:Hp}{W:Addr->Prop}:Sn (H,W) H W:=⟨λ_ z=>.inl z,Kp.refl,λ_ z=>z⟩
theorem Sn.same {Z:Hp×(Addr->Prop)}{H H':Hp}{W:Addr->Prop}(n:Sn Z H W)(s:au H H'):Sn Z H' W:=⟨n.w,n.k.trans s.kp,λb z e=>n.d b z (s.free e)⟩
theorem Sn.free {Z:Hp×(Addr->Prop)}{H:Hp}{W:Addr->Prop}(n:Sn Z H W){a:Addr}(h:H a=none):Z.1 a=none:=by
 cases q:Z.1 a with
 |none=>rfl
 |some o=>exact absurd h (n.d a (by rw[q];intro z;cases z))
theorem Sn.upd {Z:Hp×(Addr->Prop)}{H:Hp}{W:Addr->Prop}(n:Sn Z H W){a:Addr}{o o':HO}(h:H a=some o)(ht:∀xs,o≠.tup xs)(wa:W a):Sn Z (L2.upd H a o') W :=
 ⟨n.w,n.k.trans ((jS h ht).mono λb z=>by rw[z];exact n.w a wa),λb z e=>by
  by_cases hb:b=a
  ·subst hb;rw[ar]at e;cases e
  ·rw[ao hb]at e;exact n.d b z e⟩
theorem Sn.trans {Z:Hp×(Addr->Prop)}{H1 H:Hp}{W1 W:Addr->Prop}(n1:Sn Z H1 W1)(n:Sn (H1,W1) H W):Sn Z H W:=by
 have big:∀b,W1 b\/H1 b=none->Z.2 b\/Z.1 b=none:=λb z=>z.elim (n1.w b) λq=>.inr (n1.free q);exact⟨λb z=>big b (n.w b z),n1.k.trans (n.k.mono big),λb z=>n.d b (n1.d b z)⟩
section
variable {X:Cx}{st:Stmt}{rest:List Stmt}{σ:St}{H:Hp}
theorem PS.pre {t t':TS}(h:PS X st t)(k:∀D σ H,t' D σ H->t D σ H):PS X st t':=λpins s σ H D I q=>h pins s σ H D I (k D σ H q)
theorem rg.pre {t t':TS}(h:rg X rest t)(k:∀D σ H,t' D σ H->t D σ H):rg X rest t':=λpins s σ H D I q=>h pins s σ H D I (k D σ H q)
end
section
variable {b:Expr}{H:Hp}
theorem held {P:Xz}{w:XT}{W W2:Addr->Prop}{H2:Hp}{d:D}{v:V}(r:ay P w W H d v)(n:Sn (H,W) H2 W2):ay P w W2 H2 d v :=
 ay.aV n.w (ay.keep n.k (ay.grow (λb z=>z) r))
end
theorem Sn.kp {Z:Hp×(Addr->Prop)}{H H':Hp}{W:Addr->Prop}(n:Sn Z H W)(k:Kp W H H')(dn:∀c,H c≠none->H' c≠none):Sn Z H' W:=⟨n.w,n.k.trans (k.mono n.w),λb z=>dn b (n.d b z)⟩
section
end
section
end
end L2
namespace WC
open PySem PySem.Spec PyProof.Rows
section
open PySem.SeqAt
open PySem.AutoSeq1 (wpAny_loadPart')
open PySem.MeetsSeq PySem.MeetsSeq2 PySem.MeetsSeq3
end
section
end
section
open PySem.SeqAt
open PySem.AutoSeq1 (wpAny_loadPart')
open PySem.MeetsSeq PySem.MeetsSeq2 PySem.MeetsSeq3
end
section
end
end WC
namespace L2
open PySem PySem.Spec PySem.SeqAt PyProof.Rows
def bj:List D->Option (List Int)
 |[]=>some []
 |.int i::ds=>(bj ds).map (i::·)
 |_::_=>none
theorem s9:∀{ds:List D} {ns:List Int},bj ds=some ns->ds=ns.map D.int
 |[],_,h=>by cases h;rfl
 |.int i::ds,_,h=>by
  obtain⟨ns,h1,rfl⟩:=XY.mp h;rw[X5,<- s9 h1]
 |.bP::_,_,h=>by cases h
 |.bl _::_,_,h=>by cases h
 |.str _::_,_,h=>by cases h
 |.obj _::_,_,h=>by cases h
 |.tup _::_,_,h=>by cases h
 |.lst _::_,_,h=>by cases h
 |.dT _ _::_,_,h=>by cases h
 |.dK _ _::_,_,h=>by cases h
 |.sT _::_,_,h=>by cases h
theorem pq:∀(ns:List Int),bj (ns.map D.int)=some ns
 |[]=>rfl
 |n::ns=>by rw[X5];show (bj (ns.map D.int)).map _=_;rw[pq ns];rfl
theorem b9 {P:Xz}{w:XT}{W:Addr->Prop}{H:Hp}:∀{ns:List Int} {vs:List V},ai P w W H (ns.map D.int) vs->vs=ns.map V.int
 |[],_,h=>h
 |n::ns,_,⟨v,r,e,h1,h2⟩=>by rw[e,b9 h2,show v=V.int n from h1];rfl
theorem pk {P:Xz}{w:XT}{W:Addr->Prop}{H:Hp}:∀(ns:List Int),ai P w W H (ns.map D.int) (ns.map V.int)
 |[]=>rfl
 |n::ns=>⟨_,_,rfl,rfl,pk ns⟩
section
end
end L2
namespace TS
open PySem PyProof.Rows
section
variable {prog:Xz}{w:XT}{A:Yv}{E:Xv->Xw->Prop}{s:Xw}
theorem uS {x:Xv}{vs:List Xv}{kf:Xv->List Int}{Q:Xv->Xw->Prop}(hz:vs.length<=1000000)
  (col:∀(B:Yv) (R:List Xv->Xw->Prop),B.units<=A.units+1->(∀(h':Heap) (tk:Nat),(∀b o,s.heap.get? b=some o->h'.get? b=some o)->s.heap.objs.size<=h'.objs.size->R vs {s with heap:=h',toks:=tk})->X4 (model prog w) B (collect x) R E s)
  (T:oj s.heap kf s.heap.objs.size vs)
  (h:∀(out:List Xv) (l:Addr) (h':Heap) (tk:Nat) (n:Nat),out.Perm vs->out.Pairwise (λx y=>HT.lexLt (kf y) (kf x)=false)->s.heap.objs.size<=l->(∀b o,s.heap.get? b=some o->h'.get? b=some o)->h'.get? l=some (Zq "list" out.toArray n)->Q (.ref l) {s with heap:=h',toks:=tk}) :
  X4 (model prog w) A (call (.builtin "sorted") [x]) Q E s:=by
 refine aaK kind_sorted plain_sorted entry_sorted (args_sorted1 _) ?_;unfold ZO.«sorted»
 refine Xs (m:=checkCount "sorted" 1 1 _) (XB ?_);refine Xs (col A.in1 _ (Xx _) λh' tk kp Qi=>?_);have nl:vs.length<=XO:=by rw[YA];lia
 refine Xs (wpAny_newList ?_ nl);have hl:(h'.push (Zq "list" vs.toArray 0)).get? h'.objs.size=some (Zq "list" vs.toArray 0):=X6 _ rfl;have T':oj (h'.push (Zq "list" vs.toArray 0)) kf h'.objs.size vs:=λv hv=>by
  obtain⟨t,o,xs,k,e1,_,e3,r⟩:=T v hv;exact⟨t,o,xs,k,e1,Yc (XU (kp _ _ e3)),XA _ (kp _ _ e3),r⟩
 refine Xs (Y0 (Y1 slot_list_sort ⟨_,hl,rfl⟩ entry_list_sort (my (s:={s with heap:=h'.push (Zq "list" vs.toArray 0),toks:=tk}) hl hz T' λout hp hs=>⟨_,rfl,?_⟩) (args_list_sort _)))
 obtain⟨n,hn⟩:=sortedHeap_at (out:=out.toArray) hl;refine XB ⟨_,rfl,h out h'.objs.size _ tk n hp hs Qi (λb o e=>?_) hn⟩;have hb:=XU (kp _ _ e);rw[sortedHeap_old (Yc hb) (by rw[size_push'];exact ZX hb)]
 exact XA _ (kp _ _ e)
end
end TS
namespace L2
open PySem PySem.Spec PyProof.Rows
def sW (H:Hp):Xv->List Int
 |.ref t=>match H t with
  |some (.tup xs)=>xs.filterMap fun
   |.int i=>some i
   |_=>none
  |_=>[]
 |_=>[]
theorem tE:∀ns:List Int,((ns.map V.int).filterMap fun
   |.int i=>some i
   |_=>none)=ns
 |[]=>rfl
 |n::ns=>by
  rw[X5,YG];dsimp only;rw[tE ns]
theorem ji {H:Hp}{t:Addr}{ns:List Int}(h:H t=some (.tup (ns.map V.int))):sW H (.ref t)=ns:=by
 unfold sW;dsimp only;rw[h];exact tE ns
def GS (H:Hp):Xv->Addr×List Int
 |.ref t=>(t,sW H (.ref t))
 |_=>(0,[])
abbrev vX (H:Hp)(ts:List (Addr×List Int)):Prop:=∀t∈ts,H t.1=some (.tup (t.2.map V.int))/\t.2≠[]
abbrev qb (t:Addr×List Int):V:=.ref t.1
theorem gy:∀{ts:List (Addr×List Int)} {us:List Xv},Vals (ts.map qb) us->us=ts.map λt=>Value.ref t.1
 |[],_,.nil=>rfl
 |t::ts,_,.cons r q=>by
  rw[X5,<- gy q];cases r;rfl
theorem jI:∀(ts:List (Addr×List Int)),Vals (ts.map qb) (ts.map λt=>Value.ref t.1)
 |[]=>.nil
 |t::ts=>.cons rfl (jI ts)
theorem oM {H:Hp}{ts:List (Addr×List Int)}(T:vX H ts){out:List Xv}(hp:out.Perm (ts.map λt=>Value.ref t.1)):out=(out.map (GS H)).map (λt=>Value.ref t.1)/\(out.map (GS H)).Perm ts:=by
 constructor
 ·rw[YB];refine(Yh (g:=id) λv hv=>?_).trans (List.map_id _) |>.symm
  obtain⟨t,ht,rfl⟩:=X7.mp (hp.mem_iff.mp hv);rfl
 ·refine(hp.map (GS H)).trans (aaw ?_);rw[YB];refine(Yh (g:=id) λt ht=>?_).trans (List.map_id _);show (t.1,sW H (.ref t.1))=t;rw[ji (T t ht).1]
theorem v_ {P:Xz}{w:XT}{H:Hp}{h:Heap}{ts:List (Addr×List Int)}(ok:iI P w H h)(T:vX H ts){a:Addr}(ha:h.objs.size<=a):TS.oj h (sW H) a (ts.map λt=>Value.ref t.1):=λv hv=>by
 obtain⟨t,ht,rfl⟩:=X7.mp hv;obtain⟨h1,h2⟩:=T t ht;obtain⟨_,its,r,o,ho,hc,n,hd⟩:=(show bb P w H h t.1 (.tup (t.2.map V.int)) from ok _ _ h1)
 exact⟨t.1,o,_,n,rfl,Yc (Yi (XU ho) ha),ho,hc,hd,by rw[ji h1];exact intsAre_of (by simpa using r),by rw[ji h1];exact h2⟩
section
variable {X:Cx}
theorem qP:fh X (.builtin "sorted") (λxs H Q=>∃(p:Addr) (ts:List (Addr×List Int)),xs=[.ref p]/\c6 X.K H p (ts.map qb)/\vX H ts/\ts.length<=1000000 /\
  ∀(l:Addr) (df:List (Addr×List Int)),H l=none->df.Perm ts->df.Pairwise (λx y=>HT.lexLt y.2 x.2=false)->Q (.ref l) (upd H l (.lst (df.map qb)))):=by
 intro pins s σ H xs us Q I r h;obtain⟨p,ts,rfl,hq,T,hz,q⟩:=h;obtain⟨u,rfl,rx⟩:=vals1 r;cases rx;obtain⟨its,r',pl,hl⟩:=I.list hq;obtain rfl:=gy r';have nl:(ts.map λt=>Value.ref t.1).length<=XO:=by rw[Xu,YA];lia
 refine TS.uS (kf:=sW H) (by rw[Xu];exact hz) (λB R _ hR=>?_) (v_ I.bt T (Xx _)) λout l h' tk n hp hs hle kp ho=>?_
 ·refine collect_list pl.isList (hR _ s.toks (λb o e=>?_) ?_) nl
  ·have hb:=XU e;rw[Heap.get?_update_ne _ _ _ _ (Yc hb)];exact XA _ e
  ·rw[Heap.size_update,size_push'];exact Nat.le_succ _
 ·obtain⟨e1,e2⟩:=oM T hp;have zl:out.length=ts.length:=by rw[hp.length_eq,Xu]
  refine⟨.ref l,_,I.laid (t':=tk) (o:=.lst ((out.map (GS H)).map qb)) kp hle ?_,rfl,q l _ (I.bt.fresh hle) e2 ?_⟩
  ·refine⟨by rw[Xu,Xu,zl,YA];lia,out,n,?_,ho⟩
   have:=jI (out.map (GS H));rw[<- e1]at this;exact this
  ·rw[Y7];refine hs.imp_of_mem λ{x y} hx hy hh=>?_;obtain⟨t,ht,rfl⟩:=X7.mp (hp.mem_iff.mp hx);obtain⟨t',TJ,rfl⟩:=X7.mp (hp.mem_iff.mp hy);exact hh
end
end L2
namespace ST
open PySem PyProof.Rows
section
variable {prog:Xz}{w:XT}{A:Yv}{E:Xv->Xw->Prop}{s:Xw}
variable {a b:Addr}{o:Obj}{ts:List (Addr×List Int)}{es:Array (Int×Xv)}{ep:Nat}{t:SetTable}{k:List Int}
theorem cQ.at (S:cQ prog w o ts es ep t){i:Nat}(hi:i<t.place.size):∃x,ts[i]?=some x/\es[i]?=some (ent prog w x):=by
 have hl:i<ts.length:=by rw[<- S.size.2];exact hi
 exact⟨ts[i],XH hl,by rw[<- X0,S.JX,XM,XH hl];rfl⟩
theorem Bt (S:cQ prog w o ts es ep t):t.gaveWay=false:=by
 obtain⟨j,hj,e⟩:=S.wf.Gm;unfold SetTable.gaveWay;rw[e];obtain⟨i,rfl⟩:∃i,j=i+1:=⟨j-1,by lia⟩
 have:0<2 ^ i:=Nat.pow_pos (by decide)
 rw[aaC];have:(2 ^ i*2-1) % 2=1:=by lia
 rw[this];rfl
theorem nC (ho:s.heap.get? a=some o)(S:cQ prog w o ts es ep t)(T:FZ prog w s.heap ts)(hk:(TK prog w).is s.heap k b)(hu:A.units<ZQ){kc:Bool}{N:Nat}{Q:SetFound->Xw->Prop}
  (hN:¬ qY t (cH t.mask (kH prog w k) N)) (hO:∀x,x<N->qY t (cH t.mask (kH prog w k) x)) (Xl:N<10*SetTable.turns t.mask)
  (Qf:(∀x∈ts,x.2≠k)->Q (.free (cH t.mask (kH prog w k) N) false) s) (Qt:∀i:Option Nat,(∃x∈ts,x.2=k)->(kc=false->i.isSome=true)->Q (.there i) s) :
  ∀(d n f:Nat) (Al:Option SetTable.Probe),Al.getD (Ph t.mask (kH prog w k))=fT t.mask (kH prog w k) n->n+d=N->d<f ->
   (∀m,m<n->∀i x,i<t.place.size->g t.place i=cH t.mask (kH prog w k) m->ts[i]?=some x->x.2≠k) ->
   X4 (model prog w) A (setSearchFrom a (.ref b) (kH prog w k) kc f Al) Q E s:=by
 intro d
 induction d using Nat.strongRecOn with
 |_ d ih =>
  intro n f Al Mw nO OG Nr;obtain⟨f,rfl⟩:∃f',f=f'+1:=⟨f-1,by lia⟩
  unfold setSearchFrom;refine Xs (Zk ho S.dat S.fits ?_);dsimp only;rw[Bt S,if_neg (by simp)]
  rw[HD,Mw];generalize TM:SetTable.probe t _ (kH prog w k) (fT t.mask (kH prog w k) n)=pr;have hash:∀i x,i<t.place.size->ts[i]?=some x->(es[i]?.map (·.1)).getD 0=kH prog w x.2:=λi x hi hx=>by
   obtain⟨y,h1,h2⟩:=S.at hi;rw[hx]at h1;obtain rfl:=Yg h1;rw[h2];rfl
  rcases rY S.wf (λi=>(es[i]?.map (·.1)).getD 0) (kH prog w k) hN hO d n (10*SetTable.turns t.mask) nO (by lia)with⟨q1,q2⟩|⟨m,i,q1,q2,q3,q4,q5,q6,q7⟩
  ·have e:pr=some (.empty (cH t.mask (kH prog w k) N) none):=TM.symm.trans q1;rw[e];dsimp only;refine XB (Qf λx hx Dl=>?_);obtain⟨i,hi⟩:=List.getElem?_of_mem hx;have Ff:i<t.place.size:=by
    rw[S.size.2];exact(XI.mp hi).1
   obtain⟨n',g1,g2⟩:=S.wf.S4 i (kH prog w x.2) (by rw[XM,hi];rfl)
   rw[Dl]at g1 g2;have Fe:n'<N:=by
    rcases YQ n' N with z|z
    ·exact z
    ·rcases YQ N n' with z2|z2
     ·exact absurd (g2 N z2) hN
     ·obtain rfl:N=n':=by lia
      exact absurd ⟨i,Ff,g1.symm⟩ hN
   rcases YQ n' n with z|z
   ·exact Nr n' z i x Ff g1.symm hi Dl
   ·exact q2 n' z Fe i Ff g1.symm (by rw[hash i x Ff hi,Dl])
  ·have e:pr=some (.candidate (cH t.mask (kH prog w k) m) i (fT t.mask (kH prog w k) (m+1))):=TM.symm.trans q6;rw[e];dsimp only;obtain⟨x,Gy,Mq⟩:=S.at q3;have Mp:x∈ts:=Yq Gy;have GB:t.slot (cH t.mask (kH prog w k) m)=.live i:=by rw[<- q4];exact oH S.wf.ym q3
   refine(λ(key:?G)=>?main) ?key
   case main =>
    cases hl:t.led with
    |true =>
     rw[if_neg (by simp)]
     exact key
    |false =>
     rw[if_pos (by simp)]
     have QC:(es.filter (·.1==kH prog w k)).toList.map (·.2)=(ts.filter λx=>kH prog w x.2==kH prog w k).map λx=>Value.ref x.1:=by
      rw[Array.toList_filter,S.JX,List.filter_map,YB];rfl
     rw[QC];refine Xs (DA hk _ (λy hy=>T y (X3.mp hy).1) ?_);rw[if_neg (by simp)]
     exact key
   case key =>
    rw[Mq];dsimp only;refine Xs (Y0 ((TK prog w).eqBool hu (T x Mp) hk ?_));refine Xs (Zk ho S.dat S.fits ?_);dsimp only;have Gz:t.sameMemory t.moves t.mask=some true:=by
     unfold SetTable.sameMemory;rw[if_pos (beq_self_eq_true _)]
    by_cases Dl:x.2=k
    ·rw[decide_eq_true Dl];cases kc with
     |true =>
      rw[if_pos (by rfl)]
      exact XB (Qt none ⟨x,Mp,Dl⟩ (λz=>by cases z))
     |false =>
      rw[if_neg (by simp),Gz]
      dsimp only;rw[if_pos rfl,GB];dsimp only;rw[Mq];dsimp only;refine Xs (wpAny_isSame_ref_self ?_);rw[if_pos rfl];refine Xs (XB ?_);exact XB (Qt (some i) ⟨x,Mp,Dl⟩ (λ_=>rfl))
    ·rw[decide_eq_false Dl,if_neg (by simp),Gz]
     dsimp only;rw[if_pos rfl,GB];dsimp only;rw[Mq];dsimp only;refine Xs (wpAny_isSame_ref_self ?_);rw[if_pos rfl];refine Xs (XB ?_);dsimp only;rw[if_neg (by simp)]
     refine ih (N-(m+1)) (by lia) (m+1) f _ rfl (by lia) (by lia) λm' Xf i' x' h1 h2 h3=>?_
     rcases YQ m' n with z|z
     ·exact Nr m' z i' x' h1 h2 h3
     ·by_cases e2:m'=m
      ·subst e2;obtain rfl:=S.wf.ym.inj h1 q3 (h2.trans q4.symm);rw[Gy]at h3;obtain rfl:=Yg h3;exact Dl
      ·intro z2;exact q7 m' z (by lia) i' h1 h2 (by rw[hash i' x' h1 h3,z2])
end
theorem ug (n:Nat):∀(f j:Nat),n<2 ^ (j+f)->∃j',j<=j'/\SetTable.sizeAbove.go n f (2 ^ j)=2 ^ j'/\n<2 ^ j'/\(j'=j\/2 ^ (j' - 1)<=n)
 |0,j,h=>⟨j,Xx _,rfl,h,.inl rfl⟩
 |f+1,j,h=>by
  unfold SetTable.sizeAbove.go
  by_cases hc:2 ^ j<=n
  ·rw[if_pos hc,<- aaC];obtain⟨j',h1,h2,h3,h4⟩:=ug n f (j+1) (by rw[show j+1+f=j+(f+1) by lia];exact h)
   refine⟨j',by lia,h2,h3,.inr ?_⟩
   rcases h4 with rfl|h4
   ·exact hc
   ·exact h4
  ·rw[if_neg hc];exact⟨j,Xx _,rfl,by lia,.inl rfl⟩
theorem C7 {n:Nat}(h:n<=4000):∃j,3<=j/\SetTable.sizeAbove n=2 ^ j/\n<2 ^ j/\2 ^ j<=8192:=by
 obtain⟨j,h1,h2,h3,h4⟩:=ug n 64 3 (Nat.lt_of_le_of_lt h (by decide))
 refine⟨j,h1,h2,h3,?_⟩;rcases h4 with rfl|h4
 ·decide
 ·have:j-1<12:=by
   rcases YQ (j-1) 12 with z|z
   ·exact z
   ·have:2 ^ 12<=2 ^ (j-1):=Zz (by decide) z
    lia
  have:2 ^ j<=2 ^ 12:=Zz (by decide) (by lia)
  lia
theorem Fj (d:Nat)(n:Int)(tk:Tok):hashByValue d (.int n tk)=pure true:=by
 cases d <;> rfl
section
variable {prog:Xz}{w:XT}{A:Yv}{E:Xv->Xw->Prop}{s:Xw}
variable {a b:Addr}{o:Obj}{ts:List (Addr×List Int)}{es:Array (Int×Xv)}{ep:Nat}{t:SetTable}{k:List Int}
theorem Hi {Q:Bool->Xw->Prop}(hk:(TK prog w).is s.heap k b)(q:Q true s):X4 (model prog w) A (hashByValue 8 (.ref b)) Q E s:=by
 obtain⟨o,items,n,ho,hc,hd,hi⟩:=hk;have hT:s.TypeIs (.ref b) "tuple" := ⟨o,ho,hc⟩;unfold hashByValue;refine Xs (wpAny_specialOf hT F.slot_tuple_hash.lookup ?_);dsimp only;refine Xs (Zj ho hd ?_);dsimp only[Option.getD_some];rw[<- Array.forIn_toList];refine Xs (aaT _ (λrest r s'=>r=(none,())/\s'=s/\∀v∈rest,∃n tk,v=Value.int n tk) _ ?_ ?_ _ _ ⟨rfl,rfl,?_⟩)
 ·rintro v rest r s' ⟨rfl,rfl,jZ⟩;obtain⟨n,tk,rfl⟩:=jZ v XN;rw[Fj];refine Xs (XB ?_);rw[if_neg (by simp)]
  exact XB ⟨rfl,rfl,λu hu=>jZ u (XR _ hu)⟩
 ·rintro r s' ⟨rfl,rfl,_⟩;exact XB q
 ·generalize items.toList=vs at hi
  induction hi with
  |nil=>intro v hv;cases hv
  | @cons k v ks vs h1 h2 ih =>
   intro u hu;rcases Xy.mp hu with rfl|hu
   ·obtain⟨t,rfl⟩:=Value.isInt_shape h1;exact⟨_,_,rfl⟩
   ·exact ih u hu
theorem xT (ho:s.heap.get? a=some o)(S:cQ prog w o ts es ep t)(T:FZ prog w s.heap ts)(hk:(TK prog w).is s.heap k b)(hu:A.units<ZQ){kc:Bool}{Q:SetFound->Xw->Prop}
  (Qf:∀N,(∀x∈ts,x.2≠k)->¬ qY t (cH t.mask (kH prog w k) N)->(∀x,x<N->qY t (cH t.mask (kH prog w k) x))->Q (.free (cH t.mask (kH prog w k) N) false) s)
  (Qt:∀i:Option Nat,(∃x∈ts,x.2=k)->(kc=false->i.isSome=true)->Q (.there i) s) :
  X4 (model prog w) A (setSearch a (.ref b) (kH prog w k) kc) Q E s:=by
 obtain⟨N,h1,h2,h3⟩:=S.wf.first (kH prog w k)
 have hm:=S.Gm;unfold setSearch;exact nC ho S T hk hu h2 h3 h1 (λq=>Qf N q h2 h3) Qt N 0 100000 none rfl (ZL N) (by unfold SetTable.turns at h1;lia) λm hm=>by lia
theorem xj {h:Heap}(ho:h.get? a=some o)(hd:o.data=.set es ep t)(eN:Array (Int×Xv))(t':SetTable):(h.update a (Obj.putSet eN t')).get? a=some {o with data:=.set eN (ep+1) t'}:=by
 have e:=Heap.get?_update_self (Obj.putSet eN t') ho (by rw[putSet_of eN t' hd];rfl)
 rw[e,putSet_of eN t' hd]
theorem Ba {α:Type}(l:List α)(p:Nat)(x:α):(l.take p++x::l.drop p).Perm (x::l):=by
 refine aaX.trans (List.Perm.cons x ?_);rw[Ze]
theorem zS (ho:s.heap.get? a=some o)(hx:o.ExactSet)(hd:o.data=.set es ep t)(he:es.toList=ts.map (ent prog w))(hw:WF t (ts.map λx=>kH prog w x.2))(Xd:0<ts.length)(hn:ts.length<=1000)
  (Rj:t.led=!w.params.followText "set-order") (hpl:t.plain=true) (nO:(ts.map (·.2)).Nodup) {Q:Unit->Xw->Prop}
  (q:∀(df:List (Addr×List Int)) (eN:Array (Int×Xv)) (t':SetTable),df.Perm ts->cQ prog w {o with data:=.set eN (ep+1) t'} df eN (ep+1) t'->Q () {s with heap:=s.heap.update a (Obj.putSet eN t')}) :
  X4 (model prog w) A (setRelay a (SetTable.grown ts.length)) Q E s:=by
 have hz:es.size=ts.length:=by rw[<- XF,he,Xu]
 have hp:t.place.size=ts.length:=by have:=hw.sz;rw[Xu]at this;exact this
 have hf:t.fits es.size=true:=by
  unfold SetTable.fits SetTable.fill;rw[hw.KA,hz,hp];have:=hw.room;simp;lia
 unfold setRelay;refine Xs (Zk ho hd hf ?_);dsimp only;have hg:SetTable.grown ts.length=ts.length*4:=by unfold SetTable.grown;rw[if_neg (by lia)]
 rw[hg];obtain⟨j,j3,ja,jb,jc⟩:=C7 (n:=ts.length*4) (by lia)
 rw[ja,if_neg (by rw[YA];lia)]
 have hs:(es.map (·.1)).size=ts.length:=by rw[Array.size_map,hz]
 obtain⟨t',order,e1,e2,e3,e4,e5,e6,e7,e8⟩:=E2 (hs:=es.map (·.1)) j3 (by lia) t.finger (t.movedTo (2 ^ j-1)) t.led t.plain
 rw[hs]at e6 e8;have er:t.relaid (es.map (·.1)) (ts.length*4)=some (t',order):=by
  unfold SetTable.relaid;rw[ja];exact e1
 rw[er];have gd:∀i,i<ts.length->es[i]?=some (ent prog w (ts.getD i (0,[]))):=λi hi=>by
  rw[<- X0,he,XM,XH hi,YZ,XH hi];rfl
 have mM:(order.filterMap (es[·]?)).toList=(order.toList.map λi=>ts.getD i (0,[])).map (ent prog w):=by
  rw[Array.toList_filterMap,YB];have:∀l:List Nat,(∀i∈l,i<ts.length)->l.filterMap (es[·]?)=l.map (ent prog w ∘ λi=>ts.getD i (0,[])):=λl=>by
   induction l with
   |nil=>intro _;rfl
   |cons i l ih =>
    intro h;rw[YG,gd i (h i XN),X5,ih λy hy=>h y (XR _ hy)];rfl
  exact this _ λi hi=>YV.mp (e6.mem_iff.mp hi)
 have B6:(order.toList.map λi=>ts.getD i (0,[])).Perm ts:=by
  refine(e6.map _).trans (aaw ?_);apply Zm;intro i;rw[XM]
  by_cases hi:i<ts.length
  ·rw[Zo hi,XH hi];show some (ts.getD i (0,[]))=_;rw[YZ,XH hi];rfl
  ·rw[Ys (by rw[Ye];lia),Ys (by lia)]
   rfl
 have hsz:(order.filterMap (es[·]?)).size=es.size:=by
  rw[<- XF,mM,Xu,B6.length_eq,hz]
 refine Xs ?_;show X4 _ _ (if (order.filterMap (es[·]?)).size != es.size then _ else _) _ _ _
 rw[hsz,if_neg (by simp)]
 refine XB ?_;dsimp only;refine wpAny_storeSet_of ho hd (q _ _ t' B6 ⟨hx,rfl,mM,?_,?_,by lia,e3.trans Rj,e4.trans hpl,?_⟩) (by rw[hsz,hz,YA];lia)
 ·rw[YB];have:(order.toList.map λi=>(es.map (·.1)).getD i 0)=order.toList.map ((λx=>kH prog w x.2) ∘ λi=>ts.getD i (0,[])):=by
   refine Yh λi hi=>?_;have hi:=YV.mp (e6.mem_iff.mp hi);rw[X1,Array.getElem?_map,gd i hi];rfl
  rw[<- this];exact e7
 ·rw[e8,e2];lia
 ·exact((B6.map (·.2)).nodup_iff).mpr nO
theorem zY (ho:s.heap.get? a=some o)(S:cQ prog w o ts es ep t)(T:FZ prog w s.heap ts)(hk:(TK prog w).is s.heap k b)(hu:A.units<ZQ)(hn:ts.length<1000)(f:Nat){Q:Bool->Xw->Prop}
  (q:∀(h':Heap) (o':Obj) (df:List (Addr×List Int)) (eN:Array (Int×Xv)) (qM:Nat) (t':SetTable) (added:Bool),Zh a s.heap h'->h'.get? a=some o'->cQ prog w o' df eN qM t' ->
   ((∃x∈ts,x.2=k)->df=ts)->((∀x∈ts,x.2≠k)->df.Perm ((b,k)::ts))->Q added {s with heap:=h'}) :
  X4 (model prog w) A (setAddHashedIn a (.ref b) (kH prog w k) (f+1)) Q E s:=by
 unfold setAddHashedIn;refine Xs (Zk ho S.dat S.fits ?_);dsimp only;rw[if_neg (by simp[byScan,Value.scannable])]
 refine Xs (xT ho S T hk hu (λN g1 g2 g3=>?_) λi g1 g2=>?_)
 ·dsimp only;refine Xs (Zk ho S.dat S.fits ?_);dsimp only;have hr:t.place.size+1<=t.mask:=by
   have:=S.Pt;obtain⟨j,hj,e⟩:=S.wf.Gm;have:2 ^ 3<=2 ^ j:=Zz (by decide) hj
   lia
  obtain⟨W,hp⟩:=S.wf.put (k8 _ _ _) g2 g3 hr;have pe:(t.put (cH t.mask (kH prog w k) N)).1.plain=t.plain/\(t.put (cH t.mask (kH prog w k) N)).1.led=t.led/\(t.put (cH t.mask (kH prog w k) N)).1.mask=t.mask:=⟨rfl,rfl,rfl⟩;have pf:(t.put (cH t.mask (kH prog w k) N)).1.dummies=#[]:=W.KA;generalize (t.put (cH t.mask (kH prog w k) N)).1=t1 at *
  generalize (t.put (cH t.mask (kH prog w k) N)).2=p at *
  obtain⟨P4,Ta,Vc⟩:=pe;rw[P4,S.Kq,if_pos rfl];refine Xs (Hi hk ?_);rw[if_pos rfl];have hz:=S.size;have JW:(SetTable.insertAt es p (kH prog w k,Value.ref b)).toList=(ts.take p++(b,k)::ts.drop p).map (ent prog w):=by
   rw[mK,S.JX,XX,X5,List.map_take,List.map_drop]
  have W1:WF t1 ((ts.take p++(b,k)::ts.drop p).map λx=>kH prog w x.2):=by
   rw[XX,X5,List.map_take,List.map_drop];exact W
  have pm:(ts.take p++(b,k)::ts.drop p).Perm ((b,k)::ts):=Ba ts p (b,k);have ir:(ts.take p++(b,k)::ts.drop p).length=ts.length+1:=pm.length_eq;have ET:((ts.take p++(b,k)::ts.drop p).map (·.2)).Nodup:=by
   refine((pm.map (·.2)).nodup_iff).mpr ?_;rw[X5,X9];exact⟨λhm=>by
    obtain⟨x,hx,e⟩:=X7.mp hm;exact g1 x hx e,S.P_⟩
  have Ai:(SetTable.insertAt es p (kH prog w k,Value.ref b)).size=ts.length+1:=by rw[<- XF,JW,Xu,ir]
  have W7:t1.place.size=ts.length+1:=by have:=W1.sz;rw[Xu,ir]at this;exact this
  refine Xs (wpAny_storeSet_of ho S.dat ?_ (by rw[Ai,YA];lia))
  have Nc:=xj ho S.dat (SetTable.insertAt es p (kH prog w k,Value.ref b)) t1;have Lg:Zh a s.heap (s.heap.update a (Obj.putSet (SetTable.insertAt es p (kH prog w k,Value.ref b)) t1)):=Z_ _ _ _;have fin:∀(h':Heap) (o':Obj) (df:List (Addr×List Int)) (eN:Array (Int×Xv)) (qM:Nat) (t':SetTable),Zh a s.heap h'->h'.get? a=some o'->cQ prog w o' df eN qM t'->df.Perm (ts.take p++(b,k)::ts.drop p)->Q true {s with heap:=h'} :=
   λh' o' df eN qM t' q1 q2 q3 q4=>q h' o' df eN qM t' true q1 q2 q3 (λyR=>by obtain⟨x,hx,e⟩:=yR;exact absurd e (g1 x hx)) λ_=>q4.trans pm
  by_cases td:t1.tooFull=true
  ·rw[td,if_pos (by rfl)]
   have VY:SetTable.grown (es.size+1)=SetTable.grown (ts.take p++(b,k)::ts.drop p).length:=by rw[ir,hz.1]
   rw[VY];refine Xs (zS (s:={s with heap:=s.heap.update a (Obj.putSet (SetTable.insertAt es p (kH prog w k,Value.ref b)) t1)}) Nc S.ex rfl JW W1 (by lia) (by lia) (Ta.trans S.led) (P4.trans S.Kq) ET λdf eN t' r1 r2=>XB ?_)
   have GC:=xj Nc rfl eN t';exact fin _ _ df eN _ t' (Lg.trans (Z_ _ _ _)) GC r2 r1
  ·rw[if_neg (by simpa using td)]
   refine XB (fin _ _ _ _ _ _ Lg Nc ⟨S.ex,rfl,JW,W1,?_,by rw[Vc];exact S.Gm,Ta.trans S.led,P4.trans S.Kq,ET⟩ (.refl _))
   unfold SetTable.tooFull SetTable.fill at td;rw[pf]at td;simp at td;lia
 ·dsimp only;exact XB (q s.heap o ts es ep t false (Heap.SameBut.refl _ _) ho S (λ_=>rfl) λg=>absurd g1 λBX=>by obtain⟨x,hx,e⟩:=BX;exact g x hx e)
theorem Hk (ho:s.heap.get? a=some o)(S:cQ prog w o ts es ep t)(T:FZ prog w s.heap ts)(hk:(TK prog w).is s.heap k b)(hu:A.units<ZQ)(hn:ts.length<1000){Q:Bool->Xw->Prop}
  (q:∀(h':Heap) (o':Obj) (df:List (Addr×List Int)) (eN:Array (Int×Xv)) (qM:Nat) (t':SetTable) (added:Bool) (tk:Nat),s.toks<=tk->Zh a s.heap h'->h'.get? a=some o'->cQ prog w o' df eN qM t' ->
   ((∃x∈ts,x.2=k)->df=ts)->((∀x∈ts,x.2≠k)->df.Perm ((b,k)::ts))->Q added {s with heap:=h',toks:=tk}) :
  X4 (model prog w) A (setAdd a (.ref b)) Q E s:=by
 unfold setAdd;refine Y0 ?_;refine Xs ((TK prog w).pyHash hu hk ?_);unfold setAddHashed;refine Y0 ?_;exact zY (s:={s with toks:=s.toks+(TK prog w).draws k}) ho S T hk hu hn 99999 λh' o' df eN qM t' added r1 r2 r3 r4 r5=>q h' o' df eN qM t' added _ (aaW _ _) r1 r2 r3 r4 r5
end
theorem nc {α:Type}:∀{l:List α} {i:Nat} (h:i<l.length),(l[i]::l.eraseIdx i).Perm l
 |[],_,h=>absurd h (Nat.not_lt_zero _)
 |x::l,0,_=>.refl _
 |x::l,i+1,h=>by
  have h':i<l.length:=by rw[XJ]at h;lia
  show (l[i]::x::l.eraseIdx i).Perm (x::l);exact(List.Perm.swap _ _ _).trans ((nc h').cons x)
theorem wL {α:Type}(next:Nat->Nat):∀(f k:Nat) (left:List α) (out:Array α),f=left.length->(pickOrder.go next f k left out).toList.Perm (out.toList++left)
 |0,k,left,out,e=>by
  obtain rfl:left=[]:=List.length_eq_zero_iff.mp e.symm;unfold pickOrder.go;rw[YX]
 |f+1,k,left,out,e=>by
  unfold pickOrder.go;have hi:next k % left.length<left.length:=aaF _ (by lia)
  rw[XH hi];dsimp only;refine(wL next f (k+1) _ _ (by rw[List.length_eraseIdx_of_lt hi];lia)).trans ?_
  rw[Zn,YN];exact List.Perm.append_left _ (nc hi)
theorem yt {α:Type}(next:Nat->Nat)(xs:Array α):(pickOrder next xs).toList.Perm xs.toList:=by
 have:=wL next xs.size 0 xs.toList #[] (by rw[XF])
 exact this
theorem bM:Slot "set_iterator" "__next__" "set_iterator.__next__" :=
 .of (owner:="set_iterator") (n:="__next__") (by rw[typeLookup_type,builtinLookup_eq_fast];kernel_rfl) (by decide +kernel) (by decide +kernel) (by decide +kernel)
  (by first|exact .inl (by decide +kernel)|exact .inr (by decide +kernel)) (by rw[isSubtype_type];kernel_rfl)
theorem gT:Slot "set_iterator" "__iter__" "set_iterator.__iter__" :=
 .of (owner:="set_iterator") (n:="__iter__") (by rw[typeLookup_type,builtinLookup_eq_fast];kernel_rfl) (by decide +kernel) (by decide +kernel) (by decide +kernel)
  (by first|exact .inl (by decide +kernel)|exact .inr (by decide +kernel)) (by rw[isSubtype_type];kernel_rfl)
theorem gk:entryFor table "set_iterator.__next__" = some ZO.«set_iterator.__next__»:=entryFor_of_tree (by kernel_rfl)
theorem mZ:entryFor table "set_iterator.__iter__" = some ZO.«dict_keyiterator.__iter__» :=
 entryFor_alias (id':="dict_keyiterator.__iter__") (by kernel_rfl) rfl (by decide +kernel) (by kernel_rfl)
theorem m6:entryFor table "set.__iter__" = some ZO.«frozenset.__iter__» :=
 entryFor_alias (id':="frozenset.__iter__") (by kernel_rfl) rfl (by decide +kernel) (by kernel_rfl)
theorem h8 (a:Xv):argsOk "set_iterator.__next__" ⟨[a],[]⟩:=by unfold argsOk;kernel_rfl
theorem oh (a:Xv):argsOk "set_iterator.__iter__" ⟨[a],[]⟩:=by unfold argsOk;kernel_rfl
section
variable {prog:Xz}{w:XT}{A:Yv}{E:Xv->Xw->Prop}{s:Xw}
variable {a:Addr}{o:Obj}{ts:List (Addr×List Int)}{es:Array (Int×Xv)}{ep:Nat}{t:SetTable}
abbrev CV (w:XT):Bool:=w.params.followText "set-order"
theorem jC {Q:Bool->Xw->Prop}(q:Q (CV w) s):X4 (model prog w) A setsByText Q E s:=by
 unfold setsByText;exact Xs (aaU (XB q))
def bN (w:XT)(a:Addr)(ep:Nat)(es:Array (Int×Xv)):Array (Int×Xv):=if CV w=true then pickOrder (w.params.setOrder a ep) es else es
theorem gx (w:XT)(a:Addr)(ep:Nat)(es:Array (Int×Xv)):(bN w a ep es).toList.Perm es.toList:=by
 unfold bN
 split
 ·exact yt _ _
 ·exact .refl _
theorem yA (S:cQ prog w o ts es ep t){Q:Bool->Xw->Prop}(ho:s.heap.get? a=some o)(q:Q false s):X4 (model prog w) A (setDrawn a) Q E s:=by
 unfold setDrawn;refine Xs (Zk ho S.dat S.fits ?_);dsimp only;refine Xs (jC (XB ?_));have:(!CV w&&(!t.plain&&decide (es.size>1)))=false:=by rw[S.Kq];simp
 show Q (!CV w&&(!t.plain&&decide (es.size>1))) s;rw[this];exact q
theorem lG (ho:s.heap.get? a=some o)(S:cQ prog w o ts es ep t){sl i:Nat}{Q:Option (Xv×Nat)->Xw->Prop}(Ks:CV w=false->SetTable.below t.place sl=i)
  (q1:∀e,(bN w a ep es)[i]?=some e->∀HJ:Nat,(CV w=false->SetTable.below t.place HJ=i+1)->Q (some (e.2,HJ)) s) (q2:(bN w a ep es)[i]?=none->Q none s) :
  X4 (model prog w) A (setNext a sl i ep) Q E s:=by
 unfold setNext;refine Xs (Zk ho S.dat S.fits ?_);dsimp only;refine Xs (jC ?_);cases hb:CV w with
 |true =>
  rw[if_pos rfl,if_neg (by simp)]
  unfold setWalk;refine Xs (Xs (Zk ho S.dat S.fits ?_));dsimp only;refine Xs (jC ?_);rw[hb,if_pos rfl];refine Xs (aaU (XB (XB ?_)));have e:bN w a ep es=pickOrder (w.params.setOrder a ep) es:=by unfold bN;rw[hb,if_pos rfl]
  rw[e]at q1 q2;show Q (((pickOrder (w.params.setOrder a ep) es)[i]?).map λe=>(e.2,sl)) s;cases hx:(pickOrder (w.params.setOrder a ep) es)[i]? with
  |none=>exact q2 hx
  |some x=>exact q1 x hx sl (λz=>by rw[hb]at z;cases z)
 |false =>
  rw[if_neg (by simp)]
  have e:bN w a ep es=es:=by unfold bN;rw[hb,if_neg (by simp)]
  rw[e]at q1 q2;have hd:(!t.plain&&decide (es.size>1))=false:=by rw[S.Kq];rfl
  show X4 _ _ (if (!t.plain&&decide (es.size>1))=true then _ else _) _ _ _
  rw[hd,if_neg (by simp)]
  have hl:t.led=true:=by
   rw[S.led];show (!CV w)=true;rw[hb];rfl
  refine Xs ?_;show X4 _ _ (if (!t.led&&!es.isEmpty)=true then _ else _) _ _ _
  rw[hl,if_neg (by simp)]
  refine XB (XB ?_);rw[Ks hb];have hz:=S.size
  by_cases hi:i<t.place.size
  ·have h1:es[i]?=some es[i]:=getElem?_pos es i (by omega)
   rw[h1,vG hi];refine q1 _ h1 _ λ_=>?_;obtain⟨b1,b2,b3⟩:=fE S.wf.ym (g t.place i+1);rcases Nat.lt_trichotomy (SetTable.below t.place (g t.place i+1)) (i+1)with z|z|z
   ·have:=b3 i (by omega) hi
    omega
   ·exact z
   ·have:=b2 (i+1) z;have:=S.wf.ym i (i+1) (by omega) (by omega)
    omega
  ·have h1:es[i]?=none:=Zt (by omega)
   rw[h1];exact q2 h1
end
section
variable {prog:Xz}{w:XT}{A:Yv}{E:Xv->Xw->Prop}{s:Xw}
variable {a b it:Addr}{o:Obj}{ts:List (Addr×List Int)}{es:Array (Int×Xv)}{ep:Nat}{t:SetTable}
def qi (sl i:Nat)(a:Addr)(n ep:Nat):Obj:={cls:=.type "set_iterator",dict:=none,data:=.fields #[.int sl 0,.int i 0,.ref a,.int n 0,.int ep 0],slots:=#[]}
theorem lR {sl i n:Nat} (h:s.heap.get? it=some (qi sl i a n ep)):s.TypeIs (.ref it) "set_iterator" := ⟨_,h,rfl⟩
def KL (prog:Xz)(w:XT)(it a:Addr)(ts:List (Addr×List Int))(es:Array (Int×Xv))(ep:Nat)(i:Nat)(h:Heap):Prop :=
 ∃sl o t,h.get? it=some (qi sl i a es.size ep)/\h.get? a=some o/\cQ prog w o ts es ep t/\(CV w=false->SetTable.below t.place sl=i)
theorem Az (B9:a≠it){i:Nat}{e:Int×Xv}{Q:Option Xv->Xw->Prop}(st:KL prog w it a ts es ep i s.heap)(he:(bN w a ep es)[i]?=some e)
  (q:∀h',KL prog w it a ts es ep (i+1) h'->Zh it s.heap h'->Q (some e.2) {s with heap:=h'}):X4 (model prog w) A (aaE (.ref it)) Q E s:=by
 obtain⟨sl,o,t,hi,ho,S,hb⟩:=st;have hT:=lR hi;unfold aaE;refine Xs (aap (Zl (name:=aaA "__next__") hT bM (Y1 bM hT gk ?_ (h8 _))));unfold ZO.«set_iterator.__next__»
 refine Xs (XB ?_);refine Xs (wpAny_fieldsOf hi rfl ?_);dsimp only;refine Xs (wpAny_setEntries_of ho S.dat S.fits ?_);rw[if_neg (by simp)]
 refine Xs (lG (i:=i) ho S (λz=>by simpa using hb z) (λe' Np HJ My=>?_) λhn=>?_)
 ·rw[he]at Np;obtain rfl:=Yg Np;dsimp only;refine Xs (Zf hi (by simp) λh1 g1 Lg=>?_)
  refine Xs (Zf (s:={s with heap:=h1}) g1 (by simp) λh2 g2 S3=>?_)
  refine XB ⟨_,rfl,XB (q h2 ⟨HJ,o,t,?_,?_,S,My⟩ (Lg.trans S3))⟩
  ·rw[g2];rfl
  ·rw[(Lg.trans S3).2 a B9];exact ho
 ·rw[he]at hn;cases hn
theorem DS (hh:A.handled=none)(B9:a≠it){i:Nat}{Q:Option Xv->Xw->Prop}(st:KL prog w it a ts es ep i s.heap)(he:(bN w a ep es)[i]?=none)
  (q:∀h',Heap.ExtBut it s.heap h'->Q none {s with heap:=h'}):X4 (model prog w) A (aaE (.ref it)) Q E s:=by
 obtain⟨sl,o,t,hi,ho,S,hb⟩:=st;have hT:=lR hi;unfold aaE;refine Xs (aap (Zl (name:=aaA "__next__") hT bM (Y1 bM hT gk ?_ (h8 _))));unfold ZO.«set_iterator.__next__»
 refine Xs (XB ?_);refine Xs (wpAny_fieldsOf hi rfl ?_);dsimp only;refine Xs (wpAny_setEntries_of ho S.dat S.fits ?_);rw[if_neg (by simp)]
 refine Xs (lG (i:=i) ho S (λz=>by simpa using hb z) (λe' Np HJ My=>?_) λhn=>?_)
 ·rw[he]at Np;cases Np
 ·dsimp only;refine Xs (wpAny_setField hi rfl (by simp) ?_)
  refine Xs ?_;simp only[newExc,newTuple];refine Xs (Zx ?_ (by size_fits))
  refine Xs (m:=firstArgMember _ _) (wpAny_of_eq (a:=Value.none) (by first|rfl|(simp only[firstArgMember];rfl)) ?_)
  refine Zx ?_ (by size_fits)
  simp only[raiseNew];refine Xs (wpAny_handled ?_);rw[show A.in1.handled=none from hh]
  refine Xs (XB (wpAny_throw ?_));refine Xs (wpAny_isInstance (T:="StopIteration") (b:=true) ⟨_,X6 _ rfl,rfl⟩ isSubtype_stop ?_);exact XB (q _ (((Z_ ..).extBut.push _).push _))
theorem Ay {i:Nat}{Q:Xv->Xw->Prop}(st:KL prog w it a ts es ep i s.heap)(q:Q (.ref it) s):X4 (model prog w) A (pyIter (.ref it)) Q E s:=by
 obtain⟨sl,o,t,hi,ho,S,hb⟩:=st;have hT:=lR hi;refine wpAny_pyIter_slot hT gT (Y1 gT hT mZ ?_ (oh _));show X4 _ _ (ret (.ref it)) _ _ s;exact XB ⟨_,rfl,"set_iterator",_,hT,bM.lookup,q⟩
theorem yd (hh:A.handled=none)(B9:a≠it):Walks prog w A it [it,a] [it] es.size (λi v=>∃e,(bN w a ep es)[i]?=some e/\v=e.2) (KL prog w it a ts es ep) where
 sub:=λb hb=>by rw[XQ.mp hb];exact XN
 frame:=λi h h' ⟨sl,o,t,h1,h2,h3⟩ hk=>⟨sl,o,t,hk it XN _ h1,hk a (XR _ XN) _ h2,h3⟩
 item:=λi s Q E hi st hQ=>by
  have hz:(bN w a ep es).size=es.size:=by
   have:=(gx w a ep es).length_eq;rw[XF,XF]at this;exact this
  have he:(bN w a ep es)[i]?=some (bN w a ep es)[i]:=getElem?_pos _ i (by lia)
  exact Az B9 st he λh' aB sb=>hQ _ h' s.toks ⟨_,he,rfl⟩ aB λb o hb e=>sb.extBut b o (λz=>hb (by rw[z];exact XQ.mpr rfl)) e
 done:=λs Q E st hQ=>by
  have hz:(bN w a ep es).size=es.size:=by
   have:=(gx w a ep es).length_eq;rw[XF,XF]at this;exact this
  exact DS hh B9 st (Zt (by lia)) λh' eb=>hQ h' s.toks λb o hb e=>eb b o (λz=>hb (by rw[z];exact XQ.mpr rfl)) e
 self:=λi s Q E st hQ=>Ay st hQ
theorem lS (ho:s.heap.get? a=some o) (S:cQ prog w o ts es ep t):s.TypeIs (.ref a) "set" := ⟨o,ho,S.ex.1⟩
theorem DB (ho:s.heap.get? a=some o)(S:cQ prog w o ts es ep t){Q:Xv->Xw->Prop}(q:Q (.ref s.heap.objs.size) {s with heap:=s.heap.push (qi 0 0 a es.size ep)}):
  X4 (model prog w) A (pyIter (.ref a)) Q E s:=by
 have hT:=lS ho S;refine wpAny_pyIter_slot hT F.slot_set_iter (Y1 F.slot_set_iter hT m6 ?_ (F.args_set_iter_1 _));unfold ZO.«frozenset.__iter__» Builtin.Frozenset.slot0 Builtin.Frozenset.sizeOf;refine Xs (Xs (XB (XB ?_)));refine Xs (Xs (wpAny_setEntries_of ho S.dat S.fits (XB ?_)));refine Xs (yA S ho ?_);rw[if_neg (by simp)]
 refine Xs (XB ?_);refine Xs (wpAny_setEpoch_of ho S.dat S.fits ?_);unfold newFields;refine Xs (Zx (XB ⟨_,rfl,"set_iterator",_,⟨_,X6 _ rfl,rfl⟩,bM.lookup,?_⟩) (by size_fits))
 exact q
theorem DC (ho:s.heap.get? a=some o)(S:cQ prog w o ts es ep t){Q:Bool->Xw->Prop}(q:Q false s):X4 (model prog w) A (Builtin.List.listLengthHint (.ref a)) Q E s:=by
 have hT:=lS ho S;unfold Builtin.List.listLengthHint;refine Xs (wpAny_specialOf hT PySem.F.slot_set_len.lookup ?_);generalize T4:("set.__len__" : String)=VB
 wp_delta
 rw[show splitId VB=some ("set","__len__") from by subst T4;decide +kernel]
 subst T4;refine Xs (wpAny_isInstance (T:="set") (b:=true) hT (by rw[isSubtype_type];kernel_rfl) ?_)
 refine wpAny_ite_split (λNv=>absurd Nv (by decide)) (λ_=>?_)
 refine wpAny_ite_split (λ_=>?_) (λNv=>absurd (by decide +kernel) Nv)
 refine Xs (wpAny_typeOf hT ?_);exact XB q
theorem DU (prog:Xz)(w:XT)(a:Addr)(o:Obj)(ts:List (Addr×List Int))(es:Array (Int×Xv))(ep:Nat)(t:SetTable)(S:cQ prog w o ts es ep t):
  PySem.W.KdlSrc prog w "set" a a es.size (λi v=>∃e,(bN w a ep es)[i]?=some e/\v=e.2) (λh=>h.get? a=some o) where
 type:=λs ho=>lS ho S
 there:=λh ho=>⟨XU ho,XU ho⟩
 keep:=λh h' ho hk=>hk a (.inl rfl) _ ho
 notList:=by decide
 notTuple:=by decide
 hint:=λA E s Q ho q=>DC ho S q
 iter:=λA s hh ho=>⟨qi 0 0 a es.size ep,KL prog w s.heap.objs.size a ts es ep,λE Q q=>DB ho S q,yd hh (Yc (XU ho)),
  0,o,t,X6 _ rfl,XA _ ho,S,λ_=>by
   obtain⟨b1,b2,b3⟩:=fE S.wf.ym 0;rcases Nat.eq_zero_or_pos (SetTable.below t.place 0)with z|z
   ·exact z
   ·have:=b2 0 z;lia⟩
theorem r_ {α β:Type}{f:α->β}:∀{ts:List α} {l:List β},l.Perm (ts.map f)->∃us:List α,us.Perm ts/\l=us.map f
 |[],l,h=>⟨[],.refl _,List.perm_nil.mp h⟩
 |x::ts,l,h=>by
  obtain⟨l1,l2,rfl⟩:=List.append_of_mem (h.mem_iff.mpr (show f x∈(x::ts).map f from XN))
  have h':(l1++l2).Perm (ts.map f):=(aaX.symm.trans h).cons_inv;obtain⟨us,h1,h2⟩:=r_ h';obtain⟨u1,u2,rfl,e1,e2⟩:=List.map_eq_append_iff.mp h2.symm;refine⟨u1++x::u2,aaX.trans (h1.cons x),?_⟩;rw[XX,X5,e1,e2]
end
section
variable {prog:Xz}{w:XT}{A:Yv}{E:Xv->Xw->Prop}{s:Xw}
variable {o:Obj}{ts:List (Addr×List Int)}{es:Array (Int×Xv)}{ep:Nat}{t:SetTable}
def mf (w:XT):Obj:={cls:=.type "set",dict:=none,data:=.set #[] 0 (.fresh 0 0 (!CV w))}
theorem EO (prog:Xz)(w:XT):cQ prog w (mf w) [] #[] 0 (.fresh 0 0 (!CV w)) where
 ex:=⟨rfl,rfl,rfl⟩
 dat:=rfl
 JX:=rfl
 wf:=⟨rfl,rfl,λi j _ hj=>absurd hj (Nat.not_lt_zero _),λi hi=>absurd hi (Nat.not_lt_zero _),⟨3,Xx _,rfl⟩,XG _,λi h hi=>by simp at hi⟩
 Pt:=by show 0*5<7*3;decide
 Gm:=by show 7<=8191;decide
 led:=rfl
 Kq:=rfl
 P_:=YF
theorem BA {xs:List Xv} {R:Xv->Xw->Prop} (hc:checkBuiltinCall "set.__new__" ⟨.type "set" :: xs,[]⟩=pure ()) (hx:xs=[]\/∃v,xs=[v]) (q:R (.ref s.heap.objs.size) {s with heap:=s.heap.push (mf w)}) :
  aaM (model prog w) A (.call (.builtin "set.__new__") ⟨.type "set" :: xs,[]⟩) (wants R E) s:=by
 refine codeAny_of_tree ?_;show X4 _ A.in1 (checkBuiltinCall "set.__new__" ⟨.type "set" :: xs,[]⟩ >>= λ_=>again (.builtin "set.__new__" ⟨.type "set" :: xs,[]⟩)) _ _ s;refine Xs (wpAny_of_eq hc (XB ⟨plainId_quiet F.plain_set_new _,aaf F.entry_set_new ?_⟩));rw[Z4 F.plain_set_new _];unfold ZO.«set.__new__» Builtin.Frozenset.newClass;have UR:=sub_set_self;obtain⟨hp,gs,dr,tk,os⟩:=s;rcases hx with rfl|⟨v,rfl⟩
 all_goals
  dsimp only
  wp_walk
  refine aaU (XB ?_);dsimp only;simp only[newObj];exact Xs (wpAny_alloc (XB (XB q)))
theorem yG {I:Addr}{fp wr:List Addr}{G:Array GenState->Array GenState->Prop}{vs:List (Addr×List Int)}{St:Nat->Xw->Prop}{R:Result->Xw->Prop}(hu:A.in1.units<ZQ)
  {n:Nat} {P:Nat->Xv->Prop} (W:WalksS prog w A.in1 I fp wr G n P St) (Q9:n=vs.length) (Wc:∀(i:Nat) (v:Xv),P i v->∃x,vs[i]?=some x/\v=.ref x.1) (sa:Addr) (TL:sa∉fp) (hn:vs.length<1000) (hv:∀x∈vs,x.1∉wr/\x.1≠sa) :
  ∀(d i:Nat) (s:Xw) (o:Obj) (ts:List (Addr×List Int)) (es:Array (Int×Xv)) (ep:Nat) (t:SetTable),vs.length-i=d->i<=vs.length->St i s->FZ prog w s.heap vs->s.heap.get? sa=some o->cQ prog w o ts es ep t ->
   (∀x∈ts,x∈vs.take i)->(∀x∈vs.take i,∃y∈ts,y.2=x.2)->ts.length<=i ->
   (∀s' o' df eN qM t',Moved (sa::wr) G s s'->s'.heap.get? sa=some o'->cQ prog w o' df eN qM t'->(∀x∈df,x∈vs)->(∀x∈vs,∃y∈df,y.2=x.2)->R (.ok (.ret .none)) s') ->
   aaM (model prog w) A (.builtin "set.update.loop" ⟨[.ref sa,.ref I],[]⟩) R s:=by
 subst Q9;have xh:sa∉wr:=λz=>TL (W.sub _ z);have up:∀x∈wr,x∈sa::wr:=λx hx=>XR _ hx;intro d
 induction d with
 |zero =>
  intro i s o ts es ep t hd hi st T ho S k1 k2 k3 hR;obtain rfl:i=vs.length:=by lia
  refine aaf F.entry_set_update_loop ?_;rw[Z4 F.plain_set_update_loop _];show X4 _ A.in1 (aaE (.ref I) >>= _) _ _ s;refine Xs (W.done s _ _ st λs' mv=>?_);rw[Y_]at k1 k2;exact XB (hR s' o ts es ep t (mv.mono up) (mv.heap sa _ xh ho) S k1 k2)
 |succ d ih =>
  intro i s o ts es ep t hd hi st T ho S k1 k2 k3 hR;have lt:i<vs.length:=by lia
  refine aaf F.entry_set_update_loop ?_;rw[Z4 F.plain_set_update_loop _];show X4 _ A.in1 (aaE (.ref I) >>= _) _ _ s;refine Xs (W.item i s _ _ lt st λv s1 hP Lc mv=>?_);obtain⟨x,hx,rfl⟩:=Wc i v hP;have Mp:x∈vs:=Yq hx;have T1:FZ prog w s1.heap vs:=λy hy=>by
   obtain⟨oy,its,n,g1,g2⟩:=T y hy;exact⟨oy,its,n,mv.heap _ _ (hv y hy).1 g1,g2⟩
  have Nc:=mv.heap sa _ xh ho;refine Xs (Y0 (Hk Nc S (λy hy=>T1 y (List.mem_of_mem_take (k1 y hy))) (T1 x Mp) hu (by lia) λh' o' df eN qM t' added tk r0 r1 r2 r3 r4 r5=>?_))
  have UH:vs.take (i+1)=vs.take i++[x]:=by rw[List.take_succ,hx];rfl
  have keep:∀c oc,c≠sa->s1.heap.get? c=some oc->h'.get? c=some oc:=λc oc hc e=>by rw[r1.2 c hc];exact e
  have step:(∀y∈df,y∈vs.take (i+1))/\(∀y∈vs.take (i+1),∃z∈df,z.2=y.2)/\df.length<=i+1:=by
   rw[UH]
   by_cases yS:∃y∈ts,y.2=x.2
   ·rw[r4 yS];refine⟨λy hy=>YU _ (k1 y hy),λy hy=>?_,by lia⟩
    rcases XW.mp hy with z|z
    ·exact k2 y z
    ·rw[XQ.mp z];exact yS
   ·have pm:=r5 λy hy e=>yS ⟨y,hy,e⟩;refine⟨λy hy=>?_,λy hy=>?_,by rw[pm.length_eq,XJ];lia⟩
    ·rcases Xy.mp (pm.mem_iff.mp hy)with rfl|z
     ·exact Yk _ (XQ.mpr rfl)
     ·exact YU _ (k1 y z)
    ·rcases XW.mp hy with z|z
     ·obtain⟨u,hu,e⟩:=k2 y z;exact⟨u,pm.mem_iff.mpr (XR _ hu),e⟩
     ·rw[XQ.mp z];exact⟨x,pm.mem_iff.mpr XN,rfl⟩
  have Vp:Moved (sa::wr) G s {s1 with heap:=h',toks:=tk} :=
   (mv.mono up).then_heap r0 λc oc hc e=>keep c oc (λz=>hc (by rw[z];exact XN)) e
  refine XB ⟨plainId_quiet F.plain_set_update_loop _,ih (i+1) _ o' df eN qM t' (by lia) lt (W.frame _ s1 _ _ Lc r0 λc hc oc e=>keep c oc (λz=>TL (by rw[<- z];exact hc)) e) (λy hy=>?_) r2 r3 step.1 step.2.1 step.2.2 λs' o2 UE Wm Wo t2 m1 m2 m3 m4 m5=>hR s' o2 UE Wm Wo t2 (Moved.trans W.gtrans Vp m1) m2 m3 m4 m5⟩
  obtain⟨oy,its,n,g1,g2⟩:=T1 y hy;exact⟨oy,its,n,keep _ _ (hv y hy).2 g1,g2⟩
end
section
variable {prog:Xz}{w:XT}{A:Yv}{E:Xv->Xw->Prop}{s:Xw}
theorem zg {l:Addr}{vs:List (Addr×List Int)}{Q:Xv->Xw->Prop}(hh:A.handled=none)(hu:A.units+16<ZQ)(hl:s.heap.IsList l (vs.map λx=>Value.ref x.1).toArray)(hn:vs.length<1000)(T:FZ prog w s.heap vs)
  (q:∀(h':Heap) (tk:Nat) (o':Obj) (ts:List (Addr×List Int)) (es:Array (Int×Xv)) (ep:Nat) (t:SetTable),(∀c oc,s.heap.get? c=some oc->h'.get? c=some oc)->h'.get? s.heap.objs.size=some o'->cQ prog w o' ts es ep t ->
   (∀x∈ts,x∈vs)->(∀x∈vs,∃y∈ts,y.2=x.2)->Q (.ref s.heap.objs.size) {s with heap:=h',toks:=tk}) :
  X4 (model prog w) A (call (.type "set") [.ref l]) Q E s:=by
 obtain⟨cx,W3,Vq⟩:=F.called_set.mro;have Tr:=F.called_set.made;have UQ:=F.called_set.sub;refine wpAny_call (codeAny_of_tree ?_);show X4 _ _ (callAny (.type "set") _) _ _ _;refine XB ⟨Code.quiet_builtin _ (by decide +kernel),aaf F.entry_type_call ?_⟩
 rw[Around.under_plain (weight_type_call_type "set" [.ref l] []) rfl];have t1:=F.called_set.notType;have t2:=F.called_set.canCreate;have t3:=F.typeCall_set_1 (.ref l)
 repeat (any_goals (first|assumption|wp_step))
 have ls:l<s.heap.objs.size:=by obtain⟨ol,Q3,_⟩:=hl;exact XU Q3
 refine aal (BA (w:=w) (E:=E) (xs:=[.ref l]) (R:=λob sx=>ob=.ref s.heap.objs.size/\sx={s with heap:=s.heap.push (mf w)}) (F.newCall_set_1 _) (.inr ⟨_,rfl⟩) ⟨rfl,rfl⟩) λr sx hr=>?_
 cases r with
 |error e=>exact hr
 |ok fl =>
  cases fl with
  |ret ob =>
   obtain⟨rfl,rfl⟩:=hr;have hS:(s.heap.push (mf w)).get? s.heap.objs.size=some (mf w):=X6 _ rfl;have hT:Shared.TypeIs {s with heap:=s.heap.push (mf w)} (.ref s.heap.objs.size) "set" := ⟨_,hS,rfl⟩
   have i1:=F.called_set.init.lookup;have i2:=F.called_set.init.bind (.ref s.heap.objs.size)
   repeat (any_goals (first|assumption|wp_step))
   refine aal (codeAny_call_builtin (R:=wants (λr s2=>r=.none/\Q (.ref s.heap.objs.size) s2) E) F.called_set.init.plain F.entry_set_init (check_set_init_1 hT ?_)) λr2 s2 qK=>?_
   ·obtain⟨ol,Q3,Fi,nl,T_⟩:=hl;obtain⟨c1,c2,c3,c4⟩:=ol;simp only at Fi T_;subst Fi T_;have Q1:(s.heap.push (mf w)).get? l=some {cls:=.type "list",dict:=c2,data:=.seq (vs.map λx=>Value.ref x.1).toArray nl,slots:=c4}:=XA _ Q3;have u1:=F.sub_list_set;have u2:=F.sub_list_frozenset;have u3:(Value.type "list" == Value.type "dict")=false:=by decide
    have TY:(s.heap.push (mf w)).IsList l (vs.map λx=>Value.ref x.1).toArray:=⟨_,Q1,rfl,nl,rfl⟩;unfold ZO.«set.__init__» noKeywords Builtin.Frozenset.updateFrom;generalize Wd:pyIter=PI
    wp_walk
    subst Wd;refine wpAny_pyIter_list TY ?_;refine Xs (wpAny_runValue ?_);have VD:A.in1.in1.in1.handled=none:=by simp[hh]
    have uu:A.in1.in1.in1.units<ZQ:=by
     have e1:∀B:Yv,B.in1.units=B.units+1:=λB=>rfl;rw[e1,e1,e1];lia
    have nI:l≠(s.heap.push (mf w)).objs.size:=by rw[ZI];exact Yc (ZX ls)
    have hf:s.heap.objs.size∉[(s.heap.push (mf w)).objs.size,l]:=by
     rw[ZI];simp only[Xy,YH,or_false,not_or];exact⟨Yc (Nat.lt_succ_self _),Nat.ne_of_gt ls⟩
    have old:∀x∈vs,x.1<s.heap.objs.size:=λx hx=>by
     obtain⟨oy,its,n,g1,g2⟩:=T x hx;exact XU g1
    refine yG (vs:=vs) uu ((Walks.list VD _ l nI _).toS) (by simp) (λi v hv=>?_) s.heap.objs.size hf hn (λx hx=>?_) vs.length 0 _ (mf w) [] #[] 0 _ (by lia) (XG _) ⟨⟨_,X6 _ rfl,rfl,rfl⟩,TY.push _⟩ (λx hx=>?_) (XA _ hS) (EO prog w) (λx hx=>by cases hx) (λx hx=>by simp at hx) (XG _) λs' o' df eN qM t' m1 m2 m3 m4 m5=>?_
    ·have hv:(vs.map λx=>Value.ref x.1).toArray[i]?=some v:=hv;rw[List.getElem?_toArray,XM]at hv;obtain⟨x,e1,e2⟩:=XY.mp hv;exact⟨x,e1,e2.symm⟩
    ·have:=old x hx;refine⟨λz=>?_,Yc this⟩;have z:=XQ.mp z;rw[ZI]at z;exact absurd z (Yc (ZX this))
    ·obtain⟨oy,its,n,g1,g2⟩:=T x hx;exact⟨oy,its,n,XA _ (XA _ g1),g2⟩
    ·obtain⟨h',g',d',UI,P6⟩:=s';have eg:g'=s.gens:=m1.gens;have ed:d'=s.drawn:=m1.drawn;have eo:P6=s.os:=m1.os;subst eg ed eo;refine XB (XB ⟨rfl,q h' UI o' df eN qM t' (λc oc e=>?_) m2 m3 m4 m5⟩);have hc:=XU e;refine m1.heap c oc (λz=>?_) (XA _ (XA _ e));rcases Xy.mp z with z|z
     ·exact absurd z (Yc hc)
     ·have z:=XQ.mp z;rw[ZI]at z;exact absurd z (Yc (ZX hc))
   ·cases r2 with
    |error e=>exact qK
    |ok Wg =>
     cases Wg with
     |ret r =>
      obtain⟨rfl,hq⟩:=qK
      repeat (any_goals (first|assumption|wp_step))
     |_=>exact qK.elim
  |_=>exact hr.elim
end
end ST
namespace TS
open PySem PyProof.Rows
section
variable {prog:Xz}{w:XT}{A:Yv}{E:Xv->Xw->Prop}{s:Xw}
theorem uR {x:Xv}{vs:List Xv}{kf:Xv->List Int}{Q:Xv->Xw->Prop}(hz:vs.length<=1000000)
  (col:∀(R:List Xv->Xw->Prop),(∀(h':Heap) (tk:Nat),(∀b o,s.heap.get? b=some o->h'.get? b=some o)->R vs {s with heap:=h',toks:=tk})->X4 (model prog w) A.in1 (collect x) R E s)
  (T:oj s.heap kf s.heap.objs.size vs)
  (h:∀(out:List Xv) (h1 h':Heap) (tk:Nat) (n:Nat),out.Perm vs->out.Pairwise (λx y=>HT.lexLt (kf y) (kf x)=false)->(∀b o,s.heap.get? b=some o->h1.get? b=some o)->(∀b o,h1.get? b=some o->h'.get? b=some o)->h'.get? h1.objs.size=some (Zq "list" out.toArray n)->Q (.ref h1.objs.size) {s with heap:=h',toks:=tk}) :
  X4 (model prog w) A (call (.builtin "sorted") [x]) Q E s:=by
 refine aaK kind_sorted plain_sorted entry_sorted (args_sorted1 _) ?_;unfold ZO.«sorted»
 refine Xs (m:=checkCount "sorted" 1 1 _) (XB ?_);refine Xs (col _ λh' tk kp=>?_);have nl:vs.length<=XO:=by rw[YA];lia
 refine Xs (wpAny_newList ?_ nl);have hl:(h'.push (Zq "list" vs.toArray 0)).get? h'.objs.size=some (Zq "list" vs.toArray 0):=X6 _ rfl;have T':oj (h'.push (Zq "list" vs.toArray 0)) kf h'.objs.size vs:=λv hv=>by
  obtain⟨t,o,xs,k,e1,_,e3,r⟩:=T v hv;exact⟨t,o,xs,k,e1,Yc (XU (kp _ _ e3)),XA _ (kp _ _ e3),r⟩
 refine Xs (Y0 (Y1 slot_list_sort ⟨_,hl,rfl⟩ entry_list_sort (my (s:={s with heap:=h'.push (Zq "list" vs.toArray 0),toks:=tk}) hl hz T' λout hp hs=>⟨_,rfl,?_⟩) (args_list_sort _)))
 obtain⟨n,hn⟩:=sortedHeap_at (out:=out.toArray) hl;refine XB ⟨_,rfl,h out h' _ tk n hp hs kp (λb o e=>?_) hn⟩;have hb:=XU e;rw[sortedHeap_old (Yc hb) (by rw[size_push'];exact ZX hb)]
 exact XA _ e
end
end TS
namespace ST
open PySem PyProof.Rows
section
variable {prog:Xz}{w:XT}{s:Xw}
theorem rl {a:Addr}{o:Obj}{ts:List (Addr×List Int)}{es:Array (Int×Xv)}{ep:Nat}{t:SetTable}(ho:s.heap.get? a=some o)(S:cQ prog w o ts es ep t)(hn:ts.length<=1000):
  ∃us:List (Addr×List Int),us.Perm ts/\∀(A:Yv) (E:Xv->Xw->Prop) (R:List Xv->Xw->Prop),A.handled=none->(∀(h':Heap) (tk:Nat),(∀b o,s.heap.get? b=some o->h'.get? b=some o)->R (us.map λx=>Value.ref x.1) {s with heap:=h',toks:=tk}) ->
  X4 (model prog w) A (collect (.ref a)) R E s:=by
 have hw:=gx w a ep es;rw[S.JX]at hw;obtain⟨us,h1,h2⟩:=r_ hw;refine⟨us,h1,λA E R hh q=>?_⟩;refine PySem.W.kdu_collect (DU prog w a o ts es ep t S) hh ho (by rw[S.size.1,YA];lia) λh' tk acc hk Nu=>?_
 have e:acc.toList=us.map λx=>Value.ref x.1:=by
  have hz:(bN w a ep es).size=es.size:=by
   have:=(gx w a ep es).length_eq;rw[XF,XF]at this;exact this
  have e2:us.map (λx=>Value.ref x.1)=(bN w a ep es).toList.map (·.2):=by
   rw[h2,YB];rfl
  rw[e2];apply Zm;intro i;rw[XM,X0,X0]
  by_cases hi:i<acc.size
  ·obtain⟨x,g1,g2⟩:=Nu.2 i acc[i] (getElem?_pos acc i hi);rw[getElem?_pos acc i hi,g1,g2];rfl
  ·have:=Nu.1;rw[Zt (by lia),Zt (by lia)]
   rfl
 rw[e];exact q h' tk hk
end
end ST
namespace L2
open PySem PySem.Spec PySem.SeqAt PyProof.Rows HT
theorem iq:∀{a b:List Int},lexLt a b=false->lexLt b a=false->a=b
 |[],[],_,_=>rfl
 |[],_::_,h,_=>by cases h
 |_::_,[],_,h=>by cases h
 |x::xs,y::ys,h1,h2=>by
  rw[fB]at h1 h2
  by_cases e:x=y
  ·subst e;rw[if_pos rfl]at h1 h2;rw[iq h1 h2]
  ·rw[if_neg e]at h1;rw[if_neg (λz=>e z.symm)]at h2;have:=of_decide_eq_false h1;have:=of_decide_eq_false h2;omega
theorem mG:∀{a b:List Int},lexLt a b=true->lexLt b a=false
 |[],[],h=>by cases h
 |[],_::_,_=>rfl
 |_::_,[],h=>by cases h
 |x::xs,y::ys,h=>by
  rw[fB]at h ⊢
  by_cases e:x=y
  ·subst e;rw[if_pos rfl]at h ⊢
   exact mG h
  ·rw[if_neg e]at h;rw[if_neg (λz=>e z.symm)];have:=of_decide_eq_true h;exact decide_eq_false (by lia)
theorem kJ:∀{a b c:List Int},lexLt a b=true->lexLt b c=true->lexLt a c=true
 |[],[],_,h,_=>by cases h
 |[],_::_,[],_,h=>by cases h
 |[],_::_,_::_,_,_=>rfl
 |_::_,[],_,h,_=>by cases h
 |x::xs,y::ys,[],_,h=>by cases h
 |x::xs,y::ys,z::zs,h1,h2=>by
  rw[fB]at h1 h2 ⊢
  by_cases e:x=y
  ·subst e;rw[if_pos rfl]at h1
   by_cases e2:x=z
   ·subst e2;rw[if_pos rfl]at h2 ⊢
    exact kJ h1 h2
   ·rw[if_neg e2]at h2 ⊢
    exact h2
  ·rw[if_neg e]at h1;have q1:=of_decide_eq_true h1
   by_cases e2:y=z
   ·subst e2;rw[if_neg e];exact h1
   ·rw[if_neg e2]at h2;have q2:=of_decide_eq_true h2;rw[if_neg (by omega)]
    exact decide_eq_true (by omega)
def vy (k:List Int):List (List Int)->List (List Int)
 |[]=>[k]
 |x::xs=>if lexLt x k=true then x::vy k xs else k::x::xs
def gS:List (List Int)->List (List Int)
 |[]=>[]
 |k::ks=>vy k (gS ks)
theorem jW (k:List Int):∀xs,(vy k xs).Perm (k::xs)
 |[]=>.refl _
 |x::xs=>by
  unfold vy
  split
  ·exact((jW k xs).cons x).trans (List.Perm.swap _ _ _)
  ·exact .refl _
theorem e9:∀ks,(gS ks).Perm ks
 |[]=>.refl _
 |k::ks=>(jW k (gS ks)).trans ((e9 ks).cons k)
abbrev uh (ks:List (List Int)):Prop:=ks.Pairwise λx y=>HT.lexLt y x=false
theorem le_trans' {a b c:List Int}(h1:lexLt b a=false)(h2:lexLt c b=false):lexLt c a=false:=by
 cases h:lexLt c a with
 |false=>rfl
 |true =>
  cases hb:lexLt a b with
  |true=>rw[kJ h hb]at h2;cases h2
  |false =>
   have:=iq hb h1;subst this;rw[h]at h2;cases h2
theorem pz (k:List Int):∀xs,uh xs->uh (vy k xs)
 |[],_=>by simp[vy]
 |x::xs,h=>by
  obtain⟨h1,h2⟩:=Yt.mp h;unfold vy
  split
  ·rename_i hx
   refine Yt.mpr ⟨λy hy=>?_,pz k xs h2⟩;rcases Xy.mp ((jW k xs).mem_iff.mp hy)with rfl|hy
   ·exact mG hx
   ·exact h1 y hy
  ·rename_i hx
   have Dn:lexLt x k=false:=by cases q:lexLt x k <;> simp_all
   refine Yt.mpr ⟨λy hy=>?_,h⟩;rcases Xy.mp hy with rfl|hy
   ·exact Dn
   ·exact le_trans' Dn (h1 y hy)
theorem lQ:∀ks,uh (gS ks)
 |[]=>.nil
 |k::ks=>pz k _ (lQ ks)
theorem ki:∀{a b:List (List Int)},a.Perm b->uh a->uh b->a=b
 |[],b,p,_,_=>by rw[List.nil_perm.mp p]
 |x::a,[],p,_,_=>by have:=p.length_eq;simp at this
 |x::a,y::b,p,ha,hb=>by
  obtain⟨a1,a2⟩:=Yt.mp ha;obtain⟨b1,b2⟩:=Yt.mp hb;have Mo:x=y:=by
   rcases Xy.mp (p.mem_iff.mp (XN (a:=x) (l:=a)))with h|h
   ·exact h
   ·rcases Xy.mp (p.mem_iff.mpr (XN (a:=y) (l:=b)))with h' | h'
    ·exact h'.symm
    ·exact iq (b1 x h) (a1 y h')
  subst Mo;rw[ki (List.perm_cons x |>.mp p) a2 b2]
theorem Ao {a b:List (List Int)}(p:a.Perm b)(h:uh a):a=gS b:=ki (p.trans (e9 b).symm) h (lQ b)
def n9:List (List Int)->List (List Int)
 |[]=>[]
 |k::ks=>if k∈n9 ks then n9 ks else k::n9 ks
theorem gn:∀l:List (List Int),(n9 l).Nodup/\∀x,x∈n9 l↔x∈l
 |[]=>⟨YF,λ_=>Iff.rfl⟩
 |k::ks=>by
  obtain⟨h1,h2⟩:=gn ks;unfold n9
  split
  ·rename_i h
   refine⟨h1,λx=>?_⟩;rw[h2 x,Xy];exact⟨.inr,λz=>z.elim (λe=>by rw[e];exact(h2 k).mp h) id⟩
  ·rename_i h
   refine⟨X9.mpr ⟨h,h1⟩,λx=>?_⟩;rw[Xy,Xy,h2 x]
theorem xw:∀l:List (List Int),(n9 l).length<=l.length
 |[]=>Xx _
 |k::ks=>by
  have:=xw ks;unfold n9
  split
  ·exact Nat.le_succ_of_le this
  ·simpa using this
abbrev kD (k:List Int):D:=.tup (k.map D.int)
def dz:List D->Option (List (List Int))
 |[]=>some []
 |.tup a::ds=>match bj a,dz ds with
  |some k,some ks=>if k=[] then none else some (k::ks)
  |_,_=>none
 |_::_=>none
theorem jj:∀{ds:List D} {ks:List (List Int)},dz ds=some ks->ds=ks.map kD/\∀k∈ks,k≠[]
 |[],_,h=>by cases h;exact⟨rfl,λ_ z=>nomatch z⟩
 |.tup a::ds,ks,h=>by
  have h':(match bj a,dz ds with|some k,some ks=>if k=[] then none else some (k::ks)|_,_=>none)=some ks:=h
  cases ea:bj a with
  |none=>rw[ea]at h';cases h'
  |some k =>
   cases eb:dz ds with
   |none=>rw[ea,eb]at h';cases h'
   |some kr =>
    rw[ea,eb]at h'
    by_cases hk:k=[]
    ·simp[hk]at h'
    ·simp only[hk,if_false,Option.some.injEq]at h';subst h';obtain⟨h1,h2⟩:=jj eb;rw[X5,<- h1,s9 ea];refine⟨rfl,λx hx=>?_⟩;rcases Xy.mp hx with rfl|hx
     ·exact hk
     ·exact h2 x hx
 |.bP::_,_,h=>by cases h
 |.bl _::_,_,h=>by cases h
 |.str _::_,_,h=>by cases h
 |.obj _::_,_,h=>by cases h
 |.int _::_,_,h=>by cases h
 |.lst _::_,_,h=>by cases h
 |.dT _ _::_,_,h=>by cases h
 |.dK _ _::_,_,h=>by cases h
 |.sT _::_,_,h=>by cases h
theorem gN:∀{ks:List (List Int)},(∀k∈ks,k≠[])->dz (ks.map kD)=some ks
 |[],_=>rfl
 |k::ks,h=>by
  show (match bj (k.map D.int),dz (ks.map kD)with|some k,some ks=>if k=[] then none else some (k::ks)|_,_=>none)=_
  rw[pq,gN λx hx=>h x (XR _ hx)];simp[h k (XN ..)]
section
variable {P:Xz}{w:XT}{W:Addr->Prop}{H:Hp}
theorem gM:∀{ks:List (List Int)} {vs:List V},(∀k∈ks,k≠[])->ai P w W H (ks.map kD) vs->∃ts:List (Addr×List Int),vs=ts.map qb/\vX H ts/\ts.map (·.2)=ks
 |[],_,_,h=>⟨[],h,(λ_ z=>nomatch z),rfl⟩
 |k::ks,_,hk,⟨v,r,e,⟨a,us,e1,e2,e3⟩,h2⟩=>by
  obtain⟨ts,q1,q2,q3⟩:=gM (λx hx=>hk x (XR _ hx)) h2;refine⟨(a,k)::ts,by rw[e,e1,q1];rfl,λt ht=>?_,by rw[X5,q3]⟩
  rcases Xy.mp ht with rfl|ht
  ·rw[b9 e3]at e2;exact⟨e2,hk k (XN ..)⟩
  ·exact q2 t ht
theorem gE:∀{ts:List (Addr×List Int)},(∀t∈ts,H t.1=some (.tup (t.2.map V.int)))->ai P w W H ((ts.map (·.2)).map kD) (ts.map qb)
 |[],_=>rfl
 |t::ts,h=>⟨_,_,rfl,⟨t.1,_,rfl,h t (XN ..),pk t.2⟩,gE λx hx=>h x (XR _ hx)⟩
def qN:List D->Option D
 |[.lst ds]=>match dz ds with
  |some ks=>if ks.length<=1000000 then some (.lst ((gS ks).map kD)) else none
  |none=>none
 |[.sT ts]=>if ts.length<=1000/\(∀k∈ts,k≠[]) then some (.lst ((gS ts).map kD)) else none
 |_=>none
theorem BP:∀{ns:List Int} {its:List Xv},Vals (ns.map V.int) its->ItemsAre (intKind P w) ns its
 |[],_,.nil=>.nil
 |n::ns,_,.cons r t=>by
  obtain⟨tk,rfl⟩:=r;exact .cons (by show Value.isInt n (.int n tk)=true;simp[Value.isInt]) (BP t)
theorem Hw {h:Heap}{ts:List (Addr×List Int)}(ok:iI P w H h)(T:∀t∈ts,H t.1=some (.tup (t.2.map V.int))):ST.FZ P w h ts:=λt ht=>by
 obtain⟨_,its,r,o,ho,hc,n,hd⟩:=(show bb P w H h t.1 (.tup (t.2.map V.int)) from ok _ _ (T t ht))
 refine⟨o,its.toArray,n,ho,hc,hd,?_⟩;exact BP r
def GY:List D->Option D
 |[.lst ds]=>match dz ds with
  |some ks=>if ks.length<1000 then some (.sT (n9 ks)) else none
  |none=>none
 |_=>none
end
section
end
theorem zk {X:Cx} (hc:X.calm=true) (hu:X.A.units+16<ZQ):bG X (.type "set") GY:=by
 intro pins s σ H xs us Q I r h;obtain⟨W,ds,d,hd,r1,e,q⟩:=h
 match ds,e with
 |[.lst es],e =>
  have e':(match dz es with|some ks=>if ks.length<1000 then some (D.sT (n9 ks)) else none|none=>none)=some d:=e
  cases ek:dz es with
  |none=>rw[ek]at e';cases e'
  |some ks =>
   rw[ek]at e';obtain⟨hl,rfl⟩:=dv e';obtain⟨rfl,hk⟩:=jj ek;obtain⟨x,rfl,p,vs,rfl,hp,n1,q1⟩:=jx r1;obtain⟨ts,rfl,T,rfl⟩:=gM hk q1;obtain⟨u,rfl,rx⟩:=vals1 r;cases rx;obtain⟨its,r',pl,hz⟩:=I.list (c6.of hp);obtain rfl:=gy r';refine ST.zg (w:=X.w) (I.ok.hd hc) hu pl.isList (by simpa using hl) (Hw I.bt λt ht=>(T t ht).1) λh' tk o' df es ep t kp ho S m1 m2=>?_
   have JI:H s.heap.objs.size=none:=I.bt.fresh (Xx _);have nd:=gn (ts.map (·.2));refine⟨.ref s.heap.objs.size,_,I.laid (t':=tk) (o:=F1 X.prog X.w s.heap.objs.size df) kp (Xx _) ?_,rfl,q _ _ (au.new JI) ⟨_,rfl,⟨df,ar,λx hx=>?_,?_⟩,wW hd JI⟩⟩
   ·refine⟨⟨o',es,ep,t,ho,S⟩,⟨o',ho⟩,λh1 h2 vB k=>by obtain⟨o1,e1,Wq,t1,g1,g2⟩:=vB;exact⟨o1,e1,Wq,t1,k _ g1,g2⟩⟩
   ·exact(au.new JI) _ _ (T x (m1 x hx)).1
   ·refine(List.perm_ext_iff_of_nodup S.P_ nd.1).mpr λk=>?_;rw[nd.2 k,X7,X7];constructor
    ·rintro⟨x,hx,rfl⟩;exact⟨x,m1 x hx,rfl⟩
    ·rintro⟨x,hx,rfl⟩;obtain⟨y,hy,e⟩:=m2 x hx;exact⟨y,hy,e⟩
def jA (ns:List Int):Prop:=∃x y:Int,ns=[x,y]/\0<=x/\0<=y/\y<2147483647
theorem Hand.ok {H:Hp}{h:Addr}(d:Hand H h):∃ns,H h=some (.lst (ns.map V.int))/\jA ns:=by
 obtain⟨x,y,e,h1,h2,h3⟩:=d;exact⟨[x,y],e,x,y,rfl,h1,h2,h3⟩
theorem jA.hand {H:Hp}{h:Addr}{ns:List Int}(e:H h=some (.lst (ns.map V.int)))(o:jA ns):Hand H h:=by
 obtain⟨x,y,rfl,h1,h2,h3⟩:=o;exact⟨x,y,e,h1,h2,h3⟩
def dc:FD:=λds R=>∃n:Int,ds=[.int n]/\0<n/\n<2 ^ 200/\∀r:Int,0<=r->r<n->R (.int r)
theorem dc.mono:cU dc:=λds R R' k ⟨n,e,h1,h2,q⟩=>⟨n,e,h1,h2,λr a b=>k _ (q r a b)⟩
section
end
section
variable {X:Cx}{W:Addr->Prop}{H:Hp}
theorem vf {p:Addr}{vs:List V}{ds:List D}(n:H p=none)(f:NL (.lst ds))(r:jy X W H ds vs):Rp X (λa=>H a≠none) (upd H p (.lst vs)) (.lst ds) (.ref p) :=
 ⟨p,vs,rfl,ar,λz=>z n,ai.flat f (r.same (au.new n))⟩
def PD (X:Cx)(f:D->D->Option D):R2:=λx y H Q=>∃W d1 d2 d,Dm W H/\Rp X W H d1 x/\Rp X W H d2 y/\f d1 d2=some d/\∀v H',au H H'->Rp X W H' d v->(NL d->Rp X (λa=>H a≠none) H' d v)->Q v H'
def PC (X:Cx)(f:List D->Option D):List V->Hp->VK->Prop:=λxs H Q=>∃W ds d,Dm W H/\jy X W H ds xs/\f ds=some d/\∀v H',au H H'->Rp X W H' d v->(NL d->Rp X (λa=>H a≠none) H' d v)->Q v H'
def Ln (X:Cx)(f:D->Option Int->Option Int->Option D):V->Option Int->Option Int->Hp->VK->Prop:=λx lo hi H Q=>∃W d1 d,Dm W H/\Rp X W H d1 x/\f d1 lo hi=some d/\∀v H',au H H'->Rp X W H' d v->(NL d->Rp X (λa=>H a≠none) H' d v)->Q v H'
abbrev N4 (X:Cx)(f:Xv->Xv->Sem Xv)(g:D->D->Option D):Prop:=iH X f (PD X g)
abbrev v3 (X:Cx)(f:Xv)(g:List D->Option D):Prop:=fh X f (PC X g)
theorem az:N4 X (ZE .Add) vP:=by
 intro pins s σ H x y v u Q I rx ry h;obtain⟨W,d1,d2,d,hd,r1,r2,e,q⟩:=h;rcases yF e with⟨a,b,rfl,rfl,e⟩|e
 ·obtain⟨hl,rfl⟩:=dv e;obtain⟨p,vs,rfl,h1,n1,q1⟩:=r1;obtain⟨p',vs',rfl,h2,n2,q2⟩:=r2;exact Bm pins s σ H _ _ v u Q I rx ry ⟨p,p',vs,vs',rfl,rfl,h1,h2,by rw[q1.length,q2.length];exact hl,λl vC=>q _ _ (au.new vC) (Rp.f_ hd vC (q1.append q2)) λf=>vf vC f (q1.append q2)⟩
 ·obtain⟨i,j,rfl,rfl,e⟩:=jV e;cases e;cases r1;cases r2;exact vd pins s σ H _ _ v u Q I rx ry ⟨i,j,rfl,rfl,q _ _ (au.refl _) rfl λ_=>rfl⟩
theorem DR:Su X (Ln X Uk):=by
 intro pins s σ H x v vl vu lo hi sl Q I rx hs pl pu h;obtain⟨W,d1,d,hd,r1,e,q⟩:=h;cases d1 with
 |lst ds =>
  cases e;obtain⟨p,vs,rfl,h1,n1,q1⟩:=r1;have rr:jy X W H (cutD ds lo hi) (t9 vs lo hi):=by
   unfold t9 cutD;rw[q1.length];exact(ai.drop _ q1).take _
  exact wq pins s σ H _ v vl vu lo hi sl Q I rx hs pl pu ⟨p,vs,rfl,c6.of h1,λl hl=>q _ _ (au.new hl) (Rp.f_ hd hl rr) λf=>vf hl f rr⟩
 |_=>cases e
theorem ua:v3 X (.type "list") dList:=by
 intro pins s σ H xs us Q I r h;obtain⟨W,ds,d,hd,r1,e,q⟩:=h
 match ds,e with
 |[.lst es],e =>
  cases e;obtain⟨v,r',rfl,⟨p,vs,rfl,h1,n1,q1⟩,hr⟩:=r1;cases hr;exact jt pins s σ H _ us Q I r ⟨p,vs,rfl,.inl (c6.of h1),λl hl=>q _ _ (au.new hl) (Rp.f_ hd hl q1) λf=>vf hl f q1⟩
 |[.tup es],e =>
  cases e;obtain⟨v,r',rfl,⟨p,vs,rfl,h1,q1⟩,hr⟩:=r1;cases hr;exact jt pins s σ H _ us Q I r ⟨p,vs,rfl,.inr (qV.of h1),λl hl=>q _ _ (au.new hl) (Rp.f_ hd hl q1) λf=>vf hl f q1⟩
theorem qR:v3 X (.builtin "sorted") (λds=>match ds with | [.lst ds]=>qN [.lst ds]|_=>none):=by
 intro pins s σ H xs us Q I r h;obtain⟨W,ds,d,hd,r1,e,q⟩:=h
 match ds,e with
 |[.lst es],e =>
  have e':(match dz es with|some ks=>if ks.length<=1000000 then some (D.lst ((gS ks).map kD)) else none|none=>none)=some d:=e
  cases ek:dz es with
  |none=>rw[ek]at e';cases e'
  |some ks =>
   rw[ek]at e';obtain⟨hl,rfl⟩:=dv e';obtain⟨rfl,hk⟩:=jj ek;obtain⟨x,rfl,p,vs,rfl,hp,n1,q1⟩:=jx r1;obtain⟨ts,rfl,T,rfl⟩:=gM hk q1;refine qP pins s σ H _ us Q I r ⟨p,ts,rfl,c6.of hp,T,by simpa using hl,λl df vC s_ Dp=>?_⟩
   have eq:df.map (·.2)=gS (ts.map (·.2)):=Ao (s_.map _) (Y7.mpr Dp);rw[<- eq]at q;have rk:=gE (P:=X.prog) (w:=X.w) (W:=W) (H:=H) (ts:=df) λt ht=>(T t (s_.mem_iff.mp ht)).1;exact q _ _ (au.new vC) (Rp.f_ hd vC rk) λf=>vf vC f rk
theorem qQ (hc:X.calm=true):v3 X (.builtin "sorted") (λds=>match ds with | [.sT ts]=>qN [.sT ts]|_=>none):=by
 intro pins s σ H xs us Q I r h;obtain⟨W,ds,d,hd,r1,e,q⟩:=h
 match ds,e with
 |[.sT ks],e =>
  obtain⟨⟨hl,hk⟩,rfl⟩:=dv (show (if ks.length<=1000/\(∀k∈ks,k≠[]) then some (D.lst ((gS ks).map kD)) else none)=some d from e)
  obtain⟨x,rfl,p,rfl,⟨ts,hp,T,pm⟩,nW⟩:=jx r1;obtain⟨u,rfl,rx⟩:=vals1 r;cases rx;obtain⟨⟨o,es,ep,t,ho,S⟩,_,_⟩:=(show bb X.prog X.w H s.heap p (F1 X.prog X.w p ts) from I.bt p _ hp)
  have tl:ts.length=ks.length:=by rw[<- pm.length_eq,Xu]
  have T':vX H ts:=λt ht=>⟨T t ht,hk _ (pm.mem_iff.mp (X7.mpr ⟨t,ht,rfl⟩))⟩;obtain⟨us,BV,col⟩:=ST.rl (s:=s) ho S (by omega)
  have T2:vX H us:=λt ht=>T' t (BV.mem_iff.mp ht);refine TS.uR (vs:=us.map λx=>Value.ref x.1) (kf:=sW H) (by rw[Xu,BV.length_eq];omega) (λR hR=>col _ _ R (by simp[I.ok.hd hc]) λh' tk kp=>hR h' tk kp) (v_ I.bt T2 (Xx _)) λout h1 h' tk n kZ hs k1 kp Fd=>?_
  ·obtain⟨e1,e2⟩:=oM T2 kZ;have zl:out.length=us.length:=by rw[kZ.length_eq,Xu]
   have eq:(out.map (GS H)).map (·.2)=gS ks:=by
    refine Ao ((e2.trans BV).map _ |>.trans pm) ?_
    refine Y7.mpr (Y7.mpr ?_);refine hs.imp_of_mem λ{x y} hx hy hh=>?_;obtain⟨t,ht,rfl⟩:=X7.mp (kZ.mem_iff.mp hx);obtain⟨t',TJ,rfl⟩:=X7.mp (kZ.mem_iff.mp hy);exact hh
   have I1:Inv X pins σ H {s with heap:=h1,toks:=s.toks}:=I.kept k1
   have JI:H h1.objs.size=none:=I1.bt.fresh (Xx _);refine⟨.ref h1.objs.size,_,I1.laid (t':=tk) (o:=.lst ((out.map (GS H)).map qb)) kp (Xx _) ?_,rfl,q _ _ (au.new JI) ?_ ?_⟩
   ·refine⟨by rw[Xu,Xu,zl,BV.length_eq,YA];omega,out,n,?_,Fd⟩
    have:=jI (out.map (GS H));rw[<- e1]at this;exact this
   ·rw[<- eq];exact Rp.f_ hd JI (gE λt ht=>(T2 t (e2.mem_iff.mp ht)).1)
   ·rw[<- eq];exact λf=>vf (W:=W) JI f (gE λt ht=>(T2 t (e2.mem_iff.mp ht)).1)
end
section
end
end L2
namespace L2.Q
open PySem PySem.Spec PySem.SeqAt PyProof.Rows
section
variable (P:Xz)(w:XT)(H:Hp)
mutual
def Own:D->V->List Addr->Prop
 |.tup ds,v,A=>∃a vs,v=.ref a/\H a=some (.tup vs)/\aK ds vs A
 |.lst ds,v,A=>∃a vs A',v=.ref a/\H a=some (.lst vs)/\A=a::A'/\aK ds vs A'
 |.dT ks ds,v,A=>∃a vs A',v=.ref a/\H a=some (.dT (ks.zip vs))/\ks.length=vs.length/\A=a::A'/\aK ds vs A'
 |.dK ks ds,v,A=>∃a vs A',v=.ref a/\H a=some (.dK (ks.zip vs))/\ks.length=vs.length/\A=a::A'/\aK ds vs A'
 |.sT ts,v,A=>∃a,v=.ref a/\F0 P w H a ts/\A=[a]
 |.bP,v,A=>v=.bP/\A=[]
 |.bl b,v,A=>v=.bl b/\A=[]
 |.int i,v,A=>v=.int i/\A=[]
 |.str x,v,A=>v=.str x/\A=[]
 |.obj a,v,A=>v=.ref a/\A=[]
def aK:List D->List V->List Addr->Prop
 |[],vs,A=>vs=[]/\A=[]
 |d::ds,vs,A=>∃v r A1 A2,vs=v::r/\A=A1++A2/\Own d v A1/\aK ds r A2
end
end
section
variable {P:Xz}{w:XT}{W:Addr->Prop}{H H':Hp}
theorem ye {a:Addr}{ts:List (List Int)}(k:∀b xs,H b=some (.tup xs)->H' b=some (.tup xs))(ha:∀o,H a=some o->H' a=some o)(h:F0 P w H a ts):F0 P w H' a ts :=
 let ⟨df,e,r,z⟩:=h;⟨df,ha _ e,λx hx=>k _ _ (r x hx),z⟩
mutual
theorem Own.keep (k:∀b xs,H b=some (.tup xs)->H' b=some (.tup xs)):∀{d:D} {v:V} {A:List Addr},(∀c∈A,∀o,H c=some o->H' c=some o)->Own P w H d v A->Own P w H' d v A
 |.tup ds,_,_,ha,⟨a,vs,e,t,r⟩=>⟨a,vs,e,k a vs t,aK.keep k ha r⟩
 |.lst ds,_,_,ha,⟨a,vs,A',e,t,eA,r⟩=>⟨a,vs,A',e,ha a (by rw[eA];simp) _ t,eA,aK.keep k (λc hc=>ha c (by rw[eA];simp[hc])) r⟩
 |.dT ks ds,_,_,ha,⟨a,vs,A',e,t,l,eA,r⟩=>⟨a,vs,A',e,ha a (by rw[eA];simp) _ t,l,eA,aK.keep k (λc hc=>ha c (by rw[eA];simp[hc])) r⟩
 |.dK ks ds,_,_,ha,⟨a,vs,A',e,t,l,eA,r⟩=>⟨a,vs,A',e,ha a (by rw[eA];simp) _ t,l,eA,aK.keep k (λc hc=>ha c (by rw[eA];simp[hc])) r⟩
 |.sT ts,_,_,ha,⟨a,e,r,eA⟩=>⟨a,e,ye k (λo ho=>ha a (by rw[eA];simp) o ho) r,eA⟩
 |.bP,_,_,_,h=>h
 |.bl _,_,_,_,h=>h
 |.int _,_,_,_,h=>h
 |.str _,_,_,_,h=>h
 |.obj _,_,_,_,h=>h
theorem aK.keep (k:∀b xs,H b=some (.tup xs)->H' b=some (.tup xs)):∀{ds:List D} {vs:List V} {A:List Addr},(∀c∈A,∀o,H c=some o->H' c=some o)->aK P w H ds vs A->aK P w H' ds vs A
 |[],_,_,_,h=>h
 |d::ds,_,_,ha,⟨v,r,A1,A2,e,eA,h1,h2⟩=>⟨v,r,A1,A2,e,eA,Own.keep k (λc hc=>ha c (by rw[eA];simp[hc])) h1,aK.keep k (λc hc=>ha c (by rw[eA];simp[hc])) h2⟩
end
mutual
theorem Own.rep:∀{d:D} {v:V} {A:List Addr},(∀c∈A,¬ W c)->Own P w H d v A->ay P w W H d v
 |.tup ds,_,_,ha,⟨a,vs,e,t,r⟩=>⟨a,vs,e,t,aK.rep ha r⟩
 |.lst ds,_,_,ha,⟨a,vs,A',e,t,eA,r⟩=>⟨a,vs,e,t,ha a (by rw[eA];simp),aK.rep (λc hc=>ha c (by rw[eA];simp[hc])) r⟩
 |.dT ks ds,_,_,ha,⟨a,vs,A',e,t,l,eA,r⟩=>⟨a,vs,e,t,l,ha a (by rw[eA];simp),aK.rep (λc hc=>ha c (by rw[eA];simp[hc])) r⟩
 |.dK ks ds,_,_,ha,⟨a,vs,A',e,t,l,eA,r⟩=>⟨a,vs,e,t,l,ha a (by rw[eA];simp),aK.rep (λc hc=>ha c (by rw[eA];simp[hc])) r⟩
 |.sT ts,_,_,ha,⟨a,e,r,eA⟩=>⟨a,e,r,ha a (by rw[eA];simp)⟩
 |.bP,_,_,_,h=>h.1
 |.bl _,_,_,_,h=>h.1
 |.int _,_,_,_,h=>h.1
 |.str _,_,_,_,h=>h.1
 |.obj _,_,_,_,h=>h.1
theorem aK.rep:∀{ds:List D} {vs:List V} {A:List Addr},(∀c∈A,¬ W c)->aK P w H ds vs A->ai P w W H ds vs
 |[],_,_,_,h=>h.1
 |d::ds,_,_,ha,⟨v,r,A1,A2,e,eA,h1,h2⟩=>⟨v,r,e,Own.rep (λc hc=>ha c (by rw[eA];simp[hc])) h1,aK.rep (λc hc=>ha c (by rw[eA];simp[hc])) h2⟩
end
mutual
theorem Own.nB:∀{d:D} {v:V} {A:List Addr},Own P w H d v A->∀c∈A,H c≠none/\∀xs,H c≠some (.tup xs)
 |.tup ds,_,_,⟨a,vs,e,t,r⟩,c,hc=>aK.nB r c hc
 |.lst ds,_,_,⟨a,vs,A',e,t,eA,r⟩,c,hc=>by
  rw[eA]at hc;rcases Xy.mp hc with rfl|hc
  ·rw[t];exact⟨λz=>(nomatch z),λxs z=>by cases z⟩
  ·exact aK.nB r c hc
 |.dT ks ds,_,_,⟨a,vs,A',e,t,l,eA,r⟩,c,hc=>by
  rw[eA]at hc;rcases Xy.mp hc with rfl|hc
  ·rw[t];exact⟨λz=>(nomatch z),λxs z=>by cases z⟩
  ·exact aK.nB r c hc
 |.dK ks ds,_,_,⟨a,vs,A',e,t,l,eA,r⟩,c,hc=>by
  rw[eA]at hc;rcases Xy.mp hc with rfl|hc
  ·rw[t];exact⟨λz=>(nomatch z),λxs z=>by cases z⟩
  ·exact aK.nB r c hc
 |.sT ts,_,_,⟨a,e,⟨df,t,r,z⟩,eA⟩,c,hc=>by
  rw[eA]at hc;rw[XQ.mp hc,t];exact⟨λz=>(nomatch z),λxs z=>by cases z⟩
 |.bP,_,_,h,c,hc=>by rw[h.2]at hc;cases hc
 |.bl _,_,_,h,c,hc=>by rw[h.2]at hc;cases hc
 |.int _,_,_,h,c,hc=>by rw[h.2]at hc;cases hc
 |.str _,_,_,h,c,hc=>by rw[h.2]at hc;cases hc
 |.obj _,_,_,h,c,hc=>by rw[h.2]at hc;cases hc
theorem aK.nB:∀{ds:List D} {vs:List V} {A:List Addr},aK P w H ds vs A->∀c∈A,H c≠none/\∀xs,H c≠some (.tup xs)
 |[],_,_,h,c,hc=>by rw[h.2]at hc;cases hc
 |d::ds,_,_,⟨v,r,A1,A2,e,eA,h1,h2⟩,c,hc=>by
  rw[eA]at hc;rcases XW.mp hc with hc|hc
  ·exact Own.nB h1 c hc
  ·exact aK.nB h2 c hc
end
mutual
theorem c9:∀{d:D} {v:V},d.flat=true->ay P w W H d v->Own P w H d v []
 |.tup ds,_,f,⟨a,vs,e,t,r⟩=>⟨a,vs,e,t,gI (by simpa[D.flat] using f) r⟩
 |.lst ds,_,f,_=>by simp[D.flat]at f
 |.dT ks ds,_,f,_=>by simp[D.flat]at f
 |.dK ks ds,_,f,_=>by simp[D.flat]at f
 |.sT ts,_,f,_=>by simp[D.flat]at f
 |.bP,_,_,h=>⟨h,rfl⟩
 |.bl _,_,_,h=>⟨h,rfl⟩
 |.int _,_,_,h=>⟨h,rfl⟩
 |.str _,_,_,h=>⟨h,rfl⟩
 |.obj _,_,_,h=>⟨h,rfl⟩
theorem gI:∀{ds:List D} {vs:List V},D.bQ ds=true->ai P w W H ds vs->aK P w H ds vs []
 |[],_,_,h=>⟨h,rfl⟩
 |d::ds,_,f,⟨v,r,e,h1,h2⟩=>by
  have f':(d.flat&&D.bQ ds)=true:=f;rw[Yn]at f';exact⟨v,r,[],[],e,rfl,c9 f'.1 h1,gI f'.2 h2⟩
end
theorem aK.length:∀{ds:List D} {vs:List V} {A:List Addr},aK P w H ds vs A->vs.length=ds.length
 |[],_,_,h=>by rw[h.1];rfl
 |d::ds,_,_,⟨v,r,A1,A2,e,eA,h1,h2⟩=>by rw[e,XJ,XJ,aK.length h2]
theorem aK.append:∀{ds ds':List D} {vs vs':List V} {A A':List Addr},aK P w H ds vs A->aK P w H ds' vs' A'->aK P w H (ds++ds') (vs++vs') (A++A')
 |[],_,_,_,_,_,h,h'=>by rw[h.1,h.2];exact h'
 |d::ds,_,_,_,_,_,⟨v,r,A1,A2,e,eA,h1,h2⟩,h'=>by
  subst e eA;exact⟨v,_,A1,_,rfl,by rw[YN],h1,aK.append h2 h'⟩
theorem aK.one {d:D}{v:V}{A:List Addr}(h:Own P w H d v A):aK P w H [d] [v] A:=⟨v,[],A,[],rfl,by simp,h,rfl,rfl⟩
theorem aK.split:∀{ds:List D} {vs:List V} {A:List Addr} {i:Nat} {d:D},aK P w H ds vs A->ds[i]?=some d->∃v A1 A2 A3,vs[i]?=some v/\A=A1++(A2++A3)/\aK P w H (ds.take i) (vs.take i) A1/\Own P w H d v A2/\aK P w H (ds.drop (i+1)) (vs.drop (i+1)) A3
 |[],_,_,_,_,_,e=>by simp at e
 |d::ds,_,_,0,_,⟨v,r,A1,A2,e,eA,h1,h2⟩,e'=>by
  simp at e';subst e' e eA;exact⟨v,[],A1,A2,by simp,by simp,⟨rfl,rfl⟩,h1,by simpa using h2⟩
 |d::ds,_,_,i+1,_,⟨v,r,A1,A2,e,eA,h1,h2⟩,e'=>by
  subst e eA;obtain⟨u,B1,B2,B3,g1,g2,g3,g4,g5⟩:=aK.split (i:=i) h2 (by simpa using e')
  exact⟨u,A1++B1,B2,B3,by simpa using g1,by rw[g2];simp[YN],by simpa using ⟨v,_,A1,B1,rfl,rfl,h1,g3⟩,g4,by simpa using g5⟩
end
inductive Kd where
 |own|dN|old|bor
inductive B where
 |val (y:Bool) (d:D)|own (d:D)|hand (ok:List Int->Prop)|shl (y:Bool) (d:D)
abbrev a7:=List (Option B)
structure Cfg where
 H0:Hp
 IO:Addr->Prop
 /-- is the result to be LJ own -/
 ro:Bool
 /-- what else Qa data keeps off -/
 U:Addr->Prop:=λ_=>False
abbrev Wn (own:Nat->List Addr):Addr->Prop:=λa=>∃i,a∈own i
def av (C:Cfg)(W:Addr->Prop):Kd->Addr->Prop
 |.own,a=>W a\/C.H0 a≠none
 |.dN,a=>W a\/C.H0 a≠none
 |.old,a=>W a
 |.bor,_=>False
def fU (C:Cfg)(W:Addr->Prop)(k:Kd)(a:Addr):Prop:=av C W k a\/C.U a
abbrev yk (y:Bool):Kd:=match y with|true=>.dN|false=>.old
def UX:D->HO->List V->Prop
 |.lst _,o,vs=>o=.lst vs
 |.dT ks _,o,vs=>o=.dT (ks.zip vs)/\ks.length=vs.length
 |.dK ks _,o,vs=>o=.dK (ks.zip vs)/\ks.length=vs.length
 |_,_,_=>False
def UY:D->List D
 |.lst ds=>ds
 |.dT _ ds=>ds
 |.dK _ ds=>ds
 |_=>[]
def KN (P:Xz)(w:XT)(W:Addr->Prop)(H:Hp)(d:D)(v:V)(A:List Addr):Prop:=∃a o vs,v=.ref a/\A=[a]/\H a=some o/\UX d o vs/\ai P w W H (UY d) vs
theorem KN.map {P:Xz}{w:XT}{W W':Addr->Prop}{H H':Hp}{d:D}{v:V}{A:List Addr}(h:KN P w W H d v A)(ha:∀c∈A,∀o,H c=some o->H' c=some o)(hr:∀ds vs,ai P w W H ds vs->ai P w W' H' ds vs):KN P w W' H' d v A :=
 let ⟨a,o,vs,e1,e2,e3,e4,r⟩:=h;⟨a,o,vs,e1,e2,ha a (by rw[e2];simp) o e3,e4,hr _ _ r⟩
theorem KN.rep {P:Xz}{w:XT}{W W':Addr->Prop}{H:Hp}{d:D}{v:V}{A:List Addr}(h:KN P w W H d v A)(ha:∀c∈A,¬ W' c)(hs:∀ds vs,ai P w W H ds vs->ai P w W' H ds vs):ay P w W' H d v:=by
 obtain⟨a,o,vs,rfl,rfl,e,sh,r⟩:=h;have na:=ha a (by simp)
 replace r:=hs _ _ r;cases d with
 |lst ds=>cases sh;exact⟨a,vs,rfl,e,na,r⟩
 |dT ks ds=>obtain⟨rfl,l⟩:=sh;exact⟨a,vs,rfl,e,l,na,r⟩
 |dK ks ds=>obtain⟨rfl,l⟩:=sh;exact⟨a,vs,rfl,e,l,na,r⟩
 |_=>exact sh.elim
structure b5 (P:Xz)(w:XT)(C:Cfg)(σ:St)(H:Hp)(β:a7)(own:Nat->List Addr):Prop where
 len:β.length=σ.length
 val:∀(i:Nat) (y:Bool) (d:D),β[i]?=some (some (.val y d))->∃v,σ[i]?=some (some v)/\ay P w (fU C (Wn own) (yk y)) H d v
 ow:∀(i:Nat) (d:D),β[i]?=some (some (.own d))->∃v,σ[i]?=some (some v)/\Own P w H d v (own i)/\∀c∈own i,C.H0 c=none
 nO:∀(i:Nat) (ok:List Int->Prop),β[i]?=some (some (.hand ok))->∃a ns,σ[i]?=some (some (.ref a))/\H a=some (.lst (ns.map V.int))/\ok ns/\own i=[a]/\((∀b,¬ C.IO b)\/C.IO a)
 dm:∀(i:Nat) (a:Addr),a∈own i->H a≠none/\(∀xs,H a≠some (.tup xs))/\(C.H0 a=none\/C.IO a)/\¬ C.U a
 m7:∀(i j:Nat) (a:Addr),a∈own i->a∈own j->i=j
 nz:∀i,(own i).Nodup
 kp:Kp C.IO C.H0 H
 iJ:∀a,C.H0 a≠none->H a≠none
 shl:∀(i:Nat) (y:Bool) (d:D),β[i]?=some (some (.shl y d))->∃v,σ[i]?=some (some v)/\KN P w (fU C (Wn own) (yk y)) H d v (own i)/\∀c∈own i,C.H0 c=none
abbrev SQ (X:Cx):=b5 X.prog X.w
section
variable {P:Xz}{w:XT}{C:Cfg}{σ:St}{H H':Hp}{β:a7}{own:Nat->List Addr}{W W':Addr->Prop}
theorem b5.zJ (b:b5 P w C σ H β own):Dm (Wn own) H:=λa ⟨i,h⟩=>(b.dm i a h).1
theorem b5.CH (b:b5 P w C σ H β own)(k:Kd):Dm (av C (Wn own) k) H:=λa h=>by
 cases k with
 |own=>exact h.elim (b.zJ a) (b.iJ a)
 |dN=>exact h.elim (b.zJ a) (b.iJ a)
 |old=>exact b.zJ a h
 |bor=>exact h.elim
theorem lC (s:∀a,W' a->W a)(k:Kd):∀a,av C W' k a->av C W k a:=λa h=>by
 cases k with
 |own=>exact h.imp (s a) id
 |dN=>exact h.imp (s a) id
 |old=>exact s a h
 |bor=>exact h
theorem jw (s:∀a,W' a->W a)(k:Kd):∀a,fU C W' k a->fU C W k a:=λa h=>h.imp (lC s k a) id
theorem b5.keep (b:b5 P w C σ H β own)(k:Kp (λa=>H a=none) H H')(kp:Kp C.IO H H')(dn:∀a,H a≠none->H' a≠none):b5 P w C σ H' β own:=by
 have ko:∀c o,H c=some o->H' c=some o:=λc o e=>k.out c o e (by rw[e];exact λz=>(nomatch z))
 have same:au H H':=ko;exact⟨b.len,λi y d e=>let ⟨v,h1,h2⟩:=b.val i y d e;⟨v,h1,h2.same same⟩,λi d e=>let ⟨v,h1,h2,h3⟩:=b.ow i d e;⟨v,h1,h2.keep (λ_ _ e=>same _ _ e) (λc _ o e=>same c o e),h3⟩,
  λi ok e=>let ⟨a,ns,h1,h2,h3⟩:=b.nO i ok e;⟨a,ns,h1,same _ _ h2,h3⟩,λi a h=>by
   obtain⟨h1,h2,h3⟩:=b.dm i a h;cases q:H a with
   |none=>exact absurd q h1
   |some o=>rw[same a o q];exact⟨λz=>(nomatch z),λxs z=>h2 xs (by rw[q];exact z),h3⟩,b.m7,b.nz,b.kp.trans kp,λa z=>dn a (b.iJ a z),λi y d e=>let ⟨v,h1,h2,h3⟩:=b.shl i y d e;⟨v,h1,h2.map (λc _ o e=>same c o e) (λ_ _ r=>r.same same),h3⟩⟩
theorem b5.same (b:b5 P w C σ H β own)(s:au H H'):b5 P w C σ H' β own:=b.keep s.kp s.kp λa z e=>z (s.free e)
theorem eQ {own:Nat->List Addr}{i:Nat}{a:Addr}(h:Wn (aS own i []) a):Wn own a:=let ⟨j,q⟩:=h;⟨j,(bV q).1⟩
theorem bD {own:Nat->List Addr}{i j:Nat}{A:List Addr}(h:i≠j):aS own i A j=own j:=by unfold aS;rw[if_neg (YS h)]
theorem os_eq {own:Nat->List Addr}{i:Nat}{A:List Addr}:aS own i A i=A:=by unfold aS;rw[if_pos rfl]
theorem b5.fo {i:Nat}{d:D}{v:V}{y:Bool}(b:b5 P w C σ H β own)(r:ay P w (fU C (Wn own) (yk y)) H d v):b5 P w C (σ.set i (some v)) H (β.set i (some (.val y d))) (aS own i []):=by
 have sub:∀y a,fU C (Wn (aS own i [])) (yk y) a->fU C (Wn own) (yk y) a:=λy=>jw (λa h=>eQ h) _;refine⟨by simp[b.len],λj y' d' e=>?_,λj d' e=>?_,λj ok e=>?_,λj a h=>b.dm j a (bV h).1,λj k a h1 h2=>b.m7 j k a (bV h1).1 (bV h2).1,λj=>?_,b.kp,b.iJ,λj y' d' e=>?_⟩
 ·by_cases aJ:i=j
  ·subst aJ;obtain⟨e',hl⟩:=bA e;cases e';exact⟨v,get_set (by rw[<- b.len];exact hl),r.aV (sub _)⟩
  ·rw[bp aJ]at e ⊢
   obtain⟨u,h1,h2⟩:=b.val j y' d' e;exact⟨u,h1,h2.aV (sub _)⟩
 ·by_cases aJ:i=j
  ·subst aJ;obtain⟨e',hl⟩:=bA e;cases e'
  ·rw[bp aJ]at e ⊢
   rw[bD aJ];exact b.ow j d' e
 ·by_cases aJ:i=j
  ·subst aJ;obtain⟨e',hl⟩:=bA e;cases e'
  ·rw[bp aJ]at e ⊢
   rw[bD aJ];exact b.nO j ok e
 ·by_cases aJ:i=j
  ·rw[aJ,os_eq];exact YF
  ·rw[bD aJ];exact b.nz j
 ·by_cases aJ:i=j
  ·subst aJ;obtain⟨e',hl⟩:=bA e;cases e'
  ·rw[bp aJ]at e ⊢
   rw[bD aJ];obtain⟨u,h1,h2,h3⟩:=b.shl j y' d' e;exact⟨u,h1,h2.map (λ_ _ _ z=>z) (λ_ _ r=>ai.aV (sub _) r),h3⟩
theorem b5.AE {i:Nat}{d:D}{v:V}{A:List Addr}(b:b5 P w C σ H β own)(r:Own P w H d v A)(nd:A.Nodup)(nw:∀c∈A,C.H0 c=none/\¬ Wn own c/\C.U c):
  b5 P w {C with U:=λ_=>False} (σ.set i (some v)) H (β.set i (some (.own d))) (aS own i A):=by
 have sub:∀y a,fU {C with U:=λ_=>False} (Wn (aS own i A)) (yk y) a->fU C (Wn own) (yk y) a:=λy a h=>by
  have q:∀a,Wn (aS own i A) a->Wn own a\/a∈A:=λa yR=>by
   obtain⟨j,q⟩:=yR
   by_cases aJ:i=j
   ·rw[aJ,os_eq]at q;exact .inr q
   ·rw[bD aJ]at q;exact .inl ⟨j,q⟩
  have q':∀a,Wn (aS own i A) a->Wn own a\/C.U a:=λa z=>(q a z).imp id λz=>(nw a z).2.2;rcases h with h|h
  ·cases y with
   |true=>exact h.elim (λz=>(q' a z).imp .inl id) λz=>.inl (.inr z)
   |false=>exact q' a h
  ·exact h.elim
 have mem:∀{j c},c∈aS own i A j->(i=j/\c∈A)\/(i≠j/\c∈own j):=λ{j c} h=>by
  by_cases aJ:i=j
  ·subst aJ;rw[os_eq]at h;exact .inl ⟨rfl,h⟩
  ·rw[bD aJ]at h;exact .inr ⟨aJ,h⟩
 refine⟨by simp[b.len],λj y' d' e=>?_,λj d' e=>?_,λj ok e=>?_,λj a h=>?_,λj k a h1 h2=>?_,λj=>?_,b.kp,b.iJ,λj y' d' e=>?_⟩
 ·by_cases aJ:i=j
  ·subst aJ;obtain⟨e',hl⟩:=bA e;cases e'
  ·rw[bp aJ]at e ⊢
   obtain⟨u,h1,h2⟩:=b.val j y' d' e;exact⟨u,h1,h2.aV (sub _)⟩
 ·by_cases aJ:i=j
  ·subst aJ;obtain⟨e',hl⟩:=bA e;cases e';rw[os_eq];exact⟨v,get_set (by rw[<- b.len];exact hl),r,λc hc=>(nw c hc).1⟩
  ·rw[bp aJ]at e ⊢
   rw[bD aJ];exact b.ow j d' e
 ·by_cases aJ:i=j
  ·subst aJ;obtain⟨e',hl⟩:=bA e;cases e'
  ·rw[bp aJ]at e ⊢
   rw[bD aJ];exact b.nO j ok e
 ·rcases mem h with⟨_,h⟩|⟨_,h⟩
  ·exact⟨(r.nB a h).1,(r.nB a h).2,.inl (nw a h).1,λz=>z⟩
  ·exact⟨(b.dm j a h).1,(b.dm j a h).2.1,(b.dm j a h).2.2.1,λz=>z⟩
 ·rcases mem h1 with⟨e1,h1⟩|⟨n1,h1⟩
  ·rcases mem h2 with⟨e2,h2⟩|⟨n2,h2⟩
   ·rw[<- e1,<- e2]
   ·exact absurd ⟨k,h2⟩ (nw a h1).2.1
  ·rcases mem h2 with⟨e2,h2⟩|⟨n2,h2⟩
   ·exact absurd ⟨j,h1⟩ (nw a h2).2.1
   ·exact b.m7 j k a h1 h2
 ·by_cases aJ:i=j
  ·rw[<- aJ,os_eq];exact nd
  ·rw[bD aJ];exact b.nz j
 ·by_cases aJ:i=j
  ·subst aJ;obtain⟨e',hl⟩:=bA e;cases e'
  ·rw[bp aJ]at e ⊢
   rw[bD aJ];obtain⟨u,h1,h2,h3⟩:=b.shl j y' d' e;exact⟨u,h1,h2.map (λ_ _ _ z=>z) (λ_ _ r=>ai.aV (sub _) r),h3⟩
theorem b5.freeze {i:Nat}{d:D}(b:b5 P w C σ H β own)(h:β[i]?=some (some (.own d))):b5 P w C σ H (β.set i (some (.val true d))) (aS own i []):=by
 obtain⟨v,h1,h2,h3⟩:=b.ow i d h;have e:σ.set i (some v)=σ:=by
  apply Zm;intro j;rw[ZY]
  by_cases aJ:i=j
  ·subst aJ;rw[if_pos rfl,h1];have:i<σ.length:=(XI.mp h1).1;rw[if_pos this]
  ·rw[if_neg aJ]
 have q:=b5.fo (i:=i) (d:=d) (v:=v) (y:=true) (own:=aS own i []) (C:=C) (P:=P) (w:=w) (σ:=σ) (H:=H) (β:=β.set i none);have b':b5 P w C σ H (β.set i none) (aS own i []):=by
  have sub:∀y a,fU C (Wn (aS own i [])) (yk y) a->fU C (Wn own) (yk y) a:=λy=>jw (λa h=>eQ h) _;refine⟨by simp[b.len],λj y' d' e=>?_,λj d' e=>?_,λj ok e=>?_,λj a h=>b.dm j a (bV h).1,λj k a h1 h2=>b.m7 j k a (bV h1).1 (bV h2).1,λj=>?_,b.kp,b.iJ,λj y' d' e=>?_⟩
  ·by_cases aJ:i=j
   ·subst aJ;obtain⟨e',hl⟩:=bA e;cases e'
   ·rw[bp aJ]at e;obtain⟨u,h1,h2⟩:=b.val j y' d' e;exact⟨u,h1,h2.aV (sub _)⟩
  ·by_cases aJ:i=j
   ·subst aJ;obtain⟨e',hl⟩:=bA e;cases e'
   ·rw[bp aJ]at e;rw[bD aJ];exact b.ow j d' e
  ·by_cases aJ:i=j
   ·subst aJ;obtain⟨e',hl⟩:=bA e;cases e'
   ·rw[bp aJ]at e;rw[bD aJ];exact b.nO j ok e
  ·by_cases aJ:i=j
   ·rw[aJ,os_eq];exact YF
   ·rw[bD aJ];exact b.nz j
  ·by_cases aJ:i=j
   ·subst aJ;obtain⟨e',hl⟩:=bA e;cases e'
   ·rw[bp aJ]at e;rw[bD aJ];obtain⟨u,h1,h2,h3⟩:=b.shl j y' d' e;exact⟨u,h1,h2.map (λ_ _ _ z=>z) (λ_ _ r=>ai.aV (sub _) r),h3⟩
 have q:=b5.fo (i:=i) (d:=d) (v:=v) (y:=true) b' (h2.rep λc hc z=>by
  rcases z with (z|z)|z
  ·obtain⟨j,hj⟩:=z;obtain⟨hj,ne⟩:=bV hj;exact ne (b.m7 j i c hj hc)
  ·exact z (h3 c hc)
  ·exact(b.dm i c hc).2.2.2 z)
 rw[e,List.set_set]at q;have eo:aS (aS own i []) i []=aS own i []:=by
  funext j
  by_cases aJ:i=j
  ·rw[<- aJ,os_eq,os_eq]
  ·rw[bD aJ,bD aJ]
 rwa [eo]at q
abbrev Cfg.u (C:Cfg)(U:Addr->Prop):Cfg:={C with U:=U}
theorem b5.rp {U:Addr->Prop}(b:b5 P w C σ H β own)(hU:∀a,U a->H a=none):b5 P w (C.u U) σ H β own :=
 ⟨b.len,λi y d e=>let ⟨v,h1,h2⟩:=b.val i y d e;⟨v,h1,ay.grow (λa z=>z.elim (λz=>.inl (.inl z)) λz=>.inr (hU a z)) h2⟩,b.ow,b.nO,λi a h=>let ⟨h1,h2,h3,_⟩:=b.dm i a h;⟨h1,h2,h3,λz=>h1 (hU a z)⟩,b.m7,b.nz,b.kp,b.iJ,λi y d e=>let ⟨v,h1,h2,h3⟩:=b.shl i y d e;⟨v,h1,h2.map (λ_ _ _ z=>z) (λ_ _ r=>ai.grow (λa z=>z.elim (λz=>.inl (.inl z)) λz=>.inr (hU a z)) r),h3⟩⟩
theorem b5.Vg {U:Addr->Prop}(b:b5 P w (C.u U) σ H β own):b5 P w (C.u λ_=>False) σ H β own :=
 ⟨b.len,λi y d e=>let ⟨v,h1,h2⟩:=b.val i y d e;⟨v,h1,ay.aV (λa z=>z.elim .inl λz=>z.elim) h2⟩,b.ow,b.nO,λi a h=>let ⟨h1,h2,h3,_⟩:=b.dm i a h;⟨h1,h2,h3,λz=>z⟩,b.m7,b.nz,b.kp,b.iJ,λi y d e=>let ⟨v,h1,h2,h3⟩:=b.shl i y d e;⟨v,h1,h2.map (λ_ _ _ z=>z) (λ_ _ r=>ai.aV (λa z=>z.elim .inl λz=>z.elim) r),h3⟩⟩
theorem b5.kS {i:Nat}{y:Bool}{d:D}(b:b5 P w C σ H β own)(e:β[i]?=some (some (.val y d))):∃v,σ[i]?=some (some v)/\ay P w (av C (Wn own) (yk y)) H d v:=let ⟨v,h1,h2⟩:=b.val i y d e;⟨v,h1,ay.aV (λa z=>.inl z) h2⟩
end
def KV (P:Xz)(w:XT)(C:Cfg)(Z:Hp×(Addr->Prop))(own:Nat->List Addr)(H:Hp):Kd->D->V->Prop
 |.own,d,v=>∃A,Own P w H d v A/\A.Nodup/\∀c∈A,Z.1 c=none/\¬ Wn own c/\C.H0 c=none
 |.dN,d,v=>ay P w (av C (Wn own) .dN) H d v
 |.old,d,v=>ay P w (av C (Wn own) .old) H d v
 |.bor,d,v=>ay P w (av C (Wn own) .bor) H d v
structure Sv (P:Xz)(w:XT)(C:Cfg)(σ:St)(H:Hp)(own:Nat->List Addr)(p:Bool)(β':a7)(H':Hp)(aQ:Nat->List Addr):Prop where
 sq:b5 P w C σ H' β' aQ
 sn:Sn (H,Wn own) H' (Wn aQ)
 pu:p=true->au H H'/\aQ=own
 le:∀a,Wn aQ a->Wn own a
abbrev Out (X:Cx):=Sv X.prog X.w
section
variable {X:Cx}{C:Cfg}{σ:St}{H H1 H2 H':Hp}{own aC a8:Nat->List Addr}{p p':Bool}{β β1 β2 β':a7}{Z:Hp×(Addr->Prop)}{d:D}{v:V}{k:Kd}{P:Xz}{w:XT}
theorem Out.refl (s:SQ X C σ H β own)(p:Bool):Out X C σ H own p β H own:=⟨s,Sn.refl,λ_=>⟨au.refl _,rfl⟩,λ_ z=>z⟩
theorem Out.trans (a:Out X C σ H own p β1 H1 aC)(b:Out X C σ H1 aC p' β2 H2 a8):Out X C σ H own (p&&p') β2 H2 a8:=⟨b.sq,a.sn.trans b.sn,λh=>by
 rw[Yn]at h;obtain⟨s1,e1⟩:=a.pu h.1;obtain⟨s2,e2⟩:=b.pu h.2;exact⟨s1.trans s2,e2.trans e1⟩,λc z=>a.le c (b.le c z)⟩
theorem Out.same (a:Out X C σ H own p β1 H1 aC)(s:au H1 H2):Out X C σ H own p β1 H2 aC:=⟨a.sq.same s,a.sn.same s,λh=>let ⟨s1,e1⟩:=a.pu h;⟨s1.trans s,e1⟩,a.le⟩
theorem Out.wk (a:Out X C σ H own p β1 H1 aC)(h:p'=true->p=true):Out X C σ H own p' β1 H1 aC:=⟨a.sq,a.sn,λz=>a.pu (h z),a.le⟩
theorem Out.UG {q:Bool}(a:Out X C σ H own p β1 H1 aC)(b:Out X C σ H1 aC p' β2 H2 a8)(h:q=true->p=true/\p'=true):Out X C σ H own q β2 H2 a8:=(a.trans b).wk λz=>by rw[(h z).1,(h z).2];rfl
theorem KV.rep (h:KV P w C Z own H k d v):ay P w (av C (Wn own) k) H d v:=by
 cases k with
 |own=>obtain⟨A,h1,h2,h3⟩:=h;exact h1.rep λc hc z=>z.elim (h3 c hc).2.1 λz=>z (h3 c hc).2.2
 |_=>exact h
theorem KV.dN (h:KV P w C Z own H .own d v):KV P w C Z own H .dN d v:=KV.rep (k:=.own) h
theorem KV.flat {W:Addr->Prop}(f:d.flat=true)(h:ay P w W H d v):KV P w C Z own H .own d v:=⟨[],c9 f h,YF,λc hc=>(nomatch hc)⟩
abbrev Kd.wk:Kd->Kd
 |.own=>.dN
 |.dN=>.dN
 |.old=>.old
 |.bor=>.bor
abbrev Kd.max:Kd->Kd->Kd
 |.bor,_=>.bor
 |_,.bor=>.bor
 |.old,_=>.old
 |_,.old=>.old
 |_,_=>.dN
theorem c5 {W:Addr->Prop}{a b:Kd}:∀c,av C W (a.max b) c->av C W a c:=λc h=>by
 cases a <;> cases b <;> first|exact h|exact h.elim|exact .inl h
theorem fF {W:Addr->Prop}{a b:Kd}:∀c,av C W (a.max b) c->av C W b c:=λc h=>by
 cases a <;> cases b <;> first|exact h|exact h.elim|exact .inl h
theorem KV.of (h:ay P w (av C (Wn own) k.wk) H d v):KV P w C Z own H k.wk d v:=by
 cases k <;> exact h
theorem KV.Lh (h:KV P w C Z own H k d v)(s:au H H'):KV P w C Z own H' k d v:=by
 cases k with
 |own=>obtain⟨A,h1,h2⟩:=h;exact⟨A,h1.keep (λb xs e=>s _ _ e) (λc _ o e=>s c o e),h2⟩
 |dN=>exact ay.same s h
 |old=>exact ay.same s h
 |bor=>exact ay.same s h
theorem KV.held (hk:k≠.bor)(h:KV P w C Z own H k d v)(n:Sn (H,Wn own) H2 (Wn a8)):KV P w C Z a8 H2 k d v:=by
 cases k with
 |own =>
  obtain⟨A,h1,h2,h3⟩:=h;refine⟨A,h1.keep n.k.tup (λc hc o e=>n.k.out c o e λz=>z.elim (h3 c hc).2.1 λz=>(h1.nB c hc).1 z),h2,λc hc=>⟨(h3 c hc).1,λz=>(n.w c z).elim (h3 c hc).2.1 λz=>(h1.nB c hc).1 z,(h3 c hc).2.2⟩⟩
 |dN =>
  have g:ay P w (λa=>av C (Wn own) .dN a\/H a=none) H d v:=ay.grow (λb z=>z) h;exact ay.aV (λb z=>z.elim (λz=>(n.w b z).imp .inl id) λz=>.inl (.inr z)) (ay.keep (n.k.mono λb z=>z.imp .inl id) g)
 |old=>exact held (W:=Wn own) h n
 |bor=>exact absurd rfl hk
theorem KV.Nn (h:KV P w C Z own H k d v)(s:au H H2)(e:a8=own):KV P w C Z a8 H2 k d v:=by rw[e];exact h.Lh s
abbrev hold (k:Kd)(p:Bool):Prop:=match k,p with
 |.bor,false=>False
 |_,_=>True
theorem KV.ho (h:KV P w C Z own H k d v)(o:Out X C σ H own p β' H2 a8)(hh:hold k p):KV P w C Z a8 H2 k d v:=by
 cases p with
 |true=>obtain⟨s,e⟩:=o.pu rfl;exact h.Nn s e
 |false=>exact h.held (by rintro rfl;exact hh) o.sn
theorem KV.later (h:KV P w C (H1,Wn aC) own H k d v)(n:Sn Z H1 (Wn aC)):KV P w C Z own H k d v:=by
 cases k with
 |own=>obtain⟨A,h1,h2,h3⟩:=h;exact⟨A,h1,h2,λc hc=>⟨n.free (h3 c hc).1,(h3 c hc).2⟩⟩
 |_=>exact h
end
abbrev aR:=a7->(D->Kd->a7->Prop)->Prop
abbrev aW:=a7->(Bool->a7->Prop)->Prop
abbrev cO:=a7->(List D->List Kd->a7->Prop)->Prop
def tQ (X:Cx)(C:Cfg)(p:Bool)(φ:aR):TE:=λσ H Q=>∃β own,SQ X C σ H β own/\φ β λd k β'=>∀v H' aQ,Out X C σ H own p β' H' aQ->KV X.prog X.w C (H,Wn own) aQ H' k d v->Q v H'
def iT (X:Cx)(C:Cfg)(p:Bool)(φ:aW):TT:=λσ H Q=>∃β own,SQ X C σ H β own/\φ β λb β'=>∀H' aQ,Out X C σ H own p β' H' aQ->Q b H'
def KF (P:Xz)(w:XT)(C:Cfg)(own:Nat->List Addr)(H:Hp):List Kd->List D->List V->List Addr->Prop
 |[],ds,vs,A=>ds=[]/\vs=[]/\A=[]
 |k::ks,ds,vs,A=>∃d dr v vr A1 A2,ds=d::dr/\vs=v::vr/\A=A1++A2/\(match k with | .own=>Own P w H d v A1|k=>A1=[]/\ay P w (av C (Wn own) k) H d v)/\KF P w C own H ks dr vr A2
def uq (P:Xz)(w:XT)(C:Cfg)(Z:Hp×(Addr->Prop))(own:Nat->List Addr)(H:Hp)(ks:List Kd)(ds:List D)(vs:List V):Prop :=
 ∃A,KF P w C own H ks ds vs A/\A.Nodup/\∀c∈A,Z.1 c=none/\¬ Wn own c/\C.H0 c=none
def we (X:Cx)(C:Cfg)(p:Bool)(φ:cO):TA:=λσ H Q=>∃β own,SQ X C σ H β own/\φ β λds ks β'=>∀vs H' aQ,Out X C σ H own p β' H' aQ->uq X.prog X.w C (H,Wn own) aQ H' ks ds vs->Q vs H'
section
variable {C:Cfg}{H H1:Hp}{own aC:Nat->List Addr}{Z:Hp×(Addr->Prop)}{d:D}{v:V}{k:Kd}{P:Xz}{w:XT}{ks:List Kd}{ds:List D}{vs:List V}
theorem uq.nil:uq P w C Z own H [] [] []:=⟨[],⟨rfl,rfl,rfl⟩,YF,λc hc=>(nomatch hc)⟩
theorem KF.nB:∀{ks:List Kd} {ds:List D} {vs:List V} {A:List Addr},KF P w C own H ks ds vs A->∀c∈A,H c≠none
 |[],_,_,_,⟨_,_,e⟩,c,hc=>by rw[e]at hc;cases hc
 |k::ks,_,_,_,⟨d,dr,v,vr,A1,A2,rfl,rfl,rfl,h1,h2⟩,c,hc=>by
  rcases XW.mp hc with hc|hc
  ·cases k with
   |own=>exact(Own.nB h1 c hc).1
   |_=>rw[h1.1]at hc;cases hc
  ·exact KF.nB h2 c hc
theorem uq.cons (h1:KV P w C Z aC H1 k d v)(n:Sn (H1,Wn aC) H (Wn own))(Fn:KV P w C Z own H k d v)(h2:uq P w C (H1,Wn aC) own H ks ds vs)(n0:Sn Z H1 (Wn aC)):uq P w C Z own H (k::ks) (d::ds) (v::vs):=by
 obtain⟨A2,f2,IA,q2⟩:=h2;have z2:∀c∈A2,Z.1 c=none/\¬ Wn own c/\C.H0 c=none:=λc hc=>⟨n0.free (q2 c hc).1,(q2 c hc).2⟩;cases k with
 |own =>
  obtain⟨A1,o1,ET,q1⟩:=h1;obtain⟨Xr,W8,Vk,S8⟩:=(show KV P w C Z own H .own d v from KV.held (k:=.own) (λz=>(nomatch z)) (⟨A1,o1,ET,q1⟩:KV P w C Z aC H1 .own d v) n)
  have P7:Own P w H d v A1:=o1.keep n.k.tup (λc hc o e=>n.k.out c o e λz=>z.elim (q1 c hc).2.1 λz=>(o1.nB c hc).1 z);refine⟨A1++A2,⟨d,ds,v,vs,A1,A2,rfl,rfl,rfl,P7,f2⟩,YM.mpr ⟨ET,IA,λa ha b hb e=>?_⟩,λc hc=>?_⟩
  ·subst e;exact(o1.nB a ha).1 (q2 a hb).1
  ·rcases XW.mp hc with hc|hc
   ·exact⟨(q1 c hc).1,λz=>(n.w c z).elim (q1 c hc).2.1 λz=>(o1.nB c hc).1 z,(q1 c hc).2.2⟩
   ·exact z2 c hc
 |dN=>exact⟨A2,⟨d,ds,v,vs,[],A2,rfl,rfl,rfl,⟨rfl,Fn⟩,f2⟩,IA,z2⟩
 |old=>exact⟨A2,⟨d,ds,v,vs,[],A2,rfl,rfl,rfl,⟨rfl,Fn⟩,f2⟩,IA,z2⟩
 |bor=>exact⟨A2,⟨d,ds,v,vs,[],A2,rfl,rfl,rfl,⟨rfl,Fn⟩,f2⟩,IA,z2⟩
abbrev iw:List Kd->Kd
 |[]=>.dN
 |k::ks=>Kd.max k (iw ks)
theorem KF.jH:∀{ks:List Kd} {ds:List D} {vs:List V} {A:List Addr},KF P w C own H ks ds vs A->(∀c∈A,¬ Wn own c/\C.H0 c=none)->ai P w (av C (Wn own) (iw ks)) H ds vs
 |[],_,_,_,⟨e1,e2,e⟩,_=>by rw[e1,e2];rfl
 |k::ks,_,_,_,⟨d,dr,v,vr,A1,A2,rfl,rfl,rfl,h1,h2⟩,hA=>by
  refine⟨v,vr,rfl,?_,ai.aV fF (KF.jH h2 λc hc=>hA c (Yk _ hc))⟩;cases k with
  |own=>exact ay.aV c5 (Own.rep (W:=av C (Wn own) .own) (λc hc z=>z.elim (hA c (YU _ hc)).1 λz=>z (hA c (YU _ hc)).2) h1)
  |dN=>exact ay.aV (c5 (a:=.dN)) h1.2
  |old=>exact ay.aV (c5 (a:=.old)) h1.2
  |bor=>exact ay.aV (c5 (a:=.bor)) h1.2
theorem uq.jH (h:uq P w C Z own H ks ds vs):ai P w (av C (Wn own) (iw ks)) H ds vs:=let ⟨A,h1,_,h3⟩:=h;h1.jH λc hc=>(h3 c hc).2
theorem uq.bor (h:uq P w C Z own H ks ds vs):ai P w (λ_=>False) H ds vs:=ai.aV (λ_ z=>z.elim) h.jH
def xP:List Kd->List D->Prop
 |k::ks,d::ds=>(match k with | .own=>True|_=>d.flat=true)/\xP ks ds
 |_,_=>True
theorem KF.Ih:∀{ks:List Kd} {ds:List D} {vs:List V} {A:List Addr},KF P w C own H ks ds vs A->xP ks ds->aK P w H ds vs A
 |[],_,_,_,⟨e1,e2,e⟩,_=>by rw[e1,e2,e];exact⟨rfl,rfl⟩
 |k::ks,_,_,_,⟨d,dr,v,vr,A1,A2,rfl,rfl,rfl,h1,h2⟩,⟨f1,f2⟩=>by
  refine⟨v,vr,A1,A2,rfl,rfl,?_,KF.Ih h2 f2⟩;cases k with
  |own=>exact h1
  |dN=>rw[h1.1];exact c9 f1 h1.2
  |old=>rw[h1.1];exact c9 f1 h1.2
  |bor=>rw[h1.1];exact c9 f1 h1.2
theorem jk:∀{ks:List Kd},(iw ks).wk=iw ks
 |[]=>rfl
 |k::ks=>by cases k <;> cases h:iw ks <;> simp[iw,Kd.max,h]
def BM (ks:List Kd)(ds:List D)(K:Kd->Prop):Prop:=match ks.all (λk=>match k with | .own=>true|_=>false)with
 |true=>K .own
 |false=>(xP ks ds/\K .own)\/K (iw ks)
theorem BM.mono {ks:List Kd}{ds:List D}{K K':Kd->Prop}(k:∀x,K x->K' x)(h:BM ks ds K):BM ks ds K':=by
 unfold BM at *
 split
 ·next e=>rw[e]at h;exact k _ h
 ·next e=>rw[e]at h;exact h.imp (λz=>⟨z.1,k _ z.2⟩) (k _)
theorem BM.of {ks:List Kd}{ds:List D}{K:Kd->Prop}(h:BM ks ds K):(xP ks ds/\K .own)\/K (iw ks):=by
 unfold BM at h
 split at h
 ·next e =>
  refine .inl ⟨?_,h⟩
  clear h
  induction ks generalizing ds with
  |nil=>cases ds <;> trivial
  |cons k ks ih =>
   cases ds with
   |nil=>trivial
   |cons d ds =>
    rw[List.all_cons,Yn]at e;refine⟨?_,ih e.2⟩;have e1:=e.1;cases k <;> first|trivial|cases e1
 ·exact h
end
structure PQ (X:Cx)(C:Cfg)(p:Bool)(e:Expr)(φ:aR):Prop where
 mono:∀β R R',(∀d k β,R d k β->R' d k β)->φ β R->φ β R'
 pe:PE X e (tQ X C p φ)
structure uz (X:Cx)(C:Cfg)(p:Bool)(e:Expr)(φ:aW):Prop where
 mono:∀β R R',(∀d β,R d β->R' d β)->φ β R->φ β R'
 pt:PT X e (iT X C p φ)
structure xN (X:Cx)(C:Cfg)(p:Bool)(e:Expr)(φ:aW):Prop where
 mono:∀β R R',(∀d β,R d β->R' d β)->φ β R->φ β R'
 pw:PW X e (iT X C p φ)
structure uA (X:Cx)(C:Cfg)(p:Bool)(es:List Expr)(φ:cO):Prop where
 mono:∀β R R',(∀d k β,R d k β->R' d k β)->φ β R->φ β R'
 pa:PA X es (we X C p φ)
section
variable {X:Cx}{C:Cfg}{a b c e:Expr}{es:List Expr}{φ φa φb:aR}{τ τa τb:aW}{φs:cO}{pos:Pos}{σ:St}{H H':Hp}{β:a7}{own:Nat->List Addr}{p p':Bool}
theorem tQ.of (h:PQ X C p e φ)(s:SQ X C σ H β own){R:D->Kd->a7->Prop}{Q:VK}(hr:φ β R)(k:∀d kd β' v H' aQ,R d kd β'->Out X C σ H own p β' H' aQ->KV X.prog X.w C (H,Wn own) aQ H' kd d v->Q v H'):tQ X C p φ σ H Q :=
 ⟨β,own,s,h.mono β _ _ (λd kd β' hd v H' aQ o r=>k d kd β' v H' aQ hd o r) hr⟩
theorem iT.of (h:uz X C p e τ)(s:SQ X C σ H β own){R:Bool->a7->Prop}{Q:Bool->Hp->Prop}(hr:τ β R)(k:∀t β' H' aQ,R t β'->Out X C σ H own p β' H' aQ->Q t H'):iT X C p τ σ H Q :=
 ⟨β,own,s,h.mono β _ _ (λt β' hd H' aQ o=>k t β' H' aQ hd o) hr⟩
theorem we.of (h:uA X C p es φs)(s:SQ X C σ H β own){R:List D->List Kd->a7->Prop}{Q:List V->Hp->Prop}(hr:φs β R)(k:∀ds ks β' vs H' aQ,R ds ks β'->Out X C σ H own p β' H' aQ->uq X.prog X.w C (H,Wn own) aQ H' ks ds vs->Q vs H'):we X C p φs σ H Q :=
 ⟨β,own,s,h.mono β _ _ (λd kd β' hd v H' aQ o r=>k d kd β' v H' aQ hd o r) hr⟩
theorem xN.t (h:xN X C p e τ):uz X C p e τ:=⟨h.mono,h.pw.pt⟩
abbrev vk (y:Bool):D->Kd
 |.int _=>.own
 |.bl _=>.own
 |.bP=>.own
 |.str _=>.own
 |_=>yk y
def qB:B->(D->Kd->Prop)->Prop
 |.val y d,K=>K d (vk y d)
 |.own d,K=>K d .bor
 |.hand _,_=>False
 |.shl _ _,_=>False
def AM (i:Nat):aR:=λβ R=>∃b,β[i]?=some (some b)/\qB b λd k=>R d k β
theorem IS {P:Xz}{w:XT}{Z:Hp×(Addr->Prop)}{y:Bool}{d:D}{v:V}(h:ay P w (av C (Wn own) (yk y)) H d v):KV P w C Z own H (vk y d) d v:=by
 cases d with
 |int i=>exact KV.flat rfl h
 |bl i=>exact KV.flat rfl h
 |bP=>exact KV.flat rfl h
 |str i=>exact KV.flat rfl h
 |_=>cases y <;> exact h
theorem ab {i:Nat}{x:Str}(hN:X.N[i]?=some x:=by rfl)(hv:vW X.env.scope x:=by first|exact .inl rfl|exact .inr (.inl rfl)|exact .inr (.inr rfl))(hd:(x==("__debug__" : Str))=false:=by decide)(gZ:(x==("__classdict__" : Str))=false:=by decide):
  PQ X C true (.Name x pos) (AM i):=⟨λβ R R' k yR=>by obtain⟨b,e,h⟩:=yR;exact⟨b,e,by cases b <;> first|exact k _ _ _ h|exact h⟩,(dj hN hv hd gZ).pre λσ H Q BX=>by
 obtain⟨β,own,s,b,e,q⟩:=BX;cases b with
 |val y d=>obtain⟨v,h1,h2⟩:=s.kS e;exact⟨v,h1,q v H own (Out.refl s _) (IS h2)⟩
 |own d=>obtain⟨v,h1,h2,h3⟩:=s.ow i d e;exact⟨v,h1,q v H own (Out.refl s _) (h2.rep λ_ _ z=>z)⟩
 |hand ok=>exact q.elim
 |shl _ _=>exact q.elim⟩
def PU (i:Nat):aR:=λβ R=>∃d,β[i]?=some (some (.own d))/\R d .dN (β.set i (some (.val true d)))
theorem A8 {i:Nat}{x:Str}(hN:X.N[i]?=some x:=by rfl)(hv:vW X.env.scope x:=by first|exact .inl rfl|exact .inr (.inl rfl)|exact .inr (.inr rfl))(hd:(x==("__debug__" : Str))=false:=by decide)(gZ:(x==("__classdict__" : Str))=false:=by decide):
  PQ X C false (.Name x pos) (PU i):=⟨λβ R R' k Jn=>by obtain⟨b,e,h⟩:=Jn;exact⟨b,e,k _ _ _ h⟩,(dj hN hv hd gZ).pre λσ H Q Jm=>by
 obtain⟨β,own,s,d,e,q⟩:=Jm;have f:=s.freeze e;obtain⟨v,h1,h2⟩:=f.kS (y:=true) (get_set (by rw[s.len];obtain⟨v,h1,_⟩:=s.ow i d e;exact(XI.mp h1).1))
 exact⟨v,h1,q v H _ ⟨f,⟨λb z=>.inl (eQ z),Kp.refl,λ_ z=>z⟩,λz=>(nomatch z),λ_ z=>eQ z⟩ h2⟩⟩
def qC (d:D):aR:=λβ R=>R d .own β
theorem ag {i j}:PQ X C true (.Constant (.int i) j pos) (qC (.int i)):=⟨λρ R R' k h=>k _ _ _ h,bc.pre λσ H Q Jl=>by obtain⟨β,own,s,q⟩:=Jl;exact q _ H own (Out.refl s _) (KV.flat (W:=λ_=>False) rfl rfl)⟩
theorem wH {b j}:PQ X C true (.Constant (.bool b) j pos) (qC (.bl b)):=⟨λρ R R' k h=>k _ _ _ h,Gb.pre λσ H Q QI=>by obtain⟨β,own,s,q⟩:=QI;exact q _ H own (Out.refl s _) (KV.flat (W:=λ_=>False) rfl rfl)⟩
theorem l7 {j}:PQ X C true (.Constant .none j pos) (qC .bP):=⟨λρ R R' k h=>k _ _ _ h,Ic.pre λσ H Q Jk=>by obtain⟨β,own,s,q⟩:=Jk;exact q _ H own (Out.refl s _) (KV.flat (W:=λ_=>False) rfl rfl)⟩
def AK (X:Cx)(f:D->D->Option D)(N:D->Prop):R2:=λx y H Q=>∃W d1 d2 d,Dm W H/\Rp X W H d1 x/\Rp X W H d2 y/\f d1 d2=some d/\∀v H',au H H'->Rp X W H' d v->(N d->Rp X (λa=>H a≠none) H' d v)->Q v H'
abbrev OU (X:Cx)(f:Xv->Xv->Sem Xv)(g:D->D->Option D)(N:D->Prop):Prop:=iH X f (AK X g N)
theorem bK.m {f:Xv->Xv->Sem Xv}{g:D->D->Option D}(h:bK X f g):OU X f g NF:=λpins s σ H x y v u Q I rx ry ⟨W,d1,d2,d,hd,r1,r2,e,q⟩ =>
 h pins s σ H x y v u Q I rx ry ⟨W,d1,d2,d,hd,r1,r2,e,λv H' s r=>q v H' s r λf=>ay.flat f r⟩
def kN (N:D->Prop)(d:D)(k:Kd)(K:Kd->Prop):Prop:=match d with
 |.int _=>K .own
 |.bl _=>K .own
 |.bP=>K .own
 |.str _=>K .own
 |.tup _=>K k
 |_=>(N d/\K .own)\/K k
theorem kN.mono {N:D->Prop}{d:D}{k:Kd}{K K':Kd->Prop}(h:∀x,K x->K' x)(q:kN N d k K):kN N d k K':=by
 cases d <;> first|exact h _ q|exact q.imp (λz=>⟨z.1,h _ z.2⟩) (h _)
theorem i7 {P:Xz}{w:XT}{Z:Hp×(Addr->Prop)}{d:D}{v:V}(hd:Dm (Wn own) H)(h0:∀a,C.H0 a≠none->H a≠none)(hz:∀a,Z.1 a≠none->H a≠none)(f:NL d)(r:ay P w (λa=>H a≠none) H' d v):KV P w C Z own H' .own d v:=by
 have nn:∀{a:Addr},¬ (H a≠none)->H a=none:=λ{a} h=>Yu λz=>h z;have cl:∀{a:Addr},H a=none->Z.1 a=none/\¬ Wn own a/\C.H0 a=none:=λ{a} h=>⟨Yu λz=>hz a z h,λz=>hd a z h,Yu λz=>h0 a z h⟩;cases d with
 |lst ds =>
  obtain⟨a,vs,rfl,e,n,q⟩:=r;exact⟨[a],⟨a,vs,[],rfl,e,rfl,gI f q⟩,by simp,λc hc=>by rw[XQ.mp hc];exact cl (nn n)⟩
 |_=>exact KV.flat f r
theorem KV.kN {N:D->Prop}{P:Xz}{w:XT}{Z:Hp×(Addr->Prop)}{d:D}{v:V}{k:Kd}{K:Kd->Prop}(hk:k.wk=k)(r:ay P w (av C (Wn own) k) H' d v)(ro:N d->KV P w C Z own H' .own d v)(q:kN N d k K):∃k',K k'/\KV P w C Z own H' k' d v:=by
 have rk:KV P w C Z own H' k d v:=by rw[<- hk];exact KV.of (by rw[hk];exact r)
 cases d with
 |int i=>exact⟨_,q,KV.flat rfl r⟩
 |bl i=>exact⟨_,q,KV.flat rfl r⟩
 |bP=>exact⟨_,q,KV.flat rfl r⟩
 |str i=>exact⟨_,q,KV.flat rfl r⟩
 |tup ds=>exact⟨_,q,rk⟩
 |_=>exact q.elim (λz=>⟨_,z.2,ro z.1⟩) λz=>⟨_,z,rk⟩
structure Dw (N:D->Prop):Prop where
 nl:∀d,N d->NL d
theorem aG:Dw NL:=⟨λ_ h=>h⟩
theorem af:Dw NF:=⟨λd h=>by cases d <;> first|exact h|cases h⟩
theorem Gk {a b:Kd}:(a.max b).wk=a.max b:=by cases a <;> cases b <;> rfl
def zF (g:D->D->Option D)(N:D->Prop)(pb:Bool)(φa φb:aR):aR:=λβ R=>φa β λx ka β1=>hold ka pb/\φb β1 λy kb β2=>∃d,g x y=some d/\kN N d (ka.max kb) λk=>R d k β2
variable {g:D->D->Option D}{N:D->Prop}
theorem zF.mono (ha:PQ X C p a φa)(hb:PQ X C p' b φb):∀β R R',(∀d k β,R d k β->R' d k β)->zF g N p' φa φb β R->zF g N p' φa φb β R':=λβ R R' k h =>
 ha.mono β _ _ (λx ka β1 hx=>⟨hx.1,hb.mono β1 _ _ (λy kb β2 B5=>by obtain⟨d,e,q⟩:=B5;exact⟨d,e,q.mono λ_ z=>k _ _ _ z⟩) hx.2⟩) h
theorem uZ (hn:Dw N)(ha:PQ X C p a φa)(hb:PQ X C p' b φb):∀σ H Q,tQ X C (p&&p') (zF g N p' φa φb) σ H Q->K2 (AK X g N) (tQ X C p φa) (tQ X C p' φb) σ H Q:=λσ H Q ⟨β,own,s,h⟩ =>
 tQ.of ha s h λd1 k1 β1 v1 H1 aC ⟨hh,h1⟩ o1 r1=>tQ.of hb o1.sq h1 λd2 k2 β2 v2 H2 a8 B4 o2 r2=>by
  obtain⟨d,e,q⟩:=B4;have HR:=r1.ho o2 hh;refine⟨av C (Wn a8) (k1.max k2),d1,d2,d,o2.sq.CH _,ay.aV c5 HR.rep,ay.aV fF r2.rep,e,λv H' s3 r3 n3=>?_⟩;have o:=(o1.trans o2).same s3;obtain⟨k,q,r⟩:=KV.kN (Z:=(H,Wn own)) Gk r3 (λn=>i7 (H:=H2) o2.sq.zJ o2.sq.iJ (λa z=>o2.sn.d a (o1.sn.d a z)) (hn.nl _ n) (n3 n)) q;exact q v H' a8 o r
theorem aE {op:Operator}(hn:Dw N)(ho:OU X (ZE op) g N)(ha:PQ X C p a φa)(hb:PQ X C p' b φb):PQ X C (p&&p') (.BinOp a op b pos) (zF g N p' φa φb):=⟨zF.mono ha hb,(c8 ho ha.pe hb.pe).pre (uZ hn ha hb)⟩
theorem il {op:aat}(hn:Dw N)(ho:OU X (YK op) g N)(ha:PQ X C p a φa)(hb:PQ X C p' b φb)(hm:ZS op b=false:=by first|exact sv _ (by decide) (by decide)|rfl):PQ X C (p&&p') (.Compare a [op] [b] pos) (zF g N p' φa φb) :=
 ⟨zF.mono ha hb,(wO ho ha.pe hb.pe hm).pre (uZ hn ha hb)⟩
theorem aF (hn:Dw N)(ho:G9 X (AK X g N))(ha:PQ X C p a φa)(hb:PQ X C p' b φb)(hs:lE b:=by exact λ_ _=>rfl):PQ X C (p&&p') (.Subscript a b pos) (zF g N p' φa φb):=⟨zF.mono ha hb,(kz ho ha.pe hb.pe hs).pre (uZ hn ha hb)⟩
def AN (φ:aR):aW:=λβ R=>φ β λd k β'=>∃b,d=.bl b/\R b β'
theorem aI {op:aat}(hn:Dw N)(ho:OU X (YK op) g N)(ha:PQ X C p a φa)(hb:PQ X C p' b φb)(hm:ZS op b=false:=by first|exact sv _ (by decide) (by decide)|rfl):uz X C (p&&p') (.Compare a [op] [b] pos) (AN (zF g N p' φa φb)) :=
 ⟨λβ R R' k h=>zF.mono ha hb β _ _ (λd kd β B0=>by obtain⟨t,e,q⟩:=B0;exact⟨t,e,k _ _ q⟩) h,(wB ho ha.pe hb.pe hm).pre λσ H Q ⟨β,own,s,h⟩ =>
  tQ.of ha s h λd1 k1 β1 v1 H1 aC ⟨hh,h1⟩ o1 r1=>tQ.of hb o1.sq h1 λd2 k2 β2 v2 H2 a8 Jx o2 r2=>by
   obtain⟨d,e,q⟩:=Jx;have HR:=r1.ho o2 hh;refine⟨av C (Wn a8) (k1.max k2),d1,d2,d,o2.sq.CH _,ay.aV c5 HR.rep,ay.aV fF r2.rep,e,λv H' s3 r3 n3=>?_⟩;obtain⟨k,⟨t,et,q'⟩,r⟩:=KV.kN (Z:=(H,Wn own)) Gk r3 (λn=>i7 (H:=H2) o2.sq.zJ o2.sq.iJ (λa z=>o2.sn.d a (o1.sn.d a z)) (hn.nl _ n) (n3 n)) q;subst et;cases r3;exact⟨t,rfl,q' H' a8 ((o1.trans o2).same s3)⟩⟩
theorem gG (ha:PQ X C p a φa)(he:∀whole,isTrue a X.env whole=(do let v <- whole;aaL a.pos;holding [v] (truthy v)):=by intro _;rfl):uz X C p a (AN φa) :=
 ⟨λβ R R' k h=>ha.mono β _ _ (λd kd β' Jw=>by obtain⟨b,e,q⟩:=Jw;exact⟨b,e,k _ _ q⟩) h,(HW ha.pe he).pre λσ H Q ⟨β,own,s,h⟩=>tQ.of ha s h λd k β' v H1 aC Ju o1 r1=>by
  obtain⟨b,e,q⟩:=Ju;subst e;cases r1.rep;exact⟨b,rfl,q H1 aC o1⟩⟩
def Lp (τ:aW):aW:=λβ R=>τ β λb β'=>R (!b) β'
theorem lh (ha:uz X C p a τ):uz X C p (.UnaryOp .Not a pos) (Lp τ) :=
 ⟨λβ R R' k h=>ha.mono β _ _ (λb β' q=>k _ _ q) h,(HX ha.pt).pre λσ H Q Jt=>by obtain⟨β,own,s,h⟩:=Jt;exact iT.of ha s h λb β' H1 aC q o=>q H1 aC o⟩
variable {rest:List Expr}
def Lv (τa τb:aW):aW:=λβ R=>τa β λt β1=>if t=true then τb β1 R else R false β1
def PL (τa τb:aW):aW:=λβ R=>τa β λt β1=>if t=true then R true β1 else τb β1 R
theorem l3 (ha:uz X C p a τ):xN X C p (.BoolOp .And [a] pos) τ:=⟨ha.mono,pw_and1 ha.pt⟩
theorem qp (ha:uz X C p a τ):xN X C p (.BoolOp .Or [a] pos) τ:=⟨ha.mono,pw_or1 ha.pt⟩
theorem C4 {p q:Bool}(z:(p&&q)=true):p=true:=by cases p <;> first|rfl|cases z
theorem Sl {p q:Bool}(z:(p&&q)=true):q=true:=by cases p <;> first|exact z|cases z
theorem qq (ha:uz X C p a τa)(hb:xN X C p' (.BoolOp .And (b::rest) pos) τb):xN X C (p&&p') (.BoolOp .And (a::b::rest) pos) (Lv τa τb) :=
 ⟨λβ R R' k h=>ha.mono β _ _ (λt β1 q=>by
   cases t
   ·exact k _ _ q
   ·exact hb.mono β1 _ _ k q) h,(pw_and ha.pt hb.pw).pre λσ H Q ⟨β,own,s,h⟩=>iT.of ha s h λt β1 H1 aC q o1=>by
  cases t
  ·exact q H1 aC (o1.wk C4)
  ·exact iT.of hb.t o1.sq q λt' β2 H2 a8 q2 o2=>q2 H2 a8 (o1.trans o2)⟩
theorem u6 (ha:uz X C p a τa)(hb:xN X C p' (.BoolOp .Or (b::rest) pos) τb):xN X C (p&&p') (.BoolOp .Or (a::b::rest) pos) (PL τa τb) :=
 ⟨λβ R R' k h=>ha.mono β _ _ (λt β1 q=>by
   cases t
   ·exact hb.mono β1 _ _ k q
   ·exact k _ _ q) h,(pw_or ha.pt hb.pw).pre λσ H Q ⟨β,own,s,h⟩=>iT.of ha s h λt β1 H1 aC q o1=>by
  cases t
  ·exact iT.of hb.t o1.sq q λt' β2 H2 a8 q2 o2=>q2 H2 a8 (o1.trans o2)
  ·exact q H1 aC (o1.wk C4)⟩
def PX (φa φb:aR):aR:=λβ R=>φa β λx _ β1=>∃c,x=.bl c/\if c=true then φb β1 R else R (.bl false) .own β1
def U_ (φa φb:aR):aR:=λβ R=>φa β λx _ β1=>∃c,x=.bl c/\if c=true then R (.bl true) .own β1 else φb β1 R
def PM (φa:aR):aR:=λβ R=>φa β λx _ β1=>∃c,x=.bl c/\R (.bl (!c)) .own β1
theorem qt {op}(h:PQ X C p a φ):PQ X C p (.BoolOp op [a] pos) φ:=⟨h.mono,Ia h.pe⟩
theorem w6 {P:Xz}{w:XT}{Z:Hp×(Addr->Prop)}{b:Bool}:KV P w C Z own H .own (.bl b) (.bl b):=KV.flat (W:=λ_=>False) rfl rfl
theorem u9 (ha:PQ X C p a φa)(hb:PQ X C p' (.BoolOp .And (b::rest) pos) φb):PQ X C (p&&p') (.BoolOp .And (a::b::rest) pos) (PX φa φb) :=
 ⟨λβ R R' k h=>ha.mono β _ _ (λd kd β1 ⟨c,e,q⟩=>⟨c,e,by
   cases c
   ·exact k _ _ _ q
   ·exact hb.mono β1 _ _ k q⟩) h,(Ig ha.pe hb.pe).pre λσ H Q ⟨β,own,s,h⟩=>tQ.of ha s h λd kd β1 v H1 aC Js o1 r1=>by
  obtain⟨c,e,q⟩:=Js;subst e;cases r1.rep;refine⟨c,rfl,?_⟩;cases c
  ·exact q _ H1 aC (o1.wk C4) w6
  ·exact tQ.of hb o1.sq q λd2 k2 β2 v2 H2 a8 q2 o2 r2=>q2 v2 H2 a8 (o1.trans o2) (r2.later o1.sn)⟩
theorem A7 (ha:PQ X C p a φa)(hb:PQ X C p' (.BoolOp .Or (b::rest) pos) φb):PQ X C (p&&p') (.BoolOp .Or (a::b::rest) pos) (U_ φa φb) :=
 ⟨λβ R R' k h=>ha.mono β _ _ (λd kd β1 ⟨c,e,q⟩=>⟨c,e,by
   cases c
   ·exact hb.mono β1 _ _ k q
   ·exact k _ _ _ q⟩) h,(LA ha.pe hb.pe).pre λσ H Q ⟨β,own,s,h⟩=>tQ.of ha s h λd kd β1 v H1 aC Jq o1 r1=>by
  obtain⟨c,e,q⟩:=Jq;subst e;cases r1.rep;refine⟨c,rfl,?_⟩;cases c
  ·exact tQ.of hb o1.sq q λd2 k2 β2 v2 H2 a8 q2 o2 r2=>q2 v2 H2 a8 (o1.trans o2) (r2.later o1.sn)
  ·exact q _ H1 aC (o1.wk C4) w6⟩
theorem HZ (ha:PQ X C p a φa):PQ X C p (.UnaryOp .Not a pos) (PM φa) :=
 ⟨λβ R R' k h=>ha.mono β _ _ (λd kd β1 Jp=>by obtain⟨c,e,q⟩:=Jp;exact⟨c,e,k _ _ _ q⟩) h,(Ib ha.pe).pre λσ H Q ⟨β,own,s,h⟩=>tQ.of ha s h λd kd β1 v H1 aC Jo o1 r1=>by
  obtain⟨c,e,q⟩:=Jo;subst e;cases r1.rep;exact⟨c,rfl,q _ H1 aC o1 w6⟩⟩
def U8 (g:D->Option D)(φa:aR):aR:=λβ R=>φa β λx _ β1=>∃d,g x=some d/\d.flat=true/\R d .own β1
theorem wF {op:UnaryOp}{g:D->Option D}(ho:NX X (unaryOp op) (S6 X g))(ha:PQ X C p a φa):PQ X C p (.UnaryOp op a pos) (U8 g φa) :=
 ⟨λβ R R' k h=>ha.mono β _ _ (λx _ β1 QT=>by obtain⟨d,e,f,q⟩:=QT;exact⟨d,e,f,k _ _ _ q⟩) h,(Ga ho ha.pe).pre λσ H Q ⟨β,own,s,h⟩ =>
  tQ.of ha s h λd1 k1 β1 v1 H1 aC QS o1 r1=>by obtain⟨d,e,f,q⟩:=QS;exact⟨_,d1,d,o1.sq.CH _,r1.rep,e,λv H' s2 r2=>q v H' aC (o1.same s2) (KV.flat f r2)⟩⟩
def PN:cO:=λβ R=>R [] [] β
def Ls (pr:Bool)(φ:aR)(φs:cO):cO:=λβ R=>φ β λd k β1=>hold k pr/\φs β1 λds ks β2=>R (d::ds) (k::ks) β2
theorem ae:uA X C true [] PN:=⟨λβ R R' k h=>k _ _ _ h,dk.pre λσ H Q QR=>by obtain⟨β,own,s,q⟩:=QR;exact q [] H own (Out.refl s _) uq.nil⟩
theorem aa (ha:PQ X C p a φ)(hr:uA X C p' es φs)(hs:XZ (a::es) X.env=(false,eval a X.env)::XZ es X.env:=by rfl):uA X C (p&&p') (a::es) (Ls p' φ φs) :=
 ⟨λβ R R' k h=>ha.mono β _ _ (λd kd β1 q=>⟨q.1,hr.mono β1 _ _ (λds ks β2 q2=>k _ _ _ q2) q.2⟩) h,(bo ha.pe hr.pa hs).pre λσ H Q ⟨β,own,s,h⟩ =>
  tQ.of ha s h λd1 k1 β1 v1 H1 aC QQ o1 r1=>by obtain⟨hh,h1⟩:=QQ;exact we.of hr o1.sq h1 λds ks β2 vs H2 a8 q o2 r2=>q (v1::vs) H2 a8 (o1.trans o2) (uq.cons r1 o2.sn (r1.ho o2 hh) r2 o1.sn)⟩
def PH (φs:cO):aR:=λβ R=>φs β λds ks β1=>ds.length<=XO/\BM ks ds λk=>R (.tup ds) k β1
def PR (φs:cO):aR:=λβ R=>φs β λds ks β1=>ds.length<=XO/\BM ks ds λk=>R (.lst ds) k β1
theorem aK.same {P:Xz}{w:XT}{ds:List D}{vs:List V}{A:List Addr}(s:au H H')(h:aK P w H ds vs A):aK P w H' ds vs A:=h.keep (λb xs e=>s _ _ e) λc _ o e=>s c o e
theorem IT {P:Xz}{w:XT}{Z:Hp×(Addr->Prop)}{ks:List Kd}{ds:List D}{vs:List V}{K:Kd->Prop}{q:Addr}(hq:H q=none)(h:uq P w C Z own H ks ds vs)(m:BM ks ds K):∃k,K k/\KV P w C Z own (upd H q (.tup vs)) k (.tup ds) (.ref q):=by
 rcases m.of with⟨f,k⟩|k
 ·obtain⟨A,h1,h2,h3⟩:=h;exact⟨_,k,A,⟨q,vs,rfl,ar,(h1.Ih f).same (au.new hq)⟩,h2,h3⟩
 ·refine⟨_,k,?_⟩;rw[<- jk];exact KV.of (by rw[jk];exact⟨q,vs,rfl,ar,h.jH.same (au.new hq)⟩)
theorem IU {P:Xz}{w:XT}{Z:Hp×(Addr->Prop)}{ks:List Kd}{ds:List D}{vs:List V}{K:Kd->Prop}{q:Addr}(hq:H q=none)(hd:Dm (Wn own) H)(h0:∀a,C.H0 a≠none->H a≠none)(hz:∀a,Z.1 a≠none->H a≠none)(h:uq P w C Z own H ks ds vs)(m:BM ks ds K):∃k,K k/\KV P w C Z own (upd H q (.lst vs)) k (.lst ds) (.ref q):=by
 rcases m.of with⟨f,k⟩|k
 ·obtain⟨A,h1,h2,h3⟩:=h;refine⟨_,k,q::A,⟨q,vs,A,rfl,ar,rfl,(h1.Ih f).same (au.new hq)⟩,X9.mpr ⟨λz=>h1.nB q z hq,h2⟩,λc hc=>?_⟩;rcases Xy.mp hc with rfl|hc
  ·exact⟨Yu λz=>hz c z hq,λz=>hd c z hq,Yu λz=>h0 c z hq⟩
  ·exact h3 c hc
 ·refine⟨_,k,?_⟩;have nq:¬ av C (Wn own) (iw ks) q:=λz=>by
   cases e:iw ks <;> rw[e]at z <;> first|exact z.elim (λz=>hd q z hq) λz=>h0 q z hq|exact hd q z hq|exact z
  rw[<- jk];exact KV.of (by rw[jk];exact⟨q,vs,rfl,ar,nq,h.jH.same (au.new hq)⟩)
theorem uq.length {P:Xz}{w:XT}{Z:Hp×(Addr->Prop)}{ks:List Kd}{ds:List D}{vs:List V}(h:uq P w C Z own H ks ds vs):vs.length=ds.length:=h.jH.length
theorem bq {x1}(h:uA X C p es φs):PQ X C p (.Tuple es x1 pos) (PH φs) :=
 ⟨λβ R R' k q=>h.mono β _ _ (λds ks β1 QP=>by obtain⟨l,q⟩:=QP;exact⟨l,q.mono λ_ z=>k _ _ _ z⟩) q,(Bb h.pa).pre λσ H Q ⟨β,own,s,q⟩=>we.of h s q λds ks β1 vs H1 aC ⟨l,q1⟩ o1 r1 =>
  ⟨by rw[r1.length];exact l,λq hq=>let ⟨k,q1,r⟩:=IT hq r1 q1;q1 _ _ aC (o1.same (au.new hq)) r⟩⟩
theorem aZ (h:uA X C p es φs):PQ X C p (.List es pos) (PR φs) :=
 ⟨λβ R R' k q=>h.mono β _ _ (λds ks β1 QO=>by obtain⟨l,q⟩:=QO;exact⟨l,q.mono λ_ z=>k _ _ _ z⟩) q,(va h.pa).pre λσ H Q ⟨β,own,s,q⟩=>we.of h s q λds ks β1 vs H1 aC ⟨l,q1⟩ o1 r1 =>
  ⟨by rw[r1.length];exact l,λq hq=>let ⟨k,q1,r⟩:=IU hq o1.sq.zJ o1.sq.iJ (λa z=>o1.sn.d a z) r1 q1;q1 _ _ aC (o1.same (au.new hq)) r⟩⟩
end
section
variable {X:Cx}{C:Cfg}{a b c e:Expr}{es:List Expr}{φ φa φb:aR}{φs:cO}{pos:Pos}{σ:St}{H H':Hp}{β:a7}{own:Nat->List Addr}{p:Bool}{g:D->D->Option D}{N:D->Prop}
abbrev pW:=D->Kd->aR
structure N3 (X:Cx)(C:Cfg)(ops:List aat)(es:List Expr)(φ:pW):Prop where
 mono:∀x k β R R',(∀d k β,R d k β->R' d k β)->φ x k β R->φ x k β R'
 ch:G7 X ops es λx σ H Q=>∃β own d k,SQ X C σ H β own/\Rp X (av C (Wn own) k) H d x/\φ d k β λd' k' β'=>∀v H',au H H'->SQ X C σ H' β' own->KV X.prog X.w C (H,Wn own) own H' k' d' v->Q v H'
 Ul:uo X ops es λx σ H Q=>∃β own d k,SQ X C σ H β own/\Rp X (av C (Wn own) k) H d x/\φ d k β λd' k' β'=>∃b,d'=.bl b/\∀H',au H H'->SQ X C σ H' β' own->Q b H'
def Lu (g:D->D->Option D)(φb:aR):pW:=λx _ β R=>φb β λy _ β1=>∃b,g x y=some (.bl b)/\R (.bl b) .own β1
def HV (g:D->D->Option D)(φb:aR)(φr:pW):pW:=λx _ β R=>φb β λy ky β1=>∃k,g x y=some (.bl k)/\if k=true then φr y ky β1 R else R (.bl false) .own β1
variable {op Io:aat}{ops:List aat}{rs:List Expr}{φr:pW}
theorem qr (ho:bK X (YK op) g)(hb:PQ X C true b φb):N3 X C [op] [b] (Lu g φb) :=
 ⟨λx k β R R' h q=>hb.mono β _ _ (λy _ β1 vB=>by obtain⟨d,e,q⟩:=vB;exact⟨d,e,h _ _ _ q⟩) q,
  (J5 ho hb.pe).pre λx σ H Q ⟨β,own,d,k,s,r,h⟩=>tQ.of hb s h λd2 k2 β2 v2 H2 a8 BX o2 r2=>by
    obtain⟨d',e,q⟩:=BX;obtain⟨s2,rfl⟩:=o2.pu rfl;exact⟨av C (Wn a8) (k.max k2),d,d2,.bl d',o2.sq.CH _,ay.aV c5 (r.same s2),ay.aV fF r2.rep,e,λv H' s3 r3=>q v H' (s2.trans s3) (o2.sq.same s3) (KV.flat rfl r3)⟩,
  (FQ ho hb.pe).pre λx σ H Q ⟨β,own,d,k,s,r,h⟩=>tQ.of hb s h λd2 k2 β2 v2 H2 a8 Jm o2 r2=>by
    obtain⟨d',e,b,eb,q⟩:=Jm;obtain⟨s2,rfl⟩:=o2.pu rfl;cases eb;exact⟨av C (Wn a8) (k.max k2),d,d2,.bl d',o2.sq.CH _,ay.aV c5 (r.same s2),ay.aV fF r2.rep,e,λv H' s3 r3=>by
      cases r3;exact⟨_,rfl,q H' (s2.trans s3) (o2.sq.same s3)⟩⟩⟩
theorem e_ (ho:bK X (YK op) g)(hb:PQ X C true b φb)(hc:N3 X C (Io::ops) (c::rs) φr):N3 X C (op::Io::ops) (b::c::rs) (HV g φb φr) :=
 ⟨λx k β R R' h q=>hb.mono β _ _ (λy ky β1 ⟨d,e,q⟩=>⟨d,e,by
   cases d
   ·exact h _ _ _ q
   ·exact hc.mono y ky β1 _ _ h q⟩) q,
  (FR ho hb.pe hc.ch).pre λx σ H Q ⟨β,own,d,k,s,r,h⟩=>tQ.of hb s h λd2 k2 β2 v2 H2 a8 Jk o2 r2=>by
    obtain⟨t,e,q⟩:=Jk;obtain⟨s2,rfl⟩:=o2.pu rfl;refine⟨av C (Wn a8) (k.max k2),d,d2,.bl t,o2.sq.CH _,ay.aV c5 (r.same s2),ay.aV fF r2.rep,e,λv H' s3 r3=>?_⟩;cases r3;refine⟨t,rfl,?_⟩;cases t
    · exact q _ H' (s2.trans s3) (o2.sq.same s3) w6
    · exact⟨β2,a8,d2,k2,o2.sq.same s3,r2.rep.same s3,hc.mono d2 k2 β2 _ _ (λd' k' β' q' v zA s4 sq r4=>q' v zA ((s2.trans s3).trans s4) sq (r4.later ((o2.same s3).sn))) q⟩,
  (CQ ho hb.pe hc.Ul).pre λx σ H Q ⟨β,own,d,k,s,r,h⟩=>tQ.of hb s h λd2 k2 β2 v2 H2 a8 vA o2 r2=>by
    obtain⟨t,e,q⟩:=vA;obtain⟨s2,rfl⟩:=o2.pu rfl;refine⟨av C (Wn a8) (k.max k2),d,d2,.bl t,o2.sq.CH _,ay.aV c5 (r.same s2),ay.aV fF r2.rep,e,λv H' s3 r3=>?_⟩;cases r3;refine⟨t,rfl,?_⟩;cases t
    · obtain⟨b,eb,q⟩:=q;cases eb;exact q H' (s2.trans s3) (o2.sq.same s3)
    · exact⟨β2,a8,d2,k2,o2.sq.same s3,r2.rep.same s3,hc.mono d2 k2 β2 _ _ (λd' k' β' B5=>by obtain⟨b,eb,q'⟩:=B5;exact⟨b,eb,λzA s4 sq=>q' zA ((s2.trans s3).trans s4) sq⟩) q⟩⟩
def u0 (φa:aR)(φr:pW):aR:=λβ R=>φa β λx k β1=>φr x k β1 R
theorem r9 {dX dW:aat}(ha:PQ X C true a φa)(hc:N3 X C (dX::dW::ops) (b::c::rs) φr)(hm:lastMarks (dX::dW::ops) (b::c::rs)=false:=by with_unfolding_all rfl):
  PQ X C true (.Compare a (dX::dW::ops) (b::c::rs) pos) (u0 φa φr) :=
 ⟨λβ R R' k h=>ha.mono β _ _ (λx kx β1 q=>hc.mono x kx β1 _ _ k q) h,(yw ha.pe hc.ch hm).pre λσ H Q ⟨β,own,s,h⟩=>tQ.of ha s h λd k β1 v H1 aC q o1 r1=>by
  obtain⟨s1,rfl⟩:=o1.pu rfl;exact⟨β1,aC,d,k,o1.sq,r1.rep,hc.mono d k β1 _ _ (λd' k' β' q' v zA s4 sq r4=>q' v zA aC ⟨sq,o1.sn.same s4,λ_=>⟨s1.trans s4,rfl⟩,o1.le⟩ (r4.later o1.sn)) q⟩⟩
theorem yq {dX dW:aat}(ha:PQ X C true a φa)(hc:N3 X C (dX::dW::ops) (b::c::rs) φr)(hm:lastMarks (dX::dW::ops) (b::c::rs)=false:=by with_unfolding_all rfl):
  uz X C true (.Compare a (dX::dW::ops) (b::c::rs) pos) (AN (u0 φa φr)) :=
 ⟨λβ R R' k h=>ha.mono β _ _ (λx kx β1 q=>hc.mono x kx β1 _ _ (λd kd β' Jy=>by obtain⟨b,e,q⟩:=Jy;exact⟨b,e,k _ _ q⟩) q) h,(yo ha.pe hc.Ul hm).pre λσ H Q ⟨β,own,s,h⟩=>tQ.of ha s h λd k β1 v H1 aC q o1 r1=>by
  obtain⟨s1,rfl⟩:=o1.pu rfl;exact⟨β1,aC,d,k,o1.sq,r1.rep,hc.mono d k β1 _ _ (λd' k' β' B0=>by obtain⟨b,e,q'⟩:=B0;exact⟨b,e,λzA s4 sq=>q' zA aC ⟨sq,o1.sn.same s4,λ_=>⟨s1.trans s4,rfl⟩,o1.le⟩⟩) q⟩⟩
abbrev C9:=a7->(Option Int->a7->Prop)->Prop
structure OT (X:Cx)(C:Cfg)(e:Option Expr)(φ:C9):Prop where
 mono:∀β R R',(∀d β,R d β->R' d β)->φ β R->φ β R'
 po:PO X e λσ H Q=>∃β own,SQ X C σ H β own/\φ β λo β'=>∀H',au H H'->SQ X C σ H' β' own->Q o H'
theorem A5:OT X C none (λβ R=>R none β):=⟨λβ R R' k h=>k _ _ h,wJ.pre λσ H Q BZ=>by obtain⟨β,own,s,q⟩:=BZ;exact q H (au.refl _) s⟩
theorem A4 (ha:PQ X C true a φ):OT X C (some a) (λβ R=>φ β λd _ β1=>∃i,d=.int i/\R (some i) β1) :=
 ⟨λβ R R' k h=>ha.mono β _ _ (λd _ β1 BY=>by obtain⟨i,e,q⟩:=BY;exact⟨i,e,k _ _ q⟩) h,(wI ha.pe).pre λσ H Q ⟨β,own,s,h⟩=>tQ.of ha s h λd k β1 v H1 aC Jw o1 r1=>by
  obtain⟨i,e,q⟩:=Jw;subst e;cases r1.rep;obtain⟨s1,rfl⟩:=o1.pu rfl;exact⟨i,rfl,q H1 s1 o1.sq⟩⟩
def U9 (φ:aR)(φl φh:C9):aR:=λβ R=>φ β λx k β1=>φl β1 λl β2=>φh β2 λh β3=>∃d,Uk x l h=some d/\kN NL d k.wk λk'=>R d k' β3
theorem F5 {k:Kd}:k.wk.wk=k.wk:=by cases k <;> rfl
theorem C0 {W:Addr->Prop}{k:Kd}:∀c,av C W k.wk c->av C W k c:=λc h=>by cases k <;> exact h
theorem Ly {lo hi:Option Expr}{φl φh:C9}{p2:Pos}(ha:PQ X C p a φ)(hl:OT X C lo φl)(hh:OT X C hi φh):PQ X C p (.Subscript a (.Slice lo hi none p2) pos) (U9 φ φl φh) :=
 ⟨λβ R R' k h=>ha.mono β _ _ (λx kx β1 q=>hl.mono β1 _ _ (λl β2 q=>hh.mono β2 _ _ (λu β3 Jv=>by obtain⟨d,e,q⟩:=Jv;exact⟨d,e,q.mono λ_ z=>k _ _ _ z⟩) q) q) h,
  (sd DR ha.pe hl.po hh.po).pre λσ H Q ⟨β,own,s,h⟩=>tQ.of ha s h λd k β1 v H1 aC q o1 r1 =>
    ⟨β1,aC,o1.sq,hl.mono β1 _ _ (λl β2 q H2 s2 UW=>⟨β2,aC,UW,hh.mono β2 _ _ (λu β3 Jt H3 s3 Oi=>by
      obtain⟨d',e,q⟩:=Jt;refine⟨av C (Wn aC) k.wk,d,d',Oi.CH _,((ay.aV C0 r1.rep).same s2).same s3,e,λv H' s4 r4 n4=>?_⟩;obtain⟨k',q,r⟩:=KV.kN (Z:=(H,Wn own)) F5 r4 (λn=>i7 (H:=H3) Oi.zJ Oi.iJ (λa z e=>o1.sn.d a z (s2.free (s3.free e))) n (n4 n)) q;exact q v H' aC ⟨Oi.same s4,o1.sn.same ((s2.trans s3).trans s4),λz=>⟨(o1.pu z).1.trans ((s2.trans s3).trans s4),(o1.pu z).2⟩,o1.le⟩ r) q⟩) q⟩⟩
def Lm (X:Cx)(f:List D->Option D)(N:D->Prop):List V->Hp->VK->Prop:=λxs H Q=>∃W ds d,Dm W H/\jy X W H ds xs/\f ds=some d/\∀v H',au H H'->Rp X W H' d v->(N d->Rp X (λa=>H a≠none) H' d v)->Q v H'
abbrev C_ (X:Cx)(f:Xv)(g:List D->Option D)(N:D->Prop):Prop:=fh X f (Lm X g N)
theorem bG.m {f:Xv}{g:List D->Option D}(h:bG X f g):C_ X f g NF:=λpins s σ H xs us Q I r ⟨W,ds,d,hd,r1,e,q⟩ =>
 h pins s σ H xs us Q I r ⟨W,ds,d,hd,r1,e,λv H' s r=>q v H' s r λf=>ay.flat f r⟩
def kn (g:List D->Option D)(N:D->Prop)(φs:cO):aR:=λβ R=>φs β λds ks β1=>∃d,g ds=some d/\kN N d (iw ks) λk=>R d k β1
variable {x:Str}{pp:Pos}{id T:String}{gs:List D->Option D}
theorem kn.mono (h:uA X C p es φs):∀β R R',(∀d k β,R d k β->R' d k β)->kn gs N φs β R->kn gs N φs β R':=λβ R R' k q=>h.mono β _ _ (λds ks β1 QY=>by obtain⟨d,e,q⟩:=QY;exact⟨d,e,q.mono λ_ z=>k _ _ _ z⟩) q
theorem rW (hn:Dw N)(h:uA X C p es φs):∀σ H Q,tQ X C p (kn gs N φs) σ H Q->Pd (Lm X gs N) (we X C p φs) σ H Q:=λσ H Q ⟨β,own,s,q⟩=>we.of h s q λds ks β1 vs H1 aC QW o1 r1=>by
 obtain⟨d,e,q1⟩:=QW;refine⟨av C (Wn aC) (iw ks),ds,d,o1.sq.CH _,r1.jH,e,λv H' s2 r2 n2=>?_⟩;obtain⟨k',q,r⟩:=KV.kN (Z:=(H,Wn own)) jk r2 (λn=>i7 (H:=H1) o1.sq.zJ o1.sq.iJ (λa z=>o1.sn.d a z) (hn.nl _ n) (n2 n)) q1;exact q v H' aC (o1.same s2) r
theorem bf (Fe:Dw N)(hc:C_ X (.builtin id) gs N)(hm:X.mg x=none)(hv:Yx x=some (.builtin id))(ha:uA X C p (e::es) φs)(hg:Gl X x:=by rfl)(hn:x≠"__name__" := by decide)(hdb:(x==("__debug__" : Str))=false:=by decide)
  (mL:XZ (e::es) X.env=(false,eval e X.env)::XZ es X.env:=by rfl) (hpl:(ZT pos (XZ es X.env)).any (·.1)=false:=by rfl) :
  PQ X C p (.Call (.Name x pp) (e::es) [] pos) (kn gs N φs):=⟨kn.mono ha,(i3 hc hg hm hv ha.pa hn hdb (he:=mL) (hpl:=hpl)).pre (rW Fe ha)⟩
theorem jL (Fe:Dw N)(hc:C_ X (.type T) gs N)(hm:X.mg x=none)(hv:Yx x=some (.type T))(ha:uA X C p (e::es) φs)(hg:Gl X x:=by rfl)(hn:x≠"__name__" := by decide)(hdb:(x==("__debug__" : Str))=false:=by decide)
  (mL:XZ (e::es) X.env=(false,eval e X.env)::XZ es X.env:=by rfl) (hpl:(ZT pos (XZ es X.env)).any (·.1)=false:=by rfl) :
  PQ X C p (.Call (.Name x pp) (e::es) [] pos) (kn gs N φs):=⟨kn.mono ha,(oN hc hg hm hv ha.pa hn hdb (he:=mL) (hpl:=hpl)).pre (rW Fe ha)⟩
end
def um (P:Xz)(w:XT)(ro:Bool)(H H':Hp)(d:D)(v:V):Prop:=match ro with
 |true=>∃A,Own P w H' d v A/\A.Nodup/\∀c∈A,H c=none
 |false=>ay P w (λa=>H a≠none) H' d v
abbrev rk (ro:Bool):Kd:=match ro with|true=>.own|false=>.dN
def dO (P:Xz)(w:XT)(ro:Bool)(F:FD):Sp:=λvs H Q _=>∃ds,ai P w (λ_=>False) H ds vs/\F ds λd=>∀v H',au H H'->um P w ro H H' d v->Q v H'
def kU (P:Xz)(w:XT)(ok:List Int->Prop)(ro:Bool)(F:FD):Sp:=λvs H Q _=>∃h vs' ds ns,vs=.ref h::vs'/\H h=some (.lst (ns.map V.int))/\ok ns/\ai P w (λa=>a=h) H ds vs' /\
 F ds λd=>∀v H' oS,Kp (·=h) H H'->(∀c,H c≠none->H' c≠none)->H' h=some (.lst (oS.map V.int))->ok oS->um P w ro H H' d v->Q v H'
section
variable {X:Cx}{C:Cfg}{k ih:Nat}{f:Addr}{fd:Yr}{ps:List Str}{F:FD}{ro p:Bool}{x hx:Str}{pp pos px:Pos}{e:Expr}{es:List Expr}{φs:cO}{ok:List Int->Prop}{σ:St}{H H':Hp}{β:a7}{own:Nat->List Addr}{P:Xz}{w:XT}
theorem um.kv {Z:Hp×(Addr->Prop)}{d:D}{v:V}(hd:Dm (Wn own) H)(h0:∀a,C.H0 a≠none->H a≠none)(hz:∀a,Z.1 a≠none->H a≠none)(h:um P w ro H H' d v):KV P w C Z own H' (rk ro) d v:=by
 cases ro with
 |true =>
  obtain⟨A,h1,h2,h3⟩:=h;exact⟨A,h1,h2,λc hc=>⟨Yu λz=>hz c z (h3 c hc),λz=>hd c z (h3 c hc),Yu λz=>h0 c z (h3 c hc)⟩⟩
 |false=>exact ay.aV (λa z=>z.elim (hd a) (h0 a)) h
def PK (ro:Bool)(F:FD)(φs:cO):aR:=λβ R=>φs β λds _ β1=>F ds λd=>R d (rk ro) β1
theorem aT (mF:cU F)(G:aN X.prog X.w X.K X.mg X.base bU k f fd ps (dO X.prog X.w ro F))(hr:cT k X.A)(hm:X.mg x=some (.ref f))(hk:PySem.W.keepIn X.K (.ref f)=true)(hb:Binds X.K fd ps [])(ha:uA X C p (e::es) φs)(hg:Gl X x:=by rfl)
  (hdb:(x==("__debug__" : Str))=false:=by decide)
  (mL:XZ (e::es) X.env=(false,eval e X.env)::XZ es X.env:=by rfl) (hpl:(ZT pos (XZ es X.env)).any (·.1)=false:=by rfl) :
  PQ X C p (.Call (.Name x pp) (e::es) [] pos) (PK ro F φs) :=
 ⟨λβ R R' k h=>ha.mono β _ _ (λds ks β1 q=>mF ds _ _ (λd q=>k _ _ _ q) q) h,(wQ G hr hg hm hk hb .nil Ge ha.pa (hdb:=hdb) (he:=mL) (hpl:=hpl)).pre λσ H Q ⟨β,own,s,h⟩=>we.of ha s h λds ks β1 vs H1 aC q o1 r1=>by
  rw[YX];exact⟨ds,r1.bor,mF ds _ _ (λd q2 v H' s2 r2=>q2 v H' aC (o1.same s2) (r2.kv o1.sq.zJ o1.sq.iJ λa z=>o1.sn.d a z)) q⟩⟩
theorem b5.drawn {i:Nat}{h:Addr}{oS:List Int}(b:b5 P w C σ H β own)(e:β[i]?=some (some (.hand ok)))(hσ:σ[i]?=some (some (.ref h)))(k:Kp (·=h) H H')(e':H' h=some (.lst (oS.map V.int)))(o':ok oS)(dn:∀c,H c≠none->H' c≠none):b5 P w C σ H' β own:=by
 obtain⟨a,ns,h1,h2,h3,h4,h5⟩:=b.nO i ok e;rw[hσ]at h1;cases h1;have wh:Wn own h:=⟨i,by rw[h4];simp⟩
 have kW:∀y,Kp (fU C (Wn own) (yk y)) H H':=λy=>k.mono λc z=>by rw[z];cases y <;> first|exact .inl wh|exact .inl (.inl wh)
 have ne:∀j,j≠i->∀c∈own j,c≠h:=λj hj c hc z=>hj (b.m7 j i c hc (by rw[h4,z];simp))
 refine⟨b.len,λj y d e=>let ⟨v,g1,g2⟩:=b.val j y d e;⟨v,g1,g2.keep (kW y)⟩,λj d ej=>?_,λj zH ej=>?_,λj c hc=>?_,b.m7,b.nz,⟨λc o z n=>?_,λc xs z=>k.tup c xs (b.kp.tup c xs z)⟩,λc z=>dn c (b.iJ c z),λj y d ej=>by
  obtain⟨v,g1,g2,g3⟩:=b.shl j y d ej;have hj:j≠i:=λz=>by rw[z,e]at ej;cases ej
  exact⟨v,g1,g2.map (λc hc o eo=>k.out c o eo (ne j hj c hc)) (λ_ _ r=>r.keep (kW y)),g3⟩⟩
 ·obtain⟨v,g1,g2,g3⟩:=b.ow j d ej;have hj:j≠i:=λz=>by rw[z,e]at ej;cases ej
  exact⟨v,g1,g2.keep k.tup (λc hc o eo=>k.out c o eo (ne j hj c hc)),g3⟩
 ·by_cases hj:j=i
  ·subst hj;rw[e]at ej;cases ej;exact⟨h,oS,hσ,e',o',h4,h5⟩
  ·obtain⟨a,ms,g1,g2,g3,g4,g5⟩:=b.nO j zH ej;exact⟨a,ms,g1,k.out a _ g2 (ne j hj a (by rw[g4];simp)),g3,g4,g5⟩
 ·obtain⟨g1,g2,g3⟩:=b.dm j c hc
  by_cases tj:c=h
  ·rw[tj,e'];rw[tj]at g3;exact⟨λz=>(nomatch z),λxs z=>(by cases z),g3⟩
  ·cases q:H c with
   |none=>exact absurd q g1
   |some o=>rw[k.out c o q tj];exact⟨λz=>(nomatch z),λxs z=>g2 xs (by rw[q];exact z),g3⟩
 ·refine k.out c o (b.kp.out c o z n) λq=>?_;subst q;rcases (b.dm i c (by rw[h4];simp)).2.2.1 with z0|z0
  ·rw[z0]at z;cases z
  ·exact n z0
def Lr (ih:Nat)(ok:List Int->Prop)(ro:Bool)(F:FD)(φs:cO):aR:=λβ R=>β[ih]?=some (some (.hand ok))/\φs β λds ks β1=>β1[ih]?=some (some (.hand ok))/\hold (iw ks) false/\F ds λd=>R d (rk ro) β1
theorem bO (mF:cU F)(G:aN X.prog X.w X.K X.mg X.base bU k f fd ps (kU X.prog X.w ok ro F))(hr:cT k X.A)(hm:X.mg x=some (.ref f))(hk:PySem.W.keepIn X.K (.ref f)=true)(hb:Binds X.K fd ps [])(ha:uA X C p es φs)(hN:X.N[ih]?=some hx:=by rfl)
  (hv:vW X.env.scope hx:=by first|exact .inl rfl|exact .inr (.inl rfl)|exact .inr (.inr rfl)) (hd:(hx==("__debug__" : Str))=false:=by decide) (gZ:(hx==("__classdict__" : Str))=false:=by decide) (hg:Gl X x:=by rfl) (hdb:(x==("__debug__" : Str))=false:=by decide)
  (mL:XZ (.Name hx px::es) X.env=(false,eval (.Name hx px) X.env)::XZ es X.env:=by rfl) (hpl:(ZT pos (XZ es X.env)).any (·.1)=false:=by rfl) :
  PQ X C false (.Call (.Name x pp) (.Name hx px::es) [] pos) (Lr ih ok ro F φs) :=
 ⟨λβ R R' k QV=>by obtain⟨e,h⟩:=QV;exact⟨e,ha.mono β _ _ (λds ks β1 Jr=>by obtain⟨e,hh,q⟩:=Jr;exact⟨e,hh,mF ds _ _ (λd q=>k _ _ _ q) q⟩) h⟩,
  (wQ G hr hg hm hk hb .nil Ge (bo (dj (pos:=px) hN hv hd gZ) ha.pa mL) (hdb:=hdb) (he:=mL) (hpl:=hpl)).pre λσ H Q Jq=>by
  obtain⟨β,own,s,e,h⟩:=Jq;obtain⟨hh,ns,h1,h2,h3,h4⟩:=s.nO ih ok e;refine⟨.ref hh,h1,we.of ha s h λds ks β1 vs H1 aC ⟨e1,ho,q⟩ o1 r1=>?_⟩;obtain⟨Xh,Vf,g1,g2,g3,g4,g5⟩:=o1.sq.nO ih ok e1;rw[h1]at g1;cases g1;have wh:Wn aC hh:=⟨ih,by rw[g4];simp⟩
  rw[YX];refine⟨hh,vs,ds,Vf,rfl,g2,g3,ai.aV (λa z=>?_) r1.jH,mF ds _ _ (λd q v H' oS kp dn e' zH r=>?_) q⟩
  ·subst z;cases hk:iw ks with
   |own=>exact .inl wh
   |dN=>exact .inl wh
   |old=>exact wh
   |bor=>rw[hk]at ho;exact ho.elim
  ·exact q v H' aC ⟨o1.sq.drawn e1 h1 kp e' zH dn,o1.sn.kp (kp.mono λb z=>by rw[z];exact wh) dn,λz=>(nomatch z),o1.le⟩ (r.kv o1.sq.zJ o1.sq.iJ λa z=>o1.sn.d a z)⟩
end
abbrev Cfg.z (C:Cfg):Cfg:=C.u λ_=>False
def SB (X:Cx)(C:Cfg)(Z:Hp×(Addr->Prop))(σ:St)(H:Hp)(β:a7):Prop:=∃own,SQ X C.z σ H β own/\Sn Z H (Wn own)
structure fN where
 nx:a7->Prop
 rt:D->a7->Prop
 bk:a7->Prop:=λ_=>False
 ct:a7->Prop:=λ_=>False
def fN.up (E:fN)(n:a7->Prop):fN:=⟨n,E.rt,E.bk,E.ct⟩
def fN.lp (E:fN)(n:a7->Prop):fN:=⟨n,E.rt,E.nx,n⟩
structure WT (X:Cx)(C:Cfg)(Z:Hp×(Addr->Prop))(E:fN)(D:Ends):Prop where
 nx:∀σ H β,SB X C Z σ H β->E.nx β->D.nx σ H
 rt:∀σ H β d v,SB X C Z σ H β->um X.prog X.w C.ro C.H0 H d v->E.rt d β->D.rt v H
 bk:∀σ H β,SB X C Z σ H β->E.bk β->D.bk σ H
 ct:∀σ H β,SB X C Z σ H β->E.ct β->D.ct σ H
structure Le (E E':fN):Prop where
 nx:∀β,E.nx β->E'.nx β
 rt:∀d β,E.rt d β->E'.rt d β
 bk:∀β,E.bk β->E'.bk β
 ct:∀β,E.ct β->E'.ct β
abbrev F2:=fN->a7->Prop
def SU (X:Cx)(C:Cfg)(ψ:F2):TS:=λD σ H=>∃Z E β,SB X C Z σ H β/\ψ E β/\WT X C Z E D
structure PB (X:Cx)(C:Cfg)(st:Stmt)(ψ:F2):Prop where
 mono:∀E E' β,Le E E'->ψ E β->ψ E' β
 ps:PS X st (SU X C ψ)
structure uB (X:Cx)(C:Cfg)(st:List Stmt)(ψ:F2):Prop where
 mono:∀E E' β,Le E E'->ψ E β->ψ E' β
 ps:rg X st (SU X C ψ)
section
variable {X:Cx}{C:Cfg}{st:Stmt}{rest a b:List Stmt}{ψ ψ1 ψ2:F2}{Z:Hp×(Addr->Prop)}{σ:St}{H H':Hp}{β β':a7}{pos pos':Pos}{e c:Expr}{φ:aR}{τ:aW}{p:Bool}{own aQ:Nat->List Addr}{i:Nat}{x:Str}
theorem Out.sb (n:Sn Z H (Wn own))(o:Out X C.z σ H own p β' H' aQ):SB X C Z σ H' β':=⟨aQ,o.sq,n.trans o.sn⟩
theorem aP:uB X C [] (λE β=>E.nx β):=⟨λE E' β l h=>l.nx β h,wC.pre λD σ H vB=>by obtain⟨Z,E,β,sb,h,ok⟩:=vB;exact ok.nx σ H β sb h⟩
theorem ah (h1:PB X C st ψ1)(h2:uB X C rest ψ2):uB X C (st::rest) (λE β=>ψ1 (E.up (ψ2 E)) β) :=
 ⟨λE E' β l h=>h1.mono {E with nx:=ψ2 E} {E' with nx:=ψ2 E'} β ⟨λβ' q=>h2.mono E E' β' l q,l.rt,l.bk,l.ct⟩ h,(dU h1.ps h2.ps).pre λD σ H ⟨Z,E,β,sb,h,ok⟩ =>
  ⟨Z,{E with nx:=ψ2 E},β,sb,h,⟨λσ' H' β' uX h'=>⟨Z,E,β',uX,h',ok⟩,ok.rt,ok.bk,ok.ct⟩⟩⟩
theorem aj (h1:PB X C st ψ):uB X C [st] ψ:=⟨h1.mono,iY h1.ps⟩
theorem eF (h1:PB X C st ψ1)(h2:uB X C rest ψ2):uB X C (st::rest) (λE β=>∃J:a7->Prop,ψ1 (E.up J) β/\∀β',J β'->ψ2 E β') :=
 ⟨λE E' β l BX=>by obtain⟨J,h,k⟩:=BX;exact⟨J,h1.mono {E with nx:=J} {E' with nx:=J} β ⟨λ_ q=>q,l.rt,l.bk,l.ct⟩ h,λβ' q=>h2.mono E E' β' l (k β' q)⟩,(dU h1.ps h2.ps).pre λD σ H ⟨Z,E,β,sb,⟨J,h,k⟩,ok⟩ =>
  ⟨Z,{E with nx:=J},β,sb,h,⟨λσ' H' β' uX h'=>⟨Z,E,β',uX,k β' h',ok⟩,ok.rt,ok.bk,ok.ct⟩⟩⟩
theorem oO:uB X C a (λ_ _=>False):=⟨λ_ _ _ _ h=>h.elim,yp.pre λD σ H Jk=>by obtain⟨Z,E,β,sb,h,ok⟩:=Jk;exact h.elim⟩
theorem bC (hc:uz X C.z p c τ)(ha:uB X C a ψ1)(hb:uB X C b ψ2):PB X C (.If c a b pos) (λE β=>τ β λt β'=>if t=true then ψ1 E β' else ψ2 E β') :=
 ⟨λE E' β l h=>hc.mono _ _ _ (λt β' q=>by
   cases t
   ·exact hb.mono E E' β' l q
   ·exact ha.mono E E' β' l q) h,(F9 hc.pt ha.ps hb.ps).pre λD σ H Jj=>by
  obtain⟨Z,E,β,⟨own,s,n⟩,h,ok⟩:=Jj;refine iT.of hc s h λt β' H1 aC q o1=>?_;cases t
  ·exact⟨Z,E,β',o1.sb n,q,ok⟩
  ·exact⟨Z,E,β',o1.sb n,q,ok⟩⟩
abbrev Gs (d:D)(k:Kd)(K:B->Prop):Prop:=match k with
 |.own=>K (.val true d)
 |.dN=>K (.val true d)
 |.old=>K (.val false d)
 |.bor=>d.flat=true/\K (.val true d)
theorem Gs.mono {d:D}{k:Kd}{K K':B->Prop}(h:∀b,K b->K' b)(q:Gs d k K):Gs d k K':=by
 cases k <;> first|exact h _ q|exact⟨q.1,h _ q.2⟩
theorem Gs.of {P:Xz}{w:XT}{d:D}{v:V}{k:Kd}{K:B->Prop}(r:KV P w C Z own H k d v)(q:Gs d k K):∃y,K (.val y d)/\ay P w (av C (Wn own) (yk y)) H d v:=by
 cases k with
 |own=>exact⟨true,q,r.dN⟩
 |dN=>exact⟨true,q,r⟩
 |old=>exact⟨false,q,r⟩
 |bor=>exact⟨true,q.2,ay.flat q.1 r⟩
theorem uV {own:Nat->List Addr}{i:Nat}(n:Sn Z H (Wn own)):Sn Z H (Wn (aS own i [])):=⟨λb z=>n.w b (eQ z),n.k,n.d⟩
theorem a6 (he:PQ X C.z p e φ)(hN:X.N.Nodup)(hi:X.N[i]?=some x:=by rfl)(hx:Loc X.env.scope x:=by first|exact .inl rfl|exact .inr rfl)
  (hs:Z5 e (some (.Name x pos')) pos.line X.env=pure false:=by rfl) (hf:X.fn x=true\/X.env.scope.names.lookup x=some .local:=by first|exact .inl rfl|exact .inr rfl|assumption) :
  PB X C (.Assign [.Name x pos'] e pos) (λE β=>φ β λd k β'=>Gs d k λb=>E.nx (β'.set i (some b))) :=
 ⟨λE E' β l q=>he.mono _ _ _ (λd k β' q=>q.mono λ_=>l.nx _) q,(u5 hN hi hx he.pe hs hf).pre λD σ H ⟨Z,E,β,⟨own,s,n⟩,q,ok⟩=>tQ.of he s q λd k β' v H' aQ q o r=>by
  obtain⟨y,q,r⟩:=q.of r;exact ok.nx _ _ _ ⟨_,o.sq.fo (ay.aV (λa z=>z.elim id λz=>z.elim) r),uV (n.trans o.sn)⟩ q⟩
abbrev E4 (k:Kd)(d:D):Prop:=match k with
 |.own=>True
 |_=>d.flat=true
theorem KV.fl {P:Xz}{w:XT}{d:D}{v:V}{k:Kd}(f:E4 k d)(r:KV P w C Z own H k d v):KV P w C Z own H .own d v:=by
 cases k with
 |own=>exact r
 |dN=>exact KV.flat f r.rep
 |old=>exact KV.flat f r.rep
 |bor=>exact KV.flat f r.rep
theorem cX (he:∀U,PQ X (C.u U) p e φ)(hN:X.N.Nodup)(hi:X.N[i]?=some x:=by rfl)(hx:Loc X.env.scope x:=by first|exact .inl rfl|exact .inr rfl)
  (hs:Z5 e (some (.Name x pos')) pos.line X.env=pure false:=by rfl) (hf:X.fn x=true\/X.env.scope.names.lookup x=some .local:=by first|exact .inl rfl|exact .inr rfl|assumption) :
  PB X C (.Assign [.Name x pos'] e pos) (λE β=>φ β λd k β'=>E4 k d/\E.nx (β'.set i (some (.own d)))) :=
 ⟨λE E' β l q=>(he λ_=>False).mono _ _ _ (λd k β' q=>⟨q.1,l.nx _ q.2⟩) q,λpins s σ H D I ⟨Z,E,β,⟨own,sq,n⟩,q,ok⟩ =>
  u5 hN hi hx (he λa=>H a=none).pe hs hf pins s σ H D I (tQ.of (he λa=>H a=none) (sq.rp (C:=C.z) (U:=λa=>H a=none) λa z=>z) q λd k β' v H' aQ Jz o r=>by
   obtain⟨f,q⟩:=Jz;obtain⟨A,h1,h2,h3⟩:=r.fl f;refine ok.nx _ _ _ ⟨_,o.sq.AE h1 h2 λc hc=>⟨(h3 c hc).2.2,(h3 c hc).2.1,(h3 c hc).1⟩,?_⟩ q;have m:=n.trans o.sn;exact⟨λb Jy=>by
    obtain⟨j,hj⟩:=Jy
    by_cases aJ:i=j
    ·rw[<- aJ,os_eq]at hj;exact .inr (n.free (h3 b hj).1)
    ·rw[bD aJ]at hj;exact m.w b ⟨j,hj⟩,m.k,m.d⟩)⟩
theorem b5.Lw {P:Xz}{w:XT}{U U2:Addr->Prop}{d d':D}{v:V}{A':List Addr}{c:Addr}{o:HO}(b:b5 P w (C.u U) σ H β own)(e:β[i]?=some (some (.own d)))(hσ:σ[i]?=some (some v))(hc:c∈own i)
  (r:Own P w (upd H c o) d' v A') (nd:A'.Nodup) (hA:∀a∈A',a∈own i\/(C.H0 a=none/\¬ Wn own a/\U a)) (hU:∀a,U2 a->U a) (RV:∀a∈A',¬ U2 a):b5 P w (C.u U2) σ (upd H c o) (β.set i (some (.own d'))) (aS own i A'):=by
 obtain⟨g1,g2,g3,g4⟩:=b.dm i c hc;obtain⟨oc,JA⟩:∃oc,H c=some oc:=by
  cases q:H c with
  |none=>exact absurd q g1
  |some oc=>exact⟨oc,rfl⟩
 have ht:∀xs,oc≠.tup xs:=λxs z=>g2 xs (by rw[JA,z])
 have k:Kp (·=c) H (upd H c o):=jS JA ht;have h0:∀a∈own i,C.H0 a=none:=by obtain⟨_,_,_,h⟩:=b.ow i d e;exact h
 have wc:Wn own c:=⟨i,hc⟩;have sub:∀y a,fU (C.u U2) (Wn (aS own i A')) (yk y) a->fU (C.u U) (Wn own) (yk y) a:=λy a h=>by
  have q:∀a,Wn (aS own i A') a->Wn own a\/U a:=λa B4=>by
   obtain⟨j,q⟩:=B4
   by_cases aJ:i=j
   ·rw[aJ,os_eq]at q;rcases hA a q with z|z
    ·exact .inl ⟨i,z⟩
    ·exact .inr z.2.2
   ·rw[bD aJ]at q;exact .inl ⟨j,q⟩
  rcases h with h|h
  ·cases y with
   |true=>exact h.elim (λz=>(q a z).imp .inl id) λz=>.inl (.inr z)
   |false=>exact q a h
  ·exact .inr (hU a h)
 have mem:∀{j c},c∈aS own i A' j->(i=j/\c∈A')\/(i≠j/\c∈own j):=λ{j c} h=>by
  by_cases aJ:i=j
  ·subst aJ;rw[os_eq]at h;exact .inl ⟨rfl,h⟩
  ·rw[bD aJ]at h;exact .inr ⟨aJ,h⟩
 have Oq:∀j,i≠j->∀a∈own j,a≠c:=λj aJ a ha z=>aJ (b.m7 i j c hc (by rw[<- z];exact ha))
 refine⟨by simp[b.len],λj y' d2 e2=>?_,λj d2 e2=>?_,λj ok e2=>?_,λj a h=>?_,λj k2 a h1 h2=>?_,λj=>?_,⟨λa oa z n=>?_,λa xs z=>k.tup a xs (b.kp.tup a xs z)⟩,λa z=>?_,λj y' d2 e2=>by
  by_cases aJ:i=j
  ·subst aJ;obtain⟨e',hl⟩:=bA e2;cases e'
  ·rw[bp aJ]at e2;rw[bD aJ];obtain⟨u,h1,h2,h3⟩:=b.shl j y' d2 e2;exact⟨u,h1,h2.map (λa ha oa ea=>k.out a oa ea (Oq j aJ a ha)) (λ_ _ r=>ai.aV (sub _) (r.keep (k.mono λa z=>by rw[z];cases y' <;> first|exact .inl wc|exact .inl (.inl wc)))),h3⟩⟩
 ·by_cases aJ:i=j
  ·subst aJ;obtain⟨e',hl⟩:=bA e2;cases e'
  ·rw[bp aJ]at e2;obtain⟨u,h1,h2⟩:=b.val j y' d2 e2;exact⟨u,h1,(h2.keep (k.mono λa z=>by rw[z];cases y' <;> first|exact .inl wc|exact .inl (.inl wc))).aV (sub _)⟩
 ·by_cases aJ:i=j
  ·subst aJ;obtain⟨e',hl⟩:=bA e2;cases e';rw[os_eq];exact⟨v,hσ,r,λa ha=>(hA a ha).elim (h0 a) λz=>z.1⟩
  ·rw[bp aJ]at e2;rw[bD aJ];obtain⟨u,h1,h2,h3⟩:=b.ow j d2 e2;exact⟨u,h1,h2.keep k.tup (λa ha oa ea=>k.out a oa ea (Oq j aJ a ha)),h3⟩
 ·by_cases aJ:i=j
  ·subst aJ;obtain⟨e',hl⟩:=bA e2;cases e'
  ·rw[bp aJ]at e2;rw[bD aJ];obtain⟨a,ns,h1,h2,h3,h4,h5⟩:=b.nO j ok e2;exact⟨a,ns,h1,k.out a _ h2 (Oq j aJ a (by rw[h4];simp)),h3,h4,h5⟩
 ·rcases mem h with⟨_,h⟩|⟨aJ,h⟩
  ·exact⟨(r.nB a h).1,(r.nB a h).2,.inl ((hA a h).elim (h0 a) λz=>z.1),RV a h⟩
  ·obtain⟨q1,q2,q3,q4⟩:=b.dm j a h;rw[ao (Oq j aJ a h)];exact⟨q1,q2,q3,λz=>q4 (hU a z)⟩
 ·rcases mem h1 with⟨e1,h1⟩|⟨n1,h1⟩
  ·rcases mem h2 with⟨e2,h2⟩|⟨n2,h2⟩
   ·rw[<- e1,<- e2]
   ·rcases hA a h1 with z|z
    ·exact absurd (b.m7 i k2 a z h2) n2
    ·exact absurd ⟨k2,h2⟩ z.2.1
  ·rcases mem h2 with⟨e2,h2⟩|⟨n2,h2⟩
   ·rcases hA a h2 with z|z
    ·exact absurd (b.m7 i j a z h1) n1
    ·exact absurd ⟨j,h1⟩ z.2.1
   ·exact b.m7 j k2 a h1 h2
 ·by_cases aJ:i=j
  ·rw[<- aJ,os_eq];exact nd
  ·rw[bD aJ];exact b.nz j
 ·refine k.out a oa (b.kp.out a oa z n) λq=>?_;subst q;rw[h0 a hc]at z;cases z
 ·by_cases Ub:a=c
  ·rw[Ub,ar];exact λz=>(nomatch z)
  ·rw[ao Ub];exact b.iJ a z
theorem b5.putIn {P:Xz}{w:XT}{U:Addr->Prop}{d d':D}{v:V}{A':List Addr}{c:Addr}{o:HO}(b:b5 P w (C.u U) σ H β own)(e:β[i]?=some (some (.own d)))(hσ:σ[i]?=some (some v))(hc:c∈own i)
  (r:Own P w (upd H c o) d' v A') (nd:A'.Nodup) (hA:∀a∈A',a∈own i\/(C.H0 a=none/\¬ Wn own a/\U a)):b5 P w C.z σ (upd H c o) (β.set i (some (.own d'))) (aS own i A') :=
 b.Lw (U2:=λ_=>False) e hσ hc r nd hA (λ_ z=>z.elim) λ_ _ z=>z
theorem qf {A':List Addr}{c:Addr}{o:HO}{U:Addr->Prop}(n:Sn Z H (Wn own))(m:∀a,U a->Z.1 a=none)(hc:Wn own c)(JA:∃oc,H c=some oc/\∀xs,oc≠.tup xs)(hA:∀a∈A',a∈own i\/(C.H0 a=none/\¬ Wn own a/\U a)):Sn Z (upd H c o) (Wn (aS own i A')):=by
 obtain⟨oc,h1,h2⟩:=JA;have u:=Sn.upd (o':=o) n h1 h2 hc;exact⟨λb B0=>by
  obtain⟨j,hj⟩:=B0
  by_cases aJ:i=j
  ·rw[<- aJ,os_eq]at hj;rcases hA b hj with z|z
   ·exact n.w b ⟨i,z⟩
   ·exact .inr (m b z.2.2)
  ·rw[bD aJ]at hj;exact n.w b ⟨j,hj⟩,u.k,u.d⟩
theorem b5.sQ {P:Xz}{w:XT}{ds:List D}(b:b5 P w C σ H β own)(e:β[i]?=some (some (.own (.lst ds)))):∃a vs A',σ[i]?=some (some (.ref a))/\H a=some (.lst vs)/\own i=a::A'/\aK P w H ds vs A':=by
 obtain⟨v,h1,⟨a,vs,A',rfl,h2,h3,h4⟩,_⟩:=b.ow i _ e;exact⟨a,vs,A',h1,h2,h3,h4⟩
variable {px ap cp:Pos}
theorem cD (he:∀U,PQ X (C.u U) p e φ)(hN:X.N[i]?=some x:=by rfl)(hv:vW X.env.scope x:=by first|exact .inl rfl|exact .inr (.inl rfl)|exact .inr (.inr rfl))(hd:(x==("__debug__" : Str))=false:=by decide)(gZ:(x==("__classdict__" : Str))=false:=by decide)
  (gj:aaq (.Name x px) "append" X.env (eval (.Name x px) X.env)=eval (.Name x px) X.env:=by rfl)
  (vD:((ZT cp (XZ [e] X.env)).all (λx=>!x.1)&&(backToKw cp (keywordEach [] X.env)).all (λx=>x.1.isSome)&&decide ([e].length+([]:List Keyword).length+(if ([]:List Keyword).isEmpty then 0 else 1)<30))=true:=by rfl)
  (gh:(ap.endLine==cp.line)=true:=by rfl) (hs:XZ [e] X.env=(false,eval e X.env)::XZ [] X.env:=by rfl) (iy:(ZT cp (XZ [] X.env)).any (·.1)=false:=by rfl)
  (xh:Z5 (.Call (.Attribute (.Name x px) "append" ap) [e] [] cp) none pos.line X.env=pure false:=by rfl) :
  PB X C (.Expr (.Call (.Attribute (.Name x px) "append" ap) [e] [] cp) pos) (λE β=>(∃ds,β[i]?=some (some (.own (.lst ds))))/\φ β λd k β'=>E4 k d/\∃ds,β'[i]?=some (some (.own (.lst ds)))/\ds.length<XO/\E.nx (β'.set i (some (.own (.lst (ds++[d])))))):=by
 refine⟨λE E' β l BZ=>by obtain⟨h1,q⟩:=BZ;exact⟨h1,(he λ_=>False).mono _ _ _ (λd k β' BY=>by obtain⟨f,ds,h1,h2,q⟩:=BY;exact⟨f,ds,h1,h2,l.nx _ q⟩) q⟩,λpins s σ H D I ⟨Z,E,β,⟨own,sq,n⟩,⟨⟨Wr,hb⟩,q⟩,ok⟩=>?_⟩
 refine qm (pos:=pos) (Bc (apos:=ap) (cpos:=cp) PySem.F.plainAttrs_list PySem.F.slot_list_append PySem.F.type_list_append jN (dj (pos:=px) hN hv hd gZ) (bo (he λa=>H a=none).pe dk hs) gj vD gh hs iy) xh pins s σ H D I ?_;obtain⟨a,vs,A',h1,h2,h3,h4⟩:=sq.sQ hb;refine⟨.ref a,h1,.inl ⟨rfl,vs,c6.of h2⟩,tQ.of (he λa=>H a=none) (sq.rp (C:=C.z) (U:=λa=>H a=none) λa z=>z) q λd k β' v H1 aC ⟨f,ds,nR,hl,q⟩ o r=>?_⟩;obtain⟨a',vs',A1,g1,g2,g3,g4⟩:=o.sq.sQ nR;rw[h1]at g1;cases g1;obtain⟨A,r1,r2,r3⟩:=r.fl f;have ha:a∈aC i:=by rw[g3];simp
 have nd:(a::(A1++A)).Nodup:=by
  have q:=o.sq.nz i;rw[g3]at q;refine X9.mpr ⟨λz=>?_,YM.mpr ⟨(X9.mp q).2,r2,λx hx y hy e=>?_⟩⟩
  ·rcases XW.mp z with z|z
   ·exact(X9.mp q).1 z
   ·exact(r3 a z).2.1 ⟨i,ha⟩
  ·subst e;exact(r3 x hy).2.1 ⟨i,by rw[g3];simp[hx]⟩
 have hA:∀b∈a::(A1++A),b∈aC i\/(C.H0 b=none/\¬ Wn aC b/\H b=none):=λb hb=>by
  rcases Xy.mp hb with rfl|hb
  ·exact .inl ha
  ·rcases XW.mp hb with hb|hb
   ·exact .inl (by rw[g3];simp[hb])
   ·exact .inr ⟨(r3 b hb).2.2,(r3 b hb).2.1,(r3 b hb).1⟩
 have kt:∀b xs,H1 b=some (.tup xs)->upd H1 a (.lst (vs'++[v])) b=some (.tup xs):=λb xs z=>by
  rw[ao (λz'=>by rw[z',g2]at z;cases z)];exact z
 have ne1:∀c∈A1,c≠a:=λc hc z=>by
  have q:=o.sq.nz i;rw[g3]at q;exact(X9.mp q).1 (by rw[<- z];exact hc)
 have ne2:∀c∈A,c≠a:=λc hc z=>(r3 c hc).2.1 ⟨i,by rw[z];exact ha⟩
 have r':Own X.prog X.w (upd H1 a (.lst (vs'++[v]))) (.lst (ds++[d])) (.ref a) (a::(A1++A)) :=
  ⟨a,vs'++[v],A1++A,rfl,ar,rfl,(g4.keep kt λc hc oc ec=>by rw[ao (ne1 c hc)];exact ec).append (aK.one (r1.keep kt λc hc oc ec=>by rw[ao (ne2 c hc)];exact ec))⟩
 exact⟨a,vs',v,rfl,rfl,g2,by rw[g4.length];exact hl,ok.nx _ _ _ ⟨_,o.sq.putIn nR h1 ha r' nd hA,qf (n.trans o.sn) (λb z=>n.free z) ⟨i,ha⟩ ⟨_,g2,λxs z=>by cases z⟩ hA⟩ q⟩
end
abbrev dw:=D->Kd->a7->(a7->Prop)->Prop
abbrev pX:=List D->Kd->a7->(a7->Prop)->Prop
structure xO (X:Cx)(C:Cfg)(tg:Expr)(T:List Nat)(γ:dw):Prop where
 mono:∀d k β R R',(∀r,R r->R' r)->γ d k β R->γ d k β R'
 pg:PG X tg λv σ H Q=>∃own β d k,SQ X C σ H β own/\Rp X (fU C (Wn own) k) H d v/\γ d k β λβ'=>∀σ' aQ,SQ X C σ' H β' aQ->(∀a,Wn aQ a->Wn own a)->(∀j,j∉T->σ'[j]?=σ[j]?)->Q σ' H
structure F3 (X:Cx)(C:Cfg)(xV:List Expr)(T:List Nat)(γ:pX):Prop where
 mono:∀d k β R R',(∀r,R r->R' r)->γ d k β R->γ d k β R'
 S_:G6 X xV λvs σ H Q=>∃own β ds k,SQ X C σ H β own/\jy X (fU C (Wn own) k) H ds vs/\γ ds k β λβ'=>∀σ' aQ,SQ X C σ' H β' aQ->(∀a,Wn aQ a->Wn own a)->(∀j,j∉T->σ'[j]?=σ[j]?)->Q σ' H
section
variable {X:Cx}{C:Cfg}{tg:Expr}{xV:List Expr}{γ:dw}{γs:pX}{T T':List Nat}{pos:Pos}{e:Expr}{φ:aR}{p:Bool}
def Wf (i:Nat):dw:=λd k β R=>Gs d k λb=>R (β.set i (some b))
theorem ak {i:Nat}{x:Str}(hN:X.N.Nodup)(hi:X.N[i]?=some x:=by rfl)(hx:Loc X.env.scope x:=by first|exact .inl rfl|exact .inr rfl)
  (hf:X.fn x=true\/X.env.scope.names.lookup x=some .local:=by first|exact .inl rfl|exact .inr rfl|assumption):xO X C (.Name x pos) [i] (Wf i) :=
 ⟨λd k β R R' h q=>Gs.mono (d:=d) (k:=k) (K:=λb=>R (β.set i (some b))) (K':=λb=>R' (β.set i (some b))) (λ_=>h _) q,(wN hN hi hx hf).pre λv σ H Q vB=>by
  obtain⟨own,β,d,k,s,r,q⟩:=vB;have Oj:∀(v:V) (j:Nat),j∉[i]->(σ.set i (some v))[j]?=σ[j]?:=λv j hj=>bp (YS (by simpa using hj))
  cases k with
  |own=>exact q _ _ (s.fo (y:=true) r) (λa h=>eQ h) (Oj v)
  |dN=>exact q _ _ (s.fo (y:=true) r) (λa h=>eQ h) (Oj v)
  |old=>exact q _ _ (s.fo (y:=false) r) (λa h=>eQ h) (Oj v)
  |bor=>exact q.2 _ _ (s.fo (y:=true) (ay.flat q.1 r)) (λa h=>eQ h) (Oj v)⟩
abbrev sk (k:Kd):D->Kd
 |.int _=>.own
 |.bl _=>.own
 |.bP=>.own
 |.str _=>.own
 |_=>k.wk
theorem qh {P:Xz}{w:XT}{W:Addr->Prop}{H:Hp}{k:Kd}{d:D}{v:V}(r:ay P w (fU C W k) H d v):ay P w (fU C W (sk k d)) H d v:=by
 cases d with
 |int i=>exact ay.flat rfl r
 |bl i=>exact ay.flat rfl r
 |bP=>exact ay.flat rfl r
 |str i=>exact ay.flat rfl r
 |_=>exact ay.aV (λa z=>z.imp (C0 a) id) r
def JO:pX:=λds _ β R=>ds=[]/\R β
def Cg (γ:dw)(γs:pX):pX:=λds k β R=>∃d r,ds=d::r/\γ d (sk k d) β λβ'=>γs r k β' R
theorem bI:F3 X C [] [] JO:=⟨λd k β R R' h q=>⟨q.1,h _ q.2⟩,Ej.pre λvs σ H Q yR=>by
 obtain⟨own,β,ds,k,s,r,e,q⟩:=yR;subst e;exact⟨r,q σ own s (λ_ z=>z) λ_ _=>rfl⟩⟩
theorem aH (h1:xO X C tg T γ)(h2:F3 X C xV T' γs)(hs:(ZC (tg::xV) X.env).map (·.2)=assign tg X.env::(ZC xV X.env).map (·.2):=by rfl):F3 X C (tg::xV) (T++T') (Cg γ γs) :=
 ⟨λds k β R R' h BX=>by obtain⟨d,r,e,q⟩:=BX;exact⟨d,r,e,h1.mono _ _ β _ _ (λβ' q=>h2.mono r k β' _ _ h q) q⟩,
  (A_ h1.pg h2.S_ hs).pre λvs σ H Q Jn=>by
    obtain⟨own,β,ds,k,s,rr,d,r,e,q⟩:=Jn;subst e;obtain⟨v,vr,rfl,rv,U1⟩:=rr;exact⟨v,vr,rfl,own,β,d,_,s,qh rv,h1.mono _ _ β _ _ (λβ' q σ' aQ s' w' t'=>⟨aQ,β',r,k,s',ai.aV (jw w' k) U1,h2.mono r k β' _ _ (λβ2 q2 σ2 a8 s2 w2 t2=>q2 σ2 a8 s2 (λa z=>w' a (w2 a z)) λj hj=>(t2 j λz=>hj (Yk _ z)).trans (t' j λz=>hj (YU _ z))) q⟩) q⟩⟩
def We (n:Nat)(γs:pX):dw:=λd k β R=>∃ds,d=.tup ds/\ds.length=n/\γs ds k β R
theorem cw {k:Nat}{n:Nat}(hc:X.calm=true)(h:F3 X C xV T γs)(hn:(ZC xV X.env).length=n:=by rfl)(Mw:(ZC xV X.env).findIdx? (·.1)=none:=by rfl):xO X C (.Tuple xV k pos) T (We n γs) :=
 ⟨λd k β R R' hh Jm=>by obtain⟨ds,e,l,q⟩:=Jm;exact⟨ds,e,l,h.mono ds k β _ _ hh q⟩,(H_ hc h.S_ hn Mw).pre λv σ H Q Jl=>by
  obtain⟨own,β,d,k,s,r,ds,e,l,q⟩:=Jl;subst e;obtain⟨a,vs,rfl,ha,rs⟩:=r;exact⟨a,vs,rfl,qV.of ha,by rw[rs.length];exact l,own,β,ds,k,s,rs,q⟩⟩
theorem iW {Z:Hp×(Addr->Prop)}{H:Hp}{own aQ:Nat->List Addr}(n:Sn Z H (Wn own))(h:∀a,Wn aQ a->Wn own a):Sn Z H (Wn aQ):=⟨λb z=>n.w b (h b z),n.k,n.d⟩
theorem l9 (he:PQ X C.z p e φ)(hg:xO X C.z tg T γ)(hs:swapsWithSole [tg] e pos.line X.env=pure false:=by rfl)(hw:swappedStores [tg] e X.env=pure none:=by rfl)
  (h1:(ZC [tg] X.env).map (·.2)=[assign tg X.env]:=by rfl):PB X C (.Assign [tg] e pos) (λE β=>φ β λd k β'=>γ d k β' E.nx) :=
 ⟨λE E' β l q=>he.mono _ _ _ (λd k β' q=>hg.mono _ _ _ _ _ l.nx q) q,(qo he.pe hg.pg hs hw h1).pre λD σ H ⟨Z,E,β,⟨own,s,n⟩,q,ok⟩=>tQ.of he s q λd k β' v H' aQ q o r =>
  ⟨aQ,β',d,k,o.sq,ay.aV (λa z=>z.elim id λz=>z.elim) r.rep,hg.mono _ _ _ _ _ (λβ2 q σ2 a8 s2 w2 _=>ok.nx _ _ _ ⟨a8,s2,iW (n.trans o.sn) w2⟩ q) q⟩⟩
abbrev Tv (ro:Bool)(k:Kd)(d:D):Prop:=match k,ro with
 |.own,_=>True
 |.dN,false=>True
 |_,_=>d.flat=true
theorem fc {P:Xz}{w:XT}{W:Addr->Prop}{ro:Bool}{H H':Hp}{d:D}{v:V}(f:d.flat=true)(r:ay P w W H' d v):um P w ro H H' d v:=by
 cases ro with
 |true=>exact⟨[],c9 f r,YF,λc hc=>(nomatch hc)⟩
 |false=>exact ay.flat f r
theorem EN {P:Xz}{w:XT}{Z:Hp×(Addr->Prop)}{own:Nat->List Addr}{ro:Bool}{H':Hp}{k:Kd}{d:D}{v:V}(f:Tv ro k d)(r:KV P w C Z own H' k d v):um P w ro C.H0 H' d v:=by
 cases k with
 |own =>
  cases ro with
  |true=>obtain⟨A,h1,h2,h3⟩:=r;exact⟨A,h1,h2,λc hc=>(h3 c hc).2.2⟩
  |false=>exact ay.aV (λa z=>.inr z) r.rep
 |dN =>
  cases ro with
  |true=>exact fc f r.rep
  |false=>exact ay.aV (λa z=>.inr z) r.rep
 |old=>cases ro <;> exact fc f r.rep
 |bor=>cases ro <;> exact fc f r.rep
theorem aY (he:PQ X C.z p e φ):PB X C (.Return (some e) pos) (λE β=>φ β λd k β'=>Tv C.ro k d/\E.rt d β') :=
 ⟨λE E' β l q=>he.mono _ _ _ (λd k β' q=>⟨q.1,l.rt _ _ q.2⟩) q,(jK he.pe).pre λD σ H Jj=>by obtain⟨Z,E,β,⟨own,s,n⟩,q,ok⟩:=Jj;exact tQ.of he s q λd k β' v H' aQ q o r=>ok.rt _ _ _ _ _ (o.sb n) (EN (C:=C.z) q.1 r) q.2⟩
theorem i4 {i:Nat}{x:Str}{px:Pos}(hN:X.N[i]?=some x:=by rfl)(hv:vW X.env.scope x:=by first|exact .inl rfl|exact .inr (.inl rfl)|exact .inr (.inr rfl))(hd:(x==("__debug__" : Str))=false:=by decide)(gZ:(x==("__classdict__" : Str))=false:=by decide):
  PB X C (.Return (some (.Name x px)) pos) (λE β=>∃d,β[i]?=some (some (.own d))/\E.rt d β) :=
 ⟨λE E' β l vA=>by obtain⟨d,h1,q⟩:=vA;exact⟨d,h1,l.rt _ _ q⟩,(jK (dj (pos:=px) hN hv hd gZ)).pre λD σ H B5=>by
  obtain⟨Z,E,β,⟨own,s,n⟩,⟨d,h1,q⟩,ok⟩:=B5;obtain⟨v,e1,r,h0⟩:=s.ow i d h1;refine⟨_,e1,ok.rt _ _ _ _ _ ⟨own,s,n⟩ ?_ q⟩;cases hr:C.ro with
  |true=>exact⟨_,r,s.nz i,h0⟩
  |false=>exact r.rep λc hc z=>z (h0 c hc)⟩
end
abbrev cv:=a7->(List D->Kd->a7->Prop)->Prop
structure vY (X:Cx)(C:Cfg)(p:Bool)(tg iter:Expr)(ι:cv):Prop where
 mono:∀β R R',(∀d k β,R d k β->R' d k β)->ι β R->ι β R'
 pi:PI X tg iter λσ H R=>∃β own,SQ X C σ H β own/\ι β λds k β'=>∀J H' aQ,Out X C σ H own p β' H' aQ->xQ X (av C (Wn aQ) k) J ds H'->R J H'
section
variable {X:Cx}{C:Cfg}{tg e a b:Expr}{φ:aR}{φs:cO}{p:Bool}{pp pos:Pos}
def Qq (φ:aR):cv:=λβ R=>φ β λd k β'=>∃ds,d=.lst ds/\R ds k β'
theorem bh (h:PQ X C p e φ):vY X C p tg e (Qq φ) :=
 ⟨λβ R R' k q=>h.mono β _ _ (λd kd β' Jz=>by obtain⟨ds,e,q⟩:=Jz;exact⟨ds,e,k _ _ _ q⟩) q,(wM h.pe).pre λσ H R ⟨β,own,s,q⟩=>tQ.of h s q λd k β' v H1 aC B4 o1 r1=>by
  obtain⟨ds,e,q1⟩:=B4;subst e;obtain⟨a,vs,rfl,h1,n1,q2⟩:=r1.rep;exact⟨a,rfl,⟨vs,c6.of h1⟩,q1 _ _ aC o1 (sX h1 n1 q2)⟩⟩
def E_ (φs:cO):cv:=λβ R=>φs β λds _ β'=>∃j:Int,ds=[.int j]/\-(2 ^ 62)<=j/\j<2 ^ 62/\R (qk 0 j.toNat) .dN β'
def xg (φs:cO):cv:=λβ R=>φs β λds _ β'=>∃i j:Int,ds=[.int i,.int j]/\(-(2 ^ 62)<=i/\i<2 ^ 62/\-(2 ^ 62)<=j/\j<2 ^ 62)/\R (qk i (j-i).toNat) .dN β'
theorem bw (hm:X.mg "range" = none) (ha:uA X C p [a] φs) (hg:Gl X "range" := by rfl) (hs:XZ [a] X.env=[(false,eval a X.env)]:=by rfl):vY X C p tg (.Call (.Name "range" pp) [a] [] pos) (E_ φs) :=
 ⟨λβ R R' k q=>ha.mono β _ _ (λd kd β' Jx=>by obtain⟨j,e,h1,h2,q⟩:=Jx;exact⟨j,e,h1,h2,k _ _ _ q⟩) q,(yv hg hm ha.pa hs).pre λσ H R ⟨β,own,s,q⟩=>we.of ha s q λds ks β' vs H1 aC Jv o1 r1=>by
  obtain⟨j,e,h1,h2,q1⟩:=Jv;subst e;obtain⟨x,rfl,hx⟩:=jx r1.jH;cases hx;exact⟨j,rfl,h1,h2,q1 _ _ aC o1 jU⟩⟩
theorem ik (hm:X.mg "range" = none) (ha:uA X C p [a,b] φs) (hg:Gl X "range" := by rfl) (hs:XZ [a,b] X.env=[(false,eval a X.env),(false,eval b X.env)]:=by rfl) (uv:XZ [b] X.env=[(false,eval b X.env)]:=by rfl) :
  vY X C p tg (.Call (.Name "range" pp) [a,b] [] pos) (xg φs) :=
 ⟨λβ R R' k q=>ha.mono β _ _ (λd kd β' Ju=>by obtain⟨i,j,e,h1,q⟩:=Ju;exact⟨i,j,e,h1,k _ _ _ q⟩) q,(oK hg hm ha.pa hs uv).pre λσ H R ⟨β,own,s,q⟩=>we.of ha s q λds ks β' vs H1 aC QZ o1 r1=>by
  obtain⟨i,j,e,h1,q1⟩:=QZ;subst e;obtain⟨x,y,rfl,hx,hy⟩:=pV r1.jH;cases hx;cases hy;exact⟨i,j,rfl,h1,q1 _ _ aC o1 jU⟩⟩
end
def Fq (γ:dw)(ψ:F2)(E:fN)(ds:List D)(k:Kd)(β:a7):Prop:=∃I:Nat->a7->Prop,I 0 β/\(∀i d β,ds[i]?=some d->I i β->γ d (sk k d) β λβ1=>ψ (E.lp (I (i+1))) β1)/\∀β,I ds.length β->E.nx β
section
variable {X:Cx}{C:Cfg}{tg iter c:Expr}{γ:dw}{T:List Nat}{ψ:F2}{ι:cv}{τ:aW}{body:List Stmt}{pos:Pos}{p:Bool}
theorem Fq.mono {E E':fN}{ds:List D}{k:Kd}{β:a7}(hγ:∀d k β R R',(∀r,R r->R' r)->γ d k β R->γ d k β R')(hψ:∀E E' β,Le E E'->ψ E β->ψ E' β)(l:Le E E'):Fq γ ψ E ds k β->Fq γ ψ E' ds k β:=λ⟨I,h0,h1,h2⟩ =>
 ⟨I,h0,λi d β e q=>hγ d _ β _ _ (λβ1 q=>hψ {nx:=I (i+1),rt:=E.rt,bk:=E.nx,ct:=I (i+1)} {nx:=I (i+1),rt:=E'.rt,bk:=E'.nx,ct:=I (i+1)} β1 ⟨λ_ q=>q,l.rt,l.nx,λ_ q=>q⟩ q) (h1 i d β e q),λβ q=>l.nx _ (h2 β q)⟩
theorem FW {own a8:Nat->List Addr}{H H2:Hp}{k:Kd}(n:Sn (H,Wn own) H2 (Wn a8)):∀b,av C (Wn a8) k b->av C (Wn own) k b\/H b=none:=λb z=>by
 cases k with
 |own=>exact z.elim (λz=>(n.w b z).imp .inl id) λz=>.inl (.inr z)
 |dN=>exact z.elim (λz=>(n.w b z).imp .inl id) λz=>.inl (.inr z)
 |old=>exact n.w b z
 |bor=>exact z.elim
theorem cB (hp:PassesOwn (model X.prog X.w) X.A X.env X.xe)(hc:X.calm=true)(hi:vY X C.z p tg iter ι)(hg:xO X C.z tg T γ)(hb:uB X C body ψ)(hs:∀x,Yy iter X.env x=pure x:=by intro _;rfl):
  PB X C (.For tg iter body [] pos) (λE β=>ι β λds k β1=>hold k false/\Fq γ ψ E ds k β1) :=
 ⟨λE E' β l q=>hi.mono _ _ _ (λds k β1 q=>⟨q.1,q.2.mono hg.mono hb.mono l⟩) q,(AW hp hc hi.pi hg.pg hb.ps hs).pre λD σ H QX=>by
  obtain⟨Z,E,β,⟨own,s,n⟩,q,ok⟩:=QX;refine⟨β,own,s,hi.mono _ _ _ (λds k β1 ⟨hk,I,i0,i1,i2⟩ J H1 aC o1 it=>?_) q⟩;have n':=n.trans o1.sn;have ig:∀b,Wn aC b\/H1 b=none->av C.z (Wn aC) k b\/H1 b=none:=λb z=>by
   cases k with
   |own=>exact z.imp .inl id
   |dN=>exact z.imp .inl id
   |old=>exact z
   |bor=>exact hk.elim
  have Gu:=it (λb=>av C.z (Wn aC) k b\/H1 b=none) λb z=>z;refine⟨λi m σ H=>i<=ds.length/\m=ds.length-i/\∃β,SB X C (H1,Wn aC) σ H β/\I i β,⟨_,XG _,rfl,β1,⟨aC,o1.sq,Sn.refl⟩,i0⟩,?_⟩;rintro i m σ2 H2 ⟨hi,rfl,β2,⟨a8,s2,n2⟩,hl⟩;obtain⟨cj,nM⟩:=Gu i H2 (n2.k.mono ig)
  by_cases d9:i<ds.length
  ·right
   have hd:ds[i]?=some ds[i]:=XH d9;obtain⟨go,yl⟩:=cj _ hd;refine⟨go,λσ' H'=>∃β,SB X C (H1,Wn aC) σ' H' β/\I (i+1) β,λσ' H' Js=>by obtain⟨β',uX,vC⟩:=Js;exact⟨_,by lia,d9,rfl,β',uX,vC⟩,λx H3 y=>?_⟩
   obtain⟨s3,r3⟩:=yl x H3 y;refine⟨a8,β2,_,_,s2.same s3,qh (C:=C.z) (ay.aV (λb z=>FW (C:=C) n2 b (z.elim id λz=>z.elim)) r3),hg.mono _ _ _ _ _ (λβ4 q σ4 sg s4 w4 _=>?_) (i1 i _ β2 hd hl)⟩;refine⟨(H1,Wn aC),_,β4,⟨sg,s4,iW (n2.same s3) w4⟩,q,⟨λσ5 H5 β5 yg q5=>⟨β5,yg,q5⟩,λσ5 H5 β5 d5 v5 yg r5 q5=>?_,λσ5 H5 β5 yg q5=>?_,λσ5 H5 β5 yg q5=>⟨β5,yg,q5⟩⟩⟩
   ·obtain⟨i9,s5,n5⟩:=yg;exact ok.rt _ _ _ _ _ ⟨i9,s5,n'.trans n5⟩ r5 q5
   ·obtain⟨i9,s5,n5⟩:=yg;exact ok.nx _ _ _ ⟨i9,s5,n'.trans n5⟩ q5
  ·left
   have e:i=ds.length:=by lia
   subst e;exact⟨nM (Xx _),ok.nx _ _ _ ⟨a8,s2,n'.trans n2⟩ (i2 β2 hl)⟩⟩
def Hm (τ:aW)(ψ:F2):F2:=λE β=>∃V:Nat->a7->Prop,(∃m,V m β)/\∀m β,V m β->τ β λt β1=>if t=true then ψ {nx:=λβ'=>∃m',m'<m/\V m' β',rt:=E.rt,bk:=E.nx,ct:=λβ'=>∃m',m'<m/\V m' β'} β1 else E.nx β1
theorem Bd (hp:PassesOwn (model X.prog X.w) X.A X.env X.xe)(hc:uz X C.z p c τ)(hb:uB X C body ψ):PB X C (.While c body [] pos) (Hm τ ψ) :=
 ⟨λE E' β l ⟨V,h0,h⟩=>⟨V,h0,λm β v=>hc.mono _ _ _ (λt β1 q=>by
   cases t
   ·exact l.nx _ q
   ·exact hb.mono {nx:=λβ'=>∃m',m'<m/\V m' β',rt:=E.rt,bk:=E.nx,ct:=λβ'=>∃m',m'<m/\V m' β'} {nx:=λβ'=>∃m',m'<m/\V m' β',rt:=E'.rt,bk:=E'.nx,ct:=λβ'=>∃m',m'<m/\V m' β'} β1 ⟨λ_ q=>q,l.rt,l.nx,λ_ q=>q⟩ q) (h m β v)⟩,(AV hp hc.pt hb.ps).pre λD σ H Jr=>by
  obtain⟨Z,E,β,sb,⟨V,⟨m0,v0⟩,h⟩,ok⟩:=Jr;refine⟨λm σ H=>∃β,SB X C Z σ H β/\V m β,⟨m0,β,sb,v0⟩,λm σ H ⟨β,⟨own,s,n⟩,v⟩=>?_⟩;refine iT.of hc s (h m β v) λt β1 H1 aC q o1=>?_;cases t
  ·exact ok.nx _ _ _ (o1.sb n) q
  ·exact⟨λσ' H'=>∃β',SB X C Z σ' H' β'/\∃m',m'<m/\V m' β',λσ' H' Jp=>by obtain⟨β',uX,m',hm,v'⟩:=Jp;exact⟨m',hm,β',uX,v'⟩,Z,_,β1,o1.sb n,q,λσ' H' β' uX q'=>⟨β',uX,q'⟩,ok.rt,ok.nx,λσ' H' β' uX q'=>⟨β',uX,q'⟩⟩⟩
end
def startB (N:List Str)(ds:List D):a7:=ds.map (λd=>some (.val false d))++Yl (N.length-ds.length) none
def jE (N:List Str)(ok:List Int->Prop)(ds:List D):a7:=some (.hand ok)::(ds.map (λd=>some (.val false d))++Yl (N.length-(ds.length+1)) none)
section
variable {P:Xz}{w:XT}{K:PySem.W.Frag}{mg:Str->Option Xv}{base:Heap}
theorem fW {i n:Nat}{b:B}(h:(Yl n (none:Option B))[i]?=some (some b)):False:=by
 rw[List.getElem?_replicate]at h
 split at h <;> cases h
theorem eZ {ds:List D}{n i:Nat}{b:B}(h:(ds.map (λd=>some (B.val false d))++Yl n none)[i]?=some (some b)):∃d,ds[i]?=some d/\b=.val false d:=by
 by_cases hi:i<ds.length
 ·rw[Y4 (by simpa using hi),XM]at h
  cases q:ds[i]? with
  |none=>rw[q]at h;cases h
  |some d=>rw[q]at h;cases h;exact⟨d,rfl,rfl⟩
 ·rw[YI (by simpa using hi)]at h
  exact(fW h).elim
theorem jD {N:List Str}{vs:List V}{i:Nat}{v:V}(h:vs[i]?=some v):(start N vs)[i]?=some (some v):=by
 unfold start;rw[Y4 (by simpa using (XI.mp h).1),XM,h]
 rfl
theorem Ar {N:List Str}{vs:List V}{ds:List D}{H:Hp}{ro:Bool}(r:ai P w (λ_=>False) H ds vs):b5 P w ⟨H,λ_=>False,ro,λ_=>False⟩ (start N vs) H (startB N ds) (λ_=>[]):=by
 refine⟨?_,λi y d h=>?_,λi d h=>?_,λi ok h=>?_,λi a h=>(nomatch h),λi j a h=>(nomatch h),λi=>YF,Kp.refl,λ_ z=>z,λi y d h=>by obtain⟨d',e,e'⟩:=eZ h;cases e'⟩
 ·unfold startB start;simp[r.length]
 ·obtain⟨d',e,e'⟩:=eZ h;cases e';obtain⟨v,e1,e2⟩:=ai.get r e;exact⟨v,jD e1,ay.aV (λa z=>z.elim (λQU=>by obtain⟨_,q⟩:=QU;exact(nomatch q)) λz=>z) e2⟩
 ·obtain⟨d',e,e'⟩:=eZ h;cases e'
 ·obtain⟨d',e,e'⟩:=eZ h;cases e'
theorem oR {x qual:Str}{st:Stmt}{f:Addr}{fd:Yr}{N ps:List Str}{k:Nat}{F:FD}{ro:Bool}(G:Dx K x qual st f fd)(S:aL N ps (aw st))(len:∀ds R,F ds R->ds.length=ps.length)
  (mN:∀(cP:Xv) (A:Yv) (outer:List Env) (s:Xw) (H:Hp) (E:XK),cT k (A.deeper (envOfC qual (aw st) s.heap.objs.size f cP)) ->
   ∃ψ,uB (n_ bU P w K mg base N qual (aw st) f cP A outer s H E).Gh ⟨H,λ_=>False,ro,λ_=>False⟩ (eO st) ψ/\∀ds R,F ds R->ψ {nx:=λ_=>R .bP,rt:=λd _=>R d} (startB N ds)) :
  aN P w K mg base bU (k+1) f fd ps (dO P w ro F):=by
 refine G.ok S (λvs H Q E h=>?_) (λcP A outer s H vs Q E hr h=>?_)
 ·obtain⟨ds,r,h⟩:=h;rw[r.length];exact len ds _ h
 ·obtain⟨ds,r,h⟩:=h;obtain⟨ψ,hb,hF⟩:=mN cP A outer s H E hr;refine⟨_,hb.ps,(H,Wn λ_=>[]),_,startB N ds,⟨λ_=>[],Ar r,Sn.refl⟩,hF ds _ h,λσ H' β sb q=>?_,λσ H' β d v sb rr q=>?_,λ_ _ _ _ z=>z.elim,λ_ _ _ _ z=>z.elim⟩
  ·obtain⟨own,s',n'⟩:=sb;exact q _ H' (λb o e=>s'.kp.out b o e (λz=>z)) (fc (W:=λ_=>False) rfl rfl)
  ·obtain⟨own,s',n'⟩:=sb;exact q _ H' (λb o e=>s'.kp.out b o e (λz=>z)) rr
theorem x_ {N:List Str}{ok:List Int->Prop}{h:Addr}{ns:List Int}{vs:List V}{ds:List D}{H:Hp}{ro:Bool}(hh:H h=some (.lst (ns.map V.int)))(ho:ok ns)(r:ai P w (λa=>a=h) H ds vs):
  b5 P w ⟨H,(·=h),ro,λ_=>False⟩ (start N (.ref h::vs)) H (jE N ok ds) (λi=>if i=0 then [h] else []):=by
 have Er:∀{i:Nat} {a:Addr},a∈(if i=0 then [h] else ([]:List Addr))->i=0/\a=h:=λ{i a} q=>by
  by_cases e:i=0
  ·rw[if_pos e]at q;exact⟨e,by simpa using q⟩
  ·rw[if_neg e]at q;cases q
 have Fo:∀{i:Nat} {b:B},(jE N ok ds)[i]?=some (some b)->(i=0/\b=.hand ok)\/∃j d,i=j+1/\ds[j]?=some d/\b=.val false d:=λ{i b} q=>by
  unfold jE at q;cases i with
  |zero=>simp at q;exact .inl ⟨rfl,q.symm⟩
  |succ i =>
   rw[aah]at q;obtain⟨d,e,e'⟩:=eZ q;exact .inr ⟨i,d,rfl,e,e'⟩
 refine⟨?_,λi y d q=>?_,λi d q=>?_,λi zH q=>?_,λi a q=>?_,λi j a h1 h2=>?_,λi=>?_,Kp.refl,λ_ z=>z,λi y d q=>(Fo q).elim (λNa=> by obtain⟨_,e⟩ := Na;cases e) (λM_=> by obtain⟨j,d',_,_,e'⟩ := M_;cases e')⟩
 ·unfold jE start;simp[r.length]
 ·rcases Fo q with⟨_,e⟩|⟨j,d',rfl,e,e'⟩
  ·cases e
  ·cases e';obtain⟨v,e1,e2⟩:=ai.get r e;exact⟨v,jD (by simpa using e1),ay.aV (λa z=>z.elim (λJo=>by obtain⟨j,q⟩:=Jo;exact(Er q).2) λz=>z.elim) e2⟩
 ·rcases Fo q with⟨_,e⟩|⟨j,d',_,_,e'⟩
  ·cases e
  ·cases e'
 ·rcases Fo q with⟨e0,e⟩|⟨j,d',_,_,e'⟩
  ·cases e;subst e0;exact⟨h,ns,jD rfl,hh,ho,rfl,.inr rfl⟩
  ·cases e'
 ·obtain⟨_,rfl⟩:=Er q;exact⟨by rw[hh];exact λz=>(nomatch z),λxs z=>(by rw[hh]at z;cases z),.inr rfl,λz=>z⟩
 ·rw[(Er h1).1,(Er h2).1]
 ·by_cases e:i=0
  ·simp[e]
  ·simp[e]
theorem Iv {x qual:Str}{st:Stmt}{f:Addr}{fd:Yr}{N ps:List Str}{k:Nat}{F:FD}{ok:List Int->Prop}{ro:Bool}(G:Dx K x qual st f fd)(S:aL N ps (aw st))(len:∀ds R,F ds R->ds.length+1=ps.length)
  (mN:∀(cP:Xv) (A:Yv) (outer:List Env) (s:Xw) (H:Hp) (E:XK) (IO:Addr->Prop),cT k (A.deeper (envOfC qual (aw st) s.heap.objs.size f cP)) ->
   ∃ψ,uB (n_ bU P w K mg base N qual (aw st) f cP A outer s H E).Gh ⟨H,IO,ro,λ_=>False⟩ (eO st) ψ/\∀ds R,F ds R->ψ {nx:=λ_=>False,rt:=λd β=>β[0]?=some (some (.hand ok))/\R d} (jE N ok ds)) :
  aN P w K mg base bU (k+1) f fd ps (kU P w ok ro F):=by
 refine G.ok S (λvs H Q E h=>?_) (λcP A outer s H vs Q E hr h=>?_)
 ·obtain⟨h,vs',ds,ns,rfl,hh,ho,r,q⟩:=h;rw[XJ,r.length];exact len ds _ q
 ·obtain⟨h,vs',ds,ns,rfl,hh,ho,r,q⟩:=h;obtain⟨ψ,hb,hF⟩:=mN cP A outer s H E (·=h) hr;refine⟨_,hb.ps,(H,_),_,jE N ok ds,⟨_,x_ hh ho r,Sn.refl⟩,hF ds _ q,λσ H' β sb z=>z.elim,λσ H' β d v sb rr ⟨b0,q⟩=>?_,λ_ _ _ _ z=>z.elim,λ_ _ _ _ z=>z.elim⟩;obtain⟨own,s',n'⟩:=sb;obtain⟨a,oS,g1,g2,g3,g4,g5⟩:=s'.nO 0 ok b0;have ea:a=h:=g5.elim (λz=>(z h rfl).elim) λz=>z;subst ea;exact q v H' oS s'.kp s'.iJ g2 g3 rr
end
end L2.Q
namespace L2
open PySem PySem.Spec PySem.SeqAt PyProof.Rows
theorem uk.pre {X:Cx}{ifs:List Expr}{t t':TT}(h:uk X ifs t)(k:∀σ H Q,t' σ H Q->t σ H Q):uk X ifs t':=λpins s σ H Q I q=>h pins s σ H Q I (k σ H Q q)
section
end
section
end
section
variable {X:Cx}{e:Expr}{g:aad}{gs:List aad}{scope:aaa}{N':List Str}{lk:List (Option Nat)}{tg:Addr->TG}{tt:Addr->TT}{wi:TI}
theorem kR {eU:Sem Xv}{o:HO}{after:Xv->Env->Sem Fin->Sem Fin}{ta:Addr->nu}(L:Links X scope N' lk)(hc:X.calm=true)(hA:ny X eU o)
  (F:∀acc env,h_ e 0 g acc env (after acc env))
  (yS:∀a cl C s H ex,PG (aA X scope N' cl C s H ex) g.target (tg a)/\uk (aA X scope N' cl C s H ex) g.ifs (tt a)/\qX (aA X scope N' cl C s H ex) (after (.ref a) (aA X scope N' cl C s H ex).env) (ta a))
  {cl:List (Str×Addr)} (nQ:∀x,(x,Yz)∈scope.names->∃c,cl.lookup x=some c) (nP:∀x c,cl.lookup x=some c->X.env.cells.lookup x=some c)
  {pins:List (Addr×Obj)} {σ:St} {s:Xw} {Q:V->Hp->Prop} {Gv:Xv} {E:Xv->Xw->Prop} {RR:Xv->Addr->Result->Xw->Prop}
  (h:KQ X pins σ g.target (λJ H1=>∀a,H1 a=none->fG J (tg a) (tt a) (ta a) (λ_ H'=>Q (.ref a) H') (da lk σ) (upd H1 a o)) Gv s)
  (hR:∀a H' C s',Inv X pins σ H' s'->gw X pins H' C->(∃m,s'.heap.Ns C m)->Q (.ref a) H'->RR (.ref a) C (.ok .next) s') :
  X4 (model X.prog X.w) X.A eU (λacc s₃=>X4 (model X.prog X.w) X.A (newFunctionEnv scope X.env.globals cl [] X.env.qual none .none (some X.env)) (λNS s₄ =>
   aaM (model X.prog X.w) X.A (.compStart e 0 Gv acc {NS with scope:=relabel scope X.env}) (RR acc NS.locals) s₄) E s₃) E s:=by
 obtain⟨it,fp,tn,J,H2,e1,I2,T,fH,f2,hl⟩:=h;subst e1;refine hA.ok pins s σ H2 _ E I2 λa s3 ha hn hk I3=>?_;refine wpAny_newFunctionEnv L.ve (by intro y hy;simp at hy) (λh₁ JC Ji=>?_) L.kind
 have Q6:∀b∈fp,∃o,s3.heap.get? b=some o:=λb hb=>by
  obtain⟨ob,q,_⟩:=T.obj _ _ fH b hb;exact⟨ob,hk b ob q⟩
 have RM:∀b∈fp,b≠a:=λb hb=>by
  obtain⟨ob,q,_⟩:=T.obj _ _ fH b hb;exact Yc (Yi (XU q) ha)
 have f3:∀b∈fp,gw X pins (upd H2 a o) b:=λb hb=>⟨by rw[ao (RM b hb)];exact(f2 b hb).1,(f2 b hb).2⟩
 have Ro:∀b ob,s3.heap.get? b=some ob->h₁.get? b=some ob:=λb ob q=>Ji.extBut b ob (Yc (XU q)) (XA _ q);have OB:h₁.Ns s3.heap.objs.size (λ_=>none):=JC;have I4:=BR (t':=s3.toks+([]:List (Str×Xv)).length) I3 L f3 Q6 nQ nP OB Ro;obtain⟨g1,g2,g3⟩:=yS a cl s3.heap.objs.size s3 (upd H2 a o) fp;have f4:∀b∈fp,gw (aA X scope N' cl s3.heap.objs.size s3 (upd H2 a o) fp) [] (upd H2 a o) b:=λb hb =>
  ⟨(f3 b hb).1,(I4.ok.OM b hb).1,I4.ok.Cu b hb,.inl hb,(I4.ok.OM b hb).2,λp hp=>absurd (show p∈([]:List (Addr×Obj)) from hp) (by simp)⟩
 have La:tn 0 h₁:=T.keep 0 _ _ fH λb hb ob q=>Ro b ob (hk b ob q);refine aal (ng (X:=aA X scope N' cl s3.heap.objs.size s3 (upd H2 a o) fp) rfl hc (F (.ref a) _) g1 g2 g3 T I4 La f4 (hl a hn)) λr s' hr=>?_;obtain⟨rfl,σ',H',J',q⟩:=hr;have I5:Inv X pins σ H' s':=BS (C:=s3.heap.objs.size) (h'':=s'.heap) I3 f3 J' (.refl ..);refine hR a H' s3.heap.objs.size s' I5 (I3.Cm (Xx _) J'.free) ?_ q;obtain⟨m,hm,_⟩:=J'.loc;exact⟨m,hm⟩
theorem fZ {eU:Sem Xv}{o:HO}{after:Xv->Env->Sem Fin->Sem Fin}{ta:Addr->nu}{pos:Pos}(L:Links X scope N' lk)(hc:X.calm=true)(hA:ny X eU o)
  (JJ:eval e X.env=comprehension e scope X.env pos eU false (eval g.iter X.env)) (Fi:clausesOf e=g::gs)
  (F:∀acc env,h_ e 0 g acc env (after acc env)) (hi:PI X g.target g.iter wi)
  (yS:∀a cl C s H ex,PG (aA X scope N' cl C s H ex) g.target (tg a)/\uk (aA X scope N' cl C s H ex) g.ifs (tt a)/\qX (aA X scope N' cl C s H ex) (after (.ref a) (aA X scope N' cl C s H ex).env) (ta a))
  (hs:∀x,Yy g.iter X.env x=pure x) :
  PE X e (λσ H Q=>wi σ H λJ H1=>∀a,H1 a=none->fG J (tg a) (tt a) (ta a) (λ_ H'=>Q (.ref a) H') (da lk σ) (upd H1 a o)):=by
 intro pins s σ H Q I h;rw[JJ];obtain⟨cl,Cc,nQ,nP⟩:=hZ (env:=X.env) (scope:=scope) λx hx=>I.ok.has x (L.free x hx);refine wpAny_comprehension_free (use:=none) Fi hs Cc L.kind L.names (bF (hi pins s σ H _ I h) λv s1 h1=>bF h1 λGv s2 h2=>?_);refine kR (RR:=λacc C=>compPost (model X.prog X.w) X.A X.xe none (EP X pins σ Q) acc C) L hc hA F yS nQ nP h2 λa H' C s' I' f ⟨m,hm⟩ q=>?_;exact⟨m,hm,λh' yQ=>⟨.ref a,H',I'.sameBut f yQ,rfl,q⟩⟩
theorem AX {eU:Sem Xv}{o:HO}{after:Xv->Env->Sem Fin->Sem Fin}{ta:Addr->nu}{pos pos' rG:Pos}{y:Str}{i:Nat}(L:Links X scope N' lk)(hc:X.calm=true)(hA:ny X eU o)
  (xh:Z5 e (some (.Name y pos')) rG.line X.env=pure true)
  (JJ:evalThenUse e X.env (assign (.Name y pos') X.env)=(do let _ <- comprehension e scope X.env pos eU false (eval g.iter X.env) (some (assign (.Name y pos') X.env));pure ())) (Fi:clausesOf e=g::gs)
  (hN:X.N.Nodup) (hy:X.N[i]?=some y) (hx:Loc X.env.scope y) (hf:X.fn y=true\/X.env.scope.names.lookup y=some .local)
  (F:∀acc env,h_ e 0 g acc env (after acc env)) (hi:PI X g.target g.iter wi)
  (yS:∀a cl C s H ex,PG (aA X scope N' cl C s H ex) g.target (tg a)/\uk (aA X scope N' cl C s H ex) g.ifs (tt a)/\qX (aA X scope N' cl C s H ex) (after (.ref a) (aA X scope N' cl C s H ex).env) (ta a))
  (hs:∀x,Yy g.iter X.env x=pure x) :
  PS X (.Assign [.Name y pos'] e rG) (λD σ H=>wi σ H λJ H1=>∀a,H1 a=none->fG J (tg a) (tt a) (ta a) (λ_ H'=>D.nx (σ.set i (some (.ref a))) H') (da lk σ) (upd H1 a o)):=by
 intro pins s σ H D I h;rw[exec_Assign_Name_used _ _ _ _ xh,JJ];refine Xs (ZR (Xs (Xs ?_)));obtain⟨cl,Cc,nQ,nP⟩:=hZ (env:=X.env) (scope:=scope) λx hx=>I.ok.has x (L.free x hx);refine bF (wpAny_comprehension_free (use:=some (assign (.Name y pos') X.env)) (Q:=λ_ s'=>SP X pins D .next s') Fi hs Cc L.kind L.names (bF (hi pins s σ H _ I h) λv s1 h1=>bF h1 λGv s2 h2=>?_)) λ_ s' q=>XB (XB q)
 refine kR (Q:=λv H'=>D.nx (σ.set i (some v)) H') (RR:=λacc C=>compPost (model X.prog X.w) X.A X.xe (some (assign (.Name y pos') X.env)) (λ_ s'=>SP X pins D .next s') acc C) L hc hA F yS nQ nP h2 λa H' C s' I' f ⟨m,hm⟩ q=>?_
 show X4 _ _ (assign (.Name y pos') X.env (.ref a)) _ _ s';have Xm:∃o,s'.heap.get? C=some o:=by obtain⟨o,_,_,ho,_⟩:=hm;exact⟨o,ho⟩
 refine wpAny_assign_Name (oC I' hN hy hx (v:=.ref a) (u:=.ref a) rfl (λs4 I4 k4=>?_) hf);obtain⟨a4,U0,V7⟩:=k4;have B9:C≠a4:=by
  rcases V7 with z|z
  ·rw[z];exact f.2.1
  ·exact(f.2.2.2.2.1 y a4 z).symm
 exact⟨m,hm.at' (λo e=>(U0.2 C B9).trans e),λh' yQ=>⟨_,H',I4.sameBut f yQ,q⟩⟩
end
end L2
namespace L2.Q
open PySem PySem.Spec PySem.SeqAt PyProof.Rows
def Tw:Option B->Option B
 |some (.own d)=>some (.val false d)
 |some (.shl _ d)=>some (.val false d)
 |b=>b
def cg (lk:List (Option Nat))(β:a7):a7:=lk.map λl=>match l with|some j=>(match β[j]? with|some b=>Tw b|none=>none)|none=>none
def Oy:Option (Option B)->Bool
 |some (some (.hand _))=>true
 |_=>false
def ba (lk:List (Option Nat))(β:a7)(own:Nat->List Addr)(i:Nat):List Addr:=match lk[i]? with
 |some (some j)=>if Oy β[j]?=true then own j else []
 |_=>[]
def dZ:a7->a7->Prop
 |[],_=>True
 |some (.hand ok)::a,c=>c.head?=some (some (.hand ok))/\dZ a c.tail
 |_::a,c=>dZ a c.tail
theorem dZ.get:∀{a c:a7} {i:Nat} {ok:List Int->Prop},dZ a c->a[i]?=some (some (.hand ok))->c[i]?=some (some (.hand ok))
 |[],_,_,_,_,e=>by simp at e
 |x::a,c,0,ok,h,e=>by
  simp at e;subst e;rw[<- List.head?_eq_getElem?];exact h.1
 |x::a,c,i+1,ok,h,e=>by
  have h':dZ a c.tail:=by
   cases x with
   |none=>exact h
   |some x=>cases x <;> first|exact h|exact h.2
  have:=dZ.get (i:=i) h' (by simpa using e)
  rwa [List.getElem?_tail]at this
section
variable {P:Xz}{w:XT}{C:Cfg}{σ σ':St}{H H' H1:Hp}{β βi:a7}{own eT:Nat->List Addr}{lk:List (Option Nat)}{a:Addr}
theorem cb {i:Nat}{c:Addr}(h:c∈ba lk β own i):∃j,lk[i]?=some (some j)/\Oy β[j]?=true/\c∈own j:=by
 unfold ba at h
 split at h
 ·next j e =>
  by_cases q:Oy β[j]?=true
  ·rw[if_pos q]at h;exact⟨j,e,q,h⟩
  ·rw[if_neg q]at h;cases h
 ·cases h
theorem bg:∀c,Wn (ba lk β own) c->Wn own c:=λc ⟨i,h⟩=>let ⟨j,_,_,h⟩:=cb h;⟨j,h⟩
theorem gg {i j:Nat}{v:V}(h:lk[i]?=some (some j))(e:σ[j]?=some (some v)):(da lk σ)[i]?=some (some v):=by
 unfold da;rw[XM,h];simp only[Option.map_some];rw[e]
theorem gO {i:Nat}{b:B}(h:(cg lk β)[i]?=some (some b)):∃j b',lk[i]?=some (some j)/\β[j]?=some (some b')/\Tw (some b')=some b:=by
 unfold cg at h;rw[XM]at h;cases q:lk[i]? with
 |none=>rw[q]at h;cases h
 |some l =>
  rw[q]at h;cases l with
  |none=>cases h
  |some j =>
   simp only[Option.map_some]at h;cases q2:β[j]? with
   |none=>rw[q2]at h;cases h
   |some b2 =>
    rw[q2]at h;simp only[Option.some.injEq]at h;cases b2 with
    |none=>cases h
    |some b'=>exact⟨j,b',rfl,q2,h⟩
theorem b5.enter (s:b5 P w C σ H β own)(ha:H a=none)(inj:∀(i i' j:Nat),lk[i]?=some (some j)->lk[i']?=some (some j)->i=i'):
  b5 P w (C.u λc=>c=a) (da lk σ) (upd H a (.lst [])) (cg lk β) (ba lk β own):=by
 have sm:au H (upd H a (.lst [])):=au.new ha;have na:∀{i c},c∈own i->c≠a:=λ{i c} hc z=>(s.dm i c hc).1 (by rw[z];exact ha)
 have gr:∀k,∀c,fU (C.u λc=>c=a) (Wn (ba lk β own)) k c->fU C (Wn own) k c\/H c=none:=λk c z=>by
  rcases z with z|z
  ·exact .inl (.inl (lC bg k c z))
  ·exact .inr (by rw[z];exact ha)
 refine⟨by unfold cg da;simp,λi y d e=>?_,λi d e=>?_,λi ok e=>?_,λi c h=>?_,λi i' c h1 h2=>?_,λi=>?_,s.kp.trans sm.kp,λc z e=>s.iJ c z (sm.free e),λi y d e=>by
  obtain⟨j,b',e1,e2,e3⟩:=gO e;cases b' <;> cases e3⟩
 ·obtain⟨j,b',e1,e2,e3⟩:=gO e;cases b' with
  |val y' d' =>
   cases e3;obtain⟨v,h1,h2⟩:=s.val j y d e2;exact⟨v,gg e1 h1,(ay.grow (gr _) h2).same sm⟩
  |own d' =>
   cases e3;obtain⟨v,h1,h2,h3⟩:=s.ow j d e2;refine⟨v,gg e1 h1,ay.same sm (h2.rep λc hc z=>?_)⟩;rcases z with z|z
   ·obtain⟨i',fQ⟩:=z;obtain⟨j',q1,q2,q3⟩:=cb fQ;have:=s.m7 j j' c hc q3;subst this;rw[e2]at q2;cases q2
   ·exact na hc z
  |hand ok=>cases e3
  |shl y' d' =>
   cases e3;obtain⟨v,h1,h2,h3⟩:=s.shl j y' d e2;refine⟨v,gg e1 h1,ay.same sm (h2.rep (λc hc z=>?_) λds vs r=>ai.grow (λc z=>?_) r)⟩
   ·rcases z with z|z
    ·obtain⟨i',fQ⟩:=z;obtain⟨j',q1,q2,q3⟩:=cb fQ;have:=s.m7 j j' c hc q3;subst this;rw[e2]at q2;cases q2
    ·exact na hc z
   ·rcases gr _ c z with z|z
    ·refine .inl ?_;rcases z with z|z
     ·cases y' with
      |true=>exact .inl (.inl z)
      |false=>exact .inl z
     ·exact .inr z
    ·exact .inr z
 ·obtain⟨j,b',e1,e2,e3⟩:=gO e;cases b' <;> cases e3
 ·obtain⟨j,b',e1,e2,e3⟩:=gO e;cases b' with
  |val y' d'=>cases e3
  |own d'=>cases e3
  |shl y d=>cases e3
  |hand zH =>
   cases e3;obtain⟨h,ns,h1,h2,h3,h4,h5⟩:=s.nO j ok e2;refine⟨h,ns,gg e1 h1,sm _ _ h2,h3,?_,h5⟩;unfold ba;rw[e1];simp only;rw[e2];exact(if_pos rfl).trans h4
 ·obtain⟨j,q1,q2,q3⟩:=cb h;obtain⟨g1,g2,g3,g4⟩:=s.dm j c q3;rw[ao (na q3)];exact⟨g1,g2,g3,na q3⟩
 ·obtain⟨j,q1,q2,q3⟩:=cb h1;obtain⟨j',S8,W6,Va⟩:=cb h2;have:=s.m7 j j' c q3 Va;subst this;exact inj _ _ _ q1 S8
 ·unfold ba
  split
  ·next j e =>
   split
   ·exact s.nz j
   ·exact YF
  ·exact YF
theorem b5.DV {o:HO}(s:b5 P w (C.u λc=>c=a) σ H β own){oa:HO}(ha:H a=some oa)(ht:∀xs,oa≠.tup xs)(h0:C.H0 a=none):b5 P w (C.u λc=>c=a) σ (upd H a o) β own:=by
 have k:Kp (·=a) H (upd H a o):=jS ha ht;have na:∀{i c},c∈own i->c≠a:=λ{i c} hc=>(s.dm i c hc).2.2.2;refine⟨s.len,λi y d e=>let ⟨v,h1,h2⟩:=s.val i y d e;⟨v,h1,h2.keep (k.mono λc z=>.inr z)⟩,λi d e=>let ⟨v,h1,h2,h3⟩:=s.ow i d e;⟨v,h1,h2.keep k.tup (λc hc oc ec=>k.out c oc ec (na hc)),h3⟩,
  λi ok e=>?_,λi c h=>?_,s.m7,s.nz,⟨λc oc z n=>k.out c oc (s.kp.out c oc z n) λq=>?_,λc xs z=>k.tup c xs (s.kp.tup c xs z)⟩,λc z=>?_,λi y d e=>let ⟨v,h1,h2,h3⟩:=s.shl i y d e;⟨v,h1,h2.map (λc hc oc ec=>k.out c oc ec (na hc)) (λ_ _ r=>r.keep (k.mono λc z=>.inr z)),h3⟩⟩
 ·obtain⟨h,ns,h1,h2,h3,h4,h5⟩:=s.nO i ok e;exact⟨h,ns,h1,k.out h _ h2 (na (by rw[h4];simp)),h3,h4,h5⟩
 ·rw[ao (na h)];exact s.dm i c h
 ·rw[q,h0]at z;cases z
 ·by_cases q:c=a
  ·rw[q,ar];exact λz=>(nomatch z)
  ·rw[ao q];exact s.iJ c z
theorem b5.leave (s:b5 P w C σ H1 β own)(i:b5 P w (C.u λc=>c=a) σ' H' βi eT)(n:Sn (H1,Wn (ba lk β own)) H' (Wn eT))(le:∀c,Wn eT c->Wn (ba lk β own) c)
  (hh:dZ (cg lk β) βi) (hσ:∀(j:Nat) (ok:List Int->Prop) (i:Nat),β[j]?=some (some (B.hand ok))->lk[i]?=some (some j)->σ'[i]?=(da lk σ)[i]?):b5 P w C σ H' β own:=by
 have off:∀{j c},c∈own j->¬ Wn (ba lk β own) c->∀o,H1 c=some o->H' c=some o:=λ{j c} hc nw o e=>n.k.out c o e λz=>z.elim nw λz=>(s.dm j c hc).1 z;have Mz:∀{j c},c∈own j->Oy β[j]?=false->¬ Wn (ba lk β own) c:=λ{j c} hc q yR=>by
  obtain⟨i',fQ⟩:=yR;obtain⟨j',q1,q2,q3⟩:=cb fQ;have:=s.m7 j j' c hc q3;subst this;rw[q]at q2;cases q2
 have hN:∀(j:Nat) (ok:List Int->Prop),β[j]?=some (some (B.hand ok))->∃a ns,σ[j]?=some (some (V.ref a))/\H' a=some (.lst (ns.map V.int))/\ok ns/\own j=[a]/\((∀b,¬ C.IO b)\/C.IO a):=λj ok e=>by
  obtain⟨h,ns,h1,h2,h3,h4,h5⟩:=s.nO j ok e
  by_cases q:Wn (ba lk β own) h
  ·obtain⟨i',fQ⟩:=q;obtain⟨j',q1,q2,q3⟩:=cb fQ;have:=s.m7 j j' h (by rw[h4];simp) q3
   subst this;have eB:(cg lk β)[i']?=some (some (.hand ok)):=by
    unfold cg;rw[XM,q1];simp only[Option.map_some];rw[e];rfl
   obtain⟨h',oS,g1,g2,g3,g4,g5⟩:=i.nO i' ok (hh.get eB);rw[hσ j ok i' e q1,gg q1 h1]at g1;cases g1;exact⟨h,oS,h1,g2,g3,h4,h5⟩
  ·exact⟨h,ns,h1,off (by rw[h4];simp) q _ h2,h3,h4,h5⟩
 refine⟨s.len,λj y d e=>?_,λj d e=>?_,hN,λj c hc=>?_,s.m7,s.nz,i.kp,i.iJ,λj y d e=>by
  obtain⟨v,h1,h2,h3⟩:=s.shl j y d e;refine⟨v,h1,h2.map (λc hc o eo=>off hc (Mz hc (by rw[e];rfl)) o eo) (λds vs r=>?_),h3⟩
  have g:ai P w (λc=>fU C (Wn own) (yk y) c\/H1 c=none) H1 ds vs:=ai.grow (λc z=>z) r;refine ai.aV (λc z=>.inl z) (g.keep (n.k.mono λc z=>z.imp (λz=>?_) id));cases y with
  |true=>exact .inl (.inl (bg c z))
  |false=>exact .inl (bg c z)⟩
 ·obtain⟨v,h1,h2⟩:=s.val j y d e;have g:ay P w (λc=>fU C (Wn own) (yk y) c\/H1 c=none) H1 d v:=ay.grow (λc z=>z) h2;refine⟨v,h1,ay.aV (λc z=>.inl z) (g.keep (n.k.mono λc z=>z.imp (λz=>?_) id))⟩;cases y with
  |true=>exact .inl (.inl (bg c z))
  |false=>exact .inl (bg c z)
 ·obtain⟨v,h1,h2,h3⟩:=s.ow j d e;exact⟨v,h1,h2.keep n.k.tup (λc hc o eo=>off hc (Mz hc (by rw[e];rfl)) o eo),h3⟩
 ·obtain⟨g1,g2,g3,g4⟩:=s.dm j c hc
  by_cases q:Wn (ba lk β own) c
  ·obtain⟨i',fQ⟩:=q;obtain⟨j',q1,q2,q3⟩:=cb fQ;have:=s.m7 j j' c hc q3;subst this;cases e:β[j]? with
   |none=>rw[e]at q2;cases q2
   |some b =>
    rw[e]at q2;cases b with
    |none=>cases q2
    |some b =>
     cases b with
     |val y d=>cases q2
     |own d=>cases q2
     |shl y d=>cases q2
     |hand ok =>
      obtain⟨h,ns,k1,k2,k3,k4,k5⟩:=hN j ok e;rw[k4]at hc;rw[XQ.mp hc]at g3 g4 ⊢
      rw[k2];exact⟨λz=>(nomatch z),λxs z=>(by cases z),g3,g4⟩
  ·cases e:H1 c with
   |none=>exact absurd e g1
   |some o=>rw[off hc q o e];exact⟨λz=>(nomatch z),λxs z=>g2 xs (by rw[e];exact z),g3,g4⟩
end
def KW:aW:=λβ R=>R true β
theorem AZ {X:Cx}{C:Cfg}:uk X [] (iT X C true KW):=Ef.pre λσ H Q ⟨β,own,s,q⟩=>q H own (Out.refl s _)
theorem AY {X:Cx}{C:Cfg}{p:Bool}{c:Expr}{τ:aW}(h:uz X C p c τ):uk X [c] (iT X C p τ):=Ee h.pt
def kB (γ:dw)(τ:aW)(φ:aR)(ds:List D)(k:Kd)(β0:a7)(K:List D->Prop):Prop:=∃I:Nat->a7->List D->Prop,I 0 β0 [] /\
 (∀i d β o,ds[i]?=some d->I i β o->γ d (sk k d) β λβ1=>τ β1 λt β2=>if t=true then φ β2 λx kx β3=>E4 kx x/\o.length<XO/\I (i+1) β3 (o++[x]) else I (i+1) β2 o)/\∀β o,I ds.length β o->dZ β0 β/\K o
theorem kB.mono {γ:dw}{τ:aW}{φ:aR}{ds:List D}{k:Kd}{β0:a7}{K K':List D->Prop}(h:∀o,K o->K' o)(q:kB γ τ φ ds k β0 K):kB γ τ φ ds k β0 K':=let ⟨I,h0,h1,h2⟩:=q;⟨I,h0,h1,λβ o z=>⟨(h2 β o z).1,h _ (h2 β o z).2⟩⟩
section
variable {X:Cx}{C:Cfg}{lk:List (Option Nat)}{γ:dw}{τ:aW}{φ:aR}{T:List Nat}{pc pe:Bool}
theorem j6 {σ:St}{H1:Hp}{β:a7}{own:Nat->List Addr}{a:Addr}{J:It}{ds:List D}{k:Kd}{K:List D->Prop}{End:Hp->Prop}
  (γm:∀d k β R R',(∀r,R r->R' r)->γ d k β R->γ d k β R') (τm:∀β R R',(∀d β,R d β->R' d β)->τ β R->τ β R') (φm:∀β R R',(∀d k β,R d k β->R' d k β)->φ β R->φ β R')
  (inj:∀(i i' j:Nat),lk[i]?=some (some j)->lk[i']?=some (some j)->i=i') (hT:∀i∈T,∀j,lk[i]?≠some (some j))
  (s1:SQ X C σ H1 β own) (ha:H1 a=none) {hp:Bool} (TN:hp=true->(pc&&pe)=true) (hk:hold k hp) (it:xQ X (av C (Wn own) k) J ds H1) (q:kB γ τ φ ds k (cg lk β) K)
  (fin:∀o H',K o->Out X C σ H1 own (pc&&pe) β H' own->KV X.prog X.w C (H1,Wn own) own H' .own (.lst o) (.ref a)->End H') :
  fG J (λv σ H Q=>∃own β d k,SQ X (C.u λc=>c=a) σ H β own/\Rp X (fU (C.u λc=>c=a) (Wn own) k) H d v/\γ d k β λβ'=>∀σ' aQ,SQ X (C.u λc=>c=a) σ' H β' aQ->(∀a,Wn aQ a->Wn own a)->(∀j,j∉T->σ'[j]?=σ[j]?)->Q σ' H)
   (iT X (C.u λc=>c=a) pc τ) (λN σ H=>tQ X (C.u λc=>c=a) pe φ σ H λv H1=>∃xs,H1 a=some (.lst xs)/\xs.length<XO/\N σ (upd H1 a (.lst (xs++[v]))))
   (λ_ H'=>End H') (da lk σ) (upd H1 a (.lst [])):=by
 obtain⟨I,i0,i1,i2⟩:=q;have h0:C.H0 a=none:=Yu λz=>s1.iJ a z ha;have sm:au H1 (upd H1 a (.lst [])):=au.new ha;have Tp:∀c,Wn (ba lk β own) c->c≠a:=λc z e=>by
  obtain⟨j,hj⟩:=bg c z;exact(s1.dm j c hj).1 (by rw[e];exact ha)
 let S:Nat->St->Hp->Prop:=λi σ' H'=>∃βi eT vs o A,SQ X (C.u λc=>c=a) σ' H' βi eT/\Sn (H1,Wn (ba lk β own)) H' (Wn eT)/\(∀c,Wn eT c->Wn (ba lk β own) c)/\H' a=some (.lst vs)/\aK X.prog X.w H' o vs A/\A.Nodup/\(∀c∈A,H1 c=none/\c≠a) /\
  ((pc&&pe)=true->au H1 H')/\(∀j,j∉T->σ'[j]?=(da lk σ)[j]?)/\I i βi o
 have W':Addr->Prop:=λb=>av C (Wn own) k b\/H1 b=none;have Gu:=it (λb=>av C (Wn own) k b\/H1 b=none) λb z=>z;have kI:∀{H':Hp} {eT:Nat->List Addr},Sn (H1,Wn (ba lk β own)) H' (Wn eT)->((pc&&pe)=true->au H1 H')->Kp (λb=>av C (Wn own) k b\/H1 b=none) H1 H':=λn pu=>by
  cases k with
  |own=>exact n.k.mono λb z=>z.imp (λz=>.inl (bg b z)) id
  |dN=>exact n.k.mono λb z=>z.imp (λz=>.inl (bg b z)) id
  |old=>exact n.k.mono λb z=>z.imp (bg b) id
  |bor =>
   cases hp with
   |false=>exact hk.elim
   |true=>exact(pu (TN rfl)).kp.mono λb z=>.inr z
 refine⟨λi m σ' H'=>i<=ds.length/\m=ds.length-i/\S i σ' H',⟨_,XG _,rfl,cg lk β,ba lk β own,[],[],[],s1.enter ha inj,⟨λb z=>.inl z,sm.kp,λb z e=>z (sm.free e)⟩,λ_ z=>z,ar,⟨rfl,rfl⟩,YF,λc hc=>(nomatch hc),λ_=>sm,λ_ _=>rfl,i0⟩,?_⟩;rintro i m σ2 H2 ⟨hi,rfl,βi,eT,vs,o,A,sq,sn,le,Kx,os,nd,nw,pu,st,hl⟩;obtain⟨cj,nM⟩:=Gu i H2 (kI sn pu)
 by_cases d9:i<ds.length
 ·right
  have hd:ds[i]?=some ds[i]:=XH d9;obtain⟨go,yl⟩:=cj _ hd;refine⟨go,λσ' H'=>S (i+1) σ' H',λσ' H' h=>⟨_,by omega,d9,rfl,h⟩,λx H3 y=>?_⟩
  obtain⟨s3,r3⟩:=yl x H3 y;have Wy:∀{eT:Nat->List Addr},(∀c,Wn eT c->Wn (ba lk β own) c)->∀c,fU (C.u λc=>c=a) (Wn eT) k c->av C (Wn own) k c\/H1 c=none:=λle c z=>z.elim (λz=>.inl (lC (λc z=>bg c (le c z)) k c z)) λz=>.inr (by rw[z];exact ha)
  refine⟨eT,βi,_,_,sq.same s3,qh (ay.aV (Wy le) r3),γm _ _ _ _ _ (λβ4 q σ4 sg s4 w4 t4=>?_) (i1 i _ βi o hd hl)⟩;have L_:∀c,Wn sg c->Wn (ba lk β own) c:=λc z=>le c (w4 c z);refine⟨β4,sg,s4,τm _ _ _ (λt β5 q H5 i9 o5=>?_) q⟩;have Ou:∀c,Wn i9 c->Wn (ba lk β own) c:=λc z=>L_ c (o5.le c z);have BL:∀c,c∈a::A->∀oc,H2 c=some oc->H5 c=some oc:=λc hc oc e=>by
   refine o5.sn.k.out c oc (s3 c oc e) λz=>?_;rcases z with z|z
   ·rcases Xy.mp hc with rfl|hc
    ·exact Tp _ (L_ _ z) rfl
    ·obtain⟨j,hj⟩:=bg c (L_ c z);exact(s1.dm j c hj).1 (nw c hc).1
   ·exact absurd ((s3 c oc e).symm.trans z) (λz=>(nomatch z))
  have Vv:∀b xs,H2 b=some (.tup xs)->H5 b=some (.tup xs):=λb xs e=>o5.sn.k.tup b xs (s3 b _ e);have Ik:aK X.prog X.w H5 o vs A:=os.keep Vv λc hc oc e=>BL c (by simp[hc]) oc e
  have Pl:Sn (H1,Wn (ba lk β own)) H5 (Wn i9):=(iW (sn.same s3) w4).trans o5.sn;have S9:(pc&&pe)=true->au H1 H5:=λz=>((pu z).trans s3).trans (o5.pu (C4 z)).1;have La:∀j,j∉T->σ4[j]?=(da lk σ)[j]?:=λj hj=>(t4 j hj).trans (st j hj);cases t with
  |false=>exact⟨β5,i9,vs,o,A,o5.sq,Pl,Ou,BL a (by simp) _ Kx,Ik,nd,nw,S9,La,q⟩
  |true =>
   refine⟨β5,i9,o5.sq,φm _ _ _ (λxd kx β6 ⟨f,hz,q⟩ v H6 Ep o6 r6=>?_) q⟩;obtain⟨B',r1,r2,Ko⟩:=r6.fl f;have vE:H5 a=some (.lst vs):=BL a (by simp) _ Kx
   have Gq:∀c,c∈a::A->∀oc,H5 c=some oc->H6 c=some oc:=λc hc oc e=>by
    refine o6.sn.k.out c oc e λz=>?_;rcases z with z|z
    ·rcases Xy.mp hc with rfl|hc
     ·exact Tp _ (Ou _ z) rfl
     ·obtain⟨j,hj⟩:=bg c (Ou c z);exact(s1.dm j c hj).1 (nw c hc).1
    ·exact absurd (e.symm.trans z) (λz=>(nomatch z))
   have tm:H6 a=some (.lst vs):=Gq a (by simp) _ vE
   have Tb:aK X.prog X.w H6 o vs A:=Ik.keep o6.sn.k.tup λc hc oc e=>Gq c (by simp[hc]) oc e
   have Vi:∀c∈A,c≠a:=λc hc=>(nw c hc).2;have LR:∀c∈B',c≠a:=λc hc z=>by rw[z]at hc;exact absurd (vE.symm.trans (Ko a hc).1) (λz=>(nomatch z))
   have kt:∀b xs,H6 b=some (.tup xs)->upd H6 a (.lst (vs++[v])) b=some (.tup xs):=λb xs z=>by rw[ao (λz'=>by rw[z',tm]at z;cases z)];exact z
   refine⟨vs,tm,by rw[Tb.length];exact hz,β6,Ep,vs++[v],o++[xd],A++B',o6.sq.DV tm (λxs z=>by cases z) h0,?_,λc z=>Ou c (o6.le c z),ar,?_,?_,λc hc=>?_,λz=>?_,La,q⟩
   ·have m:=Pl.trans o6.sn;refine⟨m.w,m.k.trans ((jS tm (λxs z=>by cases z)).mono λb z=>.inr (by rw[z];exact ha)),λb z e=>?_⟩
    by_cases hb:b=a
    ·rw[hb,ar]at e;cases e
    ·rw[ao hb]at e;exact m.d b z e
   ·exact(Tb.keep kt λc hc oc e=>by rw[ao (Vi c hc)];exact e).append (aK.one (r1.keep kt λc hc oc e=>by rw[ao (LR c hc)];exact e))
   ·refine YM.mpr ⟨nd,r2,λx hx y hy e=>?_⟩;subst e;have:=(Ko x hy).1;exact(Ik.nB x hx).1 this
   ·rcases XW.mp hc with hc|hc
    ·exact nw c hc
    ·exact⟨Pl.free (Ko c hc).1,LR c hc⟩
   ·refine λb ob e=>?_;rw[ao (λz'=>by rw[z',ha]at e;cases e)]
    exact(o6.pu (Sl z)).1 b ob (S9 z b ob e)
 ·left
  have e:i=ds.length:=by omega
  subst e;obtain⟨hh,q⟩:=i2 βi o hl;have lv:SQ X C σ H2 β own:=s1.leave sq sn le hh λj ok i' e1 e2=>st i' λz=>hT i' z j e2;refine⟨nM (Xx _),fin o H2 q ⟨lv,⟨λb z=>.inl z,sn.k.mono λb z=>z.imp (bg b) id,sn.d⟩,λz=>⟨pu z,rfl⟩,λ_ z=>z⟩ ⟨a::A,⟨a,vs,A,rfl,Kx,rfl,os⟩,X9.mpr ⟨λz=>(nw a z).2 rfl,nd⟩,λc hc=>?_⟩⟩;have nQ:H1 c=none:=by
   rcases Xy.mp hc with rfl|hc
   ·exact ha
   ·exact(nw c hc).1
  exact⟨nQ,λJm=>by obtain⟨j,hj⟩:=Jm;exact(s1.dm j c hj).1 nQ,Yu λz=>s1.iJ c z nQ⟩
theorem cF {scope:aaa}{N':List Str}(L:Links X scope N' lk)(hN:N'.Nodup):∀(i i' j:Nat),lk[i]?=some (some j)->lk[i']?=some (some j)->i=i':=λi i' j h1 h2=>by
 obtain⟨x,a1,a2,_⟩:=L.link i j h1;obtain⟨y,b1,b2,_⟩:=L.link i' j h2;rw[a2]at b2;cases b2;exact(List.getElem?_inj (XI.mp a1).1 hN).mp (a1.trans b1.symm)
def wz (lk:List (Option Nat))(ι:cv)(γ:dw)(τ:aW)(φ:aR):aR:=λβ R=>ι β λds k β1=>hold k false/\kB γ τ φ ds k (cg lk β1) λo=>R (.lst o) .own β1
variable {scope:aaa}{N':List Str}{tg cj elt:Expr}{ifs:List Expr}{ι:cv}{pi:Bool}{pos pos' rG:Pos}{y:Str}{i:Nat}
theorem Lz (L:Links X scope N' lk)(pD:N'.Nodup)(hT:T.all (λi=>match lk[i]? with|some (some _)=>false|_=>true)=true)(hc:X.calm=true)(hi:vY X C pi tg cj ι)
  (pA:∀a cl c s H ex,xO (aA X scope N' cl c s H ex) (C.u λc=>c=a) tg T γ) (jY:∀a cl c s H ex,uk (aA X scope N' cl c s H ex) ifs (iT (aA X scope N' cl c s H ex) (C.u λc=>c=a) pc τ)) (τm:∀β R R',(∀d β,R d β->R' d β)->τ β R->τ β R')
  (mM:∀a cl c s H ex,PQ (aA X scope N' cl c s H ex) (C.u λc=>c=a) pe elt φ) (γm:∀d k β R R',(∀r,R r->R' r)->γ d k β R->γ d k β R') (φm:∀β R R',(∀d k β,R d k β->R' d k β)->φ β R->φ β R')
  (hs:∀x,Yy cj X.env x=pure x:=by intro _;rfl):PQ X C (pi&&(pc&&pe)) (.ListComp elt [⟨tg,cj,ifs,0⟩] scope pos) (wz lk ι γ τ φ):=by
 have Fl:∀i∈T,∀j,lk[i]?≠some (some j):=λi hi j e=>by
  have:=ZH.mp hT i hi;rw[e]at this;cases this
 refine⟨λβ R R' k h=>hi.mono β _ _ (λds kd β1 q=>⟨q.1,q.2.mono λo z=>k _ _ _ z⟩) h,?_⟩;refine(fZ (g:=⟨tg,cj,ifs,0⟩) (gs:=[]) (tg:=λa v σ H Q=>∃own β d k,SQ X (C.u λc=>c=a) σ H β own/\Rp X (fU (C.u λc=>c=a) (Wn own) k) H d v/\γ d k β λβ'=>∀σ' aQ,SQ X (C.u λc=>c=a) σ' H β' aQ->(∀a,Wn aQ a->Wn own a)->(∀j,j∉T->σ'[j]?=σ[j]?)->Q σ' H)
  (tt:=λa=>iT X (C.u λc=>c=a) pc τ) (ta:=λa N σ H=>tQ X (C.u λc=>c=a) pe φ σ H λv H1=>∃xs,H1 a=some (.lst xs)/\xs.length<XO/\N σ (upd H1 a (.lst (xs++[v]))))
  L hc f7 rfl rfl (λ_ _=>xF) hi.pi (λa cl c s H ex=>⟨(pA a cl c s H ex).pg,jY a cl c s H ex,f6 rfl (mM a cl c s H ex).pe⟩) hs).pre λσ H Q ⟨β,own,s,h⟩=>?_
 refine⟨β,own,s,hi.mono β _ _ (λds k β1 ⟨hk,q⟩ J H1 aC o1 it a ha=>?_) h⟩;exact j6 γm τm φm (cF L pD) Fl o1.sq ha (hp:=false) (λz=>by cases z) hk it q λo H' q o2 r=>q _ _ aC (o1.trans o2) (r.later o1.sn)
theorem Lx {K:D->a7->fN->Prop}(L:Links X scope N' lk)(pD:N'.Nodup)(hT:T.all (λi=>match lk[i]? with|some (some _)=>false|_=>true)=true)(hc:X.calm=true)(hi:∀U,vY X (C.u U) pi tg cj ι)
  (pA:∀U cl c s H ex,xO (aA X scope N' cl c s H ex) (C.u U) tg T γ) (jY:∀U cl c s H ex,uk (aA X scope N' cl c s H ex) ifs (iT (aA X scope N' cl c s H ex) (C.u U) pc τ)) (τm:∀β R R',(∀d β,R d β->R' d β)->τ β R->τ β R')
  (mM:∀U cl c s H ex,PQ (aA X scope N' cl c s H ex) (C.u U) pe elt φ) (γm:∀d k β R R',(∀r,R r->R' r)->γ d k β R->γ d k β R') (φm:∀β R R',(∀d k β,R d k β->R' d k β)->φ β R->φ β R') (o:Bool)
  (hN:X.N.Nodup) (hy:X.N[i]?=some y:=by rfl) (hx:Loc X.env.scope y:=by first|exact .inl rfl|exact .inr rfl) (hf:X.fn y=true\/X.env.scope.names.lookup y=some .local:=by first|exact .inl rfl|exact .inr rfl|assumption)
  (xh:Z5 (.ListComp elt [⟨tg,cj,ifs,0⟩] scope pos) (some (.Name y pos')) rG.line X.env=pure true:=by rfl)
  (JJ:evalThenUse (.ListComp elt [⟨tg,cj,ifs,0⟩] scope pos) X.env (assign (.Name y pos') X.env)=(do let _ <- comprehension (.ListComp elt [⟨tg,cj,ifs,0⟩] scope pos) scope X.env (firstIterPos [⟨tg,cj,ifs,0⟩] pos) (newList []) false (eval cj X.env) (some (assign (.Name y pos') X.env));pure ()):=by first|rfl|exact arm_evalThenUse_ListComp ..)
  (hs:∀x,Yy cj X.env x=pure x:=by intro _;rfl) :
  PB X C (.Assign [.Name y pos'] (.ListComp elt [⟨tg,cj,ifs,0⟩] scope pos) rG) (λE β=>wz lk ι γ τ φ β λd _ β'=>E.nx (β'.set i (some (match o with|true=>.own d|false=>.val true d)))):=by
 have Fl:∀i∈T,∀j,lk[i]?≠some (some j):=λi hi j e=>by
  have:=ZH.mp hT i hi;rw[e]at this;cases this
 refine⟨λE E' β l h=>(hi λ_=>False).mono β _ _ (λds kd β1 q=>⟨q.1,q.2.mono λo z=>l.nx _ z⟩) h,λpins s σ H D I0 ⟨Z,E,β,⟨own,sq,n⟩,h,ok⟩=>?_⟩;refine AX (g:=⟨tg,cj,ifs,0⟩) (gs:=[]) (tg:=λa v σ H Q=>∃own β d k,SQ X (C.u λc=>c=a) σ H β own/\Rp X (fU (C.u λc=>c=a) (Wn own) k) H d v/\γ d k β λβ'=>∀σ' aQ,SQ X (C.u λc=>c=a) σ' H β' aQ->(∀a,Wn aQ a->Wn own a)->(∀j,j∉T->σ'[j]?=σ[j]?)->Q σ' H)
  (tt:=λa=>iT X (C.u λc=>c=a) pc τ) (ta:=λa N σ H=>tQ X (C.u λc=>c=a) pe φ σ H λv H1=>∃xs,H1 a=some (.lst xs)/\xs.length<XO/\N σ (upd H1 a (.lst (xs++[v]))))
  L hc f7 xh JJ rfl hN hy hx hf (λ_ _=>xF) (hi λa=>H a=none).pi (λa cl c s H ex=>⟨(pA _ cl c s H ex).pg,jY _ cl c s H ex,f6 rfl (mM _ cl c s H ex).pe⟩) hs pins s σ H D I0 ?_
 refine⟨β,own,sq.rp (C:=C.z) (U:=λa=>H a=none) λa z=>z,(hi λ_=>False).mono β _ _ (λds k β1 ⟨hk,q⟩ J H1 aC o1 it a ha=>?_) h⟩;refine j6 (C:=C.u λa=>H a=none) γm τm φm (cF L pD) Fl o1.sq ha (hp:=false) (λz=>by cases z) hk it q λol H' q o2 r=>?_
 have r':=r.later o1.sn;have oo:=o1.trans o2;have m:=n.trans oo.sn;cases o with
 |false=>exact ok.nx _ _ _ ⟨_,(b5.Vg oo.sq).fo (ay.aV (λa z=>z.elim id λz=>z.elim) (KV.rep r')),uV m⟩ q
 |true =>
  obtain⟨A,h1,h2,h3⟩:=r';refine ok.nx _ _ _ ⟨_,oo.sq.AE h1 h2 λc hc=>⟨(h3 c hc).2.2,(h3 c hc).2.1,(h3 c hc).1⟩,?_⟩ q;exact⟨λb vA=>by
   obtain⟨j,hj⟩:=vA
   by_cases aJ:i=j
   ·rw[<- aJ,os_eq]at hj;exact .inr (n.free (h3 b hj).1)
   ·rw[bD aJ]at hj;exact m.w b ⟨j,hj⟩,m.k,m.d⟩
end
end L2.Q
namespace Zp
open PySem PySem.Spec PyProof.Rows
structure Kj (prog:Xz)(w:XT)(i l:Addr)(vs:List Xv)(St:Nat->Heap->Prop)(Ct:Heap->Prop):Prop where
 obj:∀k h,St k h->∃o,h.get? i=some o/\∀v,o.data≠.cell v
 keep:∀k h h',St k h->(∀o,h.get? i=some o->h'.get? i=some o)->St k h'
 kept:∀h h',Ct h->(∀o,h.get? l=some o->h'.get? l=some o)->Ct h'
 item:∀(A:Yv) (E:Xv->Xw->Prop) (s:Xw) (k:Nat) (x:Xv) (Q:Xv->Xw->Prop),St k s.heap->Ct s.heap->vs[k]?=some x ->
  (∀h',St (k+1) h'->Zh i s.heap h'->Q x {s with heap:=h'})->X4 (model prog w) A (YE (.ref i)) Q E s
 done:∀(A:Yv) (E:Xv->Xw->Prop) (s:Xw) (k:Nat) (Q:Xv->Xw->Prop),A.handled=none->St k s.heap->Ct s.heap->vs[k]?=none ->
  (∀h' e,Heap.ExtBut i s.heap h'->(∃o,h'.get? e=some o/\o.cls=.type "StopIteration")->E (.ref e) {s with heap:=h'})->X4 (model prog w) A (YE (.ref i)) Q E s
variable {prog:Xz}{w:XT}
theorem CF {i l:Addr}{vs:List Xv}:Kj prog w i l vs (λk h=>h.IsListIter i l k) (λh=>h.IsList l vs.toArray) where
 obj:=λk h ⟨o,a,_,d⟩=>⟨o,a,λv z=>by rw[d]at z;cases z⟩
 keep:=λk h h' a k1=>a.at k1
 kept:=λh h' b k2=>b.at k2
 item:=λA E s k x Q a b hx q=>wpAny_nextOf_list_item a b (by simpa using hx) λh' a' sb=>q h' a' sb
 done:=λA E s k Q hh a b hx q=>wpAny_nextOf_list_end hh a b (by simpa using hx) q
theorem Bw {A:Yv}{E:Xv->Xw->Prop}{s:Xw}{i l:Addr}{k:Nat}{its:Array Xv}{x:Xv}{Q:Xv->Xw->Prop}(a:s.heap.IsTupleIter i l k)(b:s.heap.IsTuple l its)(hx:its[k]?=some x)
  (q:∀h',h'.IsTupleIter i l (k+1)->Zh i s.heap h'->Q x {s with heap:=h'}):X4 (model prog w) A (YE (.ref i)) Q E s:=by
 have hT:=a.typeIs;obtain⟨oi,gi,ci,di⟩:=a;obtain⟨ol,gl,cl,nl,dl⟩:=b;unfold YE;apply Xs;apply Zl (name:=aaA "__next__") hT F.slot_tuple_iterator_next;apply Y1 F.slot_tuple_iterator_next hT F.entry_tuple_iterator_next _ (F.args_tuple_iterator_next_1 _)
 change X4 (model prog w) _ (field (.ref i) 0 >>= _) _ _ s
 apply Xs;apply Zu gi di (x:=.ref l) rfl;rw[if_neg (by intro z;cases z)]
 change X4 (model prog w) _ (field (.ref i) 1 >>= _) _ _ s
 apply Xs;apply Zu gi di (x:=.int k 0) rfl
 change X4 (model prog w) _ (seqItems? (.ref l) >>= _) _ _ s
 apply Xs;apply Zj gl dl;simp only[ZZ,hx];apply Xs;apply wpAny_setField gi di (by simp)
 refine XB ⟨x,rfl,?_⟩;refine XB (q _ ⟨_,Heap.get?_update_self _ gi (Obj.isFreed_of_fields (Obj.data_mapFields di _)),?_,?_⟩ (Z_ ..))
 ·rw[Obj.cls_mapFields];exact ci
 ·rw[Obj.data_mapFields di];simp[rawInt]
theorem Fz {A:Yv}{E:Xv->Xw->Prop}{s:Xw}{i l:Addr}{k:Nat}{its:Array Xv}{Q:Xv->Xw->Prop}(hh:A.handled=none)(a:s.heap.IsTupleIter i l k)(b:s.heap.IsTuple l its)(hx:its[k]?=none)
  (q:∀h' e,Heap.ExtBut i s.heap h'->(∃o,h'.get? e=some o/\o.cls=.type "StopIteration")->E (.ref e) {s with heap:=h'}):X4 (model prog w) A (YE (.ref i)) Q E s:=by
 have hT:=a.typeIs;obtain⟨oi,gi,ci,di⟩:=a;obtain⟨ol,gl,cl,nl,dl⟩:=b;unfold YE;apply Xs;apply Zl (name:=aaA "__next__") hT F.slot_tuple_iterator_next;apply Y1 F.slot_tuple_iterator_next hT F.entry_tuple_iterator_next _ (F.args_tuple_iterator_next_1 _)
 change X4 (model prog w) _ (field (.ref i) 0 >>= _) _ _ s
 apply Xs;apply Zu gi di (x:=.ref l) rfl;rw[if_neg (by intro z;cases z)]
 change X4 (model prog w) _ (field (.ref i) 1 >>= _) _ _ s
 apply Xs;apply Zu gi di (x:=.int k 0) rfl
 change X4 (model prog w) _ (seqItems? (.ref l) >>= _) _ _ s
 apply Xs;apply Zj gl dl;simp only[ZZ,hx];apply Xs;apply ZK;apply Xs;apply wpAny_setField gi di (by simp)
 change X4 (model prog w) _ (newExc (.type "StopIteration") [] >>= _) _ _ _
 apply Xs;simp only[newExc,newTuple];apply Xs;refine Zx ?_ (by size_fits)
 apply Xs (m:=firstArgMember _ _);apply wpAny_of_eq (a:=Value.none)
 ·first|rfl|(simp only[firstArgMember];rfl)
 refine Zx ?_ (by size_fits);simp only[raiseNew]
 apply Xs;apply wpAny_handled;have OF:A.in1.handled=none:=hh
 first|rw[OF]|rw[hh]
 refine Xs (XB (wpAny_throw (q _ _ (((Z_ ..).extBut.push _).push _) ⟨_,X6 _ rfl,rfl⟩)))
theorem FA {i l:Addr}{vs:List Xv}:Kj prog w i l vs (λk h=>h.IsTupleIter i l k) (λh=>h.IsTuple l vs.toArray) where
 obj:=λk h ⟨o,a,_,d⟩=>⟨o,a,λv z=>by rw[d]at z;cases z⟩
 keep:=λk h h' ⟨o,a1,a2⟩ k1=>⟨o,k1 o a1,a2⟩
 kept:=λh h' ⟨o',b1,b2⟩ k2=>⟨o',k2 o' b1,b2⟩
 item:=λA E s k x Q a b hx q=>Bw a b (by simpa using hx) λh' a' sb=>q h' a' sb
 done:=λA E s k Q hh a b hx q=>Fz hh a b (by simpa using hx) q
structure Apart (z TI TO i1 i2 l1 l2:Addr):Prop where
 nd:[z,TI,TO,i1,i2].Nodup
 o1:∀c∈[z,TO,i1,i2],l1≠c
 o2:∀c∈[z,TO,i1,i2],l2≠c
section
variable {A:Yv}{E:Xv->Xw->Prop}{s:Xw}{z TI TO i1 i2 l1 l2:Addr}{vs us:List Xv}{S1 S2:Nat->Heap->Prop}{C1 C2:Heap->Prop}
theorem zQ (P:Apart z TI TO i1 i2 l1 l2)(D1:Kj prog w i1 l1 vs S1 C1)(D2:Kj prog w i2 l2 us S2 C2){k:Nat}{x y a b:Xv}{Q:Option Xv->Xw->Prop}(hz:IsZip s.heap z TI TO .none)(RS:ZV s.heap TI (.ref i1) (.ref i2))(RQ:ZV s.heap TO a b)
  (h1:S1 k s.heap) (h2:S2 k s.heap) (c1:C1 s.heap) (c2:C2 s.heap) (hx:vs[k]?=some x) (hy:us[k]?=some y)
  (q:∀h',IsZip h' z TI TO (rawInt s.heap.objs.size)->ZV h' TO x y->S1 (k+1) h'->S2 (k+1) h'->ZV h' s.heap.objs.size x y->(∀c o,c∉[z,TO,i1,i2]->s.heap.get? c=some o->h'.get? c=some o)->Q (some (.ref s.heap.objs.size)) {s with heap:=h'}) :
  X4 (model prog w) A (aaE (.ref z)) Q E s:=by
 have hT:s.TypeIs (.ref z) "zip" := ⟨_,hz,rfl⟩;obtain⟨nd,o1,o2⟩:=P;simp only[X9,Xy,YH,or_false,not_or,YF,not_false_eq_true,and_true]at nd;obtain⟨⟨Uy,Hc,Ha,Kl⟩,⟨TITO,TIi1,TIi2⟩,⟨TOi1,TOi2⟩,i12⟩:=nd;have a1:=o1 z (by simp);have a2:=o1 TO (by simp);have a3:=o1 i1 (by simp);have a4:=o1 i2 (by simp)
 have b1:=o2 z (by simp);have b2:=o2 TO (by simp);have b3:=o2 i1 (by simp);have b4:=o2 i2 (by simp)
 unfold aaE;apply Xs;apply aap;apply Zl (name:=aaA "__next__") hT F.slot_zip_next;refine Y1 F.slot_zip_next hT F.entry_zip_next ?_ (F.args_zip_next_1 _)
 change X4 (model prog w) _ (field (.ref z) 2 >>= _) _ _ _
 apply Xs;apply Zu hz rfl (x:=.bool false) rfl
 change X4 (model prog w) _ (field (.ref z) 3 >>= _) _ _ _
 apply Xs;apply Zu hz rfl (x:=.ref TI) rfl;apply Xs;apply Zj RS rfl
 change X4 (model prog w) _ (Zv (.ref z) >>= _) _ _ _
 apply Xs;unfold Zv;apply Xs;apply Zu hz rfl (x:=.none) rfl;apply XB;simp only[if_true];apply Xs;apply ZK;apply Xs;apply Zu hz rfl (x:=.ref TO) rfl;apply Xs;refine Zf hz (by simp) λg1 y1 e1=>?_
 have z1:IsZip g1 z TI TO .ellipsis:=y1;apply Xs;simp only[List.zipIdx_cons,List.zipIdx_nil,List.forIn_cons,List.forIn_nil];apply Xs;apply Xs;apply wpAny_onRaise
 change X4 (model prog w) _ (YE (.ref i1) >>= _) _ _ _
 apply Xs;refine D1.item _ _ _ k x _ (D1.keep k _ _ h1 (λo e=>e1.extBut _ _ (YS Ha) e)) (D1.kept _ _ c1 λo e=>e1.extBut _ _ a1 e) hx λg2 s2 e2=>XB ?_;have t2:ZV g2 TO a b:=e2.extBut _ _ TOi1 (e1.extBut _ _ (YS Hc) RQ);apply Xs;apply Zj t2 rfl;apply Xs;refine wpAny_updateSeq_pair t2 λg3 y3 e3=>?_;have t3:ZV g3 TO x b:=y3;apply Xs;refine wpAny_letGo (XB ?_);apply Xs;apply Xs;apply wpAny_onRaise
 change X4 (model prog w) _ (YE (.ref i2) >>= _) _ _ _
 apply Xs;have k2:S2 k g3:=D2.keep k _ _ h2 λo e=>e3.extBut _ _ (YS TOi2) (e2.extBut _ _ (YS i12) (e1.extBut _ _ (YS Kl) e));have k3:C2 g3:=D2.kept _ _ c2 λo e=>e3.extBut _ _ b2 (e2.extBut _ _ b3 (e1.extBut _ _ b1 e));refine D2.item _ _ _ k y _ k2 k3 hy λg4 s4 e4=>XB ?_;have t4:ZV g4 TO x b:=e4.extBut _ _ TOi2 t3;apply Xs;apply Zj t4 rfl;apply Xs;refine wpAny_updateSeq_pair t4 λg5 y5 e5=>?_;have t5:ZV g5 TO x y:=y5;apply Xs;refine wpAny_letGo (XB (XB ?_));apply Xs;apply Zj t5 rfl;apply Xs;refine wpAny_newTuple ?_;have hsz:g5.objs.size=s.heap.objs.size:=by rw[e5.1,e4.1,e3.1,e2.1,e1.1]
 have z5:IsZip g5 z TI TO .ellipsis:=e5.extBut _ _ Hc (e4.extBut _ _ Kl (e3.extBut _ _ Hc (e2.extBut _ _ Ha z1)));have old:∀c o,c∉[z,TO,i1,i2]->s.heap.get? c=some o->g5.get? c=some o:=λc o hc e=>by
  simp only[Xy,YH,or_false,not_or]at hc;obtain⟨c1,c2,c3,c4⟩:=hc;exact e5.extBut _ _ c2 (e4.extBut _ _ c4 (e3.extBut _ _ c2 (e2.extBut _ _ c3 (e1.extBut _ _ c1 e))))
 have n1:S1 (k+1) g5:=D1.keep _ _ _ s2 λo e=>e5.extBut _ _ (YS TOi1) (e4.extBut _ _ i12 (e3.extBut _ _ (YS TOi1) e));have n2:S2 (k+1) g5:=D2.keep _ _ _ s4 λo e=>e5.extBut _ _ (YS TOi2) e;have SN:=XU z5
 change X4 (model prog w) _ (Builtin.SmallTypes.ownedTupleHandOut (.ref z) (.ref g5.objs.size) >>= _) _ _ _
 apply Xs;unfold Builtin.SmallTypes.ownedTupleHandOut;have z6:IsZip (g5.push {cls:=.type "tuple",data:=.seq #[x,y]}) z TI TO .ellipsis:=XA _ z5;apply Xs;refine Zf z6 (by simp) λg7 y7 e7=>?_
 have z7:IsZip g7 z TI TO (rawInt g5.objs.size):=y7;refine Zf z7 (by simp) λg8 y8 e8=>?_
 have z8:IsZip g8 z TI TO (rawInt g5.objs.size):=y8;have up:∀c o,c≠z->g5.get? c=some o->g8.get? c=some o:=λc o c1 e=>e8.extBut _ _ c1 (e7.extBut _ _ c1 (XA _ e));have t8:ZV g8 g5.objs.size x y:=e8.extBut _ _ (Nat.ne_of_gt SN) (e7.extBut _ _ (Nat.ne_of_gt SN) (X6 _ rfl));rw[hsz]at z8 t8;refine XB ⟨_,rfl,XB ?_⟩;show Q (some (.ref g5.objs.size)) _;rw[hsz];exact q g8 z8 (up _ _ (YS Hc) t5) (D1.keep _ _ _ n1 λo e=>up _ _ (YS Ha) e) (D2.keep _ _ _ n2 λo e=>up _ _ (YS Kl) e) t8 λc o hc e=>up c o (λw=>hc (by simp[w])) (old c o hc e)
theorem Dy (P:Apart z TI TO i1 i2 l1 l2)(D1:Kj prog w i1 l1 vs S1 C1)(D2:Kj prog w i2 l2 us S2 C2)(hh:A.handled=none){k:Nat}{a b:Xv}{Q:Option Xv->Xw->Prop}(hz:IsZip s.heap z TI TO .none)(RS:ZV s.heap TI (.ref i1) (.ref i2))(RQ:ZV s.heap TO a b)
  (h1:S1 k s.heap) (h2:S2 k s.heap) (c1:C1 s.heap) (c2:C2 s.heap) (hx:vs[k]?=none\/us[k]?=none)
  (q:∀h',(∀c o,c∉[z,TO,i1,i2]->s.heap.get? c=some o->h'.get? c=some o)->Q none {s with heap:=h'}) :
  X4 (model prog w) A (aaE (.ref z)) Q E s:=by
 have hT:s.TypeIs (.ref z) "zip" := ⟨_,hz,rfl⟩;obtain⟨nd,o1,o2⟩:=P;simp only[X9,Xy,YH,or_false,not_or,YF,not_false_eq_true,and_true]at nd;obtain⟨⟨Uy,Hc,Ha,Kl⟩,⟨TITO,TIi1,TIi2⟩,⟨TOi1,TOi2⟩,i12⟩:=nd;have a1:=o1 z (by simp);have b1:=o2 z (by simp);have b2:=o2 TO (by simp);have b3:=o2 i1 (by simp)
 have oc:∀{c:Addr},c∉[z,TO,i1,i2]->c≠z/\c≠TO/\c≠i1/\c≠i2:=λhc=>by simpa[not_or] using hc
 have OF:A.in1.handled=none:=hh;unfold aaE;apply Xs;apply aap;apply Zl (name:=aaA "__next__") hT F.slot_zip_next;refine Y1 F.slot_zip_next hT F.entry_zip_next ?_ (F.args_zip_next_1 _);have fin:∀(h':Heap) (e:Addr),(∀c o,c∉[z,TO,i1,i2]->s.heap.get? c=some o->h'.get? c=some o)->(∃o,h'.get? e=some o/\o.cls=.type "StopIteration") ->
   X4 (model prog w) A (do if <- isInstance (.ref e) (.type "StopIteration") then pure none else throw (.ref e)) Q E {s with heap:=h'}:=λh' e hk M9=> by
  obtain⟨o,ho,hc⟩ := M9;apply Xs;refine wpAny_isInstance (T:="StopIteration") (b:=true) ⟨o,ho,hc⟩ isSubtype_stop ?_;exact XB (q h' hk)
 change X4 (model prog w) _ (field (.ref z) 2 >>= _) _ _ _
 apply Xs;apply Zu hz rfl (x:=.bool false) rfl
 change X4 (model prog w) _ (field (.ref z) 3 >>= _) _ _ _
 apply Xs;apply Zu hz rfl (x:=.ref TI) rfl;apply Xs;apply Zj RS rfl
 change X4 (model prog w) _ (Zv (.ref z) >>= _) _ _ _
 apply Xs;unfold Zv;apply Xs;apply Zu hz rfl (x:=.none) rfl;apply XB;simp only[if_true];apply Xs;apply ZK;apply Xs;apply Zu hz rfl (x:=.ref TO) rfl;apply Xs;refine Zf hz (by simp) λg1 y1 e1=>?_
 have z1:IsZip g1 z TI TO .ellipsis:=y1;apply Xs;simp only[List.zipIdx_cons,List.zipIdx_nil,List.forIn_cons,List.forIn_nil];apply Xs;apply Xs;apply wpAny_onRaise
 change X4 (model prog w) _ (YE (.ref i1) >>= _) _ _ _
 apply Xs;have f1:S1 k g1:=D1.keep k _ _ h1 λo e=>e1.extBut _ _ (YS Ha) e;have f2:C1 g1:=D1.kept _ _ c1 λo e=>e1.extBut _ _ a1 e;cases ex:vs[k]? with
 |none =>
  refine D1.done _ _ _ k _ OF f1 f2 ex λg2 e e2 he=>?_;obtain⟨oe,ge,ce⟩:=he;have z2:IsZip g2 z TI TO .ellipsis:=e2 _ _ Ha z1;have ez:e≠z:=λw=>by subst w;rw[z2]at ge;cases ge;simp at ce
  refine Zf z2 (by simp) λg3 _ e3=>fin g3 e (λc o hc x=>?_) ⟨oe,e3.extBut _ _ ez ge,ce⟩
  obtain⟨q1,q2,q3,q4⟩:=oc hc;exact e3.extBut _ _ q1 (e2 _ _ q3 (e1.extBut _ _ q1 x))
 |some x =>
  have ey:us[k]?=none:=hx.resolve_left (by rw[ex];intro z;cases z)
  refine D1.item _ _ _ k x _ f1 f2 ex λg2 s2 e2=>XB ?_;have t2:ZV g2 TO a b:=e2.extBut _ _ TOi1 (e1.extBut _ _ (YS Hc) RQ);apply Xs;apply Zj t2 rfl;apply Xs;refine wpAny_updateSeq_pair t2 λg3 y3 e3=>?_;apply Xs;refine wpAny_letGo (XB ?_);apply Xs;apply Xs;apply wpAny_onRaise
  change X4 (model prog w) _ (YE (.ref i2) >>= _) _ _ _
  apply Xs;have k2:S2 k g3:=D2.keep k _ _ h2 λo e=>e3.extBut _ _ (YS TOi2) (e2.extBut _ _ (YS i12) (e1.extBut _ _ (YS Kl) e));have k3:C2 g3:=D2.kept _ _ c2 λo e=>e3.extBut _ _ b2 (e2.extBut _ _ b3 (e1.extBut _ _ b1 e));refine D2.done _ _ _ k _ OF k2 k3 ey λg4 e e4 he=>?_;obtain⟨oe,ge,ce⟩:=he;have z4:IsZip g4 z TI TO .ellipsis:=e4 _ _ Kl (e3.extBut _ _ Hc (e2.extBut _ _ Ha z1));have ez:e≠z:=λw=>by subst w;rw[z4]at ge;cases ge;simp at ce
  refine Zf z4 (by simp) λg5 _ e5=>fin g5 e (λc o hc x=>?_) ⟨oe,e5.extBut _ _ ez ge,ce⟩
  obtain⟨q1,q2,q3,q4⟩:=oc hc;exact e5.extBut _ _ q1 (e4 _ _ q4 (e3.extBut _ _ q2 (e2.extBut _ _ q3 (e1.extBut _ _ q1 x))))
end
section
variable {prog:Xz}{w:XT}{A:Yv}{E:Xv->Xw->Prop}{s:Xw}
abbrev Of (h:Heap)(l1:Addr):Heap:=h.push {cls:=.type "tuple_iterator",data:=.fields #[.ref l1,.int 0 0]}
abbrev Oe (h:Heap)(l1 l2:Addr):Heap:=(Of h l1).push {cls:=.type "tuple_iterator",data:=.fields #[.ref l2,.int 0 0]}
abbrev Od (h:Heap)(l1 l2:Addr):Heap:=(Oe h l1 l2).push {cls:=.type "tuple",data:=.seq #[.ref h.objs.size,.ref (Of h l1).objs.size]}
abbrev Oc (h:Heap)(l1 l2:Addr):Heap:=(Od h l1 l2).push {cls:=.type "tuple",data:=.seq #[.none,.none]}
abbrev Kn (h:Heap)(l1 l2:Addr):Heap:=(Oc h l1 l2).push {cls:=.type "zip",data:=.fields #[.none,.bool false,.bool false,.ref (Oe h l1 l2).objs.size,.ref (Od h l1 l2).objs.size]}
theorem xS (l1 l2:Addr)(xs ys:Array Xv):
  Meets (ZO.«zip.__new__» ⟨[.type "zip",.ref l1,.ref l2],[]⟩) (λ_ R s=>s.heap.IsTuple l1 xs/\s.heap.IsTuple l2 ys/\R (.ok (.ret (.ref (Oc s.heap l1 l2).objs.size))) {s with heap:=Kn s.heap l1 l2}) :=
 .of_wp λprog w A R s h=>by
  obtain⟨hp,g,d,tk,os⟩:=s;obtain⟨u1,u2,h⟩:=h;have US:=sub_zip;have m1:Heap.IsTuple (Shared.heap ⟨hp,g,d,tk,os⟩) l1 xs:=u1;have m2:Heap.IsTuple (Shared.heap ⟨hp.push {cls:=.type "tuple_iterator",data:=.fields #[.ref l1,.int 0 0]},g,d,tk,os⟩) l2 ys:=Heap.IsTuple.push u2 _
  wp_walk using wpAny_pyIter_tuple m1,wpAny_pyIter_tuple m2
  exact⟨_,rfl,h⟩
theorem zP {l1 l2:Addr}{xs ys:Array Xv}{Q:Xv->Xw->Prop}(u1:s.heap.IsTuple l1 xs)(u2:s.heap.IsTuple l2 ys)
  (q:∀h',IsZip h' (s.heap.objs.size+4) (s.heap.objs.size+2) (s.heap.objs.size+3) .none->ZV h' (s.heap.objs.size+2) (.ref s.heap.objs.size) (.ref (s.heap.objs.size+1))->ZV h' (s.heap.objs.size+3) .none .none ->
   h'.IsTupleIter s.heap.objs.size l1 0->h'.IsTupleIter (s.heap.objs.size+1) l2 0->(∀c o,s.heap.get? c=some o->h'.get? c=some o)->Q (.ref (s.heap.objs.size+4)) {s with heap:=h'}) :
  X4 (model prog w) A (call (.type "zip") [.ref l1,.ref l2]) Q E s:=by
 refine callType_new F.called_zip (by decide) (F.typeCall_zip_2 _ _) (F.newCall_zip_2 _ _) (λobj=>F.args_object_init_3 obj _ _) F.entry_zip_new (xS l1 l2 xs ys) ⟨u1,u2,?_⟩
 have n1:(Of s.heap l1).objs.size=s.heap.objs.size+1:=ZI ..
 have n2:(Oe s.heap l1 l2).objs.size=s.heap.objs.size+2:=by rw[ZI,n1]
 have n3:(Od s.heap l1 l2).objs.size=s.heap.objs.size+3:=by rw[ZI,n2]
 have n4:(Oc s.heap l1 l2).objs.size=s.heap.objs.size+4:=by rw[ZI,n3]
 have up:∀{h:Heap} {o:Obj} {c:Addr} {u:Obj},h.get? c=some u->(h.push o).get? c=some u:=λe=>XA _ e;have w5:(Kn s.heap l1 l2).get? (Oc s.heap l1 l2).objs.size=some _:=X6 _ rfl;have w4:(Kn s.heap l1 l2).get? (Od s.heap l1 l2).objs.size=some _:=up (X6 _ rfl);have w3:(Kn s.heap l1 l2).get? (Oe s.heap l1 l2).objs.size=some _:=up (up (X6 _ rfl));have w2:(Kn s.heap l1 l2).get? (Of s.heap l1).objs.size=some _:=up (up (up (X6 _ rfl)));have w1:(Kn s.heap l1 l2).get? s.heap.objs.size=some _:=up (up (up (up (X6 _ rfl))));show _/\_;rw[n2,n3,n4]at w5;rw[n1,n2]at w3;rw[n3]at w4;rw[n1]at w2;rw[n4];exact⟨⟨_,w5,rfl⟩,q _ w5 w3 w4 ⟨_,w1,rfl,rfl⟩ ⟨_,w2,rfl,rfl⟩ λc o e=>up (up (up (up (up e))))⟩
end
end Zp
namespace L2
open PySem PySem.Spec PySem.SeqAt PyProof.Rows Zp
abbrev OS:=Hp->List V->Prop
def Ur (c1 c2:OS):It :=
 ⟨λi H=>∃xs ys x y,c1 H xs/\c2 H ys/\xs[i]?=some x/\ys[i]?=some y,
  λi H x H'=>∃T,H T=none/\x=.ref T/\∀xs ys,c1 H xs->c2 H ys->∃a b,xs[i]?=some a/\ys[i]?=some b/\H'=upd H T (.tup [a,b]),
  λi H=>∃xs ys,c1 H xs/\c2 H ys/\(xs[i]?=none\/ys[i]?=none)⟩
structure Src (P:Xz)(w:XT)(K:PySem.W.Frag)(i l:Addr)(c:OS)(S:Nat->Heap->Prop):Prop where
 «at»:∀(X:Cx) (pins:List (Addr×Obj)) (σ:St) (H:Hp) (s:Xw) (xs:List V),X.prog=P->X.w=w->X.K=K->Inv X pins σ H s->c H xs->∃vs Ct,Vals xs vs/\Kj P w i l vs S Ct/\Ct s.heap
 obj:∀k h,S k h->∃o,h.get? i=some o/\∀v,o.data≠.cell v
 keep:∀k h h',S k h->(∀o,h.get? i=some o->h'.get? i=some o)->S k h'
 inj:∀(H:Hp) (xs ys:List V),c H xs->c H ys->xs=ys
 old:∀(H:Hp) (xs:List V),c H xs->H l≠none
theorem src_list {P:Xz}{w:XT}{K:PySem.W.Frag}{i l:Addr}:Src P w K i l (λH xs=>H l=some (.lst xs)) (λk h=>h.IsListIter i l k) where
 «at»:=λX pins σ H s xs hp hw hk I h=>by
  obtain⟨its,r',pl,_⟩:=I.list (c6.of h);exact⟨its,_,r',CF,pl.isList⟩
 obj:=λk h ⟨o,a,_,d⟩=>⟨o,a,λv z=>by rw[d]at z;cases z⟩
 keep:=λk h h' a k1=>a.at k1
 inj:=λH xs ys h h'=>by rw[h]at h';cases h';rfl
 old:=λH xs h z=>by rw[h]at z;cases z
theorem DO {P:Xz}{w:XT}{K:PySem.W.Frag}{i l:Addr}:Src P w K i l (λH xs=>H l=some (.tup xs)) (λk h=>h.IsTupleIter i l k) where
 «at»:=λX pins σ H s xs hp hw hk I h=>by
  obtain⟨its,r',pl,_⟩:=I.tuple (qV.of h);exact⟨its,_,r',FA,(show s.heap.IsTuple l its.toArray from pl)⟩
 obj:=λk h ⟨o,a,_,d⟩=>⟨o,a,λv z=>by rw[d]at z;cases z⟩
 keep:=λk h h' ⟨o,a1,a2⟩ k1=>⟨o,k1 o a1,a2⟩
 inj:=λH xs ys h h'=>by rw[h]at h';cases h';rfl
 old:=λH xs h z=>by rw[h]at z;cases z
theorem Inv.DG {X:Cx}{pins:List (Addr×Obj)}{σ:St}{H:Hp}{s:Xw}{fp:List Addr}{h':Heap}{x y:V}{u v:Xv}(I:Inv X pins σ H s)(hf:∀b∈fp,gw X pins H b)(k:∀c o,c∉fp->s.heap.get? c=some o->h'.get? c=some o)
  (rx:RelV x u) (ry:RelV y v) (hT:ZV h' s.heap.objs.size u v):Inv X pins σ (upd H s.heap.objs.size (.tup [x,y])) {s with heap:=h'}:=by
 have hn:H s.heap.objs.size=none:=I.bt.fresh (Xx _);have ne:∀{b:Addr} {o:Obj},s.heap.get? b=some o->b≠s.heap.objs.size:=λe=>Yc (XU e);have nt:∀{b:Addr} {o:HO},H b=some o->b≠s.heap.objs.size:=λe z=>by rw[z,hn]at e;cases e
 have nf:∀{b:Addr} {o:HO},H b=some o->b∉fp:=λe z=>by rw[(hf _ z).1]at e;cases e
 refine I.call (g':=s.gens) (t':=s.toks) (d':=s.drawn) (ch:=fp) ⟨λb o e n _ hc=>k b o hc e,λb o e n _ hc=>⟨o.slots,k b o hc e⟩,λb o e n _=>by rw[ao (ne e)];exact n,λb o e hc=>⟨o,k b o hc e⟩,
  λb xs e=>by rw[ao (nt e)];exact e,λb o u e=>by rw[ao (nt e)];exact e,λb ps e=>⟨#[],by rw[ao (nt e),e];simp⟩⟩ (λb u e=>?_) I.bare λb hb=>?_
 ·by_cases hb:b=s.heap.objs.size
  ·subst hb;rw[ar]at e;cases e;exact⟨by show 2<=XO;decide,[_,_],.cons rx (.cons ry .nil),⟨_,hT,rfl,_,rfl⟩⟩
  ·rw[ao hb]at e;refine(I.bt b u e).rF (λc v hc q=>k c v ?_ q) (λc q=>by rw[ao (nt q)];exact q) λc xs q=>by rw[ao (nt q)];exact q
   rcases hc with z|z
   ·rw[z];exact nf e
   ·exact nf z
 ·obtain⟨f0,f1,f2,f3,f4,f5⟩:=hf b hb;exact⟨f3,f1,f4,f5⟩
theorem Inv.v9 {X:Cx}{pins:List (Addr×Obj)}{σ:St}{H:Hp}{s:Xw}{fp:List Addr}{h':Heap}(I:Inv X pins σ H s)(hf:∀b∈fp,gw X pins H b)(k:∀c o,c∉fp->s.heap.get? c=some o->h'.get? c=some o):Inv X pins σ H {s with heap:=h'}:=by
 have nf:∀{b:Addr} {o:HO},H b=some o->b∉fp:=λe z=>by rw[(hf _ z).1]at e;cases e
 refine I.call (g':=s.gens) (t':=s.toks) (d':=s.drawn) (ch:=fp) ⟨λb o e n _ hc=>k b o hc e,λb o e n _ hc=>⟨o.slots,k b o hc e⟩,λb o e n _=>n,λb o e hc=>⟨o,k b o hc e⟩,λb xs e=>e,λb o u e=>e,λb ps e=>⟨#[],by rw[e];simp⟩⟩ (λb u e=>?_) I.bare λb hb=>?_
 ·refine(I.bt b u e).rF (λc v hc q=>k c v ?_ q) (λc q=>q) λc xs q=>q;rcases hc with z|z
  ·rw[z];exact nf e
  ·exact nf z
 ·obtain⟨f0,f1,f2,f3,f4,f5⟩:=hf b hb;exact⟨f3,f1,f4,f5⟩
theorem Aa {P:Xz}{w:XT}{K:PySem.W.Frag}{elts:List Expr}{kk:Nat}{pos:Pos}{z TI TO i1 i2 l1 l2:Addr}{c1 c2:OS}{S1 S2:Nat->Heap->Prop}(Ap:Apart z TI TO i1 i2 l1 l2)(s1:Src P w K i1 l1 c1 S1)(s2:Src P w K i2 l2 c2 S2):
  Turn P w K (.Tuple elts kk pos) (Ur c1 c2) [z,TI,TO,i1,i2] z (λk h=>IsZip h z TI TO .none/\ZV h TI (.ref i1) (.ref i2)/\(∃a b,ZV h TO a b)/\S1 k h/\S2 k h) where
 mem:=by simp
 obj:=λk h M8 c hc=> by
  obtain⟨h1,h2,⟨a,b,h3⟩,h4,h5⟩ := M8;simp only[Xy,YH,or_false]at hc;rcases hc with rfl|rfl|rfl|rfl|rfl
  ·exact⟨_,h1,λv z=>by cases (show Data.fields _=Data.cell v from z)⟩
  ·exact⟨_,h2,λv z=>by cases (show Data.seq _ _=Data.cell v from z)⟩
  ·exact⟨_,h3,λv z=>by cases (show Data.seq _ _=Data.cell v from z)⟩
  ·exact s1.obj k h h4
  ·exact s2.obj k h h5
 keep:=λk h h' ⟨h1,h2,⟨a,b,h3⟩,h4,h5⟩ kp=>⟨kp z (by simp) _ h1,kp TI (by simp) _ h2,⟨a,b,kp TO (by simp) _ h3⟩,s1.keep k h h' h4 (λo e=>kp i1 (by simp) o e),s2.keep k h h' h5 λo e=>kp i2 (by simp) o e⟩
 item:=by
  intro X hP hw hK hc i pins s σ H E I hf st hg;obtain⟨g1,g2,⟨a,b,g3⟩,g4,g5⟩:=st;obtain⟨xs,ys,x,y,hx,hy,ex,ey⟩:=hg;obtain⟨vs,C1,r1,D1,k1⟩:=s1.at X pins σ H s xs hP hw hK I hx;obtain⟨us,C2,r2,D2,k2⟩:=s2.at X pins σ H s ys hP hw hK I hy;obtain⟨u,eu,ru⟩:=r1.get ex;obtain⟨v,ev,rv⟩:=r2.get ey;have sub:∀c∈[z,TO,i1,i2],c∈[z,TI,TO,i1,i2]:=λc hc=>by simp at hc ⊢;rcases hc with h|h|h|h <;> simp[h]
  refine zQ Ap D1 D2 g1 g2 g3 g4 g5 k1 k2 eu ev λh' y1 y2 y3 y4 y5 y6=>?_;have I1:=I.DG (fp:=[z,TI,TO,i1,i2]) hf (λc o GL e=>y6 c o (λq=>GL (sub c q)) e) ru rv y5;have nT:∀b∈[z,TI,TO,i1,i2],upd H s.heap.objs.size (.tup [x,y]) b=none:=λb hb=>by
   have:b≠s.heap.objs.size:=by
    have:=(show (∃o,s.heap.get? b=some o) from by
     simp only[Xy,YH,or_false]at hb;rcases hb with rfl|rfl|rfl|rfl|rfl
     ·exact⟨_,g1⟩
     ·exact⟨_,g2⟩
     ·exact⟨_,g3⟩
     ·exact⟨_,(s1.obj i _ g4).choose_spec.1⟩
     ·exact⟨_,(s2.obj i _ g5).choose_spec.1⟩)
    obtain⟨o,e⟩:=this;exact Yc (XU e)
   rw[ao this];exact(hf b hb).1
  have Wz:ZV h' TI (.ref i1) (.ref i2):=y6 TI _ (by
   have:=Ap.nd;simp only[X9,Xy,YH,or_false,not_or]at this ⊢
   obtain⟨⟨q1,_⟩,⟨q2,q3,q4⟩,_⟩:=this;exact⟨YS q1,q2,q3,q4⟩) g2
  refine⟨_,rfl,wpAny_letOwnedTupleGo_zip y1 λh'' z' sb=>?_⟩;have I2:Inv X pins σ (upd H s.heap.objs.size (.tup [x,y])) {s with heap:=h''}:=by
   refine I1.v9 (fp:=[z]) (λb hb=>?_) λc o GL e=>sb.extBut _ _ (by simpa using GL) e
   have e:b=z:=by simpa using hb
   subst e;exact⟨nT b (by simp),(hf b (by simp)).2⟩
  have N9:∀c∈[TI,TO,i1,i2],c≠z:=λc hc q=>by
   have:=Ap.nd;rw[X9]at this;exact this.1 (by rw[<- q];exact hc)
  refine⟨.ref s.heap.objs.size,_,I2,rfl,⟨s.heap.objs.size,I.bt.fresh (Xx _),rfl,λN_ Uz Dn Qu=>?_⟩,⟨z',sb.extBut _ _ (N9 TI (by simp)) Wz,⟨_,_,sb.extBut _ _ (N9 TO (by simp)) y2⟩,s1.keep _ _ _ y3 (λo e=>sb.extBut _ _ (N9 i1 (by simp)) e),s2.keep _ _ _ y4 λo e=>sb.extBut _ _ (N9 i2 (by simp)) e⟩,nT⟩
  rw[s1.inj H N_ xs Dn hx,s2.inj H Uz ys Qu hy];exact⟨x,y,ex,ey,rfl⟩
 done:=by
  intro X hP hw hK hc i pins s σ H E I hf st hg;obtain⟨g1,g2,⟨a,b,g3⟩,g4,g5⟩:=st;obtain⟨xs,ys,hx,hy,ex⟩:=hg;obtain⟨vs,C1,r1,D1,k1⟩:=s1.at X pins σ H s xs hP hw hK I hx;obtain⟨us,C2,r2,D2,k2⟩:=s2.at X pins σ H s ys hP hw hK I hy;have sub:∀c∈[z,TO,i1,i2],c∈[z,TI,TO,i1,i2]:=λc hc=>by simp at hc ⊢;rcases hc with h|h|h|h <;> simp[h]
  refine Dy Ap D1 D2 (I.ok.hd hc) g1 g2 g3 g4 g5 k1 k2 (ex.imp (λq=>r1.none_of q) λq=>r2.none_of q) λh' y6=>?_;exact⟨rfl,I.v9 (fp:=[z,TI,TO,i1,i2]) hf λc o GL e=>y6 c o (λq=>GL (sub c q)) e⟩
 self:=λA i s Q E ⟨h1,_⟩ q=>wpAny_pyIter_zip h1 q
theorem J9:Yx "zip" = some (.type "zip"):=by decide +kernel
def iL:List D->List D->List D
 |a::as,b::bs=>.tup [a,b]::iL as bs
 |_,_=>[]
theorem lF:∀{as bs:List D} {i:Nat} {d:D},(iL as bs)[i]?=some d->∃a b,as[i]?=some a/\bs[i]?=some b/\d=.tup [a,b]
 |[],_,_,_,h=>by simp[iL]at h
 |_::_,[],_,_,h=>by simp[iL]at h
 |a::as,b::bs,0,_,h=>by simp[iL]at h;exact⟨a,b,rfl,rfl,h.symm⟩
 |a::as,b::bs,i+1,_,h=>by
  obtain⟨x,y,h1,h2,h3⟩:=lF (as:=as) (bs:=bs) (i:=i) (by simpa[iL] using h)
  exact⟨x,y,by simpa using h1,by simpa using h2,h3⟩
theorem rh:∀(as bs:List D),(iL as bs).length=min as.length bs.length
 |[],_=>by simp[iL]
 |_::_,[]=>by simp[iL]
 |a::as,b::bs=>by simp[iL,rh as bs]
section
variable {X:Cx}{W:Addr->Prop}{H:Hp}{l1 l2:Addr}{xs ys:List V}{ds es:List D}
def vR (t:Bool)(l:Addr):OS:=λH xs=>if t=true then H l=some (.tup xs) else H l=some (.lst xs)
theorem E5 (t:Bool)(h1:vR t l1 H xs)(h2:vR t l2 H ys)(n1:t=false->¬ W l1)(n2:t=false->¬ W l2)(r1:jy X W H ds xs)(r2:jy X W H es ys):xQ X W (Ur (vR t l1) (vR t l2)) (iL ds es) H:=λW' hW i H' k=>by
 have st:∀{l:Addr} {xs:List V},vR t l H xs->(t=false->¬ W l)->vR t l H' xs:=λ{l xs} h n=>by
  unfold vR at h ⊢
  cases t with
  |true=>exact k.tup l xs h
  |false=>exact k.out l _ h λz=>(hW l z).elim (n rfl) λq=>by rw[show H l=some (HO.lst xs) from h]at q;cases q
 have inj:∀{l:Addr} {xs ys:List V},vR t l H' xs->vR t l H' ys->xs=ys:=λ{l xs ys} a b=>by
  unfold vR at a b;cases t with
  |true=>rw[show H' l=some (HO.tup xs) from a]at b;cases b;rfl
  |false=>rw[show H' l=some (HO.lst xs) from a]at b;cases b;rfl
 have q1:=(ai.grow hW r1).keep k;have q2:=(ai.grow hW r2).keep k;constructor
 ·intro d hd;obtain⟨a,b,ha,hb,rfl⟩:=lF hd;obtain⟨x,ex,rx⟩:=ai.get q1 ha;obtain⟨y,ey,ry⟩:=ai.get q2 hb;refine⟨⟨xs,ys,x,y,st h1 n1,st h2 n2,ex,ey⟩,λv H1 ⟨T,hT,e,yl⟩=>?_⟩;obtain⟨x',y',Ui,Uh,eH⟩:=yl xs ys (st h1 n1) (st h2 n2);rw[ex]at Ui;rw[ey]at Uh;cases Ui;cases Uh;subst e eH;exact⟨au.new hT,Rp.Ht hT (.cons rx (.cons ry .nil))⟩
 ·intro hl;rw[rh]at hl;have z1:=q1.length;have z2:=q2.length;refine⟨xs,ys,st h1 n1,st h2 n2,?_⟩
  by_cases h:ds.length<=i
  ·exact .inl (Ys (by lia))
  ·exact .inr (Ys (by lia))
variable {φs:uj}{elts:List Expr}{kk:Nat}{Hv:Pos}
def Qp (φs:uj):Kf:=λρ R=>φs ρ λl=>∃as bs,(l=[.lst as,.lst bs]\/l=[.tup as,.tup bs])/\R (iL as bs)
theorem Aq {P:Xz}{w:XT}{K:PySem.W.Frag}{i l:Addr}(t:Bool):∃S:Nat->Heap->Prop,Src P w K i l (vR t l) S/\∀h,(t=true->h.IsTupleIter i l 0)->(t=false->h.IsListIter i l 0)->S 0 h:=by
 cases t with
 |true=>exact⟨_,DO,λh a b=>a rfl⟩
 |false=>exact⟨_,src_list,λh a b=>b rfl⟩
theorem Ec {a b:Expr} {p pos:Pos} (hm:X.mg "zip" = none) (ha:NZ X [a,b] φs) (hg:Gl X "zip" := by rfl) (hs:XZ [a,b] X.env=[(false,eval a X.env),(false,eval b X.env)]:=by rfl) (uv:XZ [b] X.env=[(false,eval b X.env)]:=by rfl) :
  Uo X (.Tuple elts kk Hv) (.Call (.Name "zip" p) [a,b] [] pos) (Qp φs):=by
 refine⟨λρ R R' k q=>ha.mono ρ _ _ (λl M7=> by obtain⟨as,bs,e,q⟩ := M7;exact⟨as,bs,e,k _ q⟩) q,λpins s σ H R I ⟨W,ρ,se,q⟩=>?_⟩
 refine Call_ (iu I hg hm J9 (Zr (bF (ha.pa pos pins s σ H _ I (K6.of ha se q λds vs H1 h s1 r1=>(⟨ds,h,s1,r1⟩:∃ds,(∃as bs,(ds=[.lst as,.lst bs]\/ds=[.tup as,.tup bs])/\∀J H',au H H'->xQ X W J (iL as bs) H'->R J H')/\au H H1/\jy X W H1 ds vs)))
  λus s1 ⟨vs,H1,I1,rv,h⟩=>?_) (by rw[hs,uv]) (by rw[uv];rfl)))
 obtain⟨ds,⟨as,bs,e,q⟩,sm,r1⟩:=h;have main:∀(t:Bool) (l1 l2:Addr) (xs ys:List V),vs=[.ref l1,.ref l2]->vR t l1 H1 xs->vR t l2 H1 ys->(t=false->¬ W l1)->(t=false->¬ W l2)->jy X W H1 as xs->jy X W H1 bs ys ->
   X4 (model X.prog X.w) X.A (call (.type "zip") us) (λv s1=>X4 (model X.prog X.w) X.A (pyIter v) (KQ X pins σ (.Tuple elts kk Hv) R) X.xe s1) X.xe s1:=by
  intro t l1 l2 xs ys ev g1 g2 n1 n2 w1 w2;subst ev;have it:=E5 t g1 g2 n1 n2 w1 w2;obtain⟨v1,v2,rfl,e1,e2⟩:∃v1 v2,us=[v1,v2]/\RelV (.ref l1) v1/\RelV (.ref l2) v2:=by
   cases rv with
   |cons a rr=>cases rr with
    |cons b rr=>cases rr;exact⟨_,_,rfl,a,b⟩
  cases e1;cases e2;have Qc:l1<s1.heap.objs.size:=I1.bt.lt (o:=if t=true then .tup xs else .lst xs) (by unfold vR at g1;cases t <;> exact g1)
  have Qb:l2<s1.heap.objs.size:=I1.bt.lt (o:=if t=true then .tup ys else .lst ys) (by unfold vR at g2;cases t <;> exact g2)
  have Ap:Apart (s1.heap.objs.size+4) (s1.heap.objs.size+2) (s1.heap.objs.size+3) s1.heap.objs.size (s1.heap.objs.size+1) l1 l2:=by
   generalize s1.heap.objs.size=n at Qc Qb
   change (l1:Nat)<n at Qc
   change (l2:Nat)<n at Qb
   refine⟨?_,λc hc=>?_,λc hc=>?_⟩
   ·have q:∀(i j:Nat),i≠j->(n+i:Nat)≠n+j:=λi j h z=>h (Nat.add_left_cancel z);simp only[X9,Xy,YH,or_false,not_or,YF,not_false_eq_true,and_true];exact⟨⟨q 4 2 (by decide),q 4 3 (by decide),q 4 0 (by decide),q 4 1 (by decide)⟩,⟨q 2 3 (by decide),q 2 0 (by decide),q 2 1 (by decide)⟩,⟨q 3 0 (by decide),q 3 1 (by decide)⟩,q 0 1 (by decide)⟩
   ·simp only[Xy,YH,or_false]at hc;rcases hc with rfl|rfl|rfl|rfl <;> exact Yc (Yi Qc (by first|exact aaW _ _|exact Xx _))
   ·simp only[Xy,YH,or_false]at hc;rcases hc with rfl|rfl|rfl|rfl <;> exact Yc (Yi Qb (by first|exact aaW _ _|exact Xx _))
  obtain⟨S1,Pk,z1⟩:=Aq (P:=X.prog) (w:=X.w) (K:=X.K) (i:=s1.heap.objs.size) (l:=l1) t;obtain⟨S2,Pj,z2⟩:=Aq (P:=X.prog) (w:=X.w) (K:=X.K) (i:=s1.heap.objs.size+1) (l:=l2) t;have fin:∀h',IsZip h' (s1.heap.objs.size+4) (s1.heap.objs.size+2) (s1.heap.objs.size+3) .none->ZV h' (s1.heap.objs.size+2) (.ref s1.heap.objs.size) (.ref (s1.heap.objs.size+1))->ZV h' (s1.heap.objs.size+3) .none .none ->
    S1 0 h'->S2 0 h'->(∀c o,s1.heap.get? c=some o->h'.get? c=some o)->X4 (model X.prog X.w) X.A (pyIter (.ref (s1.heap.objs.size+4))) (KQ X pins σ (.Tuple elts kk Hv) R) X.xe {s1 with heap:=h'}:=λh' y1 y2 y3 y4 y5 y6=>by
   refine wpAny_pyIter_zip y1 ?_;have I2:Inv X pins σ H1 {s1 with heap:=h'}:=I1.kept (t':=s1.toks) y6
   refine⟨_,_,_,_,H1,rfl,I2,Aa Ap Pk Pj,⟨y1,y2,⟨_,_,y3⟩,y4,y5⟩,λb hb=>?_,q _ _ sm it⟩;have nR:s1.heap.objs.size<=b:=by
    simp only[Xy,YH,or_false]at hb;rcases hb with rfl|rfl|rfl|rfl|rfl <;> first|exact aaW _ _|exact Xx _
   exact I1.Cm nR (I1.bt.fresh nR)
  cases t with
  |true =>
   obtain⟨Md,_,p1,_⟩:=I1.tuple (qV.of (show H1 l1=some (.tup xs) from g1))
   obtain⟨nL,_,p2,_⟩:=I1.tuple (qV.of (show H1 l2=some (.tup ys) from g2))
   exact zP (show s1.heap.IsTuple l1 Md.toArray from p1) (show s1.heap.IsTuple l2 nL.toArray from p2) λh' y1 y2 y3 y4 y5 y6=>fin h' y1 y2 y3 (z1 h' (λ_=>y4) λz=>by cases z) (z2 h' (λ_=>y5) λz=>by cases z) y6
  |false =>
   obtain⟨Md,_,p1,_⟩:=I1.list (c6.of (show H1 l1=some (.lst xs) from g1))
   obtain⟨nL,_,p2,_⟩:=I1.list (c6.of (show H1 l2=some (.lst ys) from g2))
   exact call_zip_2 p1.isList p2.isList λh' y1 y2 y3 y4 y5 y6 y7=>fin h' y1 y2 y3 (z1 h' (λz=>by cases z) λ_=>y4) (z2 h' (λz=>by cases z) λ_=>y5) y7
 rcases e with rfl|rfl
 ·obtain⟨x,y,rfl,⟨l1,xs,rfl,g1,n1,w1⟩,⟨l2,ys,rfl,g2,n2,w2⟩⟩:=pV r1;exact main false l1 l2 xs ys rfl g1 g2 (λ_=>n1) (λ_=>n2) w1 w2
 ·obtain⟨x,y,rfl,⟨l1,xs,rfl,g1,w1⟩,⟨l2,ys,rfl,g2,w2⟩⟩:=pV r1;exact main true l1 l2 xs ys rfl g1 g2 (λz=>by cases z) (λz=>by cases z) w1 w2
end
section
end
theorem ck {lo:Int}{n i:Nat}{d:D}(h:(qk lo n)[i]?=some d):i<n/\d=.int (lo+i):=by
 unfold qk at h;rw[XM]at h;have hi:i<n:=by
  by_cases hi:i<n
  ·exact hi
  ·rw[Ys (by simpa using hi)]at h;cases h
 rw[Zo hi]at h;cases h;exact⟨hi,rfl⟩
theorem cM {lo:Int}{n:Nat}:(qk lo n).length=n:=by unfold qk;simp
section
end
structure Df (K:PySem.W.Frag)(mg:Str->Option Xv)(x:Str)(st:Stmt)(ps:List Str)(f:Addr)(fd:Yr):Prop where
 F:Dx K x x st f fd
 b:Binds K fd ps []
 m:mg x=some (.ref f)
structure Bs (mg:Str->Option Xv):Prop where
 max:mg "max" = none
 min:mg "min" = none
 int:mg "int" = none
 range:mg "range" = none
 sorted:mg "sorted" = none
 set:mg "set" = none
 len:mg "len" = none
 list:mg "list" = none
theorem Ka:Yx "set" = some (.type "set"):=by decide +kernel
theorem cT.v7 {k:Nat}{A:Yv}(r:cT k A):A.units+64+1<ZQ:=by have:=r.un;lia
theorem cT.v8 {k:Nat}{A:Yv}(r:cT k A):A.units+16<ZQ:=by have:=r.un;lia
def Ss (n:Int)(t:List Int):Prop:=∃a b,t=[a,b]/\0<=a/\a<b/\b<n
theorem Ss.ne {n:Int}{t:List Int}(h:Ss n t):t≠[]:=by
 obtain⟨a,b,rfl,_⟩:=h;intro z;cases z
def bx (n:Int)(ts:List (List Int)):Prop:=∀t∈ts,Ss n t
theorem bx.ne {n:Int}{ts:List (List Int)}(h:bx n ts):∀k∈ts,k≠[]:=λk hk=>(h k hk).ne
theorem bx.nil {n:Int}:bx n []:=λ_ z=>(nomatch z)
theorem bx.app {n:Int}{ts us:List (List Int)}(h:bx n ts)(h':bx n us):bx n (ts++us):=λt ht=>(XW.mp ht).elim (h t) (h' t)
theorem bx.one {n:Int}{a b:Int}(h1:0<=a)(h2:a<b)(h3:b<n):bx n [[a,b]]:=λt ht=>by
 rw[XQ.mp ht];exact⟨a,b,rfl,h1,h2,h3⟩
theorem d3 (ts:List (List Int)):D.bQ (ts.map kD)=true:=by
 have fi:∀k:List Int,D.bQ (k.map D.int)=true:=λk=>by
  induction k with
  |nil=>rfl
  |cons i k ih=>show (D.flat (.int i)&&D.bQ (k.map D.int))=true;rw[ih];rfl
 induction ts with
 |nil=>rfl
 |cons t ts ih =>
  show (D.flat (kD t)&&D.bQ (ts.map kD))=true;rw[ih];show (D.bQ (t.map D.int)&&true)=true;rw[fi];rfl
theorem uU {ts:List (List Int)}(h:∀k∈ts,k≠[])(l:ts.length<=1000000):(match [D.lst (ts.map kD)]with | [.lst ds]=>qN [.lst ds]|_=>none)=some (.lst ((gS ts).map kD)):=by
 show (match dz (ts.map kD)with|some ks=>if ks.length<=1000000 then some (D.lst ((gS ks).map kD)) else none|none=>none)=_
 rw[gN h];show (if ts.length<=1000000 then some (D.lst ((gS ts).map kD)) else none)=_
 rw[if_pos l]
theorem An {n:Int}{ts:List (List Int)}(h:bx n ts):bx n (gS ts):=λt ht=>h t ((e9 ts).mem_iff.mp ht)
theorem AB {ts:List (List Int)}(h:∀k∈ts,k≠[])(l:ts.length<1000):GY [.lst (ts.map kD)]=some (.sT (n9 ts)):=by
 show (match dz (ts.map kD)with|some ks=>if ks.length<1000 then some (D.sT (n9 ks)) else none|none=>none)=_
 rw[gN h];show (if ts.length<1000 then some (D.sT (n9 ts)) else none)=_
 rw[if_pos l]
theorem uT {ts:List (List Int)}(h:∀k∈ts,k≠[])(l:ts.length<1000):(match [D.sT (n9 ts)]with | [.sT ts]=>qN [.sT ts]|_=>none)=some (.lst ((gS (n9 ts)).map kD)):=by
 show (if (n9 ts).length<=1000/\(∀k∈n9 ts,k≠[]) then some (D.lst ((gS (n9 ts)).map kD)) else none)=_
 rw[if_pos ⟨by have:=xw ts;lia,λk hk=>h k (((gn ts).2 k).mp hk)⟩]
def tU:FD:=λds R=>∃n:Int,ds=[.int n]/\0<=n/\n<=1000/\∀ts:List (List Int),ts.length<=n.toNat->bx n ts->R (.lst (ts.map kD))
theorem tU.mono:cU tU:=λds R R' k ⟨n,e,h1,h2,q⟩=>⟨n,e,h1,h2,λts a b=>k _ (q ts a b)⟩
def Drawn (n:Int)(ts:List (List Int)):Prop:=ts.length<=300/\bx n ts/\uh ts/\ts.Nodup
def tM:FD:=λds R=>∃n:Int,ds=[.int n]/\2<=n/\n<=40/\∀ts,Drawn n ts->R (.lst (ts.map kD))
theorem tM.mono:cU tM:=λds R R' k ⟨n,e,h1,h2,q⟩=>⟨n,e,h1,h2,λts a=>k _ (q ts a)⟩
def Cq:FD:=λds R=>ds=[]/\∀(n:Int) ts,0<=n->n<=40->Drawn n ts->R (.tup [.int n,.lst (ts.map kD)])
theorem Cq.mono:cU Cq:=λds R R' k ⟨e,q⟩=>⟨e,λn ts a b c=>k _ (q n ts a b c)⟩
theorem CG {n:Int}{ks:List (List Int)}(h:bx n ks):∃ts,cutD ((gS (n9 ks)).map kD) none (some 300)=ts.map kD/\Drawn n ts:=by
 refine⟨(gS (n9 ks)).take (min 300 (gS (n9 ks)).length),?_,?_,?_,?_,?_⟩
 ·unfold cutD;rw[HT.AG,show (some (300:Int))=some ((300:Nat):Int) from rfl,HT.DY,List.drop_zero,<- List.map_take]
  simp
 ·rw[X_];lia
 ·exact λt ht=>h t (((gn ks).2 t).mp ((e9 _).mem_iff.mp (List.mem_of_mem_take ht)))
 ·exact List.Pairwise.take (lQ _)
 ·exact List.Nodup.sublist (List.take_sublist _ _) ((e9 _).nodup_iff.mpr (gn ks).1)
theorem lg {fs:List (List Int)}{t:List Int}:(fs++[t]).map kD=fs.map kD++[kD t]:=by simp
theorem Ax {fs:List Int}{t:Int}:(fs++[t]).map D.int=fs.map D.int++[D.int t]:=by simp
theorem lb {a b:D}:[a,b].length<=XO:=by show 2<=XO;decide
theorem UP {a b c:D}:[a,b,c].length<=XO:=by show 3<=XO;decide
theorem Ai {a:D}:[a].length<=XO:=by show 1<=XO;decide
theorem xf {b:Bool}{p q:Prop}(hb:b=true)(h:p):(if b=true then p else q):=by rw[if_pos hb];exact h
theorem jm {b:Bool}{p q:Prop}(hb:b=false)(h:q):(if b=true then p else q):=by rw[hb,if_neg (by simp)];exact h
theorem jX {c:Prop}[Decidable c]{p q:Prop}(h1:c->p)(h2:¬ c->q):(if decide c=true then p else q):=by
 by_cases h:c
 ·exact xf (by simp[h]) (h1 h)
 ·exact jm (by simp[h]) (h2 h)
theorem VA {c:Prop}[Decidable c]{p q:Prop}(h1:¬ c->p)(h2:c->q):(if (!decide c)=true then p else q):=by
 by_cases h:c
 ·exact jm (by simp[h]) (h2 h)
 ·exact xf (by simp[h]) (h1 h)
theorem dD {α:Type}(f:α->D):∀l:List α,D.gH (l.map f)=l.map λa=>(f a).pd
 |[]=>rfl
 |a::l=>by
  show (f a).pd::D.gH (l.map f)=_;rw[dD f l];rfl
theorem j_ {n:Nat}:∀{xs:List PyData},(∀x∈xs,x.canLay0=true/\x.depth<=n)->ZW xs=true/\Zd xs<=n
 |[],_=>⟨by simp[ZW],by simp[Zd]⟩
 |x::xs,h=>by
  obtain⟨h1,h2⟩:=j_ (n:=n) (xs:=xs) λy hy=>h y (by simp[hy])
  obtain⟨g1,g2⟩:=h x (by simp)
  refine⟨by simp[ZW,h1,g1],?_⟩
  simp only[Zd];lia
theorem oF {n:Nat}{ds:List D}(h:∀d∈ds,d.pd.canLay0=true/\d.pd.depth<=n):(D.tup ds).pd.canLay0=true/\(D.tup ds).pd.depth<=n+1:=by
 have e:D.gH ds=ds.map λd=>d.pd:=by
  have:=dD (λd:D=>d) ds;simpa using this
 obtain⟨h1,h2⟩:=j_ (n:=n) (xs:=D.gH ds) λx hx=>by
  rw[e]at hx;obtain⟨d,hd,rfl⟩:=X7.mp hx;exact h d hd
 refine⟨by simpa[D.pd,Y8] using h1,?_⟩
 have:(D.tup ds).pd.depth=Zd (D.gH ds)+1:=by simp[D.pd,Z6]
 lia
theorem oG {n:Nat}{ds:List D}(h:∀d∈ds,d.pd.canLay0=true/\d.pd.depth<=n):(D.lst ds).pd.canLay0=true/\(D.lst ds).pd.depth<=n+1:=by
 have e:D.gH ds=ds.map λd=>d.pd:=by
  have:=dD (λd:D=>d) ds;simpa using this
 obtain⟨h1,h2⟩:=j_ (n:=n) (xs:=D.gH ds) λx hx=>by
  rw[e]at hx;obtain⟨d,hd,rfl⟩:=X7.mp hx;exact h d hd
 refine⟨by simpa[D.pd,Y8] using h1,?_⟩
 have:(D.lst ds).pd.depth=Zd (D.gH ds)+1:=by simp[D.pd,Z6]
 lia
theorem bL (i:Int):(D.int i).pd.canLay0=true/\(D.int i).pd.depth<=1:=⟨by simp[D.pd,Y8],by simp[D.pd,Z6]⟩
theorem rM (b:Bool):(D.bl b).pd.canLay0=true/\(D.bl b).pd.depth<=1:=⟨by simp[D.pd,Y8],by simp[D.pd,Z6]⟩
theorem rL (t:List Int):(kD t).pd.canLay0=true/\(kD t).pd.depth<=2:=oF λd hd=>by
 obtain⟨i,_,rfl⟩:=X7.mp hd;exact bL i
theorem ie (ts:List (List Int)):(D.lst (ts.map kD)).pd.canLay0=true/\(D.lst (ts.map kD)).pd.depth<=3:=oG λd hd=>by
 obtain⟨i,_,rfl⟩:=X7.mp hd;exact rL i
theorem fk (ts:List Int):(D.lst (ts.map D.int)).pd.canLay0=true/\(D.lst (ts.map D.int)).pd.depth<=2:=oG λd hd=>by
 obtain⟨i,_,rfl⟩:=X7.mp hd;exact bL i
theorem dg {d:D}{n:Nat}(h:d.pd.canLay0=true/\d.pd.depth<=n)(hn:n<=64:=by decide):d.uW=true:=by
 show (d.pd.canLay0&&decide (d.pd.depth<=64))=true;rw[h.1,decide_eq_true (by lia)]
 rfl
theorem fD {α:Type}[DecidableEq α]{f:α->PyData}(hf:∀a b,YR (f a) (f b)=decide (a=b)):∀xs ys:List α,aaP (xs.map f) (ys.map f)=decide (xs=ys)
 |[],[]=>by simp[aaP]
 |[],_::_=>by simp[aaP]
 |_::_,[]=>by simp[aaP]
 |x::xs,y::ys=>by
  simp only[X5,aaP];rw[hf,fD hf xs ys]
  by_cases h1:x=y
  ·by_cases h2:xs=ys <;> simp[h1,h2]
  ·simp[h1]
theorem ly (i j:Int):YR (D.int i).pd (D.int j).pd=decide (i=j):=by
 simp only[D.pd,YR]
 by_cases h:i=j <;> simp[h]
theorem JU (t u:List Int):YR (kD t).pd (kD u).pd=decide (t=u):=by
 show YR (.tuple (D.gH (t.map D.int))) (.tuple (D.gH (u.map D.int)))=_;rw[dD,dD];simp only[YR];exact fD ly t u
theorem Cv (ts us:List (List Int)):YR (D.lst (ts.map kD)).pd (D.lst (us.map kD)).pd=decide (ts=us):=by
 show YR (.list (D.gH (ts.map kD))) (.list (D.gH (us.map kD)))=_;rw[dD,dD];simp only[YR];exact fD JU ts us
theorem Cw (ts us:List Int):YR (D.lst (ts.map D.int)).pd (D.lst (us.map D.int)).pd=decide (ts=us):=by
 show YR (.list (D.gH (ts.map D.int))) (.list (D.gH (us.map D.int)))=_;rw[dD,dD];simp only[YR];exact fD ly ts us
theorem vO {a b:D}{c:Bool}(h1:a.uW=true)(h2:b.uW=true)(e:YR a.pd b.pd=c):J2 a b=some (.bl c):=by
 unfold J2;rw[if_pos ⟨h1,h2⟩,e]
theorem CJ {a b:D}{c:Bool}(h1:a.uW=true)(h2:b.uW=true)(e:YR a.pd b.pd=c):KD a b=some (.bl (!c)):=by
 unfold KD;rw[if_pos ⟨h1,h2⟩,e]
theorem bS (i j:Int):J2 (.int i) (.int j)=some (.bl (decide (i=j))):=vO (dg (bL i)) (dg (bL j)) (ly i j)
theorem CN (ts us:List (List Int)):J2 (.lst (ts.map kD)) (.lst (us.map kD))=some (.bl (decide (ts=us))):=vO (dg (ie ts)) (dg (ie us)) (Cv ts us)
theorem CK (ts us:List Int):KD (.lst (ts.map D.int)) (.lst (us.map D.int))=some (.bl (!decide (ts=us))):=CJ (dg (fk ts)) (dg (fk us)) (Cw ts us)
theorem any_map {α:Type}[DecidableEq α]{f:α->D}(hf:∀a b,YR (f a).pd (f b).pd=decide (a=b))(t:α):∀xs:List α,((D.gH (xs.map f)).any λy=>YR y (f t).pd)=decide (t∈xs)
 |[]=>rfl
 |x::xs=>by
  show (YR (f x).pd (f t).pd || (D.gH (xs.map f)).any λy=>YR y (f t).pd)=_
  rw[any_map hf t xs,hf]
  by_cases h:x=t
  ·simp[h]
  ·have h':¬ t=x:=λz=>h z.symm;simp[h,h']
theorem FL (i:Int)(t:List Int):NQ (.int i) (kD t)=some (decide (i∈t)):=by
 show (if (D.int i).uW=true/\(D.tup (t.map D.int)).uW=true then some _ else none)=_
 rw[if_pos ⟨dg (bL i),dg (rL t)⟩,any_map ly]
theorem CM (i:Int)(t:List Int):Si (.int i) (kD t)=some (.bl (decide (i∈t))):=by unfold Si;rw[FL];rfl
theorem Sk {α:Type}{ds:List α}{i:Nat}{d:α}(h:ds[i]?=some d):og ds (i:Int)=some d:=by
 have hl:i<ds.length:=(XI.mp h).1;unfold og xb;rw[if_pos (by lia),if_pos (by lia),ZZ]
 exact h
theorem C3 {α:Type}{ds:List α}{i:Int}(h0:0<=i)(h1:i<ds.length):∃d∈ds,og ds i=some d/\ds[i.toNat]?=some d:=by
 have hl:i.toNat<ds.length:=by lia
 refine⟨ds[i.toNat],ZG hl,?_,XH hl⟩;have:=Sk (ds:=ds) (i:=i.toNat) (XH hl)
 rwa [show ((i.toNat:Nat):Int)=i by lia]at this
theorem FK {ds:List D}{i:Nat}{d:D}(h:ds[i]?=some d):pP (.lst ds) (.int (i:Int))=some d:=Sk h
theorem pick {ds:List D}{r:Int}{p:D->Prop}(h0:0<=r)(h1:r<ds.length)(h:∀d∈ds,p d):∃d,pP (.lst ds) (.int r)=some d/\p d:=by
 obtain⟨d,hd,e,_⟩:=C3 h0 h1;exact⟨d,e,h d hd⟩
theorem t6 {ks:List Int}{i:Int}(h0:0<=i)(h1:i<ks.length):∃r∈ks,pP (.lst (ks.map D.int)) (.int i)=some (.int r):=by
 obtain⟨r,hr,e,e'⟩:=C3 h0 h1;refine⟨r,hr,?_⟩;show og (ks.map D.int) i=_;have:=Sk (ds:=ks.map D.int) (i:=i.toNat) (d:=.int r) (by rw[XM,e'];rfl)
 rwa [show ((i.toNat:Nat):Int)=i by lia]at this
def O5:D->Option String
 |.bP=>some "NoneType"
 |.bl _=>some "bool"
 |.int _=>some "int"
 |.str _=>some "str"
 |.tup _=>some "tuple"
 |.lst _=>some "list"
 |_=>none
section
variable {X:Cx}{W:Addr->Prop}{H:Hp}{pins:List (Addr×Obj)}{σ:St}{s:Xw}
theorem Rp.ty {d:D}{v:V}{T:String}(h:Rp X W H d v)(e:O5 d=some T):iG X.K H v (.type T):=by
 cases d with
 |bP=>cases h;cases e;exact .bP
 |bl b=>cases h;cases e;exact .bl _
 |int b=>cases h;cases e;exact .int _
 |str b=>cases h;cases e;exact .str _
 |tup ds=>obtain⟨a,vs,rfl,h1,_⟩:=h;cases e;exact .tup h1
 |lst ds=>obtain⟨a,vs,rfl,h1,_⟩:=h;cases e;exact .lst h1
 |_=>cases e
theorem zi:fh X (.builtin "isinstance") (λxs H Q=>∃x p n1 n2 T k,xs=[x,.ref p]/\H p=some (.tup [.ty n1,.ty n2])/\iG X.K H x (.type T)/\PySem.W.kitAny X.K (.type T) [.type n1,.type n2]=some k/\Q (.bl k) H):=by
 intro pins s σ H xs us Q I r h;obtain⟨x,p,n1,n2,T,k,rfl,hp,ty,e,q⟩:=h;obtain⟨u,w',rfl,r1,r2⟩:=vals2 r;cases (show w'=Value.ref p from r2)
 obtain⟨_,its,rv,o,ho,hc,n,hd⟩:=(show bb X.prog X.w H s.heap p (.tup [.ty n1,.ty n2]) from I.bt p _ hp)
 obtain⟨u1,u2,rfl,e1,e2⟩:∃u1 u2,its=[u1,u2]/\RelV (.ty n1) u1/\RelV (.ty n2) u2:=by
  cases rv with
  |cons a rr=>cases rr with
   |cons b rr=>cases rr;exact⟨_,_,rfl,a,b⟩
 cases (show u1=Value.type n1 from e1)
 cases (show u2=Value.type n2 from e2)
 obtain⟨c,dd,dt,sl⟩:=o;simp only at hc hd;subst hc hd;have fin:∀tk,EP X pins σ Q (.bool k) {s with toks:=tk}:=λtk=>⟨.bl k,H,I.tok _,rfl,q⟩
 cases ty with
 |bP=>cases (show u=Value.none from r1);exact PySem.W.kia_tup PySem.W.kitx_none I.jT Zw ho e (λz=>nomatch z) fin
 |bl y=>cases (show u=Value.bool y from r1);exact PySem.W.kia_tup PySem.W.kitx_bool I.jT Zw ho e (λz=>nomatch z) fin
 |int i=>obtain⟨t,q⟩:=(show ∃t,u=Value.int i t from r1);cases q;exact PySem.W.kia_tup PySem.W.kitx_int I.jT Zw ho e (λz=>nomatch z) fin
 |str y=>obtain⟨t,q⟩:=(show ∃t,u=Value.str y t from r1);cases q;exact PySem.W.kia_tup PySem.W.kitx_str I.jT Zw ho e (λz=>nomatch z) fin
 |JQ y=>obtain⟨t,q⟩:=(show ∃t,u=Value.float y t from r1);cases q;exact PySem.W.kia_tup PySem.W.kitx_float I.jT Zw ho e (λz=>nomatch z) fin
 | @lst a xs ea =>
  cases (show u=Value.ref a from r1)
  obtain⟨_,_,n,_,h1⟩:=(show bb X.prog X.w H s.heap a (.lst xs) from I.bt a _ ea)
  exact PySem.W.kia_tup PySem.W.kitx_list I.jT ⟨_,h1,rfl⟩ ho e (λz=>nomatch z) fin
 | @ux a ob xs ea =>
  cases (show u=Value.ref a from r1)
  obtain⟨_,_,_,n,_,h1⟩:=(show bb X.prog X.w H s.heap a (.ux ob (.lst xs)) from I.bt a _ ea)
  exact PySem.W.kia_tup PySem.W.kitx_list I.jT ⟨_,h1,rfl⟩ ho e (λz=>nomatch z) fin
 | @tup a xs ea =>
  cases (show u=Value.ref a from r1)
  obtain⟨_,_,_,p⟩:=(show bb X.prog X.w H s.heap a (.tup xs) from I.bt a _ ea)
  obtain⟨o,h1,h2,_⟩:=p;exact PySem.W.kia_tup PySem.W.kitx_tuple I.jT ⟨o,h1,h2⟩ ho e (λz=>nomatch z) fin
 | @dK a kvs ea =>
  cases (show u=Value.ref a from r1)
  obtain⟨_,_,vs,_,p⟩:=(show bb X.prog X.w H s.heap a (.dK kvs) from I.bt a _ ea)
  obtain⟨o,es,ep,h1,h2,_⟩:=p;exact PySem.W.kia_tup PySem.W.kitx_dict I.jT ⟨o,h1,h2.1⟩ ho e (λz=>nomatch z) fin
 | @dT a kvs ea =>
  cases (show u=Value.ref a from r1)
  obtain⟨_,_,xs,_,o,es,ep,h1,h2,_⟩:=(show bb X.prog X.w H s.heap a (.dT kvs) from I.bt a _ ea)
  exact PySem.W.kia_tup PySem.W.kitx_dict I.jT ⟨o,h1,h2.1⟩ ho e (λz=>nomatch z) fin
end
section
variable {X:Cx}{a:Expr}{φ:Kg}{T T2:Str}{n n2:String}{p p2 p3 tp pos:Pos}{x1:Nat}
theorem gF (hm:X.mg "isinstance" = none) (ha:PV X a φ) (hT:X.mg T=none) (bT:Yx T=some (.type n)) (hg:Gl X "isinstance" := by rfl) (RA:Gl X T:=by rfl) (Ra:T≠"__name__" := by decide) (RF:(T==("__debug__" : Str))=false:=by decide)
  (mL:XZ [a,.Name T p2] X.env=(false,eval a X.env)::XZ [.Name T p2] X.env:=by rfl) (Jh:XZ [.Name T p2] X.env=(false,eval (.Name T p2) X.env)::XZ [] X.env:=by rfl) (hpl:(ZT pos (XZ [.Name T p2] X.env)).any (·.1)=false:=by rfl) :
  PV X (.Call (.Name "isinstance" p) [a,.Name T p2] [] pos) (λρ R=>φ ρ λd=>∃t k,O5 d=some t/\PySem.W.kitOne X.K (.type t) (.type n)=some k/\R (.bl k)) :=
 ⟨λρ R R' k h=>ha.mono ρ _ _ (λd M6=> by obtain⟨t,b,h1,h2,q⟩ := M6;exact⟨t,b,h1,h2,k _ q⟩) h,
  (i3 CT hg hm CY (bo ha.pe (bo (qu (v:=.ty n) RA hT bT rfl Ra RF) dk Jh) mL) (he:=mL) (hpl:=hpl)).pre λσ H Q ⟨W,ρ,se,h⟩=>tD.of ha se h λd v H1 ⟨t,k,h1,h2,q⟩ s1 r1 =>
    ⟨v,n,_,k,rfl,r1.ty h1,h2,q _ H1 s1 rfl⟩⟩
theorem wA (hm:X.mg "isinstance" = none) (ha:PV X a φ) (hT:X.mg T=none) (bT:Yx T=some (.type n)) (V_:X.mg T2=none) (Wx:Yx T2=some (.type n2)) (hg:Gl X "isinstance" := by rfl) (RA:Gl X T:=by rfl) (Ra:T≠"__name__" := by decide) (RF:(T==("__debug__" : Str))=false:=by decide) (Rz:Gl X T2:=by rfl) (Q_:T2≠"__name__" := by decide) (RE:(T2==("__debug__" : Str))=false:=by decide)
  (mL:XZ [a,.Tuple [.Name T p2,.Name T2 p3] x1 tp] X.env=(false,eval a X.env)::XZ [.Tuple [.Name T p2,.Name T2 p3] x1 tp] X.env:=by rfl) (Jh:XZ [.Tuple [.Name T p2,.Name T2 p3] x1 tp] X.env=(false,eval (.Tuple [.Name T p2,.Name T2 p3] x1 tp) X.env)::XZ [] X.env:=by rfl) (hpl:(ZT pos (XZ [.Tuple [.Name T p2,.Name T2 p3] x1 tp] X.env)).any (·.1)=false:=by rfl)
  (vB:XZ [.Name T p2,.Name T2 p3] X.env=(false,eval (.Name T p2) X.env)::XZ [.Name T2 p3] X.env:=by rfl) (yR:XZ [.Name T2 p3] X.env=(false,eval (.Name T2 p3) X.env)::XZ [] X.env:=by rfl) :
  PV X (.Call (.Name "isinstance" p) [a,.Tuple [.Name T p2,.Name T2 p3] x1 tp] [] pos) (λρ R=>φ ρ λd=>∃t k,O5 d=some t/\PySem.W.kitAny X.K (.type t) [.type n,.type n2]=some k/\R (.bl k)) :=
 ⟨λρ R R' k h=>ha.mono ρ _ _ (λd M5=> by obtain⟨t,b,h1,h2,q⟩ := M5;exact⟨t,b,h1,h2,k _ q⟩) h,
  (i3 zi hg hm CY (bo ha.pe (bo (Bb (bo (qu (v:=.ty n) RA hT bT rfl Ra RF) (bo (qu (v:=.ty n2) Rz V_ Wx rfl Q_ RE) dk yR) vB)) dk Jh) mL) (he:=mL) (hpl:=hpl)).pre λσ H Q ⟨W,ρ,se,h⟩=>tD.of ha se h λd v H1 ⟨t,k,h1,h2,q⟩ s1 r1 =>
    ⟨by show 2<=XO;decide,λp hp=>⟨v,p,n,n2,t,k,rfl,ar,Rp.ty (X:=X) (r1.same (au.new hp)) h1,h2,q _ _ (s1.trans (au.new hp)) rfl⟩⟩⟩
end
theorem BK {K:PySem.W.Frag}:PySem.W.kitOne K (.type "list") (.type "list")=some true:=rfl
theorem BJ {K:PySem.W.Frag}:PySem.W.kitOne K (.type "tuple") (.type "list")=some false:=rfl
theorem kit_is {K:PySem.W.Frag}:PySem.W.kitOne K (.type "int") (.type "str")=some false:=rfl
theorem IW {K:PySem.W.Frag}:PySem.W.kitOne K (.type "int") (.type "int")=some true:=rfl
theorem IX {K:PySem.W.Frag}:PySem.W.kitOne K (.type "int") (.type "bool")=some false:=rfl
theorem E3 {K:PySem.W.Frag}:PySem.W.kitAny K (.type "int") [.type "list",.type "tuple"]=some false:=rfl
theorem w9 {K:PySem.W.Frag}:PySem.W.kitAny K (.type "tuple") [.type "list",.type "tuple"]=some true:=rfl
theorem w_ {K:PySem.W.Frag}:PySem.W.kitAny K (.type "list") [.type "list",.type "tuple"]=some true:=rfl
end L2
namespace HT
open PySem PySem.Spec PyProof.Rows
theorem mP {α β:Type}{f g:α->Option β}:∀{l:List α},(∀x∈l,f x=g x)->l.filterMap f=l.filterMap g
 |[],_=>rfl
 |x::l,h=>by
  rw[YG,YG,h x (by simp),mP λy hy=>h y (by simp[hy])]
theorem AI {α:Type}(xs:List α):((XD xs.length).filterMap λk=>xs[xs.length-1-k]?)=xs.reverse:=by
 have h:=pick_run xs.reverse.toArray 0 xs.length;rw[List.filterMap_map]at h;have e:((XD xs.length).filterMap λk=>xs[xs.length-1-k]?)=(XD xs.length).filterMap ((λx=>xs.reverse.toArray[x]?) ∘ λx=>0+x):=by
  refine mP λk hk=>?_;have GG:=YV.mp hk;show _=xs.reverse.toArray[0+k]?;rw[List.getElem?_toArray,ZL,List.getElem?_reverse GG]
 rw[e,h];simp only[List.drop_zero];exact Za (by simp)
theorem nF (items:Array Xv):slicePick items none none (some (-1))=items.toList.reverse.toArray:=by
 have e:(sliceRange (ZJ none none (some (-1)) items.size).1 (ZJ none none (some (-1)) items.size).2.1 (ZJ none none (some (-1)) items.size).2.2)=(XD items.size).map λk=>items.size-1-k:=by
  show sliceRange ((items.size:Int)-1) (-1) (-1)=_;unfold sliceRange;have c:(if (-1:Int)>0 then (if (items.size:Int)-1 < -1 then ((-1)-((items.size:Int)-1)+-1-1) / -1 else 0) else (if (items.size:Int)-1 > -1 then ((items.size:Int)-1-(-1)-(-1)-1) / (-(-1)) else 0)).toNat=items.size:=by
   rw[if_neg (by lia)]
   split
   ·rw[show (-(-1):Int)=1 by rfl,Int.ediv_one];lia
   ·lia
  simp only[c];refine Yh λk hk=>?_;have:=YV.mp hk;lia
 unfold slicePick;rw[e,List.filterMap_map]
 congr 1
 have:=AI items.toList;rw[XF]at this;rw[<- this];refine mP λk hk=>?_;show items[items.size-1-k]?=_;rw[X0]
section
end
end HT
namespace L2
open PySem PySem.Spec PySem.SeqAt PyProof.Rows
theorem ai.rev {P:Xz}{w:XT}{W:Addr->Prop}{H:Hp}:∀{ds:List D} {vs:List V},ai P w W H ds vs->ai P w W H ds.reverse vs.reverse
 |[],_,h=>by rw[show _=[] from h];rfl
 |d::ds,_,⟨v,r,e,h1,h2⟩=>by
  subst e;rw[aaO,aaO];exact(ai.rev h2).append (.one h1)
theorem Vals.rev:∀{xs:List V} {us:List Xv},Vals xs us->Vals xs.reverse us.reverse
 |_,_,.nil=>.nil
 |_,_,.cons r t=>by
  rw[aaO,aaO];exact(Vals.rev t).append (.cons r .nil)
section
end
end L2
namespace L2.Q
open PySem PySem.Spec PySem.SeqAt PyProof.Rows
def allB (β:a7):zM:=β.map λb=>match b with|some (.val _ d)=>some d|some (.own d)=>some d|_=>none
def Hq (β:a7):zM:=β.map λb=>match b with|some (.val _ d)=>some d|_=>none
section
variable {P:Xz}{w:XT}{C:Cfg}{σ:St}{H:Hp}{β:a7}{own:Nat->List Addr}{i:Nat}
theorem b5.Po (s:b5 P w C σ H β own):KO P w (λ_=>False) σ H (allB β):=⟨λa z=>z.elim,λi d e=>by
 unfold allB at e;rw[XM]at e;cases q:β[i]? with
 |none=>rw[q]at e;cases e
 |some x =>
  rw[q]at e;cases x with
  |none=>cases e
  |some x =>
   cases x with
   |val y d'=>cases e;obtain⟨v,h1,h2⟩:=s.val i y d q;exact⟨v,h1,h2.aV λ_ z=>z.elim⟩
   |own d'=>cases e;obtain⟨v,h1,h2,_⟩:=s.ow i d q;exact⟨v,h1,h2.rep λ_ _ z=>z⟩
   |hand ok=>cases e
   |shl y d=>cases e⟩
theorem b5.Pn (s:b5 P w C σ H β own):KO P w (av C (Wn own) .old) σ H (Hq β):=⟨s.CH .old,λi d e=>by
 unfold Hq at e;rw[XM]at e;cases q:β[i]? with
 |none=>rw[q]at e;cases e
 |some x =>
  rw[q]at e;cases x with
  |none=>cases e
  |some x =>
   cases x with
   |val y d'=>cases e;obtain⟨v,h1,h2⟩:=s.val i y d q;exact⟨v,h1,h2.aV λa z=>by cases y <;> first|exact .inl z|exact .inl (.inl z)⟩
   |own d'=>cases e
   |hand ok=>cases e
   |shl y d=>cases e⟩
end
section
variable {X:Cx}{C:Cfg}{e tg it:Expr}{φ:Kg}{ι:Kf}
theorem fY (h:PV X e φ):PQ X C true e (λβ R=>φ (allB β) λd=>d.flat=true/\R d .own β) :=
 ⟨λβ R R' k q=>h.mono _ _ _ (λd q=>⟨q.1,k _ _ _ q.2⟩) q,h.pe.pre λσ H Q vB=>by obtain⟨β,own,s,q⟩:=vB;exact tD.of h s.Po q λd v H1 yR s1 r1=>by obtain⟨f,q⟩:=yR;exact q v H1 own ((Out.refl s true).same s1) (KV.flat f r1)⟩
theorem Eh (h:Uo X tg it ι):vY X C true tg it (λβ R=>ι (Hq β) λds=>R ds .old β) :=
 ⟨λβ R R' k q=>h.mono _ _ _ (λd q=>k _ _ _ q) q,h.pi.pre λσ H R BX=>by obtain⟨β,own,s,q⟩:=BX;exact⟨_,_,s.Pn,h.mono _ _ _ (λds q J H' s1 it=>q J H' own ((Out.refl s true).same s1) it) q⟩⟩
end
section
variable {P:Xz}{w:XT}{C:Cfg}{σ:St}{H:Hp}{β:a7}{own:Nat->List Addr}{i:Nat}{ok:List Int->Prop}{ns:List Int}
theorem oQ:∀{ns:List Int} {vs:List V} {A:List Addr},aK P w H (ns.map D.int) vs A->vs=ns.map V.int/\A=[]
 |[],_,_,h=>h
 |n::ns,_,_,⟨v,r,A1,A2,e,eA,h1,h2⟩=>by
  obtain⟨rfl,rfl⟩:=oQ h2;obtain⟨rfl,rfl⟩:=h1;exact⟨e,by rw[eA];rfl⟩
theorem b5.toHand (s:b5 P w C σ H β own)(e:β[i]?=some (some (.own (.lst (ns.map D.int)))))(ho:ok ns)(io:∀b,¬ C.IO b):b5 P w C σ H (β.set i (some (.hand ok))) own:=by
 obtain⟨v,h1,⟨a,vs,A',rfl,h2,h3,h4⟩,h5⟩:=s.ow i _ e;obtain⟨rfl,rfl⟩:=oQ h4;refine⟨by simp[s.len],λj y d q=>?_,λj d q=>?_,λj zH q=>?_,s.dm,s.m7,s.nz,s.kp,s.iJ,λj y d q=>by
  by_cases aJ:i=j
  ·subst aJ;obtain⟨e',_⟩:=bA q;cases e'
  ·rw[bp aJ]at q;exact s.shl j y d q⟩
 ·by_cases aJ:i=j
  ·subst aJ;obtain⟨e',_⟩:=bA q;cases e'
  ·rw[bp aJ]at q;exact s.val j y d q
 ·by_cases aJ:i=j
  ·subst aJ;obtain⟨e',_⟩:=bA q;cases e'
  ·rw[bp aJ]at q;exact s.ow j d q
 ·by_cases aJ:i=j
  ·subst aJ;obtain⟨e',_⟩:=bA q;cases e';exact⟨a,ns,h1,h2,ho,h3,.inl io⟩
  ·rw[bp aJ]at q;exact s.nO j zH q
end
section
variable {X:Cx}{C:Cfg}{e:Expr}{φ:aR}{p:Bool}{i:Nat}{x:Str}{pos pos' px ap cp:Pos}{ok:List Int->Prop}
theorem Em (ok:List Int->Prop)(Rr:∀b,¬ C.IO b)(he:∀U,PQ X (C.u U) p e φ)(hN:X.N.Nodup)(hi:X.N[i]?=some x:=by rfl)(hx:Loc X.env.scope x:=by first|exact .inl rfl|exact .inr rfl)
  (hs:Z5 e (some (.Name x pos')) pos.line X.env=pure false:=by rfl) (hf:X.fn x=true\/X.env.scope.names.lookup x=some .local:=by first|exact .inl rfl|exact .inr rfl|assumption) :
  PB X C (.Assign [.Name x pos'] e pos) (λE β=>φ β λd k β'=>E4 k d/\i<β'.length/\∃ns:List Int,d=.lst (ns.map D.int)/\ok ns/\E.nx (β'.set i (some (.hand ok)))):=by
 have B:=cX (C:=C) (i:=i) (pos:=pos) (pos':=pos') he hN hi hx hs hf;refine⟨λE E' β l q=>(he λ_=>False).mono _ _ _ (λd k β' Jn=>by obtain⟨f,h,ns,e,o,q⟩:=Jn;exact⟨f,h,ns,e,o,l.nx _ q⟩) q,B.ps.pre λDe σ H ⟨Z,E,β,sb,q,zH⟩=>?_⟩
 refine⟨Z,{E with nx:=λβ'=>∃(ns:List Int) (β2:a7),i<β2.length/\β'=β2.set i (some (.own (.lst (ns.map D.int))))/\ok ns/\E.nx (β2.set i (some (.hand ok)))},β,sb,(he λ_=>False).mono _ _ _ (λd k β' Jl=>by obtain⟨f,h,ns,e,o,q⟩:=Jl;exact⟨f,ns,β',h,by rw[e],o,q⟩) q,⟨λσ' H' β' uX ⟨ns,β2,hl,e,o,q⟩=>?_,zH.rt,zH.bk,zH.ct⟩⟩
 subst e;obtain⟨own,s,n⟩:=uX;have:=s.toHand (i:=i) (ok:=ok) (get_set hl) o Rr;rw[List.set_set]at this;exact zH.nx _ _ _ ⟨own,this,n⟩ q
theorem b5.putL {P:Xz}{w:XT}{σ:St}{H:Hp}{β:a7}{own:Nat->List Addr}{U U2:Addr->Prop}{ds ds':List D}{vs':List V}{a:Addr}{vs:List V}{A A':List Addr}(s:b5 P w (C.u U) σ H β own)(e:β[i]?=some (some (.own (.lst ds))))(h1:σ[i]?=some (some (.ref a)))(h2:H a=some (.lst vs))(h3:own i=a::A)
  (r:aK P w H ds' vs' A') (nd:A'.Nodup) (hA:∀c∈A',c∈A\/(C.H0 c=none/\¬ Wn own c/\U c)) (hU:∀a,U2 a->U a) (RV:∀c∈A',c∉A->¬ U2 c) :
  b5 P w (C.u U2) σ (upd H a (.lst vs')) (β.set i (some (.own (.lst ds')))) (aS own i (a::A'))/\∀c∈a::A',c∈own i\/(C.H0 c=none/\¬ Wn own c/\U c):=by
 have ha:a∈own i:=by rw[h3];simp
 have nA:a∉A:=by have:=s.nz i;rw[h3]at this;exact(X9.mp this).1
 have na:∀c∈A',c≠a:=λc hc z=>by
  subst z;rcases hA c hc with z|z
  ·exact nA z
  ·exact z.2.1 ⟨i,ha⟩
 have kt:∀b xs,H b=some (.tup xs)->upd H a (.lst vs') b=some (.tup xs):=λb xs z=>by rw[ao (λz'=>by rw[z',h2]at z;cases z)];exact z
 have Ud:∀c∈a::A',c∈own i\/(C.H0 c=none/\¬ Wn own c/\U c):=λc hc=>by
  rcases Xy.mp hc with rfl|hc
  ·exact .inl ha
  ·exact(hA c hc).imp (λz=>by rw[h3];simp[z]) id
 refine⟨s.Lw e h1 ha ⟨a,vs',A',rfl,ar,rfl,r.keep kt λc hc oc ec=>by rw[ao (na c hc)];exact ec⟩ (X9.mpr ⟨λz=>na a z rfl,nd⟩) Ud hU (λc hc z=>?_),Ud⟩
 rcases Xy.mp hc with rfl|hc
 ·exact(s.dm i c ha).2.2.2 (hU c z)
 ·by_cases q:c∈A
  ·exact(s.dm i c (by rw[h3];simp[q])).2.2.2 (hU c z)
  ·exact RV c hc q z
theorem Bf {own:Nat->List Addr}{i:Nat}{A':List Addr}(h:∀c∈A',c∈own i):∀c,Wn (aS own i A') c->Wn own c:=λc Jk=>by
 obtain⟨j,hj⟩:=Jk
 by_cases aJ:i=j
 ·rw[<- aJ,os_eq]at hj;exact⟨i,h c hj⟩
 ·rw[bD aJ]at hj;exact⟨j,hj⟩
theorem H9 {P:Xz}{w:XT}{H:Hp}{own:Nat->List Addr}{Z:Hp×(Addr->Prop)}{d:D}{v:V}{A:List Addr}(r:Own P w H d v A)(h:∀c∈A,¬ Wn own c/\C.H0 c=none):KV P w C Z own H (sk .dN d) d v:=by
 have q:ay P w (av C (Wn own) .dN) H d v:=r.rep λc hc z=>z.elim (h c hc).1 λz=>z (h c hc).2;cases d with
 |int i=>exact KV.flat rfl q
 |bl i=>exact KV.flat rfl q
 |bP=>exact KV.flat rfl q
 |str i=>exact KV.flat rfl q
 |_=>exact q
theorem aK.concat {P:Xz}{w:XT}{H:Hp}{ds:List D}{d:D}{vs:List V}{A:List Addr}(h:aK P w H (ds++[d]) vs A):∃us v A1 A2,vs=us++[v]/\A=A1++A2/\aK P w H ds us A1/\Own P w H d v A2:=by
 obtain⟨v,A1,A2,A3,g1,g2,g3,g4,g5⟩:=h.split (i:=ds.length) (d:=d) (by simp)
 rw[List.take_left]at g3;have e3:aK P w H [] (vs.drop (ds.length+1)) A3:=by simpa using g5
 have hl:=h.length;rw[Yb,ZU]at hl;refine⟨vs.take ds.length,v,A1,A2,?_,by rw[g2,e3.2,YX],g3,g4⟩
 have d9:ds.length<vs.length:=by lia
 have e1:vs=vs.take ds.length++vs.drop ds.length:=(Ze _ _).symm;rw[Yp d9,e3.1]at e1;have:vs[ds.length]=v:=by
  have:=XH d9;rw[g1]at this;exact(Yg this).symm
 rw[this]at e1;exact e1
theorem A6 (hN:X.N[i]?=some x:=by rfl)(hv:vW X.env.scope x:=by first|exact .inl rfl|exact .inr (.inl rfl)|exact .inr (.inr rfl))(hd:(x==("__debug__" : Str))=false:=by decide)(gZ:(x==("__classdict__" : Str))=false:=by decide)
  (gj:aaq (.Name x px) "pop" X.env (eval (.Name x px) X.env)=eval (.Name x px) X.env:=by rfl) (gh:(ap.endLine==cp.line)=true:=by rfl) :
  PQ X C false (.Call (.Attribute (.Name x px) "pop" ap) [] [] cp) (λβ R=>∃ds d,β[i]?=some (some (.own (.lst (ds++[d]))))/\R d (sk .dN d) (β.set i (some (.own (.lst ds))))) :=
 ⟨λβ R R' k Jj=>by obtain⟨ds,d,h1,q⟩:=Jj;exact⟨ds,d,h1,k _ _ _ q⟩,(Ie (apos:=ap) (cpos:=cp) PySem.F.plainAttrs_list PySem.F.slot_list_pop PySem.F.type_list_pop IE (dj (pos:=px) hN hv hd gZ) gj gh).pre λσ H Q vA=>by
  obtain⟨β,own,s,ds,d,hb,q⟩:=vA;obtain⟨a,vs,A,h1,h2,h3,h4⟩:=s.sQ hb;obtain⟨us,v,A1,A2,rfl,rfl,g3,g4⟩:=h4.concat;have nd:=s.nz i;rw[h3]at nd;obtain⟨ET,IA,LS⟩:=YM.mp (X9.mp nd).2;obtain⟨s2,hA⟩:=s.putL (C:=C) (U:=C.U) (U2:=C.U) (ds':=ds) (vs':=us) (A':=A1) hb h1 h2 h3 g3 ET (λc hc=>.inl (by simp[hc])) (λ_ z=>z) (λc hc n=>absurd (by simp[hc]) n)
  have h0:∀c∈own i,C.H0 c=none:=by obtain⟨_,_,_,h⟩:=s.ow i _ hb;exact h
  have kt:∀b xs,H b=some (.tup xs)->upd H a (.lst us) b=some (.tup xs):=λb xs z=>by rw[ao (λz'=>by rw[z',h2]at z;cases z)];exact z
  have na:∀c∈A2,c≠a:=λc hc z=>(X9.mp nd).1 (by rw[<- z];simp[hc])
  have le:∀c,Wn (aS own i (a::A1)) c->Wn own c:=Bf λc hc=>by rw[h3];rcases Xy.mp hc with rfl|hc <;> simp[*]
  refine⟨.ref a,h1,.inl ⟨rfl,_,c6.of h2⟩,a,_,v,rfl,rfl,h2,by simp,?_⟩
  rw[List.dropLast_concat];refine q v _ _ ⟨s2,?_,λz=>(nomatch z),le⟩ (H9 (C:=C) (g4.keep kt λc hc oc ec=>by rw[ao (na c hc)];exact ec) λc hc=>⟨λ⟨j,hj⟩=>?_,h0 c (by rw[h3];simp[hc])⟩)
  ·have u:=Sn.upd (Z:=(H,Wn own)) (o':=.lst us) (Sn.refl (H:=H) (W:=Wn own)) h2 (λxs z=>by cases z) ⟨i,by rw[h3];simp⟩
   exact⟨λb z=>.inl (le b z),u.k,u.d⟩
  ·by_cases aJ:i=j
   ·rw[<- aJ,os_eq]at hj;rcases Xy.mp hj with rfl|hj
    ·exact na _ hc rfl
    ·exact LS _ hj _ hc rfl
   ·rw[bD aJ]at hj;exact aJ (s.m7 i j c (by rw[h3];simp[hc]) hj)⟩
end
section
variable {X:Cx}{C:Cfg}{e k:Expr}{φ:aR}{p:Bool}{i:Nat}{x:Str}{pos px ap cp:Pos}
theorem Jc {n:Nat}{j:Int}{k:Nat}(h:xb n j=some k):k<n:=by
 unfold xb at h
 by_cases h0:0<=j
 ·rw[if_pos h0]at h
  by_cases h1:j<n
  ·rw[if_pos h1]at h;cases h;lia
  ·rw[if_neg h1]at h;cases h
 ·rw[if_neg h0]at h
  by_cases h1:-(n:Int)<=j
  ·rw[if_pos h1]at h;cases h;lia
  ·rw[if_neg h1]at h;cases h
theorem DQ {Z:Hp×(Addr->Prop)}{H:Hp}{own:Nat->List Addr}{a:Addr}{o oa:HO}{A':List Addr}{U:Addr->Prop}(n:Sn Z H (Wn own))(m:∀a,U a->Z.1 a=none)(h2:H a=some oa)(ht:∀xs,oa≠.tup xs)(ha:Wn own a)(hA:∀c∈A',c∈own i\/(C.H0 c=none/\¬ Wn own c/\U c)):Sn Z (upd H a o) (Wn (aS own i A')) :=
 qf n m ha ⟨oa,h2,ht⟩ hA
theorem oP (he:PQ X C.z p e φ)(hN:X.N[i]?=some x:=by rfl)(hv:vW X.env.scope x:=by first|exact .inl rfl|exact .inr (.inl rfl)|exact .inr (.inr rfl))(hd:(x==("__debug__" : Str))=false:=by decide)(gZ:(x==("__classdict__" : Str))=false:=by decide)
  (gj:aaq (.Name x px) "extend" X.env (eval (.Name x px) X.env)=eval (.Name x px) X.env:=by rfl)
  (vD:((ZT cp (XZ [e] X.env)).all (λx=>!x.1)&&(backToKw cp (keywordEach [] X.env)).all (λx=>x.1.isSome)&&decide ([e].length+([]:List Keyword).length+(if ([]:List Keyword).isEmpty then 0 else 1)<30))=true:=by rfl)
  (gh:(ap.endLine==cp.line)=true:=by rfl) (hs:XZ [e] X.env=(false,eval e X.env)::XZ [] X.env:=by rfl) (iy:(ZT cp (XZ [] X.env)).any (·.1)=false:=by rfl)
  (xh:Z5 (.Call (.Attribute (.Name x px) "extend" ap) [e] [] cp) none pos.line X.env=pure false:=by rfl) :
  PB X C (.Expr (.Call (.Attribute (.Name x px) "extend" ap) [e] [] cp) pos) (λE β=>(∃ds,β[i]?=some (some (.own (.lst ds))))/\φ β λd _ β'=>∃ds es,d=.lst es/\D.bQ es=true/\β'[i]?=some (some (.own (.lst ds)))/\ds.length+es.length<=XO/\E.nx (β'.set i (some (.own (.lst (ds++es)))))):=by
 refine⟨λE E' β l Jl=>by obtain⟨h1,q⟩:=Jl;exact⟨h1,he.mono _ _ _ (λd k β' QI=>by obtain⟨ds,es,h1,h2,h3,h4,q⟩:=QI;exact⟨ds,es,h1,h2,h3,h4,l.nx _ q⟩) q⟩,
  (qm (pos:=pos) (Bc (apos:=ap) (cpos:=cp) PySem.F.plainAttrs_list PySem.F.slot_list_extend PySem.F.type_list_extend yC (dj (pos:=px) hN hv hd gZ) (bo he.pe dk hs) gj vD gh hs iy) xh).pre λD σ H ⟨Z,E,β,⟨own,s0,n⟩,⟨⟨Wr,Kw⟩,q⟩,ok⟩=>?_⟩
 obtain⟨a0,WZ,A0,z1,z2,z3,z4⟩:=s0.sQ Kw;refine⟨.ref a0,z1,.inl ⟨rfl,_,c6.of z2⟩,tQ.of he s0 q λd kk β' v H1 aC ⟨ds,es,e1,f,hb,hl,q⟩ o r=>?_⟩;subst e1;obtain⟨b,us,rfl,RN,_,rb⟩:=r.rep;obtain⟨a,vs,A,h1,h2,h3,h4⟩:=o.sq.sQ hb;rw[z1]at h1;cases h1;have nd:=o.sq.nz i;rw[h3]at nd;obtain⟨s2,hA⟩:=o.sq.putL (C:=C) (U:=λ_=>False) (U2:=λ_=>False) (ds':=ds++es) (vs':=vs++us) (A':=A) hb z1 h2 h3 (by simpa using h4.append (gI f rb)) (X9.mp nd).2 (λc hc=>.inl hc) (λ_ z=>z) (λc hc n=>absurd hc n)
 exact⟨a0,b,vs,us,rfl,rfl,h2,RN,by rw[h4.length,rb.length];exact hl,ok.nx _ _ _ ⟨_,s2,DQ (n.trans o.sn) (λ_ z=>z.elim) h2 (λxs z=>by cases z) ⟨i,by rw[h3];simp⟩ hA⟩ q⟩
end
end L2.Q
namespace L2
open PySem PySem.Spec PySem.SeqAt PyProof.Rows
section
end
namespace Q
section
variable {P:Xz}{w:XT}{C:Cfg}{σ:St}{H:Hp}{β:a7}{own:Nat->List Addr}{lk:List (Option Nat)}{a:Addr}
theorem b5.JV {o:HO}(ho:∀xs,o≠.tup xs)(s:b5 P w C σ H β own)(ha:H a=none)(inj:∀(i i' j:Nat),lk[i]?=some (some j)->lk[i']?=some (some j)->i=i'):
  b5 P w (C.u λc=>c=a) (da lk σ) (upd H a o) (cg lk β) (ba lk β own):=by
 have h0:C.H0 a=none:=Yu λz=>s.iJ a z ha;have q:=(s.enter ha inj).DV (o:=o) ar (λxs z=>by cases z) h0
 have e:upd (upd H a (.lst [])) a o=upd H a o:=by
  funext b
  by_cases hb:b=a
  ·rw[hb,ar,ar]
  ·rw[ao hb,ao hb,ao hb]
 rwa [e]at q
end
section
end
end Q
end L2
namespace L2.Q
open PySem PySem.Spec PySem.SeqAt PyProof.Rows
abbrev L4 (l:Bool)(ds:List D):D:=match l with|true=>.lst ds|false=>.tup ds
section
variable {P:Xz}{w:XT}{H:Hp}{A:List Addr}{v:V}{ds:List D}{l:Bool}
theorem i8 {m:Nat}{es:List D}(r:Own P w H (L4 l ds) v A)(nd:A.Nodup)(hm:ds[m]?=some (.lst es)):∃a vs c us B,v=.ref a/\H a=some (match l with|true=>.lst vs|false=>.tup vs)/\vs.length=ds.length/\vs[m]?=some (.ref c)/\H c=some (.lst us)/\c∈A/\aK P w H es us B/\(∀x∈B,x∈A/\x≠c)/\B.Nodup /\
  ∀eN uL B',aK P w H eN uL B'->B'.Nodup->(∀x∈B',x∈B\/x∉A)->(∀x∈B',x≠c)->∃A',Own P w (upd H c (.lst uL)) (L4 l (ds.set m (.lst eN))) v A'/\A'.Nodup/\∀x∈A',x∈A\/x∈B':=by
 have core:∀{vs:List V} {A:List Addr},A.Nodup->aK P w H ds vs A->∃c us B,vs[m]?=some (.ref c)/\H c=some (.lst us)/\c∈A/\aK P w H es us B/\(∀x∈B,x∈A/\x≠c)/\B.Nodup /\
   ∀eN uL B',aK P w H eN uL B'->B'.Nodup->(∀x∈B',x∈B\/x∉A)->(∀x∈B',x≠c)->∃A',aK P w (upd H c (.lst uL)) (ds.set m (.lst eN)) vs A'/\A'.Nodup/\(∀x∈A',x∈A\/x∈B'):=λ{vs A} nd os=>by
  have hl:=os.length;have VS:m<ds.length:=(XI.mp hm).1;obtain⟨u,A1,A2,A3,g1,rfl,g3,⟨c,us,B,rfl,h2,rfl,h4⟩,g5⟩:=os.split hm;obtain⟨ET,IA,LS⟩:=YM.mp nd;obtain⟨To,Vj,Tn⟩:=YM.mp IA;have Vm:=(X9.mp To).1;refine⟨c,us,B,g1,h2,by simp,h4,λx hx=>⟨by simp[hx],λz=>Vm (by rw[<- z];exact hx)⟩,(X9.mp To).2,λeN uL B' o' n' nR pC=>?_⟩
  have kt:∀b xs,H b=some (.tup xs)->upd H c (.lst uL) b=some (.tup xs):=λb xs z=>by rw[ao (λz'=>by rw[z',h2]at z;cases z)];exact z
  have n1:∀x∈A1,x≠c:=λx hx z=>LS x hx c (by simp) z
  have n3:∀x∈A3,x≠c:=λx hx z=>Tn c (by simp) x hx z.symm
  have off:∀x∈B',x∉A1/\x∉A3:=λx hx=>by
   rcases nR x hx with z|z
   ·exact⟨λq=>LS x q x (by simp[z]) rfl,λq=>Tn x (by simp[z]) x q rfl⟩
   ·exact⟨λq=>z (by simp[q]),λq=>z (by simp[q])⟩
  have OC:m<vs.length:=by lia
  have ev:vs=vs.take m++V.ref c::vs.drop (m+1):=by
   have e1:vs=vs.take m++vs.drop m:=(Ze _ _).symm;rw[Yp OC]at e1;have:vs[m]=V.ref c:=by
    have:=XH OC;rw[g1]at this;exact(Yg this).symm
   rwa [this]at e1
  refine⟨A1++((c::B')++A3),?_,YM.mpr ⟨ET,YM.mpr ⟨X9.mpr ⟨λz=>pC c z rfl,n'⟩,Vj,λx hx y hy=>?_⟩,λx hx y hy z=>?_⟩,λx hx=>?_⟩
  ·rw[aaj,if_pos VS];have q:aK P w (upd H c (.lst uL)) (ds.take m++.lst eN::ds.drop (m+1)) (vs.take m++.ref c::vs.drop (m+1)) (A1++((c::B')++A3)) :=
    (g3.keep kt λx hx oc ec=>by rw[ao (n1 x hx)];exact ec).append ⟨.ref c,_,c::B',A3,rfl,rfl,⟨c,uL,B',rfl,ar,rfl,o'.keep kt λx hx oc ec=>by rw[ao (pC x hx)];exact ec⟩,g5.keep kt λx hx oc ec=>by rw[ao (n3 x hx)];exact ec⟩
   rw[<- ev]at q;exact q
  ·intro z;subst z;rcases Xy.mp hx with rfl|hx
   ·exact n3 _ hy rfl
   ·exact(off x hx).2 hy
  ·subst z;rcases XW.mp hy with hy|hy
   ·rcases Xy.mp hy with rfl|hy
    ·exact n1 _ hx rfl
    ·exact(off x hy).1 hx
   ·exact LS x hx x (by simp[hy]) rfl
  ·rcases XW.mp hx with hx|hx
   ·exact .inl (by simp[hx])
   ·rcases XW.mp hx with hx|hx
    ·rcases Xy.mp hx with rfl|hx
     ·exact .inl (by simp)
     ·exact .inr hx
    ·exact .inl (by simp[hx])
 cases l with
 |true =>
  obtain⟨a,vs,A',rfl,h2,rfl,h4⟩:=r;obtain⟨na,Vl⟩:=X9.mp nd;obtain⟨c,us,B,q1,q2,q3,q4,q5,q6,q7⟩:=core Vl h4;have ca:c≠a:=λz=>na (by rw[<- z];exact q3)
  refine⟨a,vs,c,us,B,rfl,h2,h4.length,q1,q2,by simp[q3],q4,λx hx=>⟨by simp[(q5 x hx).1],(q5 x hx).2⟩,q6,λeN uL B' o' n' nR pC=>?_⟩
  obtain⟨A2,g1,g2,g3⟩:=q7 eN uL B' o' n' (λx hx=>(nR x hx).imp id λz q=>z (by simp[q])) pC
  refine⟨a::A2,⟨a,vs,A2,rfl,by rw[ao ca.symm];exact h2,rfl,g1⟩,X9.mpr ⟨λz=>?_,g2⟩,λx hx=>?_⟩
  ·rcases g3 a z with z|z
   ·exact na z
   ·rcases nR a z with z|z
    ·exact na (q5 a z).1
    ·exact z (by simp)
  ·rcases Xy.mp hx with rfl|hx
   ·exact .inl (by simp)
   ·exact(g3 x hx).imp (λz=>by simp[z]) id
 |false =>
  obtain⟨a,vs,rfl,h2,h4⟩:=r;obtain⟨c,us,B,q1,q2,q3,q4,q5,q6,q7⟩:=core nd h4;have ca:a≠c:=λz=>by rw[z,q2]at h2;cases h2
  refine⟨a,vs,c,us,B,rfl,h2,h4.length,q1,q2,q3,q4,q5,q6,λeN uL B' o' n' nR pC=>?_⟩;obtain⟨A2,g1,g2,g3⟩:=q7 eN uL B' o' n' nR pC;exact⟨A2,⟨a,vs,rfl,by rw[ao ca];exact h2,g1⟩,g2,g3⟩
end
section
variable {X:Cx}{C:Cfg}{e k:Expr}{φ φk:aR}{i:Nat}{x:Str}{pos px kp ap cp:Pos}
theorem eG (l:Bool)(he:∀U,PQ X (C.u U) true e φ)(hk:∀U,PQ X (C.u U) true k φk)(hN:X.N[i]?=some x:=by rfl)(hv:vW X.env.scope x:=by first|exact .inl rfl|exact .inr (.inl rfl)|exact .inr (.inr rfl))(hd:(x==("__debug__" : Str))=false:=by decide)(gZ:(x==("__classdict__" : Str))=false:=by decide)
  (Nj:lE k:=by exact λ_ _=>rfl)
  (gj:aaq (.Subscript (.Name x px) k kp) "append" X.env (eval (.Subscript (.Name x px) k kp) X.env)=eval (.Subscript (.Name x px) k kp) X.env:=by rfl)
  (vD:((ZT cp (XZ [e] X.env)).all (λx=>!x.1)&&(backToKw cp (keywordEach [] X.env)).all (λx=>x.1.isSome)&&decide ([e].length+([]:List Keyword).length+(if ([]:List Keyword).isEmpty then 0 else 1)<30))=true:=by rfl)
  (gh:(ap.endLine==cp.line)=true:=by rfl) (hs:XZ [e] X.env=(false,eval e X.env)::XZ [] X.env:=by rfl) (iy:(ZT cp (XZ [] X.env)).any (·.1)=false:=by rfl)
  (xh:Z5 (.Call (.Attribute (.Subscript (.Name x px) k kp) "append" ap) [e] [] cp) none pos.line X.env=pure false:=by rfl) :
  PB X C (.Expr (.Call (.Attribute (.Subscript (.Name x px) k kp) "append" ap) [e] [] cp) pos) (λE β=>(∃d0,β[i]?=some (some (.own d0)))/\φk β λjd _ β1=>∃ds j m es,jd=.int j/\β1[i]?=some (some (.own (L4 l ds)))/\xb ds.length j=some m/\ds[m]?=some (.lst es)/\φ β1 λd kd β2=>E4 kd d/\β2[i]?=some (some (.own (L4 l ds)))/\es.length<XO/\E.nx (β2.set i (some (.own (L4 l (ds.set m (.lst (es++[d]))))))) ):=by
 refine⟨λE E' β l M4=> by obtain⟨q0,q⟩ := M4;exact⟨q0,(hk λ_=>False).mono _ _ _ (λjd _ β1 M3=> by obtain⟨ds,j,m,es,h1,h2,h3,h4,q⟩ := M3;exact⟨ds,j,m,es,h1,h2,h3,h4,(he λ_=>False).mono _ _ _ (λd kd β2 M1=> by obtain⟨g1,g2,g3,q⟩ := M1;exact⟨g1,g2,g3,l.nx _ q⟩) q⟩) q⟩,λpins s σ H De I ⟨Z,E,β,⟨own,sq,n⟩,⟨⟨d0,V3⟩,q⟩,ok⟩=>?_⟩
 have ix:G9 X (λx y H Q=>Ll X.K x y H Q\/Lk X.K x y H Q):=λvalue slice pins s σ H x y v u Q I rx ry h hs=>h.elim (λh=>eK value slice pins s σ H x y v u Q I rx ry h hs) λh=>BN value slice pins s σ H x y v u Q I rx ry h hs;refine qm (pos:=pos) (Bc (apos:=ap) (cpos:=cp) PySem.F.plainAttrs_list PySem.F.slot_list_append PySem.F.type_list_append jN (kz (pos:=kp) ix (dj (pos:=px) hN hv hd gZ) (hk λa=>H a=none).pe Nj) (bo (he λa=>H a=none).pe dk hs) gj vD gh hs iy) xh pins s σ H De I ?_;have UU:=sq.rp (C:=C.z) (U:=λa=>H a=none) λa z=>z;obtain⟨v0,Fb,_,_⟩:=sq.ow i d0 V3;refine⟨v0,Fb,tQ.of (hk λa=>H a=none) UU q λjd kk β1 kv H1 aC ⟨ds,j,m,es,e1,hb,hj,hm,q⟩ o r=>?_⟩;subst e1;cases r.rep;obtain⟨v,Mr,ow,h0⟩:=o.sq.ow i _ hb;rw[Fb]at Mr;cases Mr;obtain⟨a,vs,c,us,B,rfl,q1,q2,q3,q4,q5,q6,q7,q8,q9⟩:=i8 ow (o.sq.nz i) hm;have OQ:og vs j=some (.ref c):=by unfold og;rw[q2,hj];exact q3
 have Te:Oa X.K "list" (.ref c) H1/\F7 (tQ X (C.u λa=>H a=none) true φ) K4 σ H1 λxs H2=>wy (.ref c) xs H2 λ_ H1=>De.nx σ H1:=by
  refine⟨.inl ⟨rfl,us,c6.of q4⟩,tQ.of (he λa=>H a=none) o.sq q λd kd β2 v2 H2 a8 ⟨f,OJ,hl,q⟩ o2 r2=>?_⟩;obtain⟨s2,e2⟩:=o2.pu rfl;obtain⟨v',TF,P5,Xo⟩:=o2.sq.ow i _ OJ;rw[Fb]at TF;cases TF;obtain⟨a',vs',c',uL,B',ea,p1,p2,p3,p4,p5,p6,p7,p8,p9⟩:=i8 P5 (o2.sq.nz i) hm;cases ea;have e3:=s2 _ _ q1;rw[p1]at e3;have ev:vs'=vs:=by cases l <;> (cases e3;rfl)
  subst ev;rw[q3]at p3;cases p3;have e4:=s2 _ _ q4;rw[p4]at e4;cases e4;obtain⟨A,r1,rn,r3⟩:=r2.fl f;have Iw:∀x∈A,x∉a8 i:=λx hx z=>(r3 x hx).2.1 ⟨i,z⟩;obtain⟨A',g1,g2,g3⟩:=p9 (es++[d]) (us++[v2]) (B'++A) (p6.append (aK.one r1)) (YM.mpr ⟨p8,rn,λx hx y hy z=>Iw y hy (by rw[<- z];exact(p7 x hx).1)⟩)
   (λx hx=>(XW.mp hx).imp id (Iw x)) (λx hx z=>by
    rcases XW.mp hx with hx|hx
    ·exact(p7 x hx).2 z
    ·exact Iw x hx (by rw[z];exact p5))
  have hA:∀x∈A',x∈a8 i\/(C.H0 x=none/\¬ Wn a8 x/\H x=none):=λx hx=>by
   rcases g3 x hx with z|z
   ·exact .inl z
   ·rcases XW.mp z with z|z
    ·exact .inl (p7 x z).1
    ·exact .inr ⟨(r3 x z).2.2,(r3 x z).2.1,o.sn.free (r3 x z).1⟩
  exact⟨c,us,v2,rfl,rfl,p4,by rw[p6.length];exact hl,ok.nx _ _ _ ⟨_,o2.sq.putIn (C:=C) (U:=λa=>H a=none) OJ Fb p5 g1 g2 hA,qf ((n.trans o.sn).trans o2.sn) (λb z=>n.free z) ⟨i,p5⟩ ⟨_,p4,λxs z=>by cases z⟩ hA⟩ q⟩
 cases l with
 |true=>exact .inl ⟨a,vs,j,.ref c,rfl,rfl,c6.of q1,OQ,Te⟩
 |false=>exact .inr ⟨a,vs,j,.ref c,rfl,rfl,qV.of q1,OQ,Te⟩
end
end L2.Q
namespace L2
open PySem PySem.Spec PySem.SeqAt PyProof.Rows
theorem Tx {b:Bool}{p q:Prop}(h1:b=true->p)(h2:b=false->q):(if b=true then p else q):=by
 cases b
 ·exact jm rfl (h2 rfl)
 ·exact xf rfl (h1 rfl)
def gu (a b c d:Int):Bool:=(decide (a<c)&&(decide (c<b)&&decide (b<d))) || (decide (c<a)&&(decide (a<d)&&decide (d<b)))
structure Bs2 (mg:Str->Option Xv):Prop extends Bs mg where
 Gw:mg "isinstance" = none
 tuple:mg "tuple" = none
 str:mg "str" = none
 bool:mg "bool" = none
 zip:mg "zip" = none
 enumerate:mg "enumerate" = none
theorem CW:Yx "str" = some (.type "str"):=by decide +kernel
theorem om {ds:List D}{d:D}(h:d∈iL ds ds):∃a∈ds,d=.tup [a,a]:=by
 obtain⟨i,hi⟩:=List.mem_iff_getElem?.mp h;obtain⟨a,b,h1,h2,rfl⟩:=lF hi;rw[h1]at h2;cases h2;exact⟨a,Yq h1,rfl⟩
theorem m_ {d:D}{n:Nat}(h:d.pd.canLay0=true/\d.pd.depth<=n)(hn:n<=64:=by decide):J2 d d=some (.bl true):=vO (dg h hn) (dg h hn) (eqv_refl _ h.1)
theorem ff {d:D}{n:Nat}(h:d.pd.canLay0=true/\d.pd.depth<=n)(hn:n<=64:=by decide):KD d d=some (.bl false):=CJ (dg h hn) (dg h hn) (eqv_refl _ h.1)
end L2
namespace L2.Q
open PySem PySem.Spec PySem.SeqAt PyProof.Rows
structure qW (X:Cx)(C:Cfg)(p:Bool)(ifs:List Expr)(τ:aW):Prop where
 mono:∀β R R',(∀d β,R d β->R' d β)->τ β R->τ β R'
 pt:uk X ifs (iT X C p τ)
theorem eR {X:Cx}{C:Cfg}:qW X C true [] KW:=⟨λ_ _ _ k h=>k _ _ h,AZ⟩
theorem ib {X:Cx}{C:Cfg}{p:Bool}{c:Expr}{τ:aW}(h:uz X C p c τ):qW X C p [c] τ:=⟨h.mono,AY h⟩
section
variable {X:Cx}{C:Cfg}{lk:List (Option Nat)}{γ:dw}{τ:aW}{φ:aR}{T:List Nat}{pc pe pi:Bool}{scope:aaa}{N':List Str}{tg cj elt:Expr}{ifs:List Expr}{ι:cv}{pos pos' rG:Pos}{y:Str}{i:Nat}
theorem Ma (N':List Str)(lk:List (Option Nat))(L:gc X.env.scope.names X.N scope N' lk=true)(pD:N'.Nodup)(hc:X.calm=true)(hi:vY X C pi tg cj ι)
  (pA:∀U cl c s H ex,xO (aA X scope N' cl c s H ex) (C.u U) tg T γ) (jY:∀U cl c s H ex,qW (aA X scope N' cl c s H ex) (C.u U) pc ifs τ) (mM:∀U cl c s H ex,PQ (aA X scope N' cl c s H ex) (C.u U) pe elt φ)
  (hT:T.all (λi=>match lk[i]? with|some (some _)=>false|_=>true)=true:=by rfl) (hs:∀x,Yy cj X.env x=pure x:=by intro _;rfl):PQ X C (pi&&(pc&&pe)) (.ListComp elt [⟨tg,cj,ifs,0⟩] scope pos) (wz lk ι γ τ φ) :=
 Lz (Links.of L) pD hT hc hi (λa=>pA _) (λa cl c s H ex=>(jY _ cl c s H ex).pt) (jY (λ_=>False) [] 0 X.s₀ X.H₀ []).mono (λa=>mM _) (pA (λ_=>False) [] 0 X.s₀ X.H₀ []).mono (mM (λ_=>False) [] 0 X.s₀ X.H₀ []).mono hs
theorem yh (o:Bool)(N':List Str)(lk:List (Option Nat))(L:gc X.env.scope.names X.N scope N' lk=true)(pD:N'.Nodup)(hc:X.calm=true)(hi:∀U,vY X (C.u U) pi tg cj ι)
  (pA:∀U cl c s H ex,xO (aA X scope N' cl c s H ex) (C.u U) tg T γ) (jY:∀U cl c s H ex,qW (aA X scope N' cl c s H ex) (C.u U) pc ifs τ) (mM:∀U cl c s H ex,PQ (aA X scope N' cl c s H ex) (C.u U) pe elt φ)
  (hN:X.N.Nodup) (hT:T.all (λi=>match lk[i]? with|some (some _)=>false|_=>true)=true:=by rfl) (hy:X.N[i]?=some y:=by rfl) (hx:Loc X.env.scope y:=by first|exact .inl rfl|exact .inr rfl) (hf:X.fn y=true\/X.env.scope.names.lookup y=some .local:=by first|exact .inl rfl|exact .inr rfl|assumption)
  (xh:Z5 (.ListComp elt [⟨tg,cj,ifs,0⟩] scope pos) (some (.Name y pos')) rG.line X.env=pure true:=by rfl)
  (JJ:evalThenUse (.ListComp elt [⟨tg,cj,ifs,0⟩] scope pos) X.env (assign (.Name y pos') X.env)=(do let _ <- comprehension (.ListComp elt [⟨tg,cj,ifs,0⟩] scope pos) scope X.env (firstIterPos [⟨tg,cj,ifs,0⟩] pos) (newList []) false (eval cj X.env) (some (assign (.Name y pos') X.env));pure ()):=by first|rfl|exact arm_evalThenUse_ListComp ..)
  (hs:∀x,Yy cj X.env x=pure x:=by intro _;rfl) :
  PB X C (.Assign [.Name y pos'] (.ListComp elt [⟨tg,cj,ifs,0⟩] scope pos) rG) (λE β=>wz lk ι γ τ φ β λd _ β'=>E.nx (β'.set i (some (match o with|true=>.own d|false=>.val true d)))) :=
 Lx (K:=λ_ _ _=>True) (Links.of L) pD hT hc hi pA (λU cl c s H ex=>(jY U cl c s H ex).pt) (jY (λ_=>False) [] 0 X.s₀ X.H₀ []).mono mM (pA (λ_=>False) [] 0 X.s₀ X.H₀ []).mono (mM (λ_=>False) [] 0 X.s₀ X.H₀ []).mono o hN hy hx hf xh JJ hs
theorem a5:G9 X (AK X pP NF):=λvalue slice pins s σ H x y v u Q I rx ry ⟨W,d1,d2,d,hd,r1,r2,e,q⟩ hs =>
 Jb value slice pins s σ H x y v u Q I rx ry ⟨W,d1,d2,d,hd,r1,r2,e,λv H' s r=>q v H' s r λf=>ay.flat f r⟩ hs
end
section
variable {P:Xz}{w:XT}{K:PySem.W.Frag}{mg:Str->Option Xv}{base:Heap}{k:Nat}{f:Addr}{fd:Yr}{ps:List Str}
def tP:FD:=λds R=>∃c:Int,ds=[.int c]/\∀ns,jA ns->R (.lst (ns.map D.int))
theorem tP.mono:cU tP:=λds R R' k ⟨c,e,q⟩=>⟨c,e,λns o=>k _ (q ns o)⟩
theorem JM (G:aN P w K mg base bU k f fd ps Av):aN P w K mg base bU k f fd ps (dO P w true tP):=G.imp λvs H Q E h=>by
 obtain⟨ds,r,c,rfl,q⟩:=h;obtain⟨x,rr,rfl,hx,hr⟩:=r;cases (show rr=[] from hr)
 cases (show x=V.int c from hx)
 refine⟨c,rfl,λp H' hp hd sm=>?_⟩;obtain⟨ns,e,o⟩:=hd.ok;have rep:∀ns:List Int,aK P w H' (ns.map D.int) (ns.map V.int) []:=λns=>by
  induction ns with
  |nil=>exact⟨rfl,rfl⟩
  |cons n ns ih=>exact⟨_,_,[],[],rfl,rfl,⟨rfl,rfl⟩,ih⟩
 exact q ns o _ H' sm ⟨[p],⟨p,_,[],rfl,e,rfl,rep ns⟩,by simp,λc hc=>by rw[XQ.mp hc];exact hp⟩
theorem uN {ro:Bool}(G:aN P w K mg base bU k f fd ps As):aN P w K mg base bU k f fd ps (kU P w jA ro dc):=G.imp λvs H Q E h=>by
 obtain⟨h,vs',ds,ns,rfl,e,o,r,n,rfl,n1,n2,q⟩:=h;obtain⟨x,rr,rfl,hx,hr⟩:=r;cases (show rr=[] from hr)
 cases (show x=V.int n from hx)
 refine⟨h,n,rfl,o.hand e,n1,n2,λr H' r0 r1 hd fm=>?_⟩;obtain⟨oS,e',o'⟩:=hd.ok;refine q r r0 r1 _ H' oS ⟨λb u hb nb=>fm b u hb nb,λb xs hb=>fm b _ hb λz=>by rw[z,e]at hb;cases hb⟩ (λc hc z=>?_) e' o' (fc (W:=λ_=>False) rfl rfl)
 by_cases tj:c=h
 ·rw[tj,e']at z;cases z
 ·cases q:H c with
  |none=>exact hc q
  |some u=>rw[fm c u q tj]at z;cases z
end
end L2.Q
namespace jB
open PySem L2 L2.Q
def top (i:Nat):Stmt:=PySem.Challenge.pw_archrow_k06_the_most_ties.main.body.getD i (.Pass ⟨0,0,0,0⟩)
abbrev bH:Stmt:=top 4
abbrev cV:Stmt:=top 5
abbrev dB:Stmt:=top 6
abbrev b7:Stmt:=top 7
abbrev cW:Stmt:=top 8
abbrev cJ:Stmt:=top 9
abbrev cK:Stmt:=top 10
abbrev b8:Stmt:=top 11
abbrev d_:Stmt:=top 13
abbrev gA:Stmt:=top 14
abbrev fq:Stmt:=top 15
abbrev ft:Stmt:=top 16
abbrev dS:Stmt:=top 18
abbrev dQ:Stmt:=top 19
abbrev fx:Stmt:=top 20
abbrev fu:Stmt:=top 21
abbrev gB:Stmt:=top 22
abbrev eD:Stmt:=top 23
abbrev fv:Stmt:=top 24
abbrev eh:Stmt:=top 25
abbrev eC:Stmt:=top 26
abbrev fw:Stmt:=top 27
abbrev gC:Stmt:=top 28
abbrev dC:Stmt:=top 29
abbrev lX:Stmt:=top 30
abbrev D0 (K:PySem.W.Frag)(mg:Str->Option Xv)(f:Addr)(fd:Yr):Prop:=Df K mg "_law_arcs" fx ["hand","many"] f fd
abbrev D1 (K:PySem.W.Frag)(mg:Str->Option Xv)(f:Addr)(fd:Yr):Prop:=Df K mg "_law_take" dQ ["hand","many"] f fd
abbrev D2 (K:PySem.W.Frag)(mg:Str->Option Xv)(f:Addr)(fd:Yr):Prop:=Df K mg "_law_ties" fu ["hand","many"] f fd
abbrev D3 (K:PySem.W.Frag)(mg:Str->Option Xv)(f:Addr)(fd:Yr):Prop:=Df K mg "_law_row" gB ["hand"] f fd
abbrev D4 (K:PySem.W.Frag)(mg:Str->Option Xv)(f:Addr)(fd:Yr):Prop:=Df K mg "stretches_rising" bH ["many"] f fd
abbrev D5 (K:PySem.W.Frag)(mg:Str->Option Xv)(f:Addr)(fd:Yr):Prop:=Df K mg "partners_of" cV ["row"] f fd
abbrev D6 (K:PySem.W.Frag)(mg:Str->Option Xv)(f:Addr)(fd:Yr):Prop:=Df K mg "number_with" cW ["worth","table","i","k","j"] f fd
abbrev D7 (K:PySem.W.Frag)(mg:Str->Option Xv)(f:Addr)(fd:Yr):Prop:=Df K mg "least_number" cJ ["partners","worth","table","i","j"] f fd
abbrev D8 (K:PySem.W.Frag)(mg:Str->Option Xv)(f:Addr)(fd:Yr):Prop:=Df K mg "greatest_table" b7 ["row","worth"] f fd
abbrev D9 (K:PySem.W.Frag)(mg:Str->Option Xv)(f:Addr)(fd:Yr):Prop:=Df K mg "one_each" ft ["row"] f fd
abbrev O1 (K:PySem.W.Frag)(mg:Str->Option Xv)(f:Addr)(fd:Yr):Prop:=Df K mg "table_of" fq ["row"] f fd
abbrev N8 (K:PySem.W.Frag)(mg:Str->Option Xv)(f:Addr)(fd:Yr):Prop:=Df K mg "parts_left" dB ["i","k","j"] f fd
abbrev N7 (K:PySem.W.Frag)(mg:Str->Option Xv)(f:Addr)(fd:Yr):Prop:=Df K mg "best_choices" cK ["partners","worth","table","i","j"] f fd
abbrev O0 (K:PySem.W.Frag)(mg:Str->Option Xv)(f:Addr)(fd:Yr):Prop:=Df K mg "first_greatest" b8 ["row","worth","table","i","j"] f fd
abbrev SI (K:PySem.W.Frag)(mg:Str->Option Xv)(f:Addr)(fd:Yr):Prop:=Df K mg "most_of" gA ["row","i","j"] f fd
abbrev Uw (K:PySem.W.Frag)(mg:Str->Option Xv)(f:Addr)(fd:Yr):Prop:=Df K mg "most_ties" d_ ["row"] f fd
abbrev Uv (K:PySem.W.Frag)(mg:Str->Option Xv)(f:Addr)(fd:Yr):Prop:=Df K mg "_law_table" eh ["row"] f fd
abbrev Uu (K:PySem.W.Frag)(mg:Str->Option Xv)(f:Addr)(fd:Yr):Prop:=Df K mg "_law_first" eC ["row","table","begin","end"] f fd
abbrev OZ (K:PySem.W.Frag)(mg:Str->Option Xv)(f:Addr)(fd:Yr):Prop:=Df K mg "_law_cross" eD ["one","other"] f fd
abbrev SH (K:PySem.W.Frag)(mg:Str->Option Xv)(f:Addr)(fd:Yr):Prop:=Df K mg "_law_meet" fw ["one","other"] f fd
abbrev Ut (K:PySem.W.Frag)(mg:Str->Option Xv)(f:Addr)(fd:Yr):Prop:=Df K mg "_law_all" gC ["row"] f fd
abbrev SG (K:PySem.W.Frag)(mg:Str->Option Xv)(f:Addr)(fd:Yr):Prop:=Df K mg "_law_same" fv ["found","due"] f fd
abbrev Us (K:PySem.W.Frag)(mg:Str->Option Xv)(f:Addr)(fd:Yr):Prop:=Df K mg "_law_copied" dC ["row"] f fd
abbrev WU (K:PySem.W.Frag)(mg:Str->Option Xv)(f:Addr)(fd:Yr):Prop:=Df K mg "_law_hand" dS ["cell"] f fd
section
variable {P:Xz}{w:XT}{K:PySem.W.Frag}{mg:Str->Option Xv}{base:Heap}
theorem rR:aL ["cell"] ["cell"] (aw dS):=⟨rfl,rfl,rfl,by decide +kernel,rfl,by decide +kernel,by decide +kernel⟩
theorem EE {f:Addr} {fd:Yr} (F:Dx K "_law_hand" "_law_hand" dS f fd) (B:WV mg):aN P w K mg base bU 1 f fd ["cell"] Av:=by
 refine F.ok rR (λvs H Q E h=>?_) (λcP A outer s H vs Q E hr h=>?_)
 ·obtain⟨c,rfl,_⟩:=h;rfl
 ·obtain⟨c,rfl,k⟩:=h;refine⟨_,iY (jK (va (bo (i3 (pQ rfl) (by rfl) B.max nj (bo bc (bo (c8 Bg (pv 0) (c8 qv bc bc)) dk)))
   (bo (c8 vb (c8 vd (c8 md (pv 0) bc) bc) (oN j7 (by rfl) B.int vU (bo (wO LD (pv 0) (c8 qv bc bc) (Bu _)) dk))) dk)))),?_⟩
  refine⟨_,rfl,_,_,rfl,rfl,A9,_,_,rfl,rfl,_,_,rfl,?_⟩;have m1:=ll (a:=c) (b:=2147483629) (by decide)
  refine⟨_,rfl,_,_,rfl,rfl,(by show (0:Int)<2147483629;decide),_,_,rfl,rfl,_,rfl,_,_,rfl,rfl,A9,rfl,.inr ⟨_,rfl,_,_,rfl,rfl,.inl ⟨by lia,by lia⟩,?_⟩⟩
  refine⟨(by show 2<=XO;decide),λp hp=>k p _ hp ⟨_,_,ar,?_,?_⟩ (au.new hp)⟩
  ·split <;> lia
  ·split <;> constructor <;> lia
theorem km:aL ["hand","many","taken"] ["hand","many"] (aw dQ):=⟨rfl,rfl,rfl,by decide +kernel,rfl,by decide +kernel,by decide +kernel⟩
theorem P2 {y:Int}(h:0<=y)(h':y<2147483647):Dd (y+1) 7:=⟨by decide,by decide,by lia⟩
theorem qA {f:Addr} {fd:Yr} (F:Dx K "_law_take" "_law_take" dQ f fd):aN P w K mg base bU 1 f fd ["hand","many"] As:=by
 refine F.ok km (λvs H Q E h=>?_) (λcP A outer s H vs Q E hr h=>?_)
 ·obtain⟨h,n,rfl,_⟩:=h;rfl
 ·obtain⟨h,n,rfl,⟨x,y,hx,x0,y0,y1⟩,n0,n1,k⟩:=h;refine⟨_,dU (F9 (wB Gf (kz eK (pv 0) bc (λ_ _=>rfl)) bc (Bu _))
    (dU (u5 (i:=2) km.nd rfl (Or.inl rfl) (c8 md (kz eK (pv 0) bc (λ_ _=>rfl)) (pv 1)))
    (dU (qo (c8 si (kz eK (pv 0) bc (λ_ _=>rfl)) (pv 1)) (u_ (pv 0) bc set_list))
    (iY (jK (pv 2))))) wC)
   (dU (qo (c8 md (c8 vb (kz eK (pv 0) bc (λ_ _=>rfl)) bc) bc) (u_ (pv 0) bc set_list))
   (iY (jK (c8 md (c8 si (c8 qv (c8 vd (kz eK (pv 0) bc (λ_ _=>rfl)) bc) bc) bc) (pv 1))))),?_⟩
  refine⟨_,rfl,h,_,_,_,rfl,rfl,c6.of hx,rfl,_,_,rfl,rfl,_,rfl,?_⟩;refine Qn (λhp=>?_) (λhp=>?_)
  ·refine⟨_,rfl,h,_,_,_,rfl,rfl,c6.of hx,rfl,_,rfl,_,_,rfl,rfl,n0,?_⟩;refine⟨_,rfl,h,_,_,_,rfl,rfl,c6.of hx,rfl,_,rfl,_,_,rfl,rfl,ur.of n0 n1,?_⟩;refine⟨_,rfl,h,_,_,0,rfl,rfl,hx,rfl,?_⟩;have m:=ll (a:=x) n0;exact⟨_,rfl,k _ _ m.1 m.2 ⟨_,_,ar,Int.ediv_nonneg x0 (Int.le_of_lt n0),y0,y1⟩ Fm.upd⟩
  ·have m1:=ll (a:=y*48271) (b:=2147483647) (by decide)
   refine⟨_,rfl,h,_,_,_,rfl,rfl,c6.of hx,rfl,_,_,rfl,rfl,.inr ⟨by decide,by decide⟩,_,_,rfl,rfl,(by show (0:Int)<2147483647;decide),?_⟩
   refine⟨_,rfl,h,_,_,1,rfl,rfl,hx,rfl,?_⟩;refine⟨_,rfl,h,_,_,_,rfl,rfl,c6.of ar,rfl,_,_,rfl,rfl,_,_,rfl,rfl,P2 m1.1 m1.2,_,_,rfl,rfl,ur.of (by decide) (by decide),_,rfl,_,_,rfl,rfl,n0,?_⟩
   have m:=ll (a:=(y*48271 % 2147483647+1) ^ (7:Int).toNat / 8) n0;exact k _ _ m.1 m.2 ⟨_,_,ar,x0,m1.1,m1.2⟩ Fm.upd
theorem c7:aL ["hand","many","found","piled","point","way"] ["hand","many"] (aw fx):=⟨rfl,rfl,rfl,by decide +kernel,rfl,by decide +kernel,by decide +kernel⟩
theorem EI {GU tH} (dA:D0 K mg GU tH) {JS vI} (dT:D1 K mg JS vI) (B:Bs mg):aN P w K mg base bU 2 GU tH ["hand","many"] (kU P w jA true tU):=by
 have GT:aN P w K mg base bU 1 _ _ _ (kU P w jA true dc):=uN (qA dT.F);refine Iv dA.F c7 (λds R M0=> by obtain⟨n,e,_⟩ := M0;subst e;rfl) λcP A outer s H E IO hr=>⟨_,(ah (cX (i:=2) (λ_=>(aZ ae)) c7.nd)
    (ah (cX (i:=3) (λ_=>(aZ ae)) c7.nd)
    (ah (cB YD rfl (bw B.range (aa (ab (i:=1)) ae)) (ak (i:=4) c7.nd) (ah (a6 (i:=5) (bO (ih:=0) dc.mono GT (hr.mono (by decide)) dT.m dT.F.kp dT.b (aa ag ae)) c7.nd)
    (ah (bC (aI af (bK.m (bW hr.units)) (ab (i:=5)) ag) (aj (cD (i:=3) (λ_=>(ab (i:=4))))) aP)
    (aj (bC (xN.t (qq (aI af (bK.m (bW hr.units)) (ab (i:=5)) ag) (l3 (aI af (bK.m (me hr.units)) (ab (i:=3)) (aZ ae))))) (aj (cD (i:=2) (λ_=>(bq (aa (A6 (i:=3)) (aa (ab (i:=4)) ae)))))) aP)))))
    (aj (aY (bf aG qR B.sorted j9 (aa (ab (i:=2)) ae))))))),λds R h=>?_⟩
 obtain⟨n,rfl,n0,n1,q⟩:=h;refine⟨XG _,trivial,XG _,trivial,_,rfl,trivial,n,rfl,by omega,by omega,trivial,?_⟩
 refine⟨λi β=>∃(fs:List (List Int)) (ps:List Int) (x4 x5:Option Q.B),β=[some (.hand jA),some (.val false (.int n)),some (.own (.lst (fs.map kD))),some (.own (.lst (ps.map D.int))),x4,x5]/\fs.length<=i/\ps.length<=i/\i<=n.toNat/\bx n fs/\(∀p∈ps,0<=p/\p<i),⟨[],[],_,_,rfl,Xx _,Xx _,XG _,bx.nil,λ_ z=>(nomatch z)⟩,?_,?_⟩
 ·rintro i d β hd ⟨fs,ps,x4,x5,rfl,h1,h2,h3,h4,h5⟩;obtain⟨hi,rfl⟩:=ck hd;refine⟨rfl,trivial,rfl,trivial,3,rfl,by omega,by omega,λr r0 r1=>?_⟩
  refine⟨_,rfl,trivial,_,bS _ _,_,rfl,?_⟩;have fin:∃(rd:List (List Int)) (P0:List Int) (x4 x5:Option Q.B),[some (.hand jA),some (.val false (.int n)),some (.own (.lst (fs.map kD))),some (.own (.lst (ps.map D.int))),some (.val true (.int (0+(i:Int)))),some (.val true (.int r))]=[some (.hand jA),some (.val false (.int n)),some (.own (.lst (rd.map kD))),some (.own (.lst (P0.map D.int))),x4,x5]/\rd.length<=i+1/\P0.length<=i+1/\i+1<=n.toNat/\bx n rd/\(∀p∈P0,0<=p/\p<((i+1:Nat):Int)) :=
    ⟨fs,ps,_,_,rfl,by omega,by omega,by omega,h4,λp hp=>by have:=h5 p hp;omega⟩
  refine jX (λHR=>?_) (λHR=>?_)
  ·refine⟨⟨_,rfl⟩,_,rfl,trivial,_,rfl,by rw[Xu,YA];omega,?_⟩
   refine⟨_,rfl,trivial,_,bS _ _,_,rfl,jm (by simp[HR]) (jm rfl ?_)⟩
   refine⟨fs,ps++[0+(i:Int)],_,_,by rw[Ax];rfl,by omega,by simp;omega,by omega,h4,λp hp=>?_⟩
   rcases XW.mp hp with z|z
   ·have:=h5 p z;omega
   ·rw[XQ.mp z];omega
  ·refine⟨_,rfl,trivial,_,bS _ _,_,rfl,jX (λr2=>?_) (λr2=>jm rfl fin)⟩;refine⟨_,rfl,trivial,XG _,_,CK ps [],_,rfl,VA (λhp=>?_) (λhp=>fin)⟩;obtain⟨qs,p,rfl⟩:∃qs p,ps=qs++[p]:=⟨ps.dropLast,ps.getLast hp,(List.dropLast_concat_getLast hp).symm⟩;have TN:=h5 p (by simp)
   rw[Yb,ZU]at h2;refine⟨⟨_,rfl⟩,qs.map D.int,.int p,by simp,trivial,_,rfl,trivial,lb,trivial,fs.map kD,rfl,by rw[Xu,YA];omega,?_⟩
   refine⟨fs++[[p,0+(i:Int)]],qs,_,_,by rw[lg];rfl,by simp;omega,by omega,by omega,h4.app (bx.one (by omega) (by omega) (by omega)),λx hx=>?_⟩
   have:=h5 x (by simp[hx])
   omega
 ·rintro β ⟨fs,ps,x4,x5,rfl,h1,h2,h3,h4,h5⟩;rw[cM]at h1;refine⟨_,rfl,trivial,_,uU h4.ne (by omega),.inl ⟨d3 _,trivial,rfl,q _ ?_ (An h4)⟩⟩
  rw[(e9 fs).length_eq];exact h1
end
section
variable {P:Xz}{w:XT}{K:PySem.W.Frag}{mg:Str->Option Xv}{base:Heap}
theorem aU:aL ["hand","many","way","found","k","one","other","reach","kinds","wide"] ["hand","many"] (aw fu):=⟨rfl,rfl,rfl,by decide +kernel,rfl,by decide +kernel,by decide +kernel⟩
def T9 (n way:Int)(f:Q.B)(β:Q.a7):Prop:=∃x4 x5 x6 x7 x8 x9:Option Q.B,β=[some (.hand jA),some (.val false (.int n)),some (.val true (.int way)),some f,x4,x5,x6,x7,x8,x9]
theorem Ez {Kz yX} (dI:D2 K mg Kz yX) {JS vI} (dT:D1 K mg JS vI) {GU tH} (dA:D0 K mg GU tH) (B:Bs mg):aN P w K mg base bU 3 Kz yX ["hand","many"] (kU P w jA true tM):=by
 have GT:aN P w K mg base bU 1 _ _ _ (kU P w jA true dc):=uN (qA dT.F);have GA:aN P w K mg base bU 2 _ _ _ (kU P w jA true tU):=EI dA dT B;refine Iv dI.F aU (λds R MZ=> by obtain⟨n,e,_⟩ := MZ;subst e;rfl) λcP A outer s H E IO hr=>⟨_,(ah (a6 (i:=2) (bO (ih:=0) dc.mono GT (hr.mono (by decide)) dT.m dT.F.kp dT.b (aa ag ae)) aU.nd)
    (ah (cX (i:=3) (λ_=>(aZ ae)) aU.nd)
    (eF (bC (xN.t (u6 (aI af (bK.m (bW hr.units)) (ab (i:=2)) ag) (qp (aI af (bK.m (bW hr.units)) (ab (i:=2)) ag)))) (aj (cB YD rfl (bw B.range (aa (bO (ih:=0) dc.mono GT (hr.mono (by decide)) dT.m dT.F.kp dT.b (aa (aF af a5 (aZ (aa ag (aa ag (aa ag ae)))) (bO (ih:=0) dc.mono GT (hr.mono (by decide)) dT.m dT.F.kp dT.b (aa ag ae))) ae)) ae)) (ak (i:=4) aU.nd) (ah (a6 (i:=5) (bO (ih:=0) dc.mono GT (hr.mono (by decide)) dT.m dT.F.kp dT.b (aa (ab (i:=1)) ae)) aU.nd)
    (ah (a6 (i:=6) (aE af (bK.m Ex) (aE aG az (aE aG az (ab (i:=5)) ag) (bO (ih:=0) dc.mono GT (hr.mono (by decide)) dT.m dT.F.kp dT.b (aa (aE af (bK.m bz) (ab (i:=1)) ag) ae))) (ab (i:=1))) aU.nd)
    (aj (cD (i:=3) (λ_=>(bq (aa (bf af (bG.m (iF rfl)) B.min vT (aa (ab (i:=5)) (aa (ab (i:=6)) ae))) (aa (bf af (bG.m (vQ rfl)) B.max nj (aa (ab (i:=5)) (aa (ab (i:=6)) ae))) ae)))))))))) aP)
    (ah (a6 (i:=7) (aE aG az ag (bO (ih:=0) dc.mono GT (hr.mono (by decide)) dT.m dT.F.kp dT.b (aa ag ae))) aU.nd)
    (eF (bC (aI af (bK.m (bW hr.units)) (ab (i:=2)) ag) (aj (cB YD rfl (bw B.range (aa (ab (i:=1)) ae)) (ak (i:=5) aU.nd) (aj (cB YD rfl (ik B.range (aa (aE aG az (ab (i:=5)) ag) (aa (bf af (bG.m (iF rfl)) B.min vT (aa (ab (i:=1)) (aa (aE aG az (aE aG az (ab (i:=5)) ag) (ab (i:=7))) ae))) ae))) (ak (i:=6) aU.nd) (aj (bC (aI af (bK.m Bl) (bO (ih:=0) dc.mono GT (hr.mono (by decide)) dT.m dT.F.kp dT.b (aa ag ae)) ag) (aj (cD (i:=3) (λ_=>(bq (aa (ab (i:=5)) (aa (ab (i:=6)) ae)))))) aP)))))) aP)
    (eF (bC (aI af (bK.m (bW hr.units)) (ab (i:=2)) ag) (ah (a6 (i:=8) (Ma ["point","hand"] [none,some 0] (by rfl) (by decide:(["point","hand"]:List Str).Nodup) rfl (bw B.range (aa (ab (i:=1)) ae)) (λ_ _ _ _ _ _=>(ak (i:=0) (by decide:(["point","hand"]:List Str).Nodup))) (λ_ _ _ _ _ _=>eR) (λ_ _ _ _ _ _=>(bO (ih:=1) dc.mono GT (hr.mono (by decide)) dT.m dT.F.kp dT.b (aa ag ae)))) aU.nd)
    (ah (a6 (i:=9) (aF af a5 (aZ (aa (ab (i:=1)) (aa ag ae))) (jL af (bG.m zm) B.int vU (aa (il af (bK.m Bl) (ab (i:=1)) ag) ae))) aU.nd)
    (aj (cB YD rfl (bw B.range (aa (ab (i:=1)) ae)) (ak (i:=5) aU.nd) (aj (oP (i:=3) (Ma ["k","one","kinds"] [none,some 5,some 8] (by rfl) (by decide:(["k","one","kinds"]:List Str).Nodup) rfl (ik B.range (aa (aE aG az (ab (i:=5)) ag) (aa (bf af (bG.m (iF rfl)) B.min vT (aa (ab (i:=1)) (aa (aE aG az (ab (i:=5)) (ab (i:=9))) ae))) ae))) (λ_ _ _ _ _ _=>(ak (i:=0) (by decide:(["k","one","kinds"]:List Str).Nodup))) (λ_ _ _ _ _ _=>(ib (aI af (bK.m (bW hr.units)) (aE aG az (aF af a5 (ab (i:=2)) (ab (i:=1))) (aF af a5 (ab (i:=2)) (ab (i:=0)))) ag))) (λ_ _ _ _ _ _=>(bq (aa (ab (i:=1)) (aa (ab (i:=0)) ae))))))))))) aP)
    (eF (bC (aI af (bK.m (bW hr.units)) (ab (i:=2)) ag) (aj (cX (i:=3) (λ_=>(aE aG az (A8 (i:=3)) (bO (ih:=0) tU.mono GA (hr.mono (by decide)) dA.m dA.F.kp dA.b (aa (ab (i:=1)) ae)))) aU.nd)) aP)
    (aj (aY (Ly (bf aG (qQ rfl) B.sorted j9 (aa (jL af (bG.m (zk rfl hr.v8)) B.set Ka (aa (ab (i:=3)) ae)) ae)) A5 (A4 ag))))))))))),λds R h=>?_⟩
 obtain⟨n,rfl,n0,n1,q⟩:=h;refine⟨rfl,trivial,rfl,trivial,5,rfl,by lia,by lia,λway w0 w1=>?_⟩
 refine⟨XG _,trivial,?_⟩;refine⟨λβ=>∃fs:List (List Int),T9 n way (.own (.lst (fs.map kD))) β/\bx n fs/\fs.length<=300/\(way≠1->way≠4->fs=[]),?_,?_⟩
 ·-- drawn UJ
  have no:∃fs:List (List Int),T9 n way (.own (.lst (fs.map kD))) [some (.hand jA),some (.val false (.int n)),some (.val true (.int way)),some (.own (.lst [])),none,none,none,none,none,none]/\bx n fs/\fs.length<=300/\(way≠1->way≠4->fs=[]) :=
   ⟨[],⟨_,_,_,_,_,_,rfl⟩,bx.nil,by simp,λ_ _=>rfl⟩
  refine(λ(key:way=1\/way=4->_)=>⟨_,rfl,trivial,_,bS _ _,_,rfl,jX (λh1=>xf rfl (key (.inl h1))) (λh1=>⟨_,rfl,trivial,_,bS _ _,_,rfl,jX (λh4=>key (.inr h4)) (λh4=>no)⟩)⟩) ?_
  ·intro WY;refine⟨rfl,trivial,trivial,trivial,UP,trivial,rfl,trivial,rfl,trivial,3,rfl,by lia,by lia,λr r0 r1=>pick r0 (by simpa using r1) λd hd=>?_⟩
   obtain⟨m,rfl,m0,m1⟩:∃m:Int,d=.int m/\0<m/\m<=301:=by
    simp only[Xy,YH,or_false]at hd;rcases hd with rfl|rfl|rfl
    ·exact⟨5,rfl,by lia,by lia⟩
    ·exact⟨12,rfl,by lia,by lia⟩
    ·exact⟨301,rfl,by lia,by lia⟩
   refine⟨trivial,rfl,trivial,m,rfl,m0,by lia,λj j0 j1=>⟨trivial,j,rfl,by lia,by lia,trivial,?_⟩⟩
   refine⟨λi β=>∃fs:List (List Int),T9 n way (.own (.lst (fs.map kD))) β/\bx n fs/\fs.length<=i,⟨[],⟨_,_,_,_,_,_,rfl⟩,bx.nil,by simp⟩,?_,?_⟩
   ·rintro i d β hd ⟨fs,⟨x4,x5,x6,x7,x8,x9,rfl⟩,ht,hl⟩;obtain⟨hi,rfl⟩:=ck hd;refine⟨rfl,_,rfl,trivial,rfl,trivial,n,rfl,by lia,by lia,λone o0 o1=>?_⟩
    refine⟨_,rfl,trivial,_,rfl,trivial,rfl,_,rfl,trivial,_,rfl,trivial,rfl,trivial,n-1,rfl,by lia,by lia,λr' W5 HR=>?_⟩
    have Rb:NK (.int (one+1+r')) (.int n)=some (.int ((one+1+r') % n)):=if_pos (by lia)
    refine⟨_,rfl,trivial,_,rfl,_,Rb,?_⟩;refine⟨⟨_,rfl⟩,_,rfl,trivial,_,rfl,trivial,_,rfl,trivial,_,rfl,trivial,_,rfl,trivial,_,rfl,trivial,lb,trivial,_,rfl,by rw[Xu,YA];lia,?_⟩
    have Fe:(one+1+r') % n≠one/\0<=(one+1+r') % n/\(one+1+r') % n<n:=by
     by_cases d9:one+1+r'<n
     ·rw[Int.emod_eq_of_lt (by lia) d9];lia
     ·rw[show one+1+r'=(one+1+r' - n)+n by lia,Int.add_emod_right,Int.emod_eq_of_lt (by lia) (by lia)];lia
    generalize (one+1+r') % n=Ol at Fe;refine⟨fs++[[if Ol<one then Ol else one,if Ol>one then Ol else one]],⟨_,_,_,_,_,_,by rw[lg];rfl⟩,ht.app (bx.one ?_ ?_ ?_),by simp;lia⟩
    all_goals (split <;> (try split) <;> lia)
   ·rintro β ⟨fs,h9,ht,hl⟩;rw[cM]at hl;exact⟨fs,h9,ht,by lia,λa b=>by lia⟩
 ·rintro β ⟨fs,⟨x4,x5,x6,x7,x8,x9,rfl⟩,ht,hl,hz⟩;refine⟨trivial,rfl,trivial,rfl,trivial,6,rfl,by lia,by lia,λreach e0 e1=>⟨_,rfl,?_⟩⟩
  refine⟨λβ=>∃fs:List (List Int),T9 n way (.own (.lst (fs.map kD))) β/\bx n fs/\fs.length<=300/\(way=3->fs=[]),?_,?_⟩
  ·have no:∃rd:List (List Int),T9 n way (.own (.lst (rd.map kD))) [some (.hand jA),some (.val false (.int n)),some (.val true (.int way)),some (.own (.lst (fs.map kD))),x4,x5,x6,some (.val true (.int (1+reach))),x8,x9]/\bx n rd/\rd.length<=300/\(way=3->rd=[]) :=
    ⟨fs,⟨_,_,_,_,_,_,rfl⟩,ht,hl,λh=>hz (by lia) (by lia)⟩
   refine⟨_,rfl,trivial,_,bS _ _,_,rfl,jX (λw2=>?_) (λw2=>no)⟩;have Jg:fs=[]:=hz (by lia) (by lia)
   subst Jg;refine⟨_,rfl,trivial,n,rfl,by lia,by lia,trivial,?_⟩
   refine⟨λi β=>∃(fs:List (List Int)) (y4 y5 y6 y8 y9:Option Q.B),β=[some (.hand jA),some (.val false (.int n)),some (.val true (.int way)),some (.own (.lst (fs.map kD))),y4,y5,y6,some (.val true (.int (1+reach))),y8,y9]/\bx n fs/\fs.length<=i*6,⟨[],_,_,_,_,_,rfl,bx.nil,by simp⟩,?_,?_⟩
   ·rintro i d β hd ⟨fs,y4,y5,y6,y8,y9,rfl,ht,hl⟩;obtain⟨hi,rfl⟩:=ck hd;refine⟨_,rfl,trivial,_,rfl,trivial,_,rfl,trivial,_,rfl,trivial,_,rfl,trivial,_,rfl,_,rfl,trivial,_,rfl,trivial,_,_,rfl,⟨by lia,by lia,by split <;> lia,by split <;> lia⟩,trivial,?_⟩
    generalize OD:(0:Int)+(i:Int)+1=lo;have Ry:((if lo+(1+reach)<n then lo+(1+reach) else n)-lo).toNat<=6/\(if lo+(1+reach)<n then lo+(1+reach) else n)<=n:=by split <;> lia
    generalize (if lo+(1+reach)<n then lo+(1+reach) else n)=fQ at Ry
    refine⟨λk β=>∃(fs:List (List Int)) (y4 y6 y8 y9:Option Q.B),β=[some (.hand jA),some (.val false (.int n)),some (.val true (.int way)),some (.own (.lst (fs.map kD))),y4,some (.val true (.int (0+(i:Int)))),y6,some (.val true (.int (1+reach))),y8,y9]/\bx n fs/\fs.length<=i*6+k,⟨fs,_,_,_,_,rfl,ht,by lia⟩,?_,?_⟩
    ·rintro k d β hd ⟨fs,y4,y6,y8,y9,rfl,ht,hl⟩;obtain⟨hk,rfl⟩:=ck hd;refine⟨rfl,trivial,rfl,trivial,3,rfl,by lia,by lia,λr r0 r1=>⟨trivial,_,rfl,_,rfl,jX (λhp=>?_) (λhp=>?_)⟩⟩
     ·refine⟨⟨_,rfl⟩,_,rfl,trivial,_,rfl,trivial,lb,trivial,_,rfl,by rw[Xu,YA];lia,?_⟩
      exact⟨fs++[[0+(i:Int),lo+(k:Int)]],_,_,_,_,by rw[lg];rfl,ht.app (bx.one (by lia) (by lia) (by lia)),by simp;lia⟩
     ·exact⟨fs,_,_,_,_,rfl,ht,by lia⟩
    ·rintro β ⟨fs,y4,y6,y8,y9,rfl,ht,hl⟩;rw[cM]at hl;exact⟨fs,_,_,_,_,_,rfl,ht,by lia⟩
   ·rintro β ⟨fs,y4,y5,y6,y8,y9,rfl,ht,hl⟩;rw[cM]at hl;exact⟨fs,⟨_,_,_,_,_,_,rfl⟩,ht,by lia,λh=>by lia⟩
  ·rintro β ⟨fs,⟨x4,x5,x6,x7,x8,x9,rfl⟩,ht,hl,hz⟩;refine⟨λβ=>∃fs:List (List Int),T9 n way (.own (.lst (fs.map kD))) β/\bx n fs/\fs.length<=960/\(way=4->fs.length<=300),?_,?_⟩
   ·have no:∃rd:List (List Int),T9 n way (.own (.lst (rd.map kD))) [some (.hand jA),some (.val false (.int n)),some (.val true (.int way)),some (.own (.lst (fs.map kD))),x4,x5,x6,x7,x8,x9]/\bx n rd/\rd.length<=960/\(way=4->rd.length<=300) :=
     ⟨fs,⟨_,_,_,_,_,_,rfl⟩,ht,by lia,λh=>hl⟩
    refine⟨_,rfl,trivial,_,bS _ _,_,rfl,jX (λw3=>?_) (λw3=>no)⟩;have Jg:fs=[]:=hz w3;subst Jg;refine⟨_,rfl,trivial,n,rfl,by lia,by lia,trivial,?_⟩
    refine⟨λi β o=>(∃x0,β=[x0,some (.hand jA)])/\∃ks:List Int,o=ks.map D.int/\ks.length=i/\∀k∈ks,0<=k/\k<3,⟨⟨_,rfl⟩,[],rfl,rfl,λ_ z=>(nomatch z)⟩,?_,?_⟩
    ·rintro i d β o hd ⟨⟨x0,rfl⟩,ks,rfl,hk,TZ⟩;obtain⟨hi,rfl⟩:=ck hd;refine⟨rfl,trivial,rfl,trivial,3,rfl,by lia,by lia,λr r0 r1=>⟨trivial,by rw[Xu,YA];lia,⟨_,rfl⟩,ks++[r],by simp,by simp[hk],λk hk=>?_⟩⟩
     rcases XW.mp hk with z|z
     ·exact TZ k z
     ·rw[XQ.mp z];exact⟨r0,r1⟩
    rintro β o ⟨⟨x0,rfl⟩,ks,rfl,ho,TZ⟩;rw[cM]at ho;refine⟨⟨rfl,trivial⟩,?_⟩;obtain⟨wd,Wk,WX,WW⟩:∃wd:Int,pP (.lst [.int n,.int 14]) (.int (if decide (n>24)=true then 1 else 0))=some (.int wd)/\0<=wd/\wd<=24:=by
     by_cases hn:n>24
     ·exact⟨14,by rw[if_pos (by simpa using hn)];rfl,by lia,by lia⟩
     ·exact⟨n,by rw[if_neg (by simpa using hn)];rfl,by lia,by lia⟩
    refine⟨_,rfl,trivial,trivial,lb,trivial,_,rfl,trivial,_,rfl,trivial,_,rfl,_,Wk,?_⟩;refine⟨_,rfl,trivial,n,rfl,by lia,by lia,trivial,?_⟩
    refine⟨λi β=>∃(fs:List (List Int)) (y4 y5 y6 y7:Option Q.B),β=[some (.hand jA),some (.val false (.int n)),some (.val true (.int way)),some (.own (.lst (fs.map kD))),y4,y5,y6,y7,some (.val true (.lst (ks.map D.int))),some (.val true (.int wd))]/\bx n fs/\fs.length<=i*24,⟨[],_,_,_,_,rfl,bx.nil,by simp⟩,?_,?_⟩
    ·rintro i d β hd ⟨fs,y4,y5,y6,y7,rfl,ht,hl⟩;obtain⟨hi,rfl⟩:=ck hd;refine⟨⟨_,rfl⟩,_,rfl,trivial,_,rfl,trivial,_,rfl,trivial,_,rfl,trivial,_,rfl,_,rfl,trivial,_,rfl,trivial,_,_,rfl,⟨by lia,by lia,by split <;> lia,by split <;> lia⟩,trivial,?_⟩
     have Ry:((if 0+(i:Int)+wd<n then 0+(i:Int)+wd else n)-(0+(i:Int)+1)).toNat<=24/\(if 0+(i:Int)+wd<n then 0+(i:Int)+wd else n)<=n:=by split <;> lia
     generalize (if 0+(i:Int)+wd<n then 0+(i:Int)+wd else n)=fQ at Ry
     refine⟨λj β o=>(∃x0,β=[x0,some (.val true (.int (0+(i:Int)))),some (.val true (.lst (ks.map D.int)))])/\∃us:List (List Int),o=us.map kD/\us.length<=j/\bx n us,⟨⟨_,rfl⟩,[],rfl,Xx _,bx.nil⟩,?_,?_⟩
     ·rintro j d β o hd ⟨⟨x0,rfl⟩,us,rfl,hj,BV⟩;obtain⟨GG,rfl⟩:=ck hd;obtain⟨r1,_,e1⟩:=t6 (ks:=ks) (i:=0+(i:Int)) (by lia) (by lia)
      obtain⟨r2,_,e2⟩:=t6 (ks:=ks) (i:=0+(i:Int)+1+(j:Int)) (by lia) (by lia)
      refine⟨_,rfl,trivial,_,rfl,_,e1,trivial,_,rfl,trivial,_,rfl,_,e2,_,rfl,trivial,_,bS _ _,_,rfl,jX (λh=>?_) (λh=>⟨⟨_,rfl⟩,us,rfl,by lia,BV⟩)⟩
      refine⟨_,rfl,trivial,_,rfl,trivial,lb,trivial,by rw[Xu,YA];lia,⟨_,rfl⟩,us++[[0+(i:Int),0+(i:Int)+1+(j:Int)]],by rw[lg];rfl,by simp;lia,BV.app (bx.one (by lia) (by lia) (by lia))⟩
     ·rintro β o ⟨⟨x0,rfl⟩,us,rfl,hlen,BV⟩;rw[cM]at hlen;refine⟨trivial,_,us.map kD,rfl,d3 us,rfl,by rw[Xu,Xu,YA];lia,?_⟩
      exact⟨fs++us,_,_,_,_,by rw[XX];rfl,ht.app BV,by simp;lia⟩
    ·rintro β ⟨fs,y4,y5,y6,y7,rfl,ht,hl⟩;rw[cM]at hl;exact⟨fs,⟨_,_,_,_,_,_,rfl⟩,ht,by lia,λh=>by lia⟩
   ·rintro β ⟨fs,⟨x4,x5,x6,x7,x8,x9,rfl⟩,ht,hl,hz⟩;refine⟨λβ=>∃fs:List (List Int),T9 n way (.own (.lst (fs.map kD))) β/\bx n fs/\fs.length<1000,?_,?_⟩
    ·refine⟨_,rfl,trivial,_,bS _ _,_,rfl,jX (λw4=>?_) (λw4=>⟨fs,⟨_,_,_,_,_,_,rfl⟩,ht,by lia⟩)⟩
     have:=hz w4;refine⟨_,rfl,trivial,rfl,_,rfl,trivial,rfl,trivial,n,rfl,by lia,by lia,λts tl tt=>?_⟩
     have ea:vP (.lst (fs.map kD)) (.lst (ts.map kD))=some (.lst ((fs++ts).map kD)):=by
      rw[XX];exact if_pos (by rw[Xu,Xu,YA];lia)
     exact⟨_,ea,.inl ⟨d3 _,trivial,fs++ts,⟨_,_,_,_,_,_,rfl⟩,ht.app tt,by simp;lia⟩⟩
    ·rintro β ⟨fs,⟨x4,x5,x6,x7,x8,x9,rfl⟩,ht,hl⟩;obtain⟨ts,e,jY⟩:=CG ht;refine⟨_,rfl,trivial,_,AB ht.ne hl,.inr ⟨trivial,_,uT ht.ne hl,.inl ⟨d3 _,300,rfl,_,rfl,?_⟩⟩⟩;rw[e];exact .inl ⟨d3 _,trivial,rfl,q _ jY⟩
theorem lW:aL ["hand","many"] ["hand"] (aw gB):=⟨rfl,rfl,rfl,by decide +kernel,rfl,by decide +kernel,by decide +kernel⟩
theorem Ip {OL Ft} (dR:D3 K mg OL Ft) {JS vI} (dT:D1 K mg JS vI) {GU tH} (dA:D0 K mg GU tH) {Kz yX} (dI:D2 K mg Kz yX) (B:Bs mg):aN P w K mg base bU 4 OL Ft ["hand"] (kU P w jA true Cq):=by
 have GT:aN P w K mg base bU 1 _ _ _ (kU P w jA true dc):=uN (qA dT.F);have GI:aN P w K mg base bU 3 _ _ _ (kU P w jA true tM):=Ez dI dT dA B;refine Iv dR.F lW (λds R MY=> by obtain⟨e,_⟩ := MY;subst e;rfl) λcP A outer s H E IO hr=>⟨_,(ah (a6 (i:=1) (bO (ih:=0) dc.mono GT (hr.mono (by decide)) dT.m dT.F.kp dT.b (aa (aF af a5 (aZ (aa ag (aa ag (aa ag (aa ag ae))))) (bO (ih:=0) dc.mono GT (hr.mono (by decide)) dT.m dT.F.kp dT.b (aa ag ae))) ae)) lW.nd)
    (ah (bC (aI af (bK.m dq) (ab (i:=1)) ag) (aj (aY (bq (aa (ab (i:=1)) (aa (aZ ae) ae))))) aP)
    (aj (aY (bq (aa (ab (i:=1)) (aa (bO (ih:=0) tM.mono GI (hr.mono (by decide)) dI.m dI.F.kp dI.b (aa (ab (i:=1)) ae)) ae))))))),λds R h=>?_⟩
 obtain⟨rfl,q⟩:=h;refine⟨rfl,trivial,trivial,trivial,trivial,(by show 4<=XO;decide),trivial,rfl,trivial,rfl,trivial,4,rfl,by lia,by lia,λr r0 r1=>pick r0 (by simpa using r1) λd hd=>?_⟩
 obtain⟨m,rfl,m0,m1⟩:∃m:Int,d=.int m/\0<m/\m<=41:=by
  simp only[Xy,YH,or_false]at hd;rcases hd with rfl|rfl|rfl|rfl
  ·exact⟨7,rfl,by lia,by lia⟩
  ·exact⟨7,rfl,by lia,by lia⟩
  ·exact⟨11,rfl,by lia,by lia⟩
  ·exact⟨41,rfl,by lia,by lia⟩
 refine⟨trivial,rfl,trivial,m,rfl,m0,by lia,λn j0 j1=>?_⟩
 refine⟨_,rfl,trivial,_,rfl,_,rfl,jX (λh=>?_) (λh=>?_)⟩
 ·exact⟨_,rfl,trivial,XG _,trivial,lb,trivial,rfl,q n [] j0 (by lia) ⟨by simp,bx.nil,List.Pairwise.nil,YF⟩⟩
 ·exact⟨_,rfl,trivial,rfl,_,rfl,trivial,rfl,trivial,n,rfl,by lia,by lia,λts jY=>⟨trivial,lb,trivial,rfl,q n ts j0 (by lia) jY⟩⟩
end
end jB
namespace L2.Q
open PySem PySem.Spec PySem.SeqAt PyProof.Rows
theorem zd (ns:List Int)(lo hi:Option Int):∃ms:List Int,t9 (ns.map V.int) lo hi=ms.map V.int/\ms.length<=ns.length:=by
 refine⟨(ns.drop (HT.lY (ns.map V.int).length 0 lo)).take (HT.lY (ns.map V.int).length (ns.map V.int).length hi-HT.lY (ns.map V.int).length 0 lo),?_,?_⟩
 ·unfold t9;rw[List.map_take,List.map_drop]
 ·rw[X_,Z7];lia
section
variable {P:Xz}{w:XT}
theorem b9 {W:Addr->Prop}{H:Hp}:∀ns:List Int,ai P w W H (ns.map D.int) (ns.map V.int)
 |[]=>rfl
 |n::ns=>⟨_,_,rfl,rfl,b9 ns⟩
theorem DP {N:List Str}{vs:List V}{H H':Hp}{n:Nat}{ro:Bool}{U:Addr->Prop}(hl:(L2.start N vs).length=n)(sm:au H H'):b5 P w ⟨H,λ_=>False,ro,U⟩ (L2.start N vs) H' (Yl n none) (λ_=>[]) :=
 ⟨by rw[hl,List.length_replicate],λi y d h=>(fW h).elim,λi d h=>(fW h).elim,λi ok h=>(fW h).elim,λi a h=>(nomatch h),λi j a h=>(nomatch h),λi=>YF,sm.kp,λa z e=>z (sm.free e),λi y d h=>(fW h).elim⟩
theorem Li {ro:Bool}{H H':Hp}{b:Bool}{v:V}(h:um P w ro H H' (.bl b) v):v=.bl b:=by
 cases ro with
 |true=>obtain⟨A,h1,_⟩:=h;exact h1.1
 |false=>exact h
end
end L2.Q
namespace L2
open PySem PySem.Spec PySem.SeqAt PyProof.Rows
abbrev HQ (n:Int)(rows:List (List Int)):D:=.tup [.int n,.lst (rows.map kD)]
theorem ya (n:Int)(rows:List (List Int)):(HQ n rows).pd.canLay0=true/\(HQ n rows).pd.depth<=4:=oF λd hd=>by
 rcases Xy.mp hd with rfl|hd
 ·exact⟨(bL n).1,Ym (bL n).2 (by decide)⟩
 ·rw[XQ.mp hd];exact ie rows
end L2
namespace L2.Q
open PySem PySem.Spec PySem.SeqAt PyProof.Rows
theorem CS {β:a7}{i j k l:Nat}{y1 y2 y3 y4:Bool}{a b c d:Int}{R:D->Kd->a7->Prop}(h1:β[i]?=some (some (.val y1 (.int a))))(h2:β[j]?=some (some (.val y2 (.int b))))(h3:β[k]?=some (some (.val y3 (.int c))))(h4:β[l]?=some (some (.val y4 (.int d))))
  (q:R (.bl (decide (a<b)&&(decide (b<c)&&decide (c<d)))) .own β):u0 (AM i) (HV OP (AM j) (HV OP (AM k) (Lu OP (AM l)))) β R:=by
 refine⟨_,h1,_,h2,_,rfl,jX (λz1=>⟨_,h3,_,rfl,jX (λz2=>⟨_,h4,_,rfl,?_⟩) (λz2=>?_)⟩) (λz1=>?_)⟩
 ·simpa[z1,z2] using q
 ·simpa[z1,z2] using q
 ·simpa[z1] using q
end L2.Q
namespace L2
open PySem PySem.Spec PyProof.Rows
section
variable {κ:Type}[DecidableEq κ]
def fO (kvs:List (κ×V))(k:κ):Option V:=(kvs.find? λkv=>decide (kv.1=k)).map (·.2)
def putK (kvs:List (κ×V))(k:κ)(v:V):List (κ×V) :=
 if (kvs.any λkv=>decide (kv.1=k))=true then kvs.map (λkv=>if kv.1=k then (kv.1,v) else kv) else kvs++[(k,v)]
theorem lH {p:κ×V}{r:List (κ×V)}{k:κ}(e:p.1=k):fO (p::r) k=some p.2:=by simp[fO,YW,e]
theorem lI {p:κ×V}{r:List (κ×V)}{k:κ}(e:¬ p.1=k):fO (p::r) k=fO r k:=by simp[fO,YW,e]
theorem lJ (k:κ):∀kvs:List (κ×V),(kvs.any λkv=>decide (kv.1=k))=(fO kvs k).isSome
 |[]=>rfl
 |p::r=>by
  rw[List.any_cons]
  by_cases e:p.1=k
  ·simp only[lH e,decide_eq_true e,Bool.true_or,Option.isSome_some]
  ·rw[lI e,decide_eq_false e,Bool.false_or];exact lJ k r
theorem sS (kvs:List (κ×V))(k:κ)(v:V):(putK kvs k v).length<=kvs.length+1:=by
 unfold putK
 split
 ·rw[Xu];lia
 ·rw[Yb,XJ,aag];lia
theorem AQ {kvs:List (κ×V)}{k:κ}(v:V)(h:fO kvs k=none):putK kvs k v=kvs++[(k,v)]:=by
 unfold putK;rw[lJ,h];exact if_neg (by decide)
theorem nv.yO {o:Option V}{u:Option Xv}(r:nv o u):o.isSome=u.isSome:=by
 cases o with
 |none=>cases u with
  |none=>rfl
  |some _=>exact(show False from r).elim
 |some _=>cases u with
  |none=>exact(show False from r).elim
  |some _=>rfl
theorem KV.val {kvs:List (κ×V)}{vs:List (κ×Xv)}(r:KV kvs vs)(k:κ):nv (fO kvs k) (valueAt vs k):=by
 unfold KV at r
 induction r with
 |nil=>exact Zw
 | @cons p q ps qs h t ih =>
  obtain⟨h1,h2⟩:=h
  by_cases e:p.1=k
  ·have e':q.1=k:=h1.symm.trans e;have b:valueAt (q::qs) k=some q.2:=by simp[valueAt,YW,e']
   rw[lH e,b];exact h2
  ·have e':¬ q.1=k:=λz=>e (h1.trans z);have b:valueAt (q::qs) k=valueAt qs k:=by simp[valueAt,YW,e']
   rw[lI e,b];exact ih
end
theorem Gr {P:Xz}{w:XT}{k:Key}{u:Xv}(r:RelV (kV k) u):(b_ P w).is k u=true:=by
 cases k with
 |inl i=>obtain⟨t,e⟩:=(show ∃t,u=Value.int i t from r);subst e;exact sD P w i t
 |inr x=>obtain⟨t,e⟩:=(show ∃t,u=Value.str x t from r);subst e;exact sC P w x t
theorem pj {P:Xz}{w:XT}:∀{ks:List Key} {us:List Xv},Vals (ks.map kV) us->ItemsAre (b_ P w) ks us
 |[],_,r=>by rw[List.map_nil]at r;cases r;exact .nil
 |k::ks,_,r=>by
  rw[X5]at r;cases r with
  |cons h t=>exact .cons (Gr h) (pj t)
abbrev KT (H:Hp):List (List Key×V)->List (List Key×Addr×Xv)->Prop:=Paired λp q=>p.1=q.1/\H q.2.1=some (.tup (p.1.map kV))/\RelV p.2 q.2.2
theorem KT.val {H:Hp}{kvs:List (List Key×V)}{xs:List (List Key×Addr×Xv)}(r:KT H kvs xs)(k:List Key):nv (fO kvs k) ((atKey xs k).map (·.2)):=by
 induction r with
 |nil=>exact Zw
 | @cons p q ps qs h t ih =>
  obtain⟨h1,_,h2⟩:=h
  by_cases e:p.1=k
  ·have e':q.1=k:=h1.symm.trans e;have b:atKey (q::qs) k=some q.2:=by simp[atKey,YW,e']
   rw[lH e,b];exact h2
  ·have e':¬ q.1=k:=λz=>e (h1.trans z);have b:atKey (q::qs) k=atKey qs k:=by simp[atKey,YW,e']
   rw[lI e,b];exact ih
theorem KT.Pw {H:Hp}{kvs:List (List Key×V)}{xs:List (List Key×Addr×Xv)}(r:KT H kvs xs)(k:List Key){y:V}{u:Xv}(ry:RelV y u):
  KT H (kvs.map λkv=>if kv.1=k then (kv.1,y) else kv) (xs.map (putAt k u)):=by
 induction r with
 |nil=>exact .nil
 | @cons p q ps qs h t ih =>
  rw[X5,X5];refine .cons ?_ ih;obtain⟨h1,h2,h3⟩:=h;unfold putAt
  by_cases e:p.1=k
  ·rw[if_pos e,if_pos (h1.symm.trans e)];exact⟨h1,h2,ry⟩
  ·rw[if_neg e,if_neg (λz=>e (h1.trans z))];exact⟨h1,h2,h3⟩
theorem KT.put {H:Hp}{kvs:List (List Key×V)}{xs:List (List Key×Addr×Xv)}(r:KT H kvs xs)(k:List Key){b:Addr}{y:V}{u:Xv}(hb:H b=some (.tup (k.map kV)))(ry:RelV y u):
  KT H (putK kvs k y) (storedH xs k b u):=by
 have e:(kvs.any λkv=>decide (kv.1=k))=(atKey xs k).isSome:=by
  rw[lJ,(r.val k).yO,Option.isSome_map]
 unfold putK storedH;rw[e]
 by_cases q:(atKey xs k).isSome=true
 ·rw[if_pos q,if_pos q];exact r.Pw k ry
 ·rw[if_neg q,if_neg q];exact Paired.snoc r ⟨rfl,hb,ry⟩
theorem KT.keeps {H H':Hp}{kvs:List (List Key×V)}{xs:List (List Key×Addr×Xv)}(r:KT H kvs xs)(ht:∀b ys,H b=some (.tup ys)->H' b=some (.tup ys)):KT H' kvs xs :=
 Paired.IF r λ_ _ z=>⟨z.1,ht _ _ z.2.1,z.2.2⟩
section
variable {P:Xz}{w:XT}{H:Hp}{h:Heap}{a:Addr}
theorem F8 {u:HO}(ok:iI P w H h)(e:Rd H a u):bb P w H h a u:=e.ok ok
theorem GX {kvs:List (Key×V)}(ok:iI P w H h)(e:Rd H a (.dK kvs)):kvs.length<=XO/\(a==aan)=false/\∃vs,KV kvs vs/\h.DictOf (b_ P w) a vs :=
 show bb P w H h a (.dK kvs) from F8 ok e
theorem vq {ks:List Key}(ok:iI P w H h)(e:H a=some (.tup (ks.map kV))):(aaV (b_ P w)).is h ks a:=by
 obtain⟨_,its,r,o,h1,h2,n,h3⟩:=(show bb P w H h a (.tup (ks.map kV)) from ok a _ e)
 exact⟨o,its.toArray,n,h1,h2,h3,by simpa using pj r⟩
theorem CC {kvs:List (List Key×V)}(ok:iI P w H h)(e:Rd H a (.dT kvs)):kvs.length<=XO/\(a==aan)=false /\
  ∃xs,KT H kvs xs/\h.DictOfH (aaV (b_ P w)) a xs:=by
 obtain⟨z,y,xs,r,o,es,ep,h1,h2,h3,h4,h5⟩:=(show bb P w H h a (.dT kvs) from F8 ok e)
 refine⟨z,y,xs,r,o,es,ep,h1,h2,h3,h4,λx hx=>?_,h5⟩;have all:∀{l:List (List Key×V)} {m:List (List Key×Addr×Xv)},KT H l m->∀x∈m,(aaV (b_ P w)).is h x.1 x.2.1:=by
  intro l m q
  induction q with
  |nil=>intro x hx;exact nomatch hx
  | @cons p q ps qs hq t ih =>
   intro x hx;rcases Xy.mp hx with e|hx
   ·subst e;exact vq ok (by rw[<- hq.1];exact hq.2.1)
   ·exact ih x hx
 exact all r x hx
theorem ND {kvs:List (List Key×V)}(ok:iI P w H h)(e:H a=some (.dT kvs)):kvs.length<=XO/\(a==aan)=false /\
  ∃xs,KT H kvs xs/\h.DictOfH (aaV (b_ P w)) a xs:=CC ok (.inl e)
end
def zB (H:Hp)(a:Addr)(y:V)(r:Option V):Prop :=
 (∃kvs k,Rd H a (.dK kvs)/\y=kV k/\r=fO kvs k)\/∃kvs k b,Rd H a (.dT kvs)/\y=.ref b/\H b=some (.tup (k.map kV))/\r=fO kvs k
theorem zB.t {H:Hp}{a b:Addr}{kvs:List (List Key×V)}{k:List Key}(e:H a=some (.dT kvs))(eb:H b=some (.tup (k.map kV))):zB H a (.ref b) (fO kvs k):=.inr ⟨kvs,k,b,.inl e,rfl,eb,rfl⟩
section
variable {X:Cx}{pins:List (Addr×Obj)}{σ:St}{H:Hp}{s:Xw}{a:Addr}{y v:V}{u:Xv}{o:Option V}{A:Yv}{E:Xv->Xw->Prop}
theorem Inv.big (I:Inv X pins σ H s):aan<s.heap.objs.size:=by
 have h:Zy<s.heap.objs.size:=(I.mod.glob.keeps I.bk).lt;exact Nat.lt_trans (by decide) h
theorem zb {Q:Xv->Xw->Prop}(hu:A.units+1<ZQ)(I:Inv X pins σ H s)(g:zB H a y (some v))(ry:RelV y u)(h:∀w' s',Inv X pins σ H s'->RelV v w'->Q w' s'):
  X4 (model X.prog X.w) A (getItem (.ref a) u) Q E s:=by
 rcases g with⟨kvs,k,e,ey,l⟩|⟨kvs,k,b,e,ey,eb,l⟩
 ·subst ey;obtain⟨z,hd,vs,rel,dd⟩:=GX I.bt e;obtain⟨w',hw,Di⟩:=nv.some_of (v:=v) (o:=valueAt vs k) (by rw[l];exact rel.val k)
  exact wpAny_getItem_of (Gr ry) dd.mapOf hw (h w' _ (I.tok _) Di)
 ·subst ey;cases (show u=Value.ref b from ry)
  obtain⟨z,hd,xs,rel,dd⟩:=CC I.bt e;obtain⟨w',hw,Di⟩:=nv.some_of (v:=v) (o:=(atKey xs k).map (·.2)) (by rw[l];exact rel.val k)
  obtain⟨p,hp,OA⟩:=XY.mp hw;refine wpAny_getItem_heap (tupleKind_room_in1 hu) (vq I.bt eb) dd hp ?_;rw[OA];exact h w' _ (I.tok _) Di
theorem FG {h':Heap}{t':Nat}{ob:HO}(I:Inv X pins σ H s)(mu:N5 (H a))(hs:Zh a s.heap h')(he:∃q,h'.get? a=some q)(new:bb X.prog X.w (upd H a ob) h' a ob):
  Inv X pins σ (upd H a ob) {s with heap:=h',toks:=t'} :=
 I.write (x:=a) (e:=a) mu (.inl rfl) (λb q hb z=>(hs.2 b hb).trans z) he new
end
section
end
theorem tZ {X:Cx} {pins:List (Addr×Obj)} {σ:St} {H:Hp} {s:Xw} {a:Addr} {y:V} {o:Option V} (I:Inv X pins σ H s) (g:zB H a y o):s.TypeIs (.ref a) "dict" := by
 rcases g with⟨kvs,k,e,_,_⟩|⟨kvs,k,b,e,_,_,_⟩
 ·obtain⟨_,_,vs,_,dd⟩:=GX I.bt e;exact dd.typeIs
 ·obtain⟨_,_,xs,_,dd⟩:=CC I.bt e;exact dd.typeIs
section
end
theorem CD {P:Xz}{w:XT}{H:Hp}(h:Heap)(hb:aan<h.objs.size):bb P w H (h.push {cls:=.type "dict",data:=.dict #[]}) h.objs.size (.dT []) :=
 ⟨XG _,beq_eq_false_iff_ne.mpr (YS (Yc hb)),[],.nil,_,#[],0,X6 _ rfl,⟨rfl,rfl,rfl⟩,rfl,rfl,YF⟩
section
end
section
end
section
end
section
end
section
end
section
end
section
variable {κ:Type}[DecidableEq κ]
end
end L2
namespace L2.Q
open PySem PySem.Spec PySem.SeqAt PyProof.Rows
theorem _root_.L2.cT.zZ {k:Nat}{A:Yv}(r:cT k A):A.units+1<ZQ:=by have:=r.un;lia
def iK (t:List Int):List Key:=t.map Sum.inl
theorem Jf {t u:List Int}(h:iK t=iK u):t=u:=by
 unfold iK at h
 induction t generalizing u with
 |nil=>cases u with|nil=>rfl|cons _ _=>cases h
 |cons a t ih =>
  cases u with
  |nil=>cases h
  |cons b u =>
   rw[X5,X5]at h;injection h with h1 h2
   injection h1 with h1
   rw[h1,ih h2]
theorem Gx (t:List Int):(iK t).map kV=t.map V.int:=by
 unfold iK;rw[YB];rfl
section
end
section
end
end L2.Q
namespace L2
open PySem PySem.Spec PySem.SeqAt PyProof.Rows
theorem J_:Yx "sum" = some (.builtin "sum"):=by decide +kernel
def D.int?:D->Option Int
 |.int i=>some i
 |_=>none
def D.vn:D->Option (List D)
 |.lst ds=>some ds
 |_=>none
theorem D.xc {d:D}{i:Int}(h:d.int?=some i):d=.int i:=by
 cases d <;> first|(cases h;rfl)|cases h
theorem D.lr {d:D}{ds:List D}(h:d.vn=some ds):d=.lst ds:=by
 cases d <;> first|(cases h;rfl)|cases h
def kQ:List D->Option (List Int)
 |[]=>some []
 |d::ds=>d.int?.bind λi=>(kQ ds).map (i::·)
theorem m9:∀{ds:List D} {ns:List Int},kQ ds=some ns->ds=ns.map D.int
 |[],_,h=>by cases h;rfl
 |d::ds,ns,h=>by
  obtain⟨i,h1,h2⟩:=Yw.mp h;obtain⟨ms,h3,rfl⟩:=XY.mp h2;rw[D.xc h1,m9 h3];rfl
theorem j5:∀ns:List Int,kQ (ns.map D.int)=some ns
 |[]=>rfl
 |n::ns=>by
  show (some n).bind (λi=>(kQ (ns.map D.int)).map (i::·))=_;rw[j5 ns];rfl
def c0 (f:List Int->Option Int):List D->Option D
 |[d]=>d.vn.bind λds=>(kQ ds).bind λns=>(f ns).map D.int
 |_=>none
theorem m8 {f:List Int->Option Int}{ds:List D}{d:D}(h:c0 f ds=some d):∃ns i,ds=[.lst (ns.map D.int)]/\f ns=some i/\d=.int i:=by
 cases ds with
 |nil=>cases h
 |cons x r =>
  cases r with
  |cons _ _=>cases h
  |nil =>
   obtain⟨es,h1,h2⟩:=Yw.mp h;obtain⟨ns,h3,h4⟩:=Yw.mp h2;obtain⟨i,h5,rfl⟩:=XY.mp h4;exact⟨ns,i,by rw[D.lr h1,m9 h3],h5,rfl⟩
theorem iD {f:List Int->Option Int}{ns:List Int}{i:Int}(h:f ns=some i):c0 f [.lst (ns.map D.int)]=some (.int i):=by
 show (some (ns.map D.int)).bind (λds=>(kQ ds).bind λns=>(f ns).map D.int)=_;rw[Zg,j5,Zg,h];rfl
def fA:List Int->Option Int
 |[]=>none
 |n::ns=>some (ns.foldl max n)
theorem bX:∀(ns:List Int) (n:Int),(ns.foldl max n∈n::ns)/\∀x∈n::ns,x<=ns.foldl max n
 |[],n=>⟨by simp,λx hx=>by simp at hx;rw[hx];exact Int.le_refl _⟩
 |m::ns,n=>by
  obtain⟨h1,h2⟩:=bX ns (max n m);have hm:max n m<=ns.foldl max (max n m):=h2 _ (by simp)
  refine⟨?_,λx hx=>?_⟩
  ·rw[aav];rcases Xy.mp h1 with h|h
   ·rw[h]
    by_cases q:n<=m
    ·rw[show max n m=m by lia];simp
    ·rw[show max n m=n by lia];simp
   ·simp[h]
  ·rw[aav];rcases Xy.mp hx with rfl|hx
   ·lia
   ·rcases Xy.mp hx with rfl|hx
    ·lia
    ·exact h2 x (by simp[hx])
section
variable {X:Cx}
theorem ia:∀{ns:List Int} {us:List Xv},Vals (ns.map V.int) us->∃xs:Array (Int×Tok),us.toArray=intItems xs/\xs.toList.map (·.1)=ns
 |[],_,h=>by cases h;exact⟨#[],by simp[intItems],rfl⟩
 |n::ns,_,h=>by
  cases h with
  |cons h1 h2 =>
   obtain⟨t,rfl⟩:=h1;obtain⟨xs,e1,e2⟩:=ia h2;refine⟨⟨(n,t)::xs.toList⟩,?_,by simp[e2]⟩
   have:=congrArg Array.toList e1;simp[intItems]at this ⊢
   exact this
theorem jM {xs:Array (Int×Tok)}{ns:List Int}(e:xs.toList.map (·.1)=ns)(i:Nat):numAt xs i=ns.getD i 0:=by
 subst e;unfold numAt;rw[YZ,XM,X0]
theorem FX {xs:Array (Int×Tok)}{ns:List Int}(e:xs.toList.map (·.1)=ns){i:Nat}{v:Xv}(h:(intItems xs)[i]?=some v):RelV (.int (ns.getD i 0)) v:=by
 obtain⟨t,rfl⟩:=intItems_at h;exact⟨t,by rw[jM e]⟩
theorem ints_size {xs:Array (Int×Tok)}{ns:List Int}(e:xs.toList.map (·.1)=ns):xs.size=ns.length:=by rw[<- e];simp
theorem zj (hc:X.calm=true):bG X (.builtin "sum") (c0 λns=>some ns.sum):=by
 intro pins s σ H xs us Q I r h;obtain⟨W,ds,d,hd,r1,e,q⟩:=h;obtain⟨ns,i,rfl,e1,rfl⟩:=m8 e;cases e1;obtain⟨x,rfl,p,vs,rfl,h1,n1,q1⟩:=jx r1;obtain⟨u,rfl,ru⟩:=vals1 r;cases ru;rw[b9 q1]at h1;obtain⟨its,r2,ht,hz⟩:=I.list (c6.of h1);obtain⟨ys,e1,e2⟩:=ia r2;refine sum_intListG (I.ok.hd hc) (xs:=ys) (by rw[<- e1];exact ht.isList) λh' tk t' k=>⟨.int ns.sum,H,I.kept k,⟨t',?_⟩,q _ _ (au.refl _) rfl⟩
 rw[preSum_eq,Za (by simp),e2]
theorem j8 (hc:X.calm=true):bG X (.builtin "max") (c0 fA):=by
 intro pins s σ H xs us Q I r h;obtain⟨W,ds,d,hd,r1,e,q⟩:=h;obtain⟨ns,i,rfl,e1,rfl⟩:=m8 e;obtain⟨x,rfl,p,vs,rfl,h1,n1,q1⟩:=jx r1;obtain⟨u,rfl,ru⟩:=vals1 r;cases ru;rw[b9 q1]at h1;obtain⟨its,r2,ht,hz⟩:=I.list (c6.of h1);obtain⟨ys,Sd,e2⟩:=ia r2;have hs:=ints_size e2;cases ns with
 |nil=>cases e1
 |cons n ns =>
  rw[XJ]at hs;refine max_intList (I.ok.hd hc) (xs:=ys) (by rw[<- Sd];exact ht.isList) (by lia) λv h' tk hv k=>⟨.int i,H,I.kept k,?_,q _ _ (au.refl _) rfl⟩
  have hr:=FX e2 hv;obtain⟨g1,g2⟩:=argBest_gt (numAt ys) (ys.size-1);generalize argBest (λi j=>decide (numAt ys i>numAt ys j)) (ys.size-1)=b at *
  have hb:b<(n::ns).length:=by rw[XJ];lia
  have:(n::ns).getD b 0=i:=by
   cases e1;obtain⟨f1,f2⟩:=bX ns n;have hle:∀x∈n::ns,x<=(n::ns).getD b 0:=λx hx=>by
    obtain⟨j,hj,rfl⟩:=List.getElem_of_mem hx;have:=g2 j (by rw[XJ]at hj;lia)
    rw[jM e2,jM e2]at this;rw[YZ,XH hj]at this;exact this
   have iA:(n::ns).getD b 0∈n::ns:=by
    rw[YZ,XH hb];exact ZG hb
   have:=hle _ f1;have:=f2 _ iA;lia
  rw[<- this];exact hr
end
end L2
namespace L2.Q
open PySem PySem.Spec PySem.SeqAt PyProof.Rows
def dA (kvs:List (List Int×D)):D:=.dT (kvs.map λp=>iK p.1) (kvs.map (·.2))
def kS (kvs:List (List Int×D))(t:List Int):Option D:=(kvs.find? λp=>decide (p.1=t)).map (·.2)
def _root_.L2.D.Mj:D->Option (List (List Key)×List D)
 |.dT ks ds=>some (ks,ds)
 |_=>none
theorem E8 {d:D}{ks:List (List Key)}{ds:List D}(h:d.Mj=some (ks,ds)):d=.dT ks ds:=by
 cases d <;> first|(cases h;rfl)|cases h
def uK (ks:List (List Key))(ds:List D)(k:List Key):Option D:=((ks.zip ds).find? λp=>decide (p.1=k)).map (·.2)
theorem E6 {d:D}{es:List D}(h:d.Mi=some es):d=.tup es:=by
 cases d <;> first|(cases h;rfl)|cases h
def FJ (a b:D):Option ((List (List Key)×List D)×List Int):=a.Mj.bind λp=>b.Mi.bind λes=>(kQ es).map λt=>(p,t)
theorem FI {a b:D}{ks:List (List Key)}{ds:List D}{t:List Int}(h:FJ a b=some ((ks,ds),t)):a=.dT ks ds/\b=.tup (t.map D.int):=by
 obtain⟨p,h1,h2⟩:=Yw.mp h;obtain⟨es,h3,h4⟩:=Yw.mp h2;obtain⟨t',h5,h6⟩:=XY.mp h4;cases h6;exact⟨E8 h1,by rw[E6 h3,m9 h5]⟩
theorem FH {kvs:List (List Int×D)}{t:List Int}:FJ (dA kvs) (.tup (t.map D.int))=some ((kvs.map λp=>iK p.1,kvs.map (·.2)),t):=by
 show (some _).bind (λp=>(some (t.map D.int)).bind λes=>(kQ es).map λt=>(p,t))=_;rw[Zg,Zg,j5];rfl
theorem uJ {t:List Int}:∀{kvs:List (List Int×D)},uK (kvs.map λp=>iK p.1) (kvs.map (·.2)) (iK t)=kS kvs t
 |[]=>rfl
 |p::kvs=>by
  have ih:=uJ (t:=t) (kvs:=kvs);unfold uK kS at *
  rw[X5,X5,ZM,YW,YW]
  by_cases h:p.1=t
  ·rw[decide_eq_true (congrArg iK h),decide_eq_true h];rfl
  ·rw[decide_eq_false (λz=>h (Jf z)),decide_eq_false h];exact ih
def xC (a b:D):Option D:=(FJ a b).bind λz=>uK z.1.1 z.1.2 (iK z.2)
theorem FN {kvs:List (List Int×D)}{t:List Int}:xC (dA kvs) (.tup (t.map D.int))=kS kvs t:=by
 unfold xC;rw[FH,Zg];exact uJ
section
variable {P:Xz}{w:XT}{W:Addr->Prop}{H:Hp}
theorem ql {k:List Key}:∀{ks:List (List Key)} {ds:List D} {vs:List V},ks.length=vs.length->ai P w W H ds vs->(fO (ks.zip vs) k).isSome=(uK ks ds k).isSome/\∀d,uK ks ds k=some d->∃v,fO (ks.zip vs) k=some v/\ay P w W H d v
 |[],ds,vs,_,_=>by
  unfold fO uK;rw[aaN,aaN];exact⟨rfl,λd h=>by cases h⟩
 |k'::ks,[],_,l,h=>by rw[show _=([]:List V) from h]at l;cases l
 |k'::ks,d::ds,_,l,⟨v,r,e,h1,h2⟩=>by
  subst e;obtain⟨i1,i2⟩:=ql (k:=k) (ks:=ks) (Nat.succ.inj l) h2;unfold fO uK at *
  rw[ZM,ZM,YW,YW]
  by_cases hk:k'=k
  ·rw[decide_eq_true hk];exact⟨rfl,λd' e=>by cases e;exact⟨v,rfl,h1⟩⟩
  ·rw[decide_eq_false hk];exact⟨i1,i2⟩
end
section
variable {X:Cx}
theorem Ja {W:Addr->Prop}{H:Hp}{a b:D}{x y:V}{ks:List (List Key)}{ds:List D}{t:List Int}(h:FJ a b=some ((ks,ds),t))(r1:Rp X W H a x)(r2:Rp X W H b y):∃p vs,x=.ref p/\zB H p y (fO (ks.zip vs) (iK t))/\ks.length=vs.length/\ai X.prog X.w W H ds vs:=by
 obtain⟨rfl,rfl⟩:=FI h;obtain⟨p,vs,rfl,e1,l,n,rs⟩:=r1;obtain⟨q,us,rfl,e2,rt⟩:=r2;rw[L2.b9 rt]at e2;exact⟨p,vs,rfl,zB.t e1 (by rw[Gx];exact e2),l,rs⟩
theorem Mb (hu:X.A.units+1<ZQ):G9 X (AK X xC NF):=by
 intro value slice pins s σ H x y v u Q I rx ry h hs;obtain⟨W,d1,d2,d,hd,r1,r2,e,q⟩:=h;obtain⟨⟨⟨ks,ds⟩,t⟩,h1,h2⟩:=Yw.mp e;obtain⟨p,vs,rfl,g,l,rs⟩:=Ja h1 r1 r2;obtain⟨w',hw,Di⟩:=(ql l rs).2 d h2;rw[hw]at g;cases (show v=Value.ref p from rx)
 exact tail_any (tZ I g) PySem.F.slot_dict_getitem.lookup (zb hu I g ry λu' s' I' r'=>⟨w',H,I',r',q w' H (au.refl _) Di λf=>ay.flat f Di⟩) hs
end
theorem Ii {P:Xz}{w:XT}{H:Hp}{kvs:List (List Int×D)}{a:Addr}{vs:List V}{A:List Addr}(h:H a=some (.dT ((kvs.map λp=>iK p.1).zip vs)))(o:aK P w H (kvs.map (·.2)) vs A):Own P w H (dA kvs) (.ref a) (a::A) :=
 ⟨a,vs,A,rfl,h,by rw[Xu,o.length,Xu],rfl,o⟩
theorem Ho {P:Xz}{w:XT}{H:Hp}{kvs:List (List Int×D)}{vs:List V}{A:List Addr}{t:List Int}(o:aK P w H (kvs.map (·.2)) vs A)(h:kS kvs t=none):fO ((kvs.map λp=>iK p.1).zip vs) (iK t)=none:=by
 have:=(ql (k:=iK t) (ks:=kvs.map λp=>iK p.1) (W:=λ_=>False) (by rw[Xu,o.length,Xu]) (o.rep λc _ z=>z)).1
 rw[uJ,h]at this;exact Option.isNone_iff_eq_none.mp (by rw[<- Option.not_isSome,this];rfl)
section
end
end L2.Q
namespace L2
open PySem PySem.Spec PySem.SeqAt PyProof.Rows
def OW (lo:Int)(n:Nat):It:=⟨λi _=>i<n,λi H x H'=>H'=H/\x=.int (lo-i),λi _=>n<=i⟩
theorem rA {P:Xz}{w:XT}{K:PySem.W.Frag}{tg:Expr}(it:Addr)(lo:Int)(n:Nat):Turn P w K tg (OW lo n) [it] it (λi h=>IsRangeIter h it (lo+(i:Nat)*(-1)) ((n:Int)-(i:Nat)) (-1)) where
 mem:=by simp
 obj:=λi h st b hb=>by
  have e:b=it:=by simpa using hb
  subst e;exact⟨_,st,λv z=>by
   have z':Data.fields _=Data.cell v:=z;cases z'⟩
 keep:=λi h h' st k=>k it (by simp) _ st
 item:=by
  intro X hP hw hK hc i pins s σ H E I hf st hg;subst hP hw hK;obtain⟨f0,f1,f2,f3,f4,f5⟩:=hf it (by simp)
  have W:=Walks.range (prog:=X.prog) (w:=X.w) (I.ok.hd hc) it lo (-1) n;refine W.item i s _ _ hg st λv h' tk hv aB kk=>?_;obtain⟨t,rfl⟩:=hv;have I1:Inv X pins σ H {s with heap:=h',toks:=tk}:=I.turned (λb o hb e=>kk b o (by simpa using hb) e) f0 f1 f3 f4 f5
  refine⟨_,rfl,Cf (s:={s with heap:=h',toks:=tk}) (n:="range_iterator") aB rfl rfl (by decide) ⟨.int (lo-i),H,I1,⟨t,?_⟩,⟨rfl,rfl⟩,aB,λb hb=>(hf b hb).1⟩⟩
  rw[Int.mul_neg,Int.mul_one];rfl
 done:=by
  intro X hP hw hK hc i pins s σ H E I hf st hg;subst hP hw hK;obtain⟨f0,f1,f2,f3,f4,f5⟩:=hf it (by simp)
  exact wpAny_pyNext_range_end (I.ok.hd hc) st (by have:n<=i:=hg;lia) λh' eb=>⟨rfl,I.turned (t':=s.toks) (λb o hb e=>eb b o hb e) f0 f1 f3 f4 f5⟩
 self:=λ_ _ _ _ _ st h=>wpAny_pyIter_rangeiter st h
theorem gU (a b:Int):aai a b (-1)=if b<a then a-b else 0:=by
 unfold aai;rw[if_neg (by decide)]
 by_cases h:b<a
 ·rw[if_pos h,if_pos h,show -(-1:Int)=1 by decide,Int.ediv_one];lia
 ·rw[if_neg h,if_neg h]
theorem yb {a b:Int}(ha:-(2 ^ 62)<=a)(xi:a<2 ^ 62)(hb:-(2 ^ 62)<=b)(nR:b<2 ^ 62):Builtin.Range.small a b (-1)=true:=by
 unfold Builtin.Range.small;rw[gU];simp only[Builtin.Range.rangeFitsLong,Yn,Bool.or_eq_true,decide_eq_true_eq,beq_iff_eq,show ¬ ((-1:Int)>0) by decide,if_false]
 split <;> lia
section
variable {X:Cx}{tg:Expr}
theorem yn {pins:List (Addr×Obj)}{σ:St}{H:Hp}{s:Xw}{R:It->Hp->Prop}{E:Xv->Xw->Prop}{lo hi:Int}{t u v:Tok}{tk:Nat}(I:Inv X pins σ H s)(h1:-(2 ^ 62)<=lo)(h2:lo<2 ^ 62)(h3:-(2 ^ 62)<=hi)(h4:hi<2 ^ 62)
  (q:R (OW lo (lo-hi).toNat) H):X4 (model X.prog X.w) X.A (pyIter (.ref s.heap.objs.size)) (KQ X pins σ tg R) E {s with heap:=s.heap.push {cls:=.type "range",data:=.fields #[.int lo t,.int hi u,.int (-1) v]},toks:=tk}:=by
 refine wpAny_pyIter_range (IsRange.new ..) (yb h1 h2 h3 h4) ?_;have I1:Inv X pins σ H {s with heap:=s.heap.push {cls:=.type "range",data:=.fields #[.int lo t,.int hi u,.int (-1) v]},toks:=tk}:=I.kept λb o e=>XA _ e
 refine⟨(s.heap.push {cls:=.type "range",data:=.fields #[.int lo t,.int hi u,.int (-1) v]}).objs.size,[(s.heap.push {cls:=.type "range",data:=.fields #[.int lo t,.int hi u,.int (-1) v]}).objs.size],_,_,H,rfl,
  I1.kept (t':=tk) λb o e=>XA _ e,rA _ lo (lo-hi).toNat,?_,λb hb=>?_,q⟩
 ·have e1:lo+((0:Nat):Int)*(-1)=lo:=by simp
  have e2:(((lo-hi).toNat:Nat):Int)-((0:Nat):Int)=aai lo hi (-1):=by rw[gU];split <;> lia
  show IsRangeIter _ _ (lo+((0:Nat):Int)*(-1)) ((((lo-hi).toNat:Nat):Int)-((0:Nat):Int)) (-1);rw[e1,e2];exact X6 _ rfl
 ·have e:b=(s.heap.push {cls:=.type "range",data:=.fields #[.int lo t,.int hi u,.int (-1) v]}).objs.size:=by simpa using hb
  subst e;exact I1.Cm (Xx _) (I1.bt.fresh (Xx _))
def Mk (ta:TA):TI:=λσ H R=>ta σ H λvs H1=>∃i j:Int,vs=[.int i,.int j,.int (-1)]/\(-(2 ^ 62)<=i/\i<2 ^ 62/\-(2 ^ 62)<=j/\j<2 ^ 62)/\R (OW i (i-j).toNat) H1
theorem yu {a b c:Expr} {ta:TA} {p pos:Pos} (hg:Gl X "range") (hm:X.mg "range" = none) (ha:PA X [a,b,c] ta) (hs:XZ [a,b,c] X.env=[(false,eval a X.env),(false,eval b X.env),(false,eval c X.env)]:=by rfl) (uv:XZ [b,c] X.env=[(false,eval b X.env),(false,eval c X.env)]:=by rfl) :
  PI X tg (.Call (.Name "range" p) [a,b,c] [] pos) (Mk ta):=by
 intro pins s σ H R I h;refine Call_ (iu I hg hm boot_range (Zr (bF (ha pos pins s σ H _ I h) λus s1 ⟨vs,H1,I1,r1,q1⟩=>?_) (by rw[hs,uv]) (by rw[uv];rfl)))
 obtain⟨i,j,e,⟨q1,q2,q3,q4⟩,q⟩:=q1;subst e;cases r1 with
 |cons r rr =>
  cases rr with
  |cons r' rr =>
   cases rr with
   |cons S7 rr =>
    cases rr;obtain⟨t,rfl⟩:=r;obtain⟨t',rfl⟩:=r';obtain⟨W4,rfl⟩:=S7;exact call_range_3 (by decide) (yn I1 q1 q2 q3 q4 q) (.inl (PyProof.noPylong_of_log2 (by decide +kernel)))
def yj (hi:Int)(n:Nat):List D:=(XD n).map λ(k:Nat)=>D.int (hi-(k:Int))
theorem l0 {hi:Int}{n i:Nat}{d:D}(h:(yj hi n)[i]?=some d):i<n/\d=.int (hi-i):=by
 unfold yj at h;rw[XM]at h
 by_cases hi:i<n
 ·rw[Zo hi]at h;cases h;exact⟨hi,rfl⟩
 ·rw[Ys (by simpa using hi)]at h;cases h
theorem lZ {hi:Int}{n:Nat}:(yj hi n).length=n:=by unfold yj;simp
theorem vt {W:Addr->Prop}{H:Hp}{lo:Int}{n:Nat}:xQ X W (OW lo n) (yj lo n) H:=λ_ _ i H' k=>by
 constructor
 ·intro d hd;obtain⟨hi,rfl⟩:=l0 hd;refine⟨hi,λx H1 y=>?_⟩;obtain⟨rfl,rfl⟩:=y;exact⟨au.refl _,rfl⟩
 ·intro hl;rw[lZ]at hl;exact hl
end
end L2
namespace L2.Q
open PySem PySem.Spec PySem.SeqAt PyProof.Rows
section
variable {X:Cx}{C:Cfg}{tg a b c:Expr}{φs:cO}{p:Bool}{pp pos:Pos}
def E9 (φs:cO):cv:=λβ R=>φs β λds _ β'=>∃i j:Int,ds=[.int i,.int j,.int (-1)]/\(-(2 ^ 62)<=i/\i<2 ^ 62/\-(2 ^ 62)<=j/\j<2 ^ 62)/\R (yj i (i-j).toNat) .dN β'
theorem NW {W:Addr->Prop}{H:Hp}{a b c:D}{xs:List V}(h:jy X W H [a,b,c] xs):∃x y z,xs=[x,y,z]/\Rp X W H a x/\Rp X W H b y/\Rp X W H c z:=by
 obtain⟨x,r,rfl,hx,y,r',rfl,hy,z,S7,rfl,hz,hr⟩:=h;cases hr;exact⟨x,y,z,rfl,hx,hy,hz⟩
theorem l4 (hm:X.mg "range" = none) (ha:uA X C p [a,b,c] φs) (hg:Gl X "range" := by rfl) (hs:XZ [a,b,c] X.env=[(false,eval a X.env),(false,eval b X.env),(false,eval c X.env)]:=by rfl) (uv:XZ [b,c] X.env=[(false,eval b X.env),(false,eval c X.env)]:=by rfl) :
  vY X C p tg (.Call (.Name "range" pp) [a,b,c] [] pos) (E9 φs) :=
 ⟨λβ R R' k q=>ha.mono β _ _ (λd kd β' h=>by obtain⟨i,j,e,h1,q⟩:=h;exact⟨i,j,e,h1,k _ _ _ q⟩) q,(yu hg hm ha.pa hs uv).pre λσ H R h=>by
  obtain⟨β,own,s,q⟩:=h;refine we.of ha s q λds ks β' vs H1 aC h o1 r1=>?_;obtain⟨i,j,e,h1,q1⟩:=h;subst e;obtain⟨x,y,z,rfl,hx,hy,hz⟩:=NW r1.jH;cases hx;cases hy;cases hz;exact⟨i,j,rfl,h1,q1 _ _ aC o1 vt⟩⟩
end
structure Up (X:Cx)(C:Cfg)(tg iter:Expr)(ι:cv):Prop where
 mono:∀β R R',(∀d k β,R d k β->R' d k β)->ι β R->ι β R'
 pi:PI X tg iter λσ H R=>∃β own,SQ X C σ H β own/\ι β λds k β'=>∀J H',au H H'->SQ X C σ H' β' own->xQ X (fU C (Wn own) k) J ds H'->R J H'
section
variable {X:Cx}{C:Cfg}{tg a b:Expr}{φs:cO}{pp pos:Pos}{i:Nat}{x:Str}
theorem u7 (hm:X.mg "range" = none) (ha:uA X C true [a,b] φs) (hg:Gl X "range" := by rfl) (hs:XZ [a,b] X.env=[(false,eval a X.env),(false,eval b X.env)]:=by rfl) (uv:XZ [b] X.env=[(false,eval b X.env)]:=by rfl) :
  Up X C tg (.Call (.Name "range" pp) [a,b] [] pos) (xg φs) :=
 ⟨λβ R R' k q=>ha.mono β _ _ (λd kd β' h=>by obtain⟨i,j,e,h1,q⟩:=h;exact⟨i,j,e,h1,k _ _ _ q⟩) q,(oK hg hm ha.pa hs uv).pre λσ H R h=>by
  obtain⟨β,own,s,q⟩:=h;refine we.of ha s q λds ks β' vs H1 aC h o1 r1=>?_;obtain⟨i,j,e,h1,q1⟩:=h;subst e;obtain⟨s1,rfl⟩:=o1.pu rfl;obtain⟨x,y,rfl,hx,hy⟩:=pV r1.jH;cases hx;cases hy;exact⟨i,j,rfl,h1,q1 _ _ s1 o1.sq jU⟩⟩
end
structure SC (X:Cx)(C:Cfg)(W0:Addr->Prop)(T:List Nat)(σ0:St)(H1:Hp)(a:Addr)(Hb:Hp)(Wb:Addr->Prop)(Ac:Hp->Prop)(β:a7)(σ':St)(H':Hp)(own:Nat->List Addr):Prop where
 sq:SQ X (C.u λc=>c=a) σ' H' β own
 sn:Sn (H1,W0) H' (Wn own)
 le:∀c,Wn own c->Wb c
 ac:Ac H'
 pu:au H1 H'
 bs:∀b ob,b≠a->Hb b=some ob->H' b=some ob
 st:∀j,j∉T->σ'[j]?=σ0[j]?
abbrev ui {α:Type}(X:Cx)(C:Cfg)(W0:Addr->Prop)(T:List Nat)(σ0:St)(H1:Hp)(a:Addr)(Hb:Hp)(Wb:Addr->Prop)(Ac:α->Hp->Prop)(β:a7)(o:α)(σ':St)(H':Hp):Prop:=∃own,SC X C W0 T σ0 H1 a Hb Wb (Ac o) β σ' H' own
structure zD {α:Type}(a:Addr)(Ac:α->Hp->Prop):Prop where
 same:∀o H H',au H H'->Ac o H->Ac o H'
 LO:∀o H xs,Ac o H->H a≠some (.tup xs)
abbrev Km (X:Cx)(C:Cfg)(a:Addr)(T:List Nat)(γ:dw):TG:=λv σ H Q=>∃own β d k,SQ X (C.u λc=>c=a) σ H β own/\Rp X (fU (C.u λc=>c=a) (Wn own) k) H d v/\γ d k β λβ'=>∀σ' aQ,SQ X (C.u λc=>c=a) σ' H β' aQ->(∀a,Wn aQ a->Wn own a)->(∀j,j∉T->σ'[j]?=σ[j]?)->Q σ' H
abbrev SO (X:Cx)(C:Cfg)(a:Addr)(φ:aR):nu:=λN σ H=>tQ X (C.u λc=>c=a) true φ σ H λv H1=>∃xs,H1 a=some (.lst xs)/\xs.length<XO/\N σ (upd H1 a (.lst (xs++[v])))
section
variable {α:Type}{X:Cx}{C:Cfg}{W0:Addr->Prop}{T Tg:List Nat}{σ0:St}{H1:Hp}{a:Addr}{Hb:Hp}{Wb:Addr->Prop}{γ:dw}{τ:aW}{φ:aR}{Ac:α->Hp->Prop}
theorem SC.next {o:α}(hA:zD a Ac){β β':a7}{σ σ':St}{H H':Hp}{own aQ:Nat->List Addr}(s:SC X C W0 T σ0 H1 a Hb Wb (Ac o) β σ H own)(sq:SQ X (C.u λc=>c=a) σ' H' β' aQ)(w:∀c,Wn aQ c->Wn own c)(sm:au H H')(t:∀j,j∉T->σ'[j]?=σ[j]?):
  SC X C W0 T σ0 H1 a Hb Wb (Ac o) β' σ' H' aQ :=
 ⟨sq,iW (s.sn.same sm) w,λc z=>s.le c (w c z),hA.same o _ _ sm s.ac,s.pu.trans sm,λb ob n e=>sm _ _ (s.bs b ob n e),λj hj=>(t j hj).trans (s.st j hj)⟩
theorem SC.put {A:Hp->Prop}{A':Hp->Prop}(h0:C.H0 a=none)(ha:H1 a=none){β:a7}{σ:St}{H:Hp}{own:Nat->List Addr}{oa ob:HO}(s:SC X C W0 T σ0 H1 a Hb Wb A β σ H own)(e:H a=some oa)(nt:∀xs,oa≠.tup xs)(q:A' (upd H a ob)):
  SC X C W0 T σ0 H1 a Hb Wb A' β σ (upd H a ob) own:=by
 refine⟨s.sq.DV e nt h0,⟨s.sn.w,s.sn.k.trans ((jS e nt).mono λb z=>.inr (by rw[z];exact ha)),λb z e=>?_⟩,s.le,q,λb o e=>?_,λb o n e=>?_,s.st⟩
 ·by_cases hb:b=a
  ·rw[hb,ar]at e;cases e
  ·rw[ao hb]at e;exact s.sn.d b z e
 ·rw[ao (λz'=>by rw[z',ha]at e;cases e)]
  exact s.pu b o e
 ·rw[ao n];exact s.bs b o n e
def O2 (P:Xz)(w:XT)(H1:Hp)(a:Addr)(o:List D)(H:Hp):Prop:=∃vs A,H a=some (.lst vs)/\aK P w H o vs A/\A.Nodup/\∀c∈A,H1 c=none/\c≠a
theorem vV {P:Xz}{w:XT}:zD a (O2 P w H1 a):=⟨λo H H' s h=>by
  obtain⟨vs,A,h1,h2,h3,h4⟩:=h;exact⟨vs,A,s _ _ h1,h2.keep (λb xs e=>s _ _ e) λc _ oc e=>s _ _ e,h3,h4⟩,λo H xs h z=>by
  obtain⟨vs,A,h1,_⟩:=h;rw[h1]at z;cases z⟩
def GV (φ:aR)(o:List D)(β:a7)(N:a7->List D->Prop):Prop:=φ β λx kx β3=>E4 kx x/\o.length<XO/\N β3 (o++[x])
theorem DX (h0:C.H0 a=none)(ha:H1 a=none)(φm:∀β R R',(∀d k β,R d k β->R' d k β)->φ β R->φ β R'){β:a7}{o:List D}{σ:St}{H:Hp}{N:a7->List D->Prop}(s:ui X C W0 T σ0 H1 a Hb Wb (O2 X.prog X.w H1 a) β o σ H)(q:GV φ o β N):
  SO X C a φ (λσ' H'=>∃β' o',ui X C W0 T σ0 H1 a Hb Wb (O2 X.prog X.w H1 a) β' o' σ' H'/\N β' o') σ H:=by
 obtain⟨own,s⟩:=s;refine⟨β,own,s.sq,φm _ _ _ (λxd kx β6 ⟨f,hz,q⟩ v H6 Ep o6 r6=>?_) q⟩;obtain⟨sm,rfl⟩:=o6.pu rfl;have s6:=s.next vV (o6.sq) (λ_ z=>z) sm (λ_ _=>rfl)
 obtain⟨B',r1,r2,r3⟩:=r6.fl f;obtain⟨vs,A,at',os,nd,nw⟩:=s.ac;have tm:H6 a=some (.lst vs):=sm _ _ at';have LR:∀c∈B',c≠a:=λc hc z=>by rw[z]at hc;exact absurd (at'.symm.trans (r3 a hc).1) (λz=>(nomatch z))
 have kt:∀b xs,H6 b=some (.tup xs)->upd H6 a (.lst (vs++[v])) b=some (.tup xs):=λb xs z=>by rw[ao (λz'=>by rw[z',tm]at z;cases z)];exact z
 refine⟨vs,tm,by rw[os.length];exact hz,β6,o++[xd],⟨Ep,s6.put h0 ha tm (λxs z=>by cases z) ⟨vs++[v],A++B',ar,?_,?_,λc hc=>?_⟩⟩,q⟩
 ·exact(os.keep (λb xs e=>kt b xs (sm _ _ e)) λc hc oc e=>by rw[ao (nw c hc).2];exact sm _ _ e).append (aK.one (r1.keep kt λc hc oc e=>by rw[ao (LR c hc)];exact e))
 ·refine YM.mpr ⟨nd,r2,λx hx y hy e=>?_⟩;subst e;exact(os.nB x hx).1 (r3 x hy).1
 ·rcases XW.mp hc with hc|hc
  ·exact nw c hc
  ·exact⟨s.sn.free (r3 c hc).1,LR c hc⟩
def kG {α:Type}(γ:dw)(τ:aW)(Af:α->a7->(a7->α->Prop)->Prop)(ds:List D)(k:Kd)(β0:a7)(o0:α)(F:a7->α->Prop):Prop:=∃I:Nat->a7->α->Prop,I 0 β0 o0 /\
 (∀i d β o,ds[i]?=some d->I i β o->γ d (sk k d) β λβ1=>τ β1 λt β2=>if t=true then Af o β2 (I (i+1)) else I (i+1) β2 o)/\∀β o,I ds.length β o->F β o
theorem kG.mono {Af:α->a7->(a7->α->Prop)->Prop}{ds:List D}{k:Kd}{β0:a7}{o0:α}{F F':a7->α->Prop}(h:∀β o,F β o->F' β o)(q:kG γ τ Af ds k β0 o0 F):kG γ τ Af ds k β0 o0 F':=by
 obtain⟨I,h0,h1,h2⟩:=q;exact⟨I,h0,h1,λβ o z=>h _ _ (h2 β o z)⟩
theorem wx (hA:zD a Ac)(hT:∀j∈Tg,j∈T)(γm:∀d k β R R',(∀r,R r->R' r)->γ d k β R->γ d k β R')(τm:∀β R R',(∀d β,R d β->R' d β)->τ β R->τ β R'){J:It}{ds:List D}{k:Kd}{Af:α->a7->(a7->α->Prop)->Prop}{ta:nu}{F:a7->α->Prop}{End:St->Hp->Prop}{β0:a7}{o0:α}{σ1:St}{Hs:Hp}
  (it:∀i β o σ' H',ui X C W0 T σ0 H1 a Hb Wb Ac β o σ' H'->(∀d,ds[i]?=some d->J.go i H'/\∀x H3,J.KR i H' x H3->au H' H3/\∀own,(∀c,Wn own c->Wb c)->ay X.prog X.w (fU (C.u λc=>c=a) (Wn own) k) H3 d x)/\(ds.length<=i->J.stop i H'))
  (Mv:∀β o σ' H' N,ui X C W0 T σ0 H1 a Hb Wb Ac β o σ' H'->Af o β N->ta (λzO zA=>∃β' o',ui X C W0 T σ0 H1 a Hb Wb Ac β' o' zO zA/\N β' o') σ' H')
  (s0:ui X C W0 T σ0 H1 a Hb Wb Ac β0 o0 σ1 Hs) (q:kG γ τ Af ds k β0 o0 F) (fin:∀β o σ' H',ui X C W0 T σ0 H1 a Hb Wb Ac β o σ' H'->F β o->End σ' H') :
  fG J (Km X C a Tg γ) (iT X (C.u λc=>c=a) true τ) ta End σ1 Hs:=by
 obtain⟨I,i0,i1,i2⟩:=q;refine⟨λi m σ' H'=>i<=ds.length/\m=ds.length-i/\∃β o,ui X C W0 T σ0 H1 a Hb Wb Ac β o σ' H'/\I i β o,⟨_,XG _,rfl,β0,o0,s0,i0⟩,?_⟩;rintro i m σ2 H2 ⟨hi,rfl,β,o,sE,hl⟩;obtain⟨cj,nM⟩:=it i β o σ2 H2 sE
 by_cases d9:i<ds.length
 ·right
  have hd:ds[i]?=some ds[i]:=XH d9;obtain⟨go,yl⟩:=cj _ hd;refine⟨go,λσ' H'=>∃β' o',ui X C W0 T σ0 H1 a Hb Wb Ac β' o' σ' H'/\I (i+1) β' o',λσ' H' h=>⟨_,by omega,d9,rfl,h⟩,λx H3 y=>?_⟩
  obtain⟨s3,r3⟩:=yl x H3 y;obtain⟨own,s⟩:=sE;refine⟨own,β,_,_,s.sq.same s3,qh (r3 own s.le),γm _ _ _ _ _ (λβ4 q σ4 sg s4 w4 t4=>?_) (i1 i _ β o hd hl)⟩;have UZ:=s.next hA s4 w4 s3 λj hj=>t4 j λz=>hj (hT j z)
  refine⟨β4,sg,s4,τm _ _ _ (λt β5 q H5 i9 o5=>?_) q⟩;obtain⟨Pm,rfl⟩:=o5.pu rfl;have S0:=UZ.next hA o5.sq (λ_ z=>z) Pm λ_ _=>rfl
  cases t with
  |false=>exact⟨β5,o,⟨_,S0⟩,q⟩
  |true=>exact Mv β5 o σ4 H5 _ ⟨_,S0⟩ q
 ·left
  have e:i=ds.length:=by omega
  subst e;exact⟨nM (Xx _),fin β o σ2 H2 sE (i2 β o hl)⟩
def Gi {α:Type}(ι:cv)(γ:dw)(τ:aW)(Af:α->a7->(a7->α->Prop)->Prop)(o:α)(β:a7)(N:a7->α->Prop):Prop:=ι β λds k β1=>kG γ τ Af ds k β1 o N
theorem DW (hA:zD a Ac){ι:cv}(hT:∀j∈Tg,j∈T)(γm:∀d k β R R',(∀r,R r->R' r)->γ d k β R->γ d k β R')(τm:∀β R R',(∀d β,R d β->R' d β)->τ β R->τ β R'){Af:α->a7->(a7->α->Prop)->Prop}{ta:nu}
  (Mv:∀Hb Wb β o σ' H' N,ui X C W0 T σ0 H1 a Hb Wb Ac β o σ' H'->Af o β N->ta (λzO zA=>∃β' o',ui X C W0 T σ0 H1 a Hb Wb Ac β' o' zO zA/\N β' o') σ' H')
  (ιm:∀β R R',(∀d k β,R d k β->R' d k β)->ι β R->ι β R') {β:a7} {o:α} {σ:St} {H:Hp} {N:a7->α->Prop} (s:ui X C W0 T σ0 H1 a Hb Wb Ac β o σ H) (q:Gi ι γ τ Af o β N) :
  ∃β own,SQ X (C.u λc=>c=a) σ H β own/\ι β λds k β'=>∀J H',au H H'->SQ X (C.u λc=>c=a) σ H' β' own->xQ X (fU (C.u λc=>c=a) (Wn own) k) J ds H' ->
   fG J (Km X C a Tg γ) (iT X (C.u λc=>c=a) true τ) ta (λσ' H'=>∃β' o',ui X C W0 T σ0 H1 a Hb Wb Ac β' o' σ' H'/\N β' o') σ H':=by
 obtain⟨own,s⟩:=s;refine⟨β,own,s.sq,ιm _ _ _ (λds k β1 q J H' sm sq Vz=>?_) q⟩;have s1:=s.next hA sq (λ_ z=>z) sm λ_ _=>rfl
 have hu:fU (C.u λc=>c=a) (Wn own) k a:=.inr rfl;refine wx (Hb:=H') (Wb:=Wn own) hA hT γm τm (λi βx ox σx Hx sx=>?_) (λβx ox σx Hx Nx sx qx=>Mv _ _ _ _ _ _ _ sx qx) ⟨own,⟨s1.sq,s1.sn,λ_ z=>z,s1.ac,s1.pu,λ_ _ _ e=>e,s1.st⟩⟩ q λβx ox σx Hx sx hx=>?_
 ·obtain⟨Eo,sx⟩:=sx;have kp:Kp (λb=>fU (C.u λc=>c=a) (Wn own) k b\/H' b=none) H' Hx:=⟨λb ob e n=>sx.bs b ob (λz=>n (.inl (by rw[z];exact hu))) e,λb xs e=>sx.bs b _ (λz=>hA.LO _ _ _ s1.ac (by rw[<- z];exact e)) e⟩
  obtain⟨g1,g2⟩:=Vz (λb=>fU (C.u λc=>c=a) (Wn own) k b\/H' b=none) (λb z=>z) i Hx kp;refine⟨λd hd=>?_,g2⟩;obtain⟨go,yl⟩:=g1 d hd;refine⟨go,λx H3 y=>?_⟩;obtain⟨s3,r3⟩:=yl x H3 y;exact⟨s3,λaQ Qj=>ay.aV (λb z=>.inl (jw Qj k b z)) r3⟩
 ·obtain⟨Eo,sx⟩:=sx;exact⟨βx,ox,⟨Eo,⟨sx.sq,sx.sn,λc z=>s.le c (sx.le c z),sx.ac,sx.pu,λb ob n e=>sx.bs b ob n (s1.bs b ob n e),sx.st⟩⟩,hx⟩
theorem rS {lk:List (Option Nat)}{σ:St}{β:a7}{own:Nat->List Addr}{oa:HO}(hA:zD a Ac){Af:α->a7->(a7->α->Prop)->Prop}{ta:nu}{J:It}{ds:List D}{k:Kd}{o0:α}{K:α->Prop}{End:Hp->Prop}
  (γm:∀d k β R R',(∀r,R r->R' r)->γ d k β R->γ d k β R') (τm:∀β R R',(∀d β,R d β->R' d β)->τ β R->τ β R') (V9:∀j∈Tg,j∈T)
  (inj:∀(i i' j:Nat),lk[i]?=some (some j)->lk[i']?=some (some j)->i=i') (hT:∀i∈T,∀j,lk[i]?≠some (some j))
  (s1:SQ X C σ H1 β own) (ha:H1 a=none) (hk:hold k false) (it:xQ X (av C (Wn own) k) J ds H1) (a0:Ac o0 (upd H1 a oa)) (ent:SQ X (C.u λc=>c=a) (da lk σ) (upd H1 a oa) (cg lk β) (ba lk β own))
  (Mv:∀Hb Wb β' o σ' H' N,C.H0 a=none->ui X C (Wn (ba lk β own)) T (da lk σ) H1 a Hb Wb Ac β' o σ' H'->Af o β' N->ta (λzO zA=>∃β' o',ui X C (Wn (ba lk β own)) T (da lk σ) H1 a Hb Wb Ac β' o' zO zA/\N β' o') σ' H')
  (q:kG γ τ Af ds k (cg lk β) o0 λβf o=>dZ (cg lk β) βf/\K o)
  (fin:∀o H',K o->Out X C σ H1 own true β H' own->Ac o H'->End H') :
  fG J (Km X C a Tg γ) (iT X (C.u λc=>c=a) true τ) ta (λ_ H'=>End H') (da lk σ) (upd H1 a oa):=by
 have h0:C.H0 a=none:=Yu λz=>s1.iJ a z ha;have sm:au H1 (upd H1 a oa):=au.new ha;refine wx (W0:=Wn (ba lk β own)) (T:=T) (σ0:=da lk σ) (H1:=H1) (Hb:=H1) (Wb:=Wn (ba lk β own)) hA V9 γm τm (λi βx ox σx Hx sx=>?_) (λβx ox σx Hx Nx sx qx=>Mv _ _ _ _ _ _ _ h0 sx qx)
  ⟨ba lk β own,⟨ent,⟨λb z=>.inl z,sm.kp,λb z e=>z (sm.free e)⟩,λ_ z=>z,a0,sm,λb ob n e=>sm _ _ e,λ_ _=>rfl⟩⟩ q λβx ox σx Hx sx hx=>?_
 ·obtain⟨Eo,sx⟩:=sx;have kI:Kp (λb=>av C (Wn own) k b\/H1 b=none) H1 Hx:=sx.pu.kp;obtain⟨g1,g2⟩:=it (λb=>av C (Wn own) k b\/H1 b=none) (λb z=>z) i Hx kI;refine⟨λd hd=>?_,g2⟩;obtain⟨go,yl⟩:=g1 d hd;refine⟨go,λx H3 y=>?_⟩;obtain⟨s3,r3⟩:=yl x H3 y;exact⟨s3,λaQ Qj=>ay.aV (λc z=>z.elim (λz=>.inl (lC (λc z=>bg c (Qj c z)) k c z)) λz=>.inr (by rw[z];exact ha)) r3⟩
 ·obtain⟨Eo,sx⟩:=sx;obtain⟨hh,hK⟩:=hx;have lv:SQ X C σ Hx β own:=s1.leave sx.sq sx.sn sx.le hh λj ok i' e1 e2=>sx.st i' λz=>hT i' z j e2;exact fin ox Hx hK ⟨lv,⟨λb z=>.inl z,sx.sn.k.mono λb z=>z.imp (bg b) id,sx.sn.d⟩,λz=>⟨sx.pu,rfl⟩,λ_ z=>z⟩ sx.ac
end
theorem Kc {X:Cx}{C:Cfg}{σ:St}{H1 H':Hp}{β:a7}{own:Nat->List Addr}{a:Addr}{o:List D}(s1:SQ X C σ H1 β own)(ha:H1 a=none)(h:O2 X.prog X.w H1 a o H'):KV X.prog X.w C (H1,Wn own) own H' .own (.lst o) (.ref a):=by
 obtain⟨vs,A,at',os,nd,nw⟩:=h;refine⟨a::A,⟨a,vs,A,rfl,at',rfl,os⟩,X9.mpr ⟨λz=>(nw a z).2 rfl,nd⟩,λc hc=>?_⟩;have nQ:H1 c=none:=by
  rcases Xy.mp hc with rfl|hc
  ·exact ha
  ·exact(nw c hc).1
 exact⟨nQ,λh=>by obtain⟨j,hj⟩:=h;exact(s1.dm j c hj).1 nQ,Yu λz=>s1.iJ c z nQ⟩
def HU (lk:List (Option Nat))(ι:cv)(γ:dw)(τ:aW)(ι2:cv)(γ2:dw)(τ2:aW)(φ:aR):aR:=λβ R=>ι β λds k β1=>hold k false/\kG γ τ (Gi ι2 γ2 τ2 (GV φ)) ds k (cg lk β1) [] λβf o=>dZ (cg lk β1) βf/\R (.lst o) .own β1
section
variable {X:Cx}{C:Cfg}{lk:List (Option Nat)}{γ γ2:dw}{τ τ2:aW}{φ:aR}{T T2:List Nat}
variable {scope:aaa}{tg cj Ae nM elt:Expr}{ifs nN:List Expr}{ι ι2:cv}{pi:Bool}{pos:Pos}{i:Nat}
theorem Vt (N':List Str)(lk:List (Option Nat))(L:gc X.env.scope.names X.N scope N' lk=true)(pD:N'.Nodup)(hc:X.calm=true)(hi:vY X C pi tg cj ι)
  (pA:∀a cl c s H ex,xO (aA X scope N' cl c s H ex) (C.u λc=>c=a) tg T γ) (jY:∀a cl c s H ex,qW (aA X scope N' cl c s H ex) (C.u λc=>c=a) true ifs τ)
  (Ku:∀a cl c s H ex,Up (aA X scope N' cl c s H ex) (C.u λc=>c=a) Ae nM ι2)
  (Mu:∀a cl c s H ex,xO (aA X scope N' cl c s H ex) (C.u λc=>c=a) Ae T2 γ2) (Mt:∀a cl c s H ex,qW (aA X scope N' cl c s H ex) (C.u λc=>c=a) true nN τ2)
  (mM:∀a cl c s H ex,PQ (aA X scope N' cl c s H ex) (C.u λc=>c=a) true elt φ) (hT:(T++T2).all (λi=>match lk[i]? with|some (some _)=>false|_=>true)=true:=by rfl)
  (hs:∀x,Yy cj X.env x=pure x:=by intro _;rfl) (uv:∀cl c s H ex x,Yy nM (aA X scope N' cl c s H ex).env x=pure x:=by intro _ _ _ _ _ _;rfl):PQ X C pi (.ListComp elt [⟨tg,cj,ifs,0⟩,⟨Ae,nM,nN,0⟩] scope pos) (HU lk ι γ τ ι2 γ2 τ2 φ):=by
 have L:=Links.of L;have Fl:∀i∈T++T2,∀j,lk[i]?≠some (some j):=λi hi j e=>by
  have:=ZH.mp hT i hi;rw[e]at this;cases this
 have ax:Addr:=0;have Xq:List (Str×Addr):=[];have γm:=(pA 0 [] 0 X.s₀ X.H₀ []).mono;have τm:=(jY 0 [] 0 X.s₀ X.H₀ []).mono;have O4:=(Mu 0 [] 0 X.s₀ X.H₀ []).mono;have O3:=(Mt 0 [] 0 X.s₀ X.H₀ []).mono;have φm:=(mM 0 [] 0 X.s₀ X.H₀ []).mono;have ιm:=(Ku 0 [] 0 X.s₀ X.H₀ []).mono;refine⟨λβ R R' k h=>hi.mono β _ _ (λds kd β1 q=>⟨q.1,q.2.mono λ_ _ z=>⟨z.1,k _ _ _ z.2⟩⟩) h,?_⟩;refine(fZ (g:=⟨tg,cj,ifs,0⟩) (gs:=[⟨Ae,nM,nN,0⟩]) (tg:=λa=>Km X C a T γ) (tt:=λa=>iT X (C.u λc=>c=a) true τ)
  (ta:=λa N σ H=>∃β own,SQ X (C.u λc=>c=a) σ H β own/\ι2 β λds k β'=>∀J H',au H H'->SQ X (C.u λc=>c=a) σ H' β' own->xQ X (fU (C.u λc=>c=a) (Wn own) k) J ds H' ->
   fG J (Km X C a T2 γ2) (iT X (C.u λc=>c=a) true τ2) (SO X C a φ) N σ H')
  L hc f7 rfl rfl (λ_ _=>J7) hi.pi (λa cl c s H ex=>⟨(pA a cl c s H ex).pg,(jY a cl c s H ex).pt,En (X:=aA X scope N' cl c s H ex) (g':=⟨Ae,nM,nN,0⟩) rfl hc J6 (Ku a cl c s H ex).pi (Mu a cl c s H ex).pg (Mt a cl c s H ex).pt (f6 (X:=aA X scope N' cl c s H ex) rfl (mM a cl c s H ex).pe) (uv cl c s H ex)⟩) hs).pre λσ H Q h=>?_
 obtain⟨β,own,s,h⟩:=h;refine⟨β,own,s,hi.mono β _ _ (λds k β1 h J H1 aC o1 it a ha=>?_) h⟩;obtain⟨hk,q⟩:=h;refine rS (T:=T++T2) (vV (P:=X.prog) (w:=X.w) (H1:=H1)) γm τm (λj hj=>YU _ hj) (cF L pD) Fl o1.sq ha hk it ⟨[],[],ar,(show aK _ _ _ [] [] [] from ⟨rfl,rfl⟩),YF,λc hc=>(nomatch hc)⟩ (o1.sq.enter ha (cF L pD))
  (λHb Wb βx ox σx Hx Nx h0 sx qx=>DW vV (λj hj=>Yk _ hj) O4 O3 (λHb Wb βy oy σy Hy Ny sy qy=>DX h0 ha φm sy qy) ιm sx qx) q λo H' q o2 r=>?_
 refine q _ _ aC ⟨o2.sq,o1.sn.trans o2.sn,λz=>⟨(o1.pu z).1.trans (o2.pu rfl).1,(o1.pu z).2⟩,o1.le⟩ ((Kc o1.sq ha r).later o1.sn)
end
end L2.Q
namespace L2
open PySem PySem.Spec PySem.SeqAt PyProof.Rows
section
variable {X:Cx}
theorem yB:ny X newDict (.dT []) :=
 ⟨λpins s σ H Q E I h=>Zx (h _ _ (Xx _) I.fresh (λb o e=>XA _ e) (I.laid (t':=s.toks) (λ_ _ q=>XA _ q) (Xx _) (CD _ I.big)))⟩
theorem Be {k v:Expr}{tk tv:TE}{a:Addr}(hx:X.xe=λ_ _=>False)(hu:X.A.units<ZQ)(hk:PE X k tk)(hv:PE X v tv):
  qX X (lN (CB k v (.ref a) X.env)) (λN σ H=>tk σ H λy H1=>tv σ H1 λv H2=>∃kvs key b,H2 a=some (.dT kvs)/\y=.ref b/\H2 b=some (.tup (key.map kV))/\kvs.length<XO/\N σ (upd H2 a (.dT (putK kvs key v)))):=by
 intro pins s σ H N kk Q E I h hN;unfold lN CB;refine Xs (Xs (bF (eI hx (hk pins s σ H _ I h)) λu s1 ⟨y,H1,I1,r1,q⟩=>?_));refine Xs (Y0 (bF (eI hx (hv pins s1 σ H1 _ I1 q)) λw' s2 ⟨v,H2,I2,r2,kvs,key,b,e,ey,eb,l,q2⟩=>?_));subst ey;cases (show u=Value.ref b from r1)
 refine Xs (ZR (Y0 ?_));obtain⟨z,hd,xs,rel,dd⟩:=ND I2.bt e;have hz:xs.length<=XO:=by rw[<- Paired.length rel];exact z
 have hl:(putK kvs key v).length<=XO:=by have:=sS kvs key v;lia
 refine wpAny_dictSet_heap (hsz:=hz) (knd:=aaV (b_ X.prog X.w)) hu (vq I2.bt eb) dd λh' Ws hs=>hN σ _ _ ?_ q2;obtain⟨q,es,ep,hq,h2,h3,h4,_,h5⟩:=Ws;refine FG I2 (by rw[e];exact Zw) hs ⟨q,hq⟩ ⟨hl,hd,_,(rel.put key eb r2).keeps λc ys ec=>?_,q,es,ep,hq,h2,h3,h4,h5⟩
 rw[ao (Gj ec e (λz=>nomatch z))];exact ec
end
end L2
namespace L2.Q
open PySem PySem.Spec PySem.SeqAt PyProof.Rows
def SM (P:Xz)(w:XT)(a:Addr)(o:List (List Int×D))(H:Hp):Prop:=∃vs,H a=some (.dT ((o.map λp=>iK p.1).zip vs))/\aK P w H (o.map (·.2)) vs []
theorem C6 {P:Xz}{w:XT}{a:Addr}:zD a (SM P w a):=⟨λo H H' s h=>by
  obtain⟨vs,h1,h2⟩:=h;exact⟨vs,s _ _ h1,h2.keep (λb xs e=>s _ _ e) λc hc=>(nomatch hc)⟩,λo H xs h z=>by
  obtain⟨vs,h1,_⟩:=h;rw[h1]at z;cases z⟩
abbrev SS (X:Cx)(C:Cfg)(a:Addr)(φk φ:aR):nu:=λN σ H=>tQ X (C.u λc=>c=a) true φk σ H λy H1=>tQ X (C.u λc=>c=a) true φ σ H1 λv H2=>∃kvs key b,H2 a=some (.dT kvs)/\y=.ref b/\H2 b=some (.tup (key.map kV))/\kvs.length<XO/\N σ (upd H2 a (.dT (putK kvs key v)))
def CA (φk φ:aR)(o:List (List Int×D))(β:a7)(N:a7->List (List Int×D)->Prop):Prop:=φk β λkd _ β2=>φ β2 λx _ β3=>∃t,kd=.tup (t.map D.int)/\x.flat=true/\kS o t=none/\o.length<XO/\N β3 (o++[(t,x)])
section
variable {X:Cx}{C:Cfg}{W0:Addr->Prop}{T:List Nat}{σ0:St}{H1:Hp}{a:Addr}{Hb:Hp}{Wb:Addr->Prop}{φ φk:aR}
theorem AF (h0:C.H0 a=none)(ha:H1 a=none)(G_:∀β R R',(∀d k β,R d k β->R' d k β)->φk β R->φk β R')(φm:∀β R R',(∀d k β,R d k β->R' d k β)->φ β R->φ β R'){β:a7}{o:List (List Int×D)}{σ:St}{H:Hp}{N:a7->List (List Int×D)->Prop}(s:ui X C W0 T σ0 H1 a Hb Wb (SM X.prog X.w a) β o σ H)(q:CA φk φ o β N):
  SS X C a φk φ (λσ' H'=>∃β' o',ui X C W0 T σ0 H1 a Hb Wb (SM X.prog X.w a) β' o' σ' H'/\N β' o') σ H:=by
 obtain⟨own,s⟩:=s;refine⟨β,own,s.sq,G_ _ _ _ (λkd kk β5 q v5 H5 i9 o5 r5=>?_) q⟩;obtain⟨Pm,rfl⟩:=o5.pu rfl;refine⟨β5,_,o5.sq,φm _ _ _ (λxd kx β6 ⟨t,e1,f,hn,hz,q2⟩ v H6 Ep o6 r6=>?_) q⟩;obtain⟨sm,rfl⟩:=o6.pu rfl;have s6:=s.next C6 o6.sq (λ_ z=>z) (Pm.trans sm) (λ_ _=>rfl)
 subst e1;obtain⟨b,us,rfl,hb,rt⟩:=r5.rep;rw[L2.b9 rt]at hb;obtain⟨vs,at',os⟩:=s6.ac;have U5:Own X.prog X.w H6 xd v []:=c9 f r6.rep;have l:(o.map λp=>iK p.1).length=vs.length:=by rw[Xu,os.length,Xu]
 have JD:putK ((o.map λp=>iK p.1).zip vs) (iK t) v=((o++[(t,xd)]).map λp=>iK p.1).zip (vs++[v]):=by
  rw[AQ v (Ho os hn),XX,List.zip_append l];rfl
 have kt:∀c xs,H6 c=some (.tup xs)->upd H6 a (.dT (putK ((o.map λp=>iK p.1).zip vs) (iK t) v)) c=some (.tup xs):=λc xs z=>by rw[ao (λz'=>by rw[z',at']at z;cases z)];exact z
 refine⟨_,iK t,b,at',rfl,by rw[Gx];exact sm _ _ hb,by rw[List.length_zip,<- l,Nat.min_self,Xu];exact hz,β6,o++[(t,xd)],⟨_,s6.put h0 ha at' (λxs z=>by cases z) ⟨vs++[v],by rw[ar,JD],?_⟩⟩,q2⟩
 rw[XX];exact(os.keep kt (A:=[]) λc hc=>by cases hc).append (aK.one (U5.keep kt (A:=[]) λc hc=>by cases hc))
end
def HS (lk:List (Option Nat))(ι:cv)(γ:dw)(τ:aW)(φk φ:aR):aR:=λβ R=>ι β λds k β1=>hold k false/\kG γ τ (CA φk φ) ds k (cg lk β1) [] λβf o=>dZ (cg lk β1) βf/\R (dA o) .own β1
section
variable {X:Cx}{C:Cfg}{lk:List (Option Nat)}{γ:dw}{τ:aW}{φ φk:aR}{T:List Nat}
variable {scope:aaa}{tg cj ke elt:Expr}{ifs:List Expr}{ι:cv}{pi:Bool}{pos:Pos}{i:Nat}
theorem Wt (hu:X.A.units<ZQ)(N':List Str)(lk:List (Option Nat))(L:gc X.env.scope.names X.N scope N' lk=true)(pD:N'.Nodup)(hc:X.calm=true)(hi:vY X C pi tg cj ι)
  (pA:∀a cl c s H ex,xO (aA X scope N' cl c s H ex) (C.u λc=>c=a) tg T γ) (jY:∀a cl c s H ex,qW (aA X scope N' cl c s H ex) (C.u λc=>c=a) true ifs τ)
  (T3:∀a cl c s H ex,PQ (aA X scope N' cl c s H ex) (C.u λc=>c=a) true ke φk) (mM:∀a cl c s H ex,PQ (aA X scope N' cl c s H ex) (C.u λc=>c=a) true elt φ) (hT:T.all (λi=>match lk[i]? with|some (some _)=>false|_=>true)=true:=by rfl)
  (hs:∀x,Yy cj X.env x=pure x:=by intro _;rfl):PQ X C pi (.DictComp ke elt [⟨tg,cj,ifs,0⟩] scope pos) (HS lk ι γ τ φk φ):=by
 have L:=Links.of L;have Fl:∀i∈T,∀j,lk[i]?≠some (some j):=λi hi j e=>by
  have:=ZH.mp hT i hi;rw[e]at this;cases this
 have γm:=(pA 0 [] 0 X.s₀ X.H₀ []).mono;have τm:=(jY 0 [] 0 X.s₀ X.H₀ []).mono;have φm:=(mM 0 [] 0 X.s₀ X.H₀ []).mono;have G_:=(T3 0 [] 0 X.s₀ X.H₀ []).mono;refine⟨λβ R R' k h=>hi.mono β _ _ (λds kd β1 q=>⟨q.1,q.2.mono λ_ _ z=>⟨z.1,k _ _ _ z.2⟩⟩) h,?_⟩;refine(fZ (g:=⟨tg,cj,ifs,0⟩) (gs:=[]) (tg:=λa=>Km X C a T γ) (tt:=λa=>iT X (C.u λc=>c=a) true τ) (ta:=λa=>SS X C a φk φ)
  L hc yB rfl rfl (λ_ _=>NR) hi.pi (λa cl c s H ex=>⟨(pA a cl c s H ex).pg,(jY a cl c s H ex).pt,Be (X:=aA X scope N' cl c s H ex) rfl hu (T3 a cl c s H ex).pe (mM a cl c s H ex).pe⟩) hs).pre λσ H Q h=>?_
 obtain⟨β,own,s,h⟩:=h;refine⟨β,own,s,hi.mono β _ _ (λds k β1 h J H1 aC o1 it a ha=>?_) h⟩;obtain⟨hk,q⟩:=h;refine rS (T:=T) (C6 (P:=X.prog) (w:=X.w)) γm τm (λj hj=>hj) (cF L pD) Fl o1.sq ha hk it ⟨[],ar,(show aK _ _ _ [] [] [] from ⟨rfl,rfl⟩)⟩ (o1.sq.JV (λxs z=>by cases z) ha (cF L pD))
  (λHb Wb βx ox σx Hx Nx h0 sx qx=>AF h0 ha G_ φm sx qx) q λo H' q o2 r=>?_
 refine q _ _ aC ⟨o2.sq,o1.sn.trans o2.sn,λz=>⟨(o1.pu z).1.trans (o2.pu rfl).1,(o1.pu z).2⟩,o1.le⟩ ?_;obtain⟨vs,at',os⟩:=r;refine⟨[a],Ii at' os,by simp,λc hc=>?_⟩
 rw[XQ.mp hc];exact⟨Yu λz=>o1.sn.d a z ha,λh=>by obtain⟨j,hj⟩:=h;exact(o1.sq.dm j a hj).1 ha,Yu λz=>o1.sq.iJ a z ha⟩
end
end L2.Q
namespace Mx
structure Sr (α:Type) where
 zero:α
 one:α
 add:α->α->α
 mul:α->α->α
section
variable {α:Type}(S:Sr α)
def DJ (n:Nat)(f:Nat->α):α:=match n with
 |0=>S.zero
 |n+1=>S.add (DJ n f) (f n)
end
section
end
section
end
end Mx
namespace L2
open PySem PySem.Spec PySem.SeqAt PyProof.Rows
theorem xl (t:List Int):(kD t).flat=true:=by
 have:=d3 [t];show D.bQ (t.map D.int)=true;have h:(D.bQ (t.map D.int)&&true)=true:=this
 rwa [Bool.and_true]at h
end L2
namespace L2.Q
open PySem PySem.Spec PySem.SeqAt PyProof.Rows
structure zC (mg:Str->Option Xv):Prop extends Bs2 mg where
 sum:mg "sum" = none
def tI (p:Nat×Nat):List Int:=[(p.1:Int),(p.2:Int)]
theorem qc {p q:Nat×Nat}(h:tI p=tI q):p=q:=by
 unfold tI at h;injection h with h1 h2
 injection h2 with h2 _
 exact Prod.ext (Int.ofNat.inj h1) (Int.ofNat.inj h2)
def fP (ps:List (Nat×Nat)):D:=.lst (ps.map λp=>kD (tI p))
def fy (n:Nat)(ps:List (Nat×Nat)):D:=.tup [.int n,fP ps]
structure zN (n:Nat)(ps:List (Nat×Nat)):Prop where
 lt:∀p∈ps,p.1<p.2/\p.2<n
 nd:ps.Nodup
 le:n<=80
 sm:ps.length<=400
theorem Ad {n:Int}{ts:List (List Int)}(n0:0<=n)(h:bx n ts):∃ps:List (Nat×Nat),ts=ps.map tI/\∀p∈ps,p.1<p.2/\p.2<n.toNat:=by
 induction ts with
 |nil=>exact⟨[],rfl,λ_ z=>(nomatch z)⟩
 |cons t ts ih =>
  obtain⟨ps,e,q⟩:=ih λu hu=>h u (by simp[hu])
  obtain⟨a,b,rfl,h1,h2,h3⟩:=h t (by simp)
  refine⟨(a.toNat,b.toNat)::ps,?_,λp hp=>?_⟩
  ·rw[X5,<- e]
   congr 1
   show [a,b]=[((a.toNat:Nat):Int),((b.toNat:Nat):Int)];rw[Int.toNat_of_nonneg h1,Int.toNat_of_nonneg (by lia)]
  ·rcases Xy.mp hp with rfl|hp
   ·exact⟨by show a.toNat<b.toNat;lia,by show b.toNat<n.toNat;lia⟩
   ·exact q p hp
theorem DZ {n:Int}{ts:List (List Int)}(n0:0<=n)(n1:n<=80)(l:ts.length<=400)(h:bx n ts)(nd:ts.Nodup):∃(m:Nat) (ps:List (Nat×Nat)),zN m ps/\n=m/\ts=ps.map tI/\D.tup [.int n,.lst (ts.map kD)]=fy m ps:=by
 obtain⟨ps,e,q⟩:=Ad n0 h;refine⟨n.toNat,ps,⟨q,?_,by lia,by rw[e,Xu]at l;exact l⟩,by lia,e,?_⟩
 ·rw[e]at nd;exact(Y7.mp nd).imp λz e=>z (congrArg tI e)
 ·unfold fy fP;rw[e,YB,Int.toNat_of_nonneg n0];rfl
def bj (l:List Nat):List D:=l.map λ(k:Nat)=>D.int (k:Int)
def gV (ps:List (Nat×Nat))(i:Nat):List Nat:=(ps.filter λp=>decide (p.1=i)).map (·.2)
theorem cY {ps:List (Nat×Nat)}{i k:Nat}:k∈gV ps i↔(i,k)∈ps:=by
 unfold gV;rw[X7];constructor
 ·rintro⟨p,hp,rfl⟩;obtain⟨h1,h2⟩:=X3.mp hp;rw[<- of_decide_eq_true h2];exact h1
 ·intro h;exact⟨(i,k),X3.mpr ⟨h,by simp⟩,rfl⟩
def AU (n:Nat)(ps:List (Nat×Nat)):D:=.lst ((XD n).map λi=>.lst (bj (gV ps i)))
def wD (ps:List (Nat×Nat))(w:Nat×Nat->Int):D:=dA (ps.map λp=>(tI p,.int (w p)))
theorem Hn {ps:List (Nat×Nat)}{w:Nat×Nat->Int}{p:Nat×Nat}(h:p∈ps):kS (ps.map λp=>(tI p,.int (w p))) (tI p)=some (.int (w p)):=by
 unfold kS
 induction ps with
 |nil=>cases h
 |cons q ps ih =>
  rw[X5,YW]
  by_cases e:q=p
  ·rw[e,decide_eq_true rfl];rfl
  ·rw[decide_eq_false λz=>e (qc z)];exact ih ((Xy.mp h).resolve_left λz=>e z.symm)
theorem EL {ps:List (Nat×Nat)}{w:Nat×Nat->Int}{p:Nat×Nat}(h:p∉ps):kS (ps.map λp=>(tI p,.int (w p))) (tI p)=none:=by
 unfold kS;rw[Option.map_eq_none_iff,List.find?_eq_none];intro x hx;obtain⟨q,hq,rfl⟩:=X7.mp hx;simp only[decide_eq_true_eq];intro e;exact h (qc e▸hq)
theorem JN {ps:List (Nat×Nat)}{w:Nat×Nat->Int}{i k:Nat}(h:(i,k)∈ps):xC (wD ps w) (.tup [.int (i:Int),.int (k:Int)])=some (.int (w (i,k))):=by
 have:=FN (kvs:=ps.map λp=>(tI p,D.int (w p))) (t:=tI (i,k));rw[Hn h]at this;exact this
theorem a_ {α:Type}{n i:Nat}{f:Nat->α}(h:i<n):((XD n).map f)[i]?=some (f i):=by
 rw[XM,Zo h];rfl
theorem fK {ds:List D}{x:Int}{i:Nat}{d:D}(hx:x=(i:Int))(h:ds[i]?=some d):pP (.lst ds) (.int x)=some d:=by rw[hx];exact FK h
theorem Mc {n:Nat}{ps:List (Nat×Nat)}{x:Int}{i:Nat}(hx:x=(i:Int))(h:i<n):pP (AU n ps) (.int x)=some (.lst (bj (gV ps i))):=fK hx (a_ h)
def rC (L:Nat)(T:Nat->Int):List D:=(XD L).map λl=>.int (T l)
def lO (n:Nat)(L:Nat->Nat)(T:Nat->Nat->Int):D:=.lst ((XD (n+1)).map λi=>.lst (rC (L i) λl=>T l i))
theorem ph {L:Nat}{T:Nat->Int}{x:Int}{l:Nat}(hx:x=(l:Int))(h:l<L):pP (.lst (rC L T)) (.int x)=some (.int (T l)):=fK hx (a_ h)
theorem o_ {n:Nat}{L:Nat->Nat}{T:Nat->Nat->Int}{x:Int}{i:Nat}(hx:x=(i:Int))(h:i<=n):pP (lO n L T) (.int x)=some (.lst (rC (L i) λl=>T l i)):=fK hx (a_ (by lia))
def jh (ps:List (Nat×Nat))(w:Nat×Nat->Int)(T:Nat->Nat->Int)(i j:Nat):Int:=(fA ((((gV ps i).filter λk=>decide (k<j)).map λk=>w (i,k)+T (k-i-1) (i+1)+T (j-k-1) (k+1))++[T (j-i-1) (i+1)])).getD 0
theorem oX {l:List Int}{x:Int}:fA (l++[x])=some ((fA (l++[x])).getD 0):=by
 cases l with
 |nil=>rfl
 |cons a l=>rfl
theorem mw {ps:List (Nat×Nat)}{w:Nat×Nat->Int}{T T':Nat->Nat->Int}{i j:Nat}(hp:∀p∈ps,p.1<p.2)(hj:i<j)(h:∀l,l<j-i->∀a,T l a=T' l a):jh ps w T i j=jh ps w T' i j:=by
 unfold jh;have e:((gV ps i).filter λk=>decide (k<j)).map (λk=>w (i,k)+T (k-i-1) (i+1)+T (j-k-1) (k+1))=((gV ps i).filter λk=>decide (k<j)).map λk=>w (i,k)+T' (k-i-1) (i+1)+T' (j-k-1) (k+1):=by
  refine Yh λk hk=>?_;obtain⟨h1,h2⟩:=X3.mp hk;have h3:=hp _ (cY.mp h1);have h4:=of_decide_eq_true h2;dsimp only at h3;rw[h _ (by lia),h _ (by lia)]
 rw[e,h (j-i-1) (by lia)]
def HB (ps:List (Nat×Nat))(w:Nat×Nat->Int):Nat->Nat->Nat->Int
 |0,_,_=>0
 |_+1,0,_=>0
 |n+1,l+1,i=>jh ps w (HB ps w n) i (i+l+1)
theorem rB {ps:List (Nat×Nat)}{w:Nat×Nat->Int}(hp:∀p∈ps,p.1<p.2):∀{n m l i:Nat},l<=n->l<=m->HB ps w n l i=HB ps w m l i
 |0,0,_,_,_,_=>rfl
 |0,m+1,0,_,_,_=>rfl
 |0,m+1,l+1,_,h,_=>by lia
 |n+1,0,0,_,_,_=>rfl
 |n+1,0,l+1,_,_,h=>by lia
 |n+1,m+1,0,_,_,_=>rfl
 |n+1,m+1,l+1,i,h1,h2=>by
  unfold HB;exact mw hp (by lia) λl' hl a=>rB hp (by lia) (by lia)
def tW (ps:List (Nat×Nat))(w:Nat×Nat->Int)(l i:Nat):Int:=HB ps w l l i
theorem k_ {ps:List (Nat×Nat)}{w:Nat×Nat->Int}(hp:∀p∈ps,p.1<p.2){l i:Nat}:tW ps w (l+1) i=jh ps w (tW ps w) i (i+l+1):=by
 show HB ps w (l+1) (l+1) i=_;unfold HB;exact mw hp (by lia) λl' hl a=>rB hp (by lia) (by lia)
def d8 (n a:Nat):List (Nat×Nat):=(XD (a+1)).map λb=>(n-1-a,n-a+b)
def qe (n:Nat):List (Nat×Nat):=(XD n).flatMap (d8 n)
def zG (p:Nat×Nat):D:=.tup [.int (p.1:Int),.int (p.2:Int)]
def eE (n a b:Nat):List (Nat×Nat):=(d8 n a).drop b++((XD n).drop (a+1)).flatMap (d8 n)
theorem ij {n a b:Nat}(h:b<=a):eE n a b=(n-1-a,n-a+b)::eE n a (b+1):=by
 unfold eE d8;rw[Yp (by rw[Xu,Ye];lia)]
 simp
theorem pN {n a:Nat}(h:a<n):((XD n).drop a).flatMap (d8 n)=eE n a 0:=by
 unfold eE;rw[Yp (by rw[Ye];exact h)]
 simp
theorem oI {n a:Nat}(h:a+1<n):eE n a (a+1)=eE n (a+1) 0:=by
 rw[<- pN h];unfold eE d8;simp
theorem uY {n a:Nat}(h:n<=a+1):eE n a (a+1)=[]:=by
 unfold eE d8;rw[List.drop_eq_nil_of_le (by simp),List.drop_eq_nil_of_le (by simpa using h)]
 rfl
theorem xW {n:Nat}(h:0<n):qe n=eE n 0 0:=by rw[<- pN h];rfl
theorem gb {α:Type}{γ:dw}{τ:aW}{φ:aR}{l:List α}{f:α->D}{k:Kd}{lB:a7}{K:List D->Prop}(t:α->Bool)(g:α->D)(h0:dZ lB lB)(hl:l.length<=XO)
  (h:∀x∈l,∀(x0:Option B) (o:List D) (J:a7->List D->Prop),o.length<XO->(t x=true->∀x0,J (x0::lB) (o++[g x]))->(t x=false->∀x0,J (x0::lB) o)->γ (f x) (sk k (f x)) (x0::lB) λβ1=>τ β1 λt β2=>if t=true then φ β2 λx kx β3=>E4 kx x/\o.length<XO/\J β3 (o++[x]) else J β2 o)
  (q:K ((l.filter t).map g)):kB γ τ φ (l.map f) k (none::lB) K:=by
 refine⟨λi β o=>i<=l.length/\(∃x0,β=x0::lB)/\o=((l.take i).filter t).map g,⟨XG _,⟨_,rfl⟩,rfl⟩,?_,?_⟩
 ·rintro i d β o hd ⟨hi,⟨x0,rfl⟩,rfl⟩;rw[XM]at hd;obtain⟨x,hx,rfl⟩:=XY.mp hd;have d9:i<l.length:=(XI.mp hx).1;have hle:(((l.take i).filter t).map g).length<XO:=by
   rw[Xu];have:=YJ t (l.take i);rw[X_]at this;lia
  have e:l.take (i+1)=l.take i++[x]:=by rw[YT,hx];rfl
  refine h x (Yq hx) x0 _ (λβ o=>i+1<=l.length/\(∃x0,β=x0::lB)/\o=((l.take (i+1)).filter t).map g) hle (λht x0=>?_) λht x0=>?_
  ·exact⟨d9,⟨_,rfl⟩,by rw[e,Y9,XX,YC,if_pos ht];rfl⟩
  ·exact⟨d9,⟨_,rfl⟩,by rw[e,Y9,XX,YC,if_neg (by rw[ht];simp)];simp⟩
 ·rintro β o ⟨_,⟨x0,rfl⟩,rfl⟩;rw[Xu,Y_];exact⟨h0,q⟩
theorem BD {α:Type}{γ:dw}{τ:aW}{φ:aR}{l:List α}{f:α->D}{k:Kd}{lB:a7}{K:List D->Prop}(t:α->Bool)(g:α->D)(h0:dZ lB lB)(hl:l.length<=XO)
  (h:∀x∈l,∀(x0 x1:Option B) (o:List D) (J:a7->List D->Prop),o.length<XO->(t x=true->∀x0 x1,J (x0::x1::lB) (o++[g x]))->(t x=false->∀x0 x1,J (x0::x1::lB) o)->γ (f x) (sk k (f x)) (x0::x1::lB) λβ1=>τ β1 λt β2=>if t=true then φ β2 λx kx β3=>E4 kx x/\o.length<XO/\J β3 (o++[x]) else J β2 o)
  (q:K ((l.filter t).map g)):kB γ τ φ (l.map f) k (none::none::lB) K:=by
 refine⟨λi β o=>i<=l.length/\(∃x0 x1,β=x0::x1::lB)/\o=((l.take i).filter t).map g,⟨XG _,⟨_,_,rfl⟩,rfl⟩,?_,?_⟩
 ·rintro i d β o hd ⟨hi,⟨x0,x1,rfl⟩,rfl⟩;rw[XM]at hd;obtain⟨x,hx,rfl⟩:=XY.mp hd;have d9:i<l.length:=(XI.mp hx).1;have hle:(((l.take i).filter t).map g).length<XO:=by
   rw[Xu];have:=YJ t (l.take i);rw[X_]at this;lia
  have e:l.take (i+1)=l.take i++[x]:=by rw[YT,hx];rfl
  refine h x (Yq hx) x0 x1 _ (λβ o=>i+1<=l.length/\(∃x0 x1,β=x0::x1::lB)/\o=((l.take (i+1)).filter t).map g) hle (λht x0 x1=>?_) λht x0 x1=>?_
  ·exact⟨d9,⟨_,_,rfl⟩,by rw[e,Y9,XX,YC,if_pos ht];rfl⟩
  ·exact⟨d9,⟨_,_,rfl⟩,by rw[e,Y9,XX,YC,if_neg (by rw[ht];simp)];simp⟩
 ·rintro β o ⟨_,⟨x0,x1,rfl⟩,rfl⟩;rw[Xu,Y_];exact⟨h0,q⟩
theorem cG {α:Type}{l:List α}:l.filter (λ_=>true)=l:=List.filter_eq_self.mpr λ_ _=>rfl
theorem gq {a b:List D}(h:a.length+b.length<=1000000):vP (.lst a) (.lst b)=some (.lst (a++b)):=by
 show (if a.length+b.length<=XO then _ else _)=_
 rw[if_pos (Ym h (by decide))]
theorem pG {α:Type}{f:α->Int}:∀{l:List α},D.bQ (l.map λx=>D.int (f x))=true
 |[]=>rfl
 |_::l=>pG (l:=l)
theorem pH:∀{a b:List D},D.bQ a=true->D.bQ b=true->D.bQ (a++b)=true
 |[],_,_,h=>h
 |d::a,b,h,h'=>by
  have f':(d.flat&&D.bQ a)=true:=h;rw[Yn]at f';show (d.flat&&D.bQ (a++b))=true;rw[f'.1,pH f'.2 h'];rfl
theorem Bz {α:Type}{f:α->Int}{l:List α}{x:Int}:c0 fA [.lst ((l.map λk=>D.int (f k))++[D.int x])]=some (.int ((fA (l.map f++[x])).getD 0)):=by
 have e:(l.map λk=>D.int (f k))++[D.int x]=(l.map f++[x]).map D.int:=by simp
 rw[e];exact iD oX
theorem ES {α:Type}{l:List α}{m:Nat}{x:α}(h:l.Nodup)(hx:l[m]?=some x):x∉l.take m:=λz=>by
 obtain⟨i,hi⟩:=List.mem_iff_getElem?.mp z;rw[List.getElem?_take]at hi
 split at hi
 ·next d9 =>
  have:=(List.getElem?_inj (XI.mp hi).1 h).mp (hi.trans hx.symm);lia
 ·cases hi
def Cp:FD:=λds R=>∃n:Nat,ds=[.int n]/\n<=80/\R (.lst ((qe n).map zG))
theorem Cp.mono:cU Cp:=λds R R' k h=>by obtain⟨n,e,h1,q⟩:=h;exact⟨n,e,h1,k _ q⟩
def mT:FD:=λds R=>∃n ps,ds=[fy n ps]/\zN n ps/\R (AU n ps)
theorem mT.mono:cU mT:=λds R R' k h=>by obtain⟨n,ps,e,h1,q⟩:=h;exact⟨n,ps,e,h1,k _ q⟩
def mU:FD:=λds R=>∃(n:Nat) (ps:List (Nat×Nat)) (w:Nat×Nat->Int) (L:Nat->Nat) (T:Nat->Nat->Int) (i k j:Nat),ds=[wD ps w,lO n L T,.int i,.int k,.int j]/\(i,k)∈ps/\i<k/\k<j/\j<=n/\k-i-1<L (i+1)/\j-k-1<L (k+1) /\
 R (.int (w (i,k)+T (k-i-1) (i+1)+T (j-k-1) (k+1)))
theorem mU.mono:cU mU:=λds R R' k h=>by obtain⟨n,ps,w,L,T,i,k',j,e,h1,h2,h3,h4,h5,h6,q⟩:=h;exact⟨n,ps,w,L,T,i,k',j,e,h1,h2,h3,h4,h5,h6,k _ q⟩
def mV:FD:=λds R=>∃(n:Nat) (ps:List (Nat×Nat)) (w:Nat×Nat->Int) (L:Nat->Nat) (T:Nat->Nat->Int) (i j:Nat),ds=[AU n ps,wD ps w,lO n L T,.int i,.int j]/\zN n ps/\i<j/\j<=n/\(∀a,i<a->a<=n->n+1-a<=L a)/\R (.int (jh ps w T i j))
theorem mV.mono:cU mV:=λds R R' k h=>by obtain⟨n,ps,w,L,T,i,j,e,h1,h2,h3,h4,q⟩:=h;exact⟨n,ps,w,L,T,i,j,e,h1,h2,h3,h4,k _ q⟩
abbrev g9 (n:Nat)(T:Nat->Nat->Int):D:=lO n (λi=>n+1-i) T
def mW:FD:=λds R=>∃(n:Nat) (ps:List (Nat×Nat)) (w:Nat×Nat->Int),ds=[fy n ps,wD ps w]/\zN n ps/\R (g9 n (tW ps w))
theorem mW.mono:cU mW:=λds R R' k h=>by obtain⟨n,ps,w,e,h1,q⟩:=h;exact⟨n,ps,w,e,h1,k _ q⟩
def w1:Nat×Nat->Int:=λ_=>1
def vK:FD:=λds R=>∃(n:Nat) (ps:List (Nat×Nat)),ds=[fy n ps]/\zN n ps/\R (wD ps w1)
theorem vK.mono:cU vK:=λds R R' k h=>by obtain⟨n,ps,e,h1,q⟩:=h;exact⟨n,ps,e,h1,k _ q⟩
def mR:FD:=λds R=>∃(n:Nat) (ps:List (Nat×Nat)),ds=[fy n ps]/\zN n ps/\R (g9 n (tW ps w1))
theorem mR.mono:cU mR:=λds R R' k h=>by obtain⟨n,ps,e,h1,q⟩:=h;exact⟨n,ps,e,h1,k _ q⟩
theorem eY {n:Nat}(h:n<=1000):n<=XO:=Ym h (by decide)
theorem iU {n:Nat}(h:n<=1000):n<XO:=Nat.lt_of_le_of_lt h (by decide)
theorem yM {n i:Nat}{x:Int}(hx:x=(i:Int))(h:i<n):xb n x=some i:=by
 subst hx;unfold xb;rw[if_pos (by lia),if_pos (by lia)]
 simp
theorem wu {α:Type}{n i:Nat}{f:Nat->α}{y:α}(h:i<n):((XD n).map f).set i y=(XD n).map λk=>if k=i then y else f k:=by
 refine Zm λk=>?_;rw[ZY]
 by_cases hk:k<n
 ·rw[a_ hk,a_ hk,Xu,Ye]
  by_cases e:i=k
  ·rw[if_pos e,if_pos (e▸hk),if_pos e.symm]
  ·rw[if_neg e,if_neg (YS e)]
 ·rw[Ys (l:=(XD n).map f) (by simpa using hk),Ys (l:=(XD n).map λk=>if k=i then y else f k) (by simpa using hk),if_neg (by lia)]
theorem HL {n i k:Nat}{ps:List (Nat×Nat)}(h:i<n):((XD n).map λj=>D.lst (bj (gV ps j))).set i (.lst (bj (gV ps i)++[D.int k]))=(XD n).map λj=>D.lst (bj (gV (ps++[(i,k)]) j)):=by
 rw[wu h];refine Yh λj _=>?_;unfold gV bj;rw[Y9,XX,XX]
 by_cases e:j=i
 ·rw[if_pos e,e];simp
 ·rw[if_neg e,YC,if_neg (by simpa using YS e)];simp
theorem iZ {ps:List (Nat×Nat)}{i:Nat}:(gV ps i).length<=ps.length:=by
 unfold gV;rw[Xu];exact YJ _ _
def fC (n a b:Nat)(i:Nat):Nat:=if n-1-a<i then n+1-i else if i=n-1-a then b+1 else 1
theorem DT {n a b:Nat}{T:Nat->Nat->Int}(ha:a<n)(hb:b<=a):
  ((XD (n+1)).map λi=>D.lst (rC (fC n a b i) λl=>T l i)).set (n-1-a) (.lst (rC (b+1) (λl=>T l (n-1-a))++[D.int (T (b+1) (n-1-a))]))=(XD (n+1)).map λi=>D.lst (rC (fC n a (b+1) i) λl=>T l i):=by
 rw[wu (by lia)]
 refine Yh λi _=>?_;unfold fC
 by_cases e:i=n-1-a
 ·rw[if_pos e,e,if_neg (by lia),if_pos rfl]
  unfold rC;rw[List.range_succ (n:=b+1),XX];rfl
 ·rw[if_neg e,if_neg e,if_neg e]
theorem yI {n a:Nat}(h:a+1<n)(i:Nat)(hi:i<=n):fC n a (a+1) i=fC n (a+1) 0 i:=by
 unfold fC
 by_cases h1:n-1-a<i
 ·rw[if_pos h1,if_pos (by omega)]
 ·rw[if_neg h1]
  by_cases h2:i=n-1-a
  ·rw[if_pos h2,if_pos (by omega)];omega
  ·rw[if_neg h2,if_neg (by omega)]
   split <;> rfl
theorem BG {n a:Nat}(h:n=a+1)(i:Nat)(hi:i<=n):fC n a (a+1) i=n+1-i:=by
 unfold fC
 split
 ·rfl
 ·split <;> lia
theorem vo {n:Nat}(h:0<n)(i:Nat)(hi:i<=n):fC n 0 0 i=1:=by
 unfold fC
 split
 ·lia
 ·split <;> rfl
theorem oA {n:Nat}{L L':Nat->Nat}{T:Nat->Nat->Int}(h:∀i,i<=n->L i=L' i):lO n L T=lO n L' T:=by
 unfold lO
 congr 1
 refine Yh λi hi=>?_;rw[h i (by have:=YV.mp hi;lia)]
def xR (n idx:Nat)(L:Nat->Nat):Prop:=(n=0/\L 0=1)\/∃a b,a<n/\b<=a+1/\(∀i,i<=n->L i=fC n a b i)/\(qe n).drop idx=eE n a b
theorem tY {n:Nat}:xR n 0 λ_=>1:=by
 rcases Nat.eq_zero_or_pos n with h|h
 ·exact .inl ⟨h,rfl⟩
 ·exact .inr ⟨0,0,h,XG _,λi hi=>(vo h i hi).symm,xW h⟩
theorem za {n:Nat}{L:Nat->Nat}(h:xR n (qe n).length L):∀i,i<=n->L i=n+1-i:=by
 rcases h with⟨rfl,h⟩|⟨a,b,h1,h2,h3,h4⟩
 ·intro i hi;rw[show i=0 by lia,h]
 ·intro i hi;rw[List.drop_length]at h4;have hb:b=a+1:=by
   rcases YQ a b with q|q
   ·lia
   ·rw[ij q]at h4;cases h4
  have ha:n=a+1:=by
   rcases YQ (a+1) n with q|q
   ·rw[hb,oI q,ij (XG _)]at h4;cases h4
   ·lia
  rw[h3 i hi,hb];exact BG ha i hi
theorem vN {n idx:Nat}{L:Nat->Nat}{p:Nat×Nat}(h:xR n idx L)(hp:(qe n)[idx]?=some p):∃a b,a<n/\b<=a/\p=(n-1-a,n-a+b)/\(∀i,i<=n->L i=fC n a b i)/\(qe n).drop (idx+1)=eE n a (b+1):=by
 have hd:(qe n).drop idx=p::(qe n).drop (idx+1):=by
  obtain⟨h1,h2⟩:=XI.mp hp;rw[Yp h1,h2]
 rcases h with⟨rfl,h⟩|⟨a,b,h1,h2,h3,h4⟩
 ·cases hp
 ·have key:∃a b,a<n/\b<=a/\(∀i,i<=n->L i=fC n a b i)/\(qe n).drop idx=eE n a b:=by
   rcases YQ a b with q|q
   ·have e:b=a+1:=by lia
    rcases YQ (a+1) n with q2|q2
    ·exact⟨a+1,0,q2,XG _,λi hi=>by rw[h3 i hi,e,yI q2 i hi],by rw[h4,e,oI q2]⟩
    ·rw[h4,e,uY q2]at hd;cases hd
   ·exact⟨a,b,h1,q,h3,h4⟩
  obtain⟨a,b,h1,h2,h3,h4⟩:=key;rw[h4,ij h2]at hd;injection hd with e1 e2
  exact⟨a,b,h1,h2,e1.symm,h3,e2.symm⟩
theorem rT {n a:Nat}:(d8 n a).length=a+1:=by unfold d8;simp
theorem yi {n a b:Nat}(h:b<a+1):(d8 n a).take (b+1)=(d8 n a).take b++[(n-1-a,n-a+b)]:=by
 rw[YT];unfold d8;rw[a_ h];rfl
theorem AH {n a:Nat}:(d8 n a).take (a+1)=d8 n a:=Za (by rw[rT];exact Xx _)
theorem tw {n:Nat}:∀a:Nat,a<=n->(((XD n).take a).flatMap (d8 n)).length<=a*a
 |0,_=>by simp
 |a+1,h=>by
  have:=tw (n:=n) a (by lia)
  rw[YT,Zo (show a<n by lia),List.flatMap_append,Yb]
  have e:((some a).toList.flatMap (d8 n)).length=a+1:=by simp[rT]
  rw[e,Nat.mul_add,Nat.add_mul];lia
theorem Ak {n a b:Nat}(hn:n<=80)(ha:a<n)(hb:b<a+1):(((XD n).take a).flatMap (d8 n)).length+((d8 n a).take b).length<XO:=by
 have h1:=tw (n:=n) a (by lia)
 have h2:((d8 n a).take b).length<=b:=by rw[X_];exact Nat.min_le_left _ _
 have h3:a*a<=80*80:=Nat.mul_le_mul (by lia) (by lia)
 have h4:80*80+80<XO:=by decide
 lia
end L2.Q
namespace jB
open PySem L2 L2.Q
section
variable {P:Xz}{w:XT}{K:PySem.W.Frag}{mg:Str->Option Xv}{base:Heap}
theorem gR:aL ["many"] ["many"] (aw bH):=⟨rfl,rfl,rfl,by decide +kernel,rfl,by decide +kernel,by decide +kernel⟩
theorem EB {k6 fL} (xx:D4 K mg k6 fL) (B:zC mg):aN P w K mg base bU 1 k6 fL ["many"] (dO P w true Cp):=by
 refine oR xx.F gR (λds R MX=> by obtain⟨n,e,_⟩ := MX;subst e;rfl) λcP A outer s H E hr=>⟨_,(aj (aY (Vt ["i","j","many"] [none,none,some 0] (by rfl) (by decide:(["i","j","many"]:List Str).Nodup) rfl (l4 B.range (aa (aE af (bK.m bz) (ab (i:=0)) ag) (aa (wF k9 ag) (aa (wF k9 ag) ae)))) (λ_ _ _ _ _ _=>(ak (i:=0) (by decide:(["i","j","many"]:List Str).Nodup))) (λ_ _ _ _ _ _=>eR) (λ_ _ _ _ _ _=>(u7 B.range (aa (aE aG az (ab (i:=0)) ag) (aa (aE aG az (ab (i:=2)) ag) ae)))) (λ_ _ _ _ _ _=>(ak (i:=1) (by decide:(["i","j","many"]:List Str).Nodup))) (λ_ _ _ _ _ _=>eR) (λ_ _ _ _ _ _=>(bq (aa (ab (i:=0)) (aa (ab (i:=1)) ae))))))),λds R h=>?_⟩
 obtain⟨n,rfl,hn,q⟩:=h;refine⟨_,rfl,trivial,_,rfl,trivial,_,rfl,rfl,trivial,_,rfl,rfl,trivial,(n:Int)-1,-1,rfl,⟨by lia,by lia,by lia,by lia⟩,trivial,?_⟩
 have en:((n:Int)-1 - -1).toNat=n:=by lia
 rw[en];refine⟨λa β o=>a<=n/\(∃x0 x1,β=[x0,x1,some (.val false (.int n))])/\o=(((XD n).take a).flatMap (d8 n)).map zG,⟨XG _,⟨_,_,rfl⟩,rfl⟩,?_,?_⟩
 ·rintro a d β o hd ⟨ha,⟨x0,x1,rfl⟩,rfl⟩;obtain⟨xi,rfl⟩:=l0 hd;have e1:(n:Int)-1-a=((n-1-a:Nat):Int):=by lia
  rw[e1];refine⟨_,rfl,trivial,_,rfl,trivial,_,rfl,trivial,_,rfl,trivial,((n-1-a:Nat):Int)+1,(n:Int)+1,rfl,⟨by lia,by lia,by lia,by lia⟩,?_⟩
  have e2:((n:Int)+1-(((n-1-a:Nat):Int)+1)).toNat=a+1:=by lia
  rw[e2];refine⟨λb β o=>b<=a+1/\(∃x1,β=[some (.val true (.int ((n-1-a:Nat):Int))),x1,some (.val false (.int n))])/\o=(((XD n).take a).flatMap (d8 n)++(d8 n a).take b).map zG,⟨XG _,⟨_,rfl⟩,by simp⟩,?_,?_⟩
  ·rintro b d β o hd ⟨hb,⟨x1,rfl⟩,rfl⟩;obtain⟨nR,rfl⟩:=ck hd;refine⟨_,rfl,trivial,_,rfl,trivial,lb,trivial,?_,nR,⟨_,rfl⟩,?_⟩
   ·rw[Xu,Yb];exact Ak hn xi nR
   ·rw[show ((n-1-a:Nat):Int)+1+(b:Int)=((n-a+b:Nat):Int) by lia,yi nR,<- YN,XX,XX,XX]
    rfl
  ·rintro β o ⟨_,⟨x1,rfl⟩,rfl⟩;refine⟨xi,⟨_,_,rfl⟩,?_⟩;rw[cM,AH,YT,Zo xi,List.flatMap_append];simp
 ·rintro β o ⟨_,⟨x0,x1,rfl⟩,rfl⟩;rw[lZ,Za (by simp)]
  exact⟨trivial,trivial,q⟩
theorem bB:aL ["row","many","ties","partners","a","b"] ["row"] (aw cV):=⟨rfl,rfl,rfl,by decide +kernel,rfl,by decide +kernel,by decide +kernel⟩
theorem wR {jq eM} (pO:D5 K mg jq eM) (B:zC mg):aN P w K mg base bU 1 jq eM ["row"] (dO P w true mT):=by
 refine oR pO.F bB (λds R MW=> by obtain⟨n,ps,e,_⟩ := MW;subst e;rfl) λcP A outer s H E hr=>⟨_,(ah (l9 (ab (i:=0)) (cw (n:=2) rfl (aH (ak (i:=1) bB.nd) (aH (ak (i:=2) bB.nd) bI))))
    (ah (yh (i:=3) true ["point"] [none] (by rfl) (by decide:(["point"]:List Str).Nodup) rfl (λ_=>(bw B.range (aa (ab (i:=1)) ae))) (λ_ _ _ _ _ _=>(ak (i:=0) (by decide:(["point"]:List Str).Nodup))) (λ_ _ _ _ _ _=>eR) (λ_ _ _ _ _ _=>(aZ ae)) bB.nd)
    (ah (cB YD rfl (bh (ab (i:=2))) (cw (n:=2) rfl (aH (ak (i:=4) bB.nd) (aH (ak (i:=5) bB.nd) bI))) (aj (eG (i:=3) true (λ_=>(ab (i:=5))) (λ_=>(ab (i:=4))))))
    (aj (i4 (i:=3)))))),λds R h=>?_⟩
 obtain⟨n,ps,rfl,ok,q⟩:=h;have hn:=ok.le;refine⟨_,rfl,_,rfl,rfl,_,_,rfl,_,_,rfl,rfl,_,rfl,trivial,n,rfl,by lia,by lia,trivial,?_⟩
 rw[ZZ];refine gb (λ_=>true) (λ_=>.lst []) trivial (by rw[Ye];exact eY (by lia)) (λx hx x0 o J ho h1 _=>⟨XG _,trivial,ho,h1 rfl _⟩) ?_
 rw[cG];refine⟨_,rfl,_,rfl,trivial,?_⟩;refine⟨λm β=>∃x4 x5,β=[some (.val false (fy n ps)),some (.val true (.int n)),some (.val false (fP ps)),some (.own (AU n (ps.take m))),x4,x5],⟨_,_,rfl⟩,?_,?_⟩
 ·rintro m d β hd ⟨x4,x5,rfl⟩;rw[XM]at hd;obtain⟨p,hp,rfl⟩:=XY.mp hd;obtain⟨h1,h2⟩:=ok.lt p (Yq hp);refine⟨_,rfl,rfl,_,_,rfl,_,_,rfl,rfl,⟨_,rfl⟩,_,rfl,_,_,_,_,rfl,rfl,by rw[Xu,Ye];exact yM rfl (show p.1<n by lia),a_ (show p.1<n by lia),_,rfl,trivial,rfl,?_,?_⟩
  ·unfold Q.bj;rw[Xu];have:=iZ (ps:=ps.take m) (i:=p.1);rw[X_]at this;have:=ok.sm;exact iU (by lia)
  ·refine⟨some (.val true (.int p.1)),some (.val true (.int p.2)),?_⟩;have e:ps.take (m+1)=ps.take m++[(p.1,p.2)]:=by rw[YT,hp];rfl
   rw[HL (show p.1<n by lia),e]
   rfl
 ·rintro β ⟨x4,x5,rfl⟩;rw[Xu,Y_];exact⟨_,rfl,q⟩
theorem lU:aL ["worth","table","i","k","j"] ["worth","table","i","k","j"] (aw cW):=⟨rfl,rfl,rfl,by decide +kernel,rfl,by decide +kernel,by decide +kernel⟩
theorem wU {fR cR} (lA:D6 K mg fR cR):aN P w K mg base bU 1 fR cR ["worth","table","i","k","j"] (dO P w true mU):=by
 refine oR lA.F lU (λds R MV=> by obtain⟨n,ps,w,L,T,i,k,j,e,_⟩ := MV;subst e;rfl) λcP A outer s H E hr=>⟨_,(aj (aY (aE aG az (aE aG az (aF af (Mb hr.zZ) (ab (i:=0)) (bq (aa (ab (i:=2)) (aa (ab (i:=3)) ae)))) (aF af a5 (aF af a5 (ab (i:=1)) (aE aG az (ab (i:=2)) ag)) (aE af (bK.m bz) (aE af (bK.m bz) (ab (i:=3)) (ab (i:=2))) ag))) (aF af a5 (aF af a5 (ab (i:=1)) (aE aG az (ab (i:=3)) ag)) (aE af (bK.m bz) (aE af (bK.m bz) (ab (i:=4)) (ab (i:=3))) ag))))),λds R h=>?_⟩
 obtain⟨n,ps,w,L,T,i,k,j,rfl,hm,h1,h2,h3,h4,h5,q⟩:=h;exact⟨_,rfl,trivial,_,rfl,trivial,_,rfl,trivial,lb,_,JN hm,trivial,_,rfl,trivial,_,rfl,trivial,_,rfl,_,o_ (i:=i+1) (by lia) (by lia),.inr ⟨trivial,_,rfl,trivial,_,rfl,_,rfl,trivial,_,rfl,_,ph (l:=k-i-1) (by lia) h4,_,rfl,trivial,
  _,rfl,trivial,_,rfl,trivial,_,rfl,_,o_ (i:=k+1) (by lia) (by lia),.inr ⟨trivial,_,rfl,trivial,_,rfl,_,rfl,trivial,_,rfl,_,ph (l:=j-k-1) (by lia) h5,_,rfl,trivial,q⟩⟩⟩
theorem fI:aL ["partners","worth","table","i","j","numbers"] ["partners","worth","table","i","j"] (aw cJ):=⟨rfl,rfl,rfl,by decide +kernel,rfl,by decide +kernel,by decide +kernel⟩
theorem Bq {k7 fM} (xA:D7 K mg k7 fM) {fR cR} (lA:D6 K mg fR cR) (B:zC mg):aN P w K mg base bU 2 k7 fM ["partners","worth","table","i","j"] (dO P w true mV):=by
 have SF:aN P w K mg base bU 1 _ _ _ (dO P w true mU):= wU lA;refine oR xA.F fI (λds R MU=> by obtain⟨n,ps,w,L,T,i,j,e,_⟩ := MU;subst e;rfl) λcP A outer s H E hr=>⟨_,(ah (yh (i:=5) false ["k","worth","table","i","j"] [none,some 1,some 2,some 3,some 4] (by rfl) (by decide:(["k","worth","table","i","j"]:List Str).Nodup) rfl (λ_=>(bh (aF af a5 (ab (i:=0)) (ab (i:=3))))) (λ_ _ _ _ _ _=>(ak (i:=0) (by decide:(["k","worth","table","i","j"]:List Str).Nodup))) (λ_ _ _ _ _ _=>(ib (aI af (bK.m dq) (ab (i:=0)) (ab (i:=4))))) (λ_ _ _ _ _ _=>(aT mU.mono SF (hr.mono (by decide)) lA.m lA.F.kp lA.b (aa (ab (i:=1)) (aa (ab (i:=2)) (aa (ab (i:=3)) (aa (ab (i:=0)) (aa (ab (i:=4)) ae))))))) fI.nd)
    (aj (aY (bf af (bG.m (j8 rfl)) B.max nj (aa (aE aG az (ab (i:=5)) (aZ (aa (aF af a5 (aF af a5 (ab (i:=2)) (aE aG az (ab (i:=3)) ag)) (aE af (bK.m bz) (aE af (bK.m bz) (ab (i:=4)) (ab (i:=3))) ag)) ae))) ae))))),λds R h=>?_⟩
 obtain⟨n,ps,w,L,T,i,j,rfl,ok,h1,h2,h3,q⟩:=h;have Gz:=ok.sm;have hle:=ok.le;have hl:((gV ps i).filter λk=>decide (k<j)).length<=400:=Ym (YJ _ _) (Ym iZ Gz);refine⟨_,rfl,trivial,_,rfl,_,Mc rfl (by lia),.inr ⟨_,rfl,trivial,?_⟩⟩
 refine gb (λk=>decide (k<j)) (λk=>.int (w (i,k)+T (k-i-1) (i+1)+T (j-k-1) (k+1))) trivial (eY (Ym iZ (by lia))) (λk hk x0 o J ho j1 j2=>?_) ?_
 ·have hm:=cY.mp hk;obtain⟨g1,g2⟩:=ok.lt _ hm;dsimp only at g1 g2;refine⟨_,rfl,trivial,_,rfl,_,rfl,_,rfl,jX (λRl=>?_) (λRl=>j2 (by simp;lia) _)⟩
  have Ca:k<j:=by lia
  have a1:=h3 (i+1) (by lia) (by lia)
  have a2:=h3 (k+1) (by lia) (by lia)
  exact⟨_,rfl,trivial,_,rfl,trivial,_,rfl,trivial,_,rfl,trivial,_,rfl,trivial,n,ps,w,L,T,i,k,j,rfl,hm,g1,Ca,h2,by lia,by lia,trivial,ho,j1 (by simpa using Ca) _⟩
 ·have a1:=h3 (i+1) (by lia) (by lia)
  refine⟨_,rfl,trivial,_,rfl,trivial,_,rfl,trivial,_,rfl,_,o_ (i:=i+1) (by lia) (by lia),.inr ⟨trivial,_,rfl,trivial,_,rfl,_,rfl,trivial,_,rfl,_,ph (l:=j-i-1) (by lia) (by lia),trivial,Ai,_,gq (by rw[Xu];show _+1<=_;lia),.inl ⟨pH pG rfl,trivial,_,Bz,trivial,q⟩⟩⟩
theorem a9:aL ["row","worth","many","partners","table","i","j"] ["row","worth"] (aw b7):=⟨rfl,rfl,rfl,by decide +kernel,rfl,by decide +kernel,by decide +kernel⟩
theorem Br {nY hV} (xB:D8 K mg nY hV) {jq eM} (pO:D5 K mg jq eM) {k6 fL} (xx:D4 K mg k6 fL) {k7 fM} (xA:D7 K mg k7 fM) {fR cR} (lA:D6 K mg fR cR) (B:zC mg):aN P w K mg base bU 3 nY hV ["row","worth"] (dO P w true mW):=by
 have SA:aN P w K mg base bU 1 _ _ _ (dO P w true mT):= wR pO B;have WG:aN P w K mg base bU 1 _ _ _ (dO P w true Cp):= EB xx B;have WL:aN P w K mg base bU 2 _ _ _ (dO P w true mV):= Bq xA lA B;refine oR xB.F a9 (λds R MT=> by obtain⟨n,ps,w,e,_⟩ := MT;subst e;rfl) λcP A outer s H E hr=>⟨_,(ah (a6 (i:=2) (aF af a5 (ab (i:=0)) ag) a9.nd)
    (ah (a6 (i:=3) (aT mT.mono SA (hr.mono (by decide)) pO.m pO.F.kp pO.b (aa (ab (i:=0)) ae)) a9.nd)
    (ah (yh (i:=4) true ["i"] [none] (by rfl) (by decide:(["i"]:List Str).Nodup) rfl (λ_=>(bw B.range (aa (aE aG az (ab (i:=2)) ag) ae))) (λ_ _ _ _ _ _=>(ak (i:=0) (by decide:(["i"]:List Str).Nodup))) (λ_ _ _ _ _ _=>eR) (λ_ _ _ _ _ _=>(aZ (aa ag ae))) a9.nd)
    (ah (cB YD rfl (bh (aT Cp.mono WG (hr.mono (by decide)) xx.m xx.F.kp xx.b (aa (ab (i:=2)) ae))) (cw (n:=2) rfl (aH (ak (i:=5) a9.nd) (aH (ak (i:=6) a9.nd) bI))) (aj (eG (i:=4) true (λ_=>(aT mV.mono WL (hr.mono (by decide)) xA.m xA.F.kp xA.b (aa (ab (i:=3)) (aa (ab (i:=1)) (aa (ab (i:=4)) (aa (ab (i:=5)) (aa (ab (i:=6)) ae))))))) (λ_=>(ab (i:=5))))))
    (aj (i4 (i:=4))))))),λds R h=>?_⟩
 obtain⟨n,ps,w,rfl,ok,q⟩:=h;have hn:=ok.le;have hp:∀p∈ps,p.1<p.2:=λp hp=>(ok.lt p hp).1;refine⟨_,rfl,trivial,_,rfl,_,rfl,trivial,n,ps,rfl,ok,_,rfl,trivial,_,rfl,trivial,(n:Int)+1,rfl,by lia,by lia,trivial,?_⟩
 rw[show ((n:Int)+1).toNat=n+1 by lia]
 refine gb (λ_=>true) (λ_=>.lst [.int 0]) trivial (by rw[Ye];exact eY (by lia)) (λx hx x0 o J ho h1 _=>⟨trivial,Ai,trivial,ho,h1 rfl _⟩) ?_
 rw[cG];refine⟨_,rfl,trivial,n,rfl,hn,_,rfl,trivial,?_⟩;refine⟨λidx β=>∃L x5 x6,β=[some (.val false (fy n ps)),some (.val false (wD ps w)),some (.val true (.int n)),some (.val true (AU n ps)),some (.own (lO n L (tW ps w))),x5,x6]/\xR n idx L,⟨λ_=>1,_,_,rfl,tY⟩,?_,?_⟩
 ·rintro idx d β hd ⟨L,x5,x6,rfl,dn⟩;rw[XM]at hd;obtain⟨p,kZ,rfl⟩:=XY.mp hd;obtain⟨a,b,ha,hb,rfl,hL,BW⟩:=vN dn kZ;have eL:lO n L (tW ps w)=lO n (fC n a b) (tW ps w):=oA hL;have e0:fC n a b (n-1-a)=b+1:=by unfold fC;rw[if_neg (by lia),if_pos rfl]
  rw[eL];refine⟨_,rfl,rfl,_,_,rfl,_,_,rfl,rfl,⟨_,rfl⟩,_,rfl,_,_,_,_,rfl,rfl,by rw[Xu,Ye];exact yM rfl (show n-1-a<n+1 by lia),a_ (show n-1-a<n+1 by lia),
   _,rfl,trivial,_,rfl,trivial,_,rfl,trivial,_,rfl,trivial,_,rfl,trivial,n,ps,w,fC n a b,tW ps w,n-1-a,n-a+b,rfl,ok,by lia,by lia,λa' h1 h2=>by unfold fC;rw[if_pos h1];exact Xx _,trivial,rfl,?_,?_⟩
  ·rw[e0];unfold rC;rw[Xu,Ye];exact iU (by lia)
  ·refine⟨fC n a (b+1),some (.val true (.int ((n-1-a:Nat):Int))),some (.val true (.int ((n-a+b:Nat):Int))),?_,.inr ⟨a,b+1,ha,by lia,λ_ _=>rfl,BW⟩⟩
   have ev:jh ps w (tW ps w) (n-1-a) (n-a+b)=tW ps w (b+1) (n-1-a):=by rw[k_ hp,show n-1-a+b+1=n-a+b by lia]
   rw[ev,e0,DT ha hb];rfl
 ·rintro β ⟨L,x5,x6,rfl,dn⟩;rw[Xu]at dn;have e:lO n L (tW ps w)=g9 n (tW ps w):=oA (za dn);rw[e];exact⟨_,rfl,q⟩
theorem rO:aL ["row"] ["row"] (aw ft):=⟨rfl,rfl,rfl,by decide +kernel,rfl,by decide +kernel,by decide +kernel⟩
theorem Bp {nX hG} (uy:D9 K mg nX hG):aN P w K mg base bU 1 nX hG ["row"] (dO P w true vK):=by
 refine oR uy.F rO (λds R MS=> by obtain⟨n,ps,e,_⟩ := MS;subst e;rfl) λcP A outer s H E hr=>⟨_,(aj (aY (Wt (Nat.lt_of_succ_lt hr.zZ) ["tie"] [none] (by rfl) (by decide:(["tie"]:List Str).Nodup) rfl (bh (aF af a5 (ab (i:=0)) ag)) (λ_ _ _ _ _ _=>(ak (i:=0) (by decide:(["tie"]:List Str).Nodup))) (λ_ _ _ _ _ _=>eR) (λ_ _ _ _ _ _=>(ab (i:=0))) (λ_ _ _ _ _ _=>ag)))),λds R h=>?_⟩
 obtain⟨n,ps,rfl,ok,q⟩:=h;have Gz:=ok.sm;refine⟨_,rfl,trivial,_,rfl,.inr ⟨_,rfl,trivial,?_⟩⟩;refine⟨λm β o=>m<=ps.length/\(∃x0,β=[x0])/\o=(ps.take m).map λp=>(tI p,D.int (w1 p)),⟨XG _,⟨_,rfl⟩,rfl⟩,?_,?_⟩
 ·rintro m d β o hd ⟨hm,⟨x0,rfl⟩,rfl⟩;rw[XM]at hd;obtain⟨p,hp,rfl⟩:=XY.mp hd;have d9:=(XI.mp hp).1;refine⟨_,rfl,tI p,rfl,rfl,EL (ES ok.nd hp),?_,d9,⟨_,rfl⟩,?_⟩
  ·rw[Xu,X_];exact iU (by lia)
  ·rw[YT,hp,XX];rfl
 ·rintro β o ⟨_,⟨x0,rfl⟩,rfl⟩;rw[Xu,Y_];exact⟨trivial,trivial,q⟩
theorem rN:aL ["row"] ["row"] (aw fq):=⟨rfl,rfl,rfl,by decide +kernel,rfl,by decide +kernel,by decide +kernel⟩
theorem Bn {tJ kL} (Ds:O1 K mg tJ kL) {nY hV} (xB:D8 K mg nY hV) {jq eM} (pO:D5 K mg jq eM) {k6 fL} (xx:D4 K mg k6 fL) {k7 fM} (xA:D7 K mg k7 fM) {fR cR} (lA:D6 K mg fR cR) {nX hG} (uy:D9 K mg nX hG) (B:zC mg):aN P w K mg base bU 4 tJ kL ["row"] (dO P w true mR):=by
 have WM:aN P w K mg base bU 3 _ _ _ (dO P w true mW):= Br xB pO xx xA lA B;have SD:aN P w K mg base bU 1 _ _ _ (dO P w true vK):= Bp uy;refine oR Ds.F rN (λds R MR=> by obtain⟨n,ps,e,_⟩ := MR;subst e;rfl) λcP A outer s H E hr=>⟨_,(aj (aY (aT mW.mono WM (hr.mono (by decide)) xB.m xB.F.kp xB.b (aa (ab (i:=0)) (aa (aT vK.mono SD (hr.mono (by decide)) uy.m uy.F.kp uy.b (aa (ab (i:=0)) ae)) ae))))),λds R h=>?_⟩
 obtain⟨n,ps,rfl,ok,q⟩:=h;exact⟨_,rfl,trivial,_,rfl,trivial,n,ps,rfl,ok,trivial,n,ps,w1,rfl,ok,trivial,q⟩
end
end jB
namespace L2.Q
open Mx
def IB:Sr Nat:=⟨0,1,(·+·),(· * ·)⟩
theorem yD {l:List Int}{x:Int}:(fA (l++[x])).getD 0∈l++[x]/\∀y∈l++[x],y<=(fA (l++[x])).getD 0:=by
 cases l with
 |nil=>exact bX [] x
 |cons a l=>exact bX (l++[x]) a
theorem o7 {ps:List (Nat×Nat)}{w:Nat×Nat->Int}{T:Nat->Nat->Int}{i j:Nat}:
  (jh ps w T i j=T (j-i-1) (i+1)\/∃k,(i,k)∈ps/\k<j/\jh ps w T i j=w (i,k)+T (k-i-1) (i+1)+T (j-k-1) (k+1)) /\
  T (j-i-1) (i+1)<=jh ps w T i j/\∀k,(i,k)∈ps->k<j->w (i,k)+T (k-i-1) (i+1)+T (j-k-1) (k+1)<=jh ps w T i j:=by
 obtain⟨h1,h2⟩:=yD (l:=((gV ps i).filter λk=>decide (k<j)).map λk=>w (i,k)+T (k-i-1) (i+1)+T (j-k-1) (k+1)) (x:=T (j-i-1) (i+1));refine⟨?_,h2 _ (by simp),λk hk hj=>h2 _ (YU _ (X7.mpr ⟨k,X3.mpr ⟨cY.mpr hk,decide_eq_true hj⟩,rfl⟩))⟩
 rcases XW.mp h1 with h|h
 ·obtain⟨k,hk,e⟩:=X7.mp h;obtain⟨q1,q2⟩:=X3.mp hk;exact .inr ⟨k,cY.mp q1,of_decide_eq_true q2,e.symm⟩
 ·exact .inl (XQ.mp h)
open PySem PySem.Spec PySem.SeqAt PyProof.Rows
section
variable {X:Cx}{C:Cfg}{e a:Expr}{φ:aR}{p:Bool}{pos p2 p3 p4:Pos}{j:Nat}
theorem Ek {te:TE}(he:PE X e te):PE X (.Subscript e (.Slice none none (some (.UnaryOp .USub (.Constant (.int 1) j p3) p4)) p2) pos) (λσ H Q=>te σ H λx H1=>∃a xs,x=.ref a/\H1 a=some (.lst xs)/\∀p,H1 p=none->Q (.ref p) (upd H1 p (.lst xs.reverse))):=by
 intro pins s σ H Q I h;refine Subscript_ (bF (he pins s σ H _ I h) λv s1 ⟨x,H1,I1,r1,q1⟩=>?_);refine wpAny_Slice ?_;rw[evalPart_none];refine XB (XB ?_);rw[evalPart_some];refine bF (Ga (X:=X) (pos:=p4) z9 (bc (i:=1) (j:=j) (pos:=p3)) pins s1 σ H1 (λv H'=>v=.int (-1)/\H'=H1) I1 ⟨1,rfl,rfl,rfl⟩) λu s3 ⟨y,H3,I3,r3,ey,eH⟩=>?_;subst ey eH;obtain⟨tk,rfl⟩:=(show ∃t,u=Value.int (-1) t from r3)
 have I4:Inv X pins σ H3 {s3 with heap:=s3.heap.push {cls:=.type "slice",data:=.fields #[.none,.none,.int (-1) tk]}}:=I3.kept (t':=s3.toks) λb ob q=>XA _ q
 have Ks:(s3.heap.push {cls:=.type "slice",data:=.fields #[.none,.none,.int (-1) tk]}).IsSliceOf s3.heap.objs.size .none .none (.int (-1) tk):=Heap.IsSliceOf.new ..
 generalize VF:({s3 with heap:=s3.heap.push {cls:=.type "slice",data:=.fields #[.none,.none,.int (-1) tk]}}:Xw)=s4 at I4 ⊢
 have QD:s4.heap.IsSliceOf s3.heap.objs.size .none .none (.int (-1) tk):=by rw[<- VF];exact Ks
 have main:∃T id,typeLookup (.type T) "__getitem__" = pure (some (.builtin id))/\s4.TypeIs v T/\X4 (model X.prog X.w) X.A (getItem v (.ref s3.heap.objs.size)) (EP X pins σ Q) X.xe s4:=by
  obtain⟨a,xs,rfl,hx,q⟩:=q1;cases (show v=Value.ref a from r1)
  obtain⟨its,r,ht,hz⟩:=I4.list (c6.of hx);have hlen:=r.length;refine⟨"list",_,slot_list_getitem.lookup,ht.isList.typeIs,?_⟩;refine wpAny_getItem_list_slice ht.isList QD .none .none (.int (-1) tk) (by simp) ?_ (by rw[X2] <;> lia)
  rw[HT.nF];refine⟨.ref s4.heap.objs.size,_,I4.laid (t':=s4.toks) (o:=.lst xs.reverse) (λb ob q=>XA _ q) (Xx _) ?_,rfl,q _ (I4.bt.fresh (Xx _))⟩;exact⟨by rw[List.length_reverse];lia,_,0,by simpa using Vals.rev r,X6 _ rfl⟩
 obtain⟨T,id,hT,ht,hg⟩:=main;show X4 (model X.prog X.w) X.A (subscriptTail e (.Slice none none (some (.UnaryOp .USub (.Constant (.int 1) j p3) p4)) p2) v (.ref s3.heap.objs.size)) (EP X pins σ Q) X.xe s4;exact tail_any (ops:=[v,.ref s3.heap.objs.size]) ht hT hg (by with_unfolding_all rfl)
def NG:D->Option D
 |.lst ds=>some (.lst ds.reverse)
 |_=>none
def Lo (φ:aR):aR:=λβ R=>φ β λx k β1=>∃d,NG x=some d/\kN NL d k.wk λk'=>R d k' β1
theorem wG {j:Nat}(ha:PQ X C p a φ):PQ X C p (.Subscript a (.Slice none none (some (.UnaryOp .USub (.Constant (.int 1) j p3) p4)) p2) pos) (Lo φ) :=
 ⟨λβ R R' k h=>ha.mono β _ _ (λx kx β1 h=>by obtain⟨d,e,q⟩:=h;exact⟨d,e,q.mono λ_ z=>k _ _ _ z⟩) h,
  (Ek ha.pe).pre λσ H Q h=>by
    obtain⟨β,own,s,h⟩:=h;refine tQ.of ha s h λd k β1 v H1 aC h o1 r1=>?_;obtain⟨d',e,q⟩:=h;have rr:=ay.aV C0 r1.rep;cases d with
    |lst ds =>
      cases e;obtain⟨c,vs,rfl,h1,n1,rs⟩:=rr;refine⟨c,vs,rfl,h1,λp hp=>?_⟩;have sm:au H1 (upd H1 p (.lst vs.reverse)):=au.new hp;have hw:¬ av C (Wn aC) k.wk p:=λz=>o1.sq.CH _ p z hp;have r2:ay X.prog X.w (av C (Wn aC) k.wk) (upd H1 p (.lst vs.reverse)) (.lst ds.reverse) (.ref p):=⟨p,_,rfl,ar,hw,(ai.rev rs).same sm⟩;obtain⟨k',q,r⟩:=KV.kN (Z:=(H,Wn own)) F5 r2 (λn=>i7 (H:=H1) o1.sq.zJ o1.sq.iJ (λa z e=>o1.sn.d a z e) n ⟨p,_,rfl,ar,λz=>z hp,ai.flat n ((ai.rev rs).same sm)⟩) q;exact q _ _ aC (o1.same sm) r
    |_=>cases e⟩
end
section
variable {X:Cx}{C:Cfg}{a:Expr}{φ:aR}{p:Bool}
def PJ (φ:aR):aW:=λβ R=>φ β λd _ β'=>∃ds,d=.lst ds/\R (!ds.isEmpty) β'
theorem Eg (ha:PQ X C p a φ)(he:∀whole,isTrue a X.env whole=(do let v <- whole;aaL a.pos;holding [v] (truthy v)):=by intro _;rfl):uz X C p a (PJ φ) :=
 ⟨λβ R R' k h=>ha.mono β _ _ (λd kd β' h=>by obtain⟨b,e,q⟩:=h;exact⟨b,e,k _ _ q⟩) h,(AS ha.pe he).pre λσ H Q h=>by
  obtain⟨β,own,s,h⟩:=h;refine tQ.of ha s h λd k β' v H1 aC h o1 r1=>?_;obtain⟨ds,e,q⟩:=h;subst e;obtain⟨c,vs,rfl,h1,n1,rs⟩:=r1.rep;refine⟨!ds.isEmpty,.inl ⟨vs,c6.of h1,?_⟩,q H1 aC o1⟩;have:=rs.length;cases ds <;> cases vs <;> first|rfl|cases this⟩
end
def oD:Option Nat->D
 |none=>.bP
 |some k=>.int (k:Int)
def parts (i:Nat)(k:Option Nat)(j:Nat):List (Nat×Nat):=match k with
 |none=>[(i+1,j)]
 |some k=>[(i+1,k),(k+1,j)]
def eP (ps:List (Nat×Nat))(w:Nat×Nat->Int)(T:Nat->Nat->Int)(i j:Nat):List (Option Nat) :=
 ((gV ps i).filter λk=>decide (k<j)&&decide (w (i,k)+T (k-i-1) (i+1)+T (j-k-1) (k+1)=T (j-i) i)).map some++(if T (j-i-1) (i+1)=T (j-i) i then [none] else [])
def Ve (ps:List (Nat×Nat))(w:Nat×Nat->Int)(T:Nat->Nat->Int)(i j:Nat):Option Nat->Prop
 |none=>T (j-i-1) (i+1)=T (j-i) i
 |some k=>(i,k)∈ps/\k<j/\w (i,k)+T (k-i-1) (i+1)+T (j-k-1) (k+1)=T (j-i) i
theorem cE {ps:List (Nat×Nat)}{w:Nat×Nat->Int}{T:Nat->Nat->Int}{i j:Nat}{c:Option Nat}(h:c∈eP ps w T i j):Ve ps w T i j c:=by
 unfold eP at h;rcases XW.mp h with h|h
 ·obtain⟨k,hk,rfl⟩:=X7.mp h;obtain⟨h1,h2⟩:=X3.mp hk;rw[Yn,decide_eq_true_eq,decide_eq_true_eq]at h2;exact⟨cY.mp h1,h2.1,h2.2⟩
 ·split at h
  ·next e=>rw[XQ.mp h];exact e
  ·cases h
theorem ud {ps:List (Nat×Nat)}{w:Nat×Nat->Int}(hp:∀p∈ps,p.1<p.2){i j:Nat}(h:i<j):eP ps w (tW ps w) i j≠[]:=by
 have e:tW ps w (j-i) i=jh ps w (tW ps w) i j:=by rw[show j-i=(j-i-1)+1 by lia,k_ hp,show i+(j-i-1)+1=j by lia]
 obtain⟨h1,_,_⟩:=o7 (ps:=ps) (w:=w) (T:=tW ps w) (i:=i) (j:=j);rw[<- e]at h1;unfold eP;intro z;obtain⟨z1,z2⟩:=List.append_eq_nil_iff.mp z;rcases h1 with q|⟨k,hk,hj,q⟩
 ·rw[if_pos q.symm]at z2;cases z2
 ·have:k∈(gV ps i).filter λk=>decide (k<j)&&decide (w (i,k)+tW ps w (k-i-1) (i+1)+tW ps w (j-k-1) (k+1)=tW ps w (j-i) i):=X3.mpr ⟨cY.mpr hk,by rw[Yn,decide_eq_true_eq,decide_eq_true_eq];exact⟨hj,q.symm⟩⟩
  rw[List.map_eq_nil_iff.mp z1]at this;cases this
def bE (ps:List (Nat×Nat))(w:Nat×Nat->Int)(i j:Nat):Option Nat:=(eP ps w (tW ps w) i j).headD none
theorem bY {ps:List (Nat×Nat)}{w:Nat×Nat->Int}(hp:∀p∈ps,p.1<p.2){i j:Nat}(h:i<j):bE ps w i j∈eP ps w (tW ps w) i j:=by
 have:=ud (w:=w) hp h;unfold bE;cases q:eP ps w (tW ps w) i j with
 |nil=>exact absurd q this
 |cons a l=>simp
def nS (ps:List (Nat×Nat))(w:Nat×Nat->Int):Nat->Nat->Nat->List (Nat×Nat)
 |0,_,_=>[]
 |n+1,i,j=>if i<j then match bE ps w i j with
   |none=>nS ps w n (i+1) j
   |some k=>(i,k)::(nS ps w n (i+1) k++nS ps w n (k+1) j)
  else []
theorem dJ {ps:List (Nat×Nat)}{w:Nat×Nat->Int}(hp:∀p∈ps,p.1<p.2):∀{n m i j:Nat},j-i<=n->j-i<=m->nS ps w n i j=nS ps w m i j
 |0,0,_,_,_,_=>rfl
 |0,m+1,i,j,h,_=>by unfold nS;rw[if_neg (by omega)]
 |n+1,0,i,j,_,h=>by unfold nS;rw[if_neg (by omega)]
 |n+1,m+1,i,j,h1,h2=>by
  unfold nS
  by_cases h:i<j
  ·rw[if_pos h,if_pos h];have hm:=cE (bY (w:=w) hp h);cases q:bE ps w i j with
   |none=>exact dJ hp (by omega) (by omega)
   |some k =>
    rw[q]at hm;have:=hp _ hm.1;dsimp only at this;have h3:=hm.2.1;dsimp only;rw[dJ hp (n:=n) (m:=m) (i:=i+1) (j:=k) (by omega) (by omega),dJ hp (n:=n) (m:=m) (i:=k+1) (j:=j) (by omega) (by omega)]
  ·rw[if_neg h,if_neg h]
def bu (ps:List (Nat×Nat))(w:Nat×Nat->Int)(i j:Nat):List (Nat×Nat):=nS ps w (j-i) i j
theorem bJ {ps:List (Nat×Nat)}{w:Nat×Nat->Int}{i j:Nat}(h:¬ i<j):bu ps w i j=[]:=by
 unfold bu;rw[show j-i=0 by lia]
 rfl
theorem dG {ps:List (Nat×Nat)}{w:Nat×Nat->Int}(hp:∀p∈ps,p.1<p.2){i j:Nat}(h:i<j):bu ps w i j=match bE ps w i j with
  |none=>bu ps w (i+1) j
  |some k=>(i,k)::(bu ps w (i+1) k++bu ps w (k+1) j):=by
 unfold bu;rw[show j-i=(j-i-1)+1 by lia]
 conv=>lhs;unfold nS
 rw[if_pos h];have hm:=cE (bY (w:=w) hp h);cases q:bE ps w i j with
 |none=>exact dJ hp (by lia) (by lia)
 |some k =>
  rw[q]at hm;have:=hp _ hm.1;dsimp only at this;have h3:=hm.2.1;dsimp only;rw[dJ hp (n:=j-i-1) (m:=k-(i+1)) (i:=i+1) (j:=k) (by lia) (by lia),dJ hp (n:=j-i-1) (m:=j-(k+1)) (i:=k+1) (j:=j) (by lia) (by lia)]
def tf (i:Nat):Option Nat->List (Nat×Nat)
 |none=>[]
 |some k=>[(i,k)]
theorem vH {ps:List (Nat×Nat)}{w:Nat×Nat->Int}(hp:∀p∈ps,p.1<p.2){i j:Nat}(h:i<j):bu ps w i j=tf i (bE ps w i j)++(parts i (bE ps w i j) j).flatMap λp=>bu ps w p.1 p.2:=by
 rw[dG hp h];cases bE ps w i j with
 |none=>simp[parts,tf]
 |some k=>simp[parts,tf]
theorem jn {ps:List (Nat×Nat)}{w:Nat×Nat->Int}(hp:∀p∈ps,p.1<p.2):∀l i j,j-i<=l->2*(bu ps w i j).length<=j-i:=by
 intro l
 induction l with
 |zero=>intro i j h;rw[bJ (by lia)];exact XG _
 |succ l ih =>
  intro i j h
  by_cases aJ:i<j
  ·rw[dG hp aJ];have hm:=cE (bY (w:=w) hp aJ);cases q:bE ps w i j with
   |none=>have:=ih (i+1) j (by lia);dsimp only;lia
   |some k =>
    rw[q]at hm;have h1:=hp _ hm.1;dsimp only at h1;have h3:=hm.2.1;have a1:=ih (i+1) k (by lia)
    have a2:=ih (k+1) j (by lia)
    dsimp only;rw[XJ,Yb];lia
  ·rw[bJ aJ];exact XG _
def mS:FD:=λds R=>∃(i:Nat) (k:Option Nat) (j:Nat),ds=[.int i,oD k,.int j]/\R (.lst ((parts i k j).map zG))
theorem mS.mono:cU mS:=λds R R' k h=>by obtain⟨i,c,j,e,q⟩:=h;exact⟨i,c,j,e,k _ q⟩
def tT:FD:=λds R=>∃(n:Nat) (ps:List (Nat×Nat)) (w:Nat×Nat->Int) (T:Nat->Nat->Int) (i j:Nat),ds=[AU n ps,wD ps w,g9 n T,.int i,.int j]/\zN n ps/\i<j/\j<=n/\R (.lst ((eP ps w T i j).map oD))
theorem tT.mono:cU tT:=λds R R' k h=>by obtain⟨n,ps,w,T,i,j,e,h1,h2,h3,q⟩:=h;exact⟨n,ps,w,T,i,j,e,h1,h2,h3,k _ q⟩
def tR:FD:=λds R=>∃(n:Nat) (ps:List (Nat×Nat)) (w:Nat×Nat->Int) (i j:Nat),ds=[fy n ps,wD ps w,g9 n (tW ps w),.int i,.int j]/\zN n ps/\i<=j/\j<=n/\R (fP (bu ps w i j))
theorem tR.mono:cU tR:=λds R R' k h=>by obtain⟨n,ps,w,i,j,e,h1,h2,h3,q⟩:=h;exact⟨n,ps,w,i,j,e,h1,h2,h3,k _ q⟩
def By (ps:List (Nat×Nat))(i j:Nat):D:=.tup [.int (tW ps w1 (j-i) i),fP (bu ps w1 i j)]
def jr:FD:=λds R=>∃(n:Nat) (ps:List (Nat×Nat)) (i j:Nat),ds=[fy n ps,.int i,.int j]/\zN n ps/\i<=j/\j<=n/\R (By ps i j)
theorem jr.mono:cU jr:=λds R R' k h=>by obtain⟨n,ps,i,j,e,h1,h2,h3,q⟩:=h;exact⟨n,ps,i,j,e,h1,h2,h3,k _ q⟩
def tO:FD:=λds R=>∃(n:Nat) (ps:List (Nat×Nat)),ds=[fy n ps]/\zN n ps/\R (By ps 0 n)
theorem tO.mono:cU tO:=λds R R' k h=>by obtain⟨n,ps,e,h1,q⟩:=h;exact⟨n,ps,e,h1,k _ q⟩
def uI (ws:List (Nat×Nat)):Nat:=(ws.map λp=>2*(p.2-p.1)+1).sum
theorem p0 {a b:List (Nat×Nat)}:uI (a++b)=uI a+uI b:=by unfold uI;rw[XX,List.sum_append]
theorem DE {a:List (Nat×Nat)}:uI a.reverse=uI a:=by
 unfold uI;rw[List.map_reverse];exact(List.reverse_perm _).sum_nat
theorem jo {ps:List (Nat×Nat)}:D.bQ (ps.map λp=>kD (tI p))=true:=by
 have:=d3 (ps.map tI);rw[YB]at this;exact this
def tS:FD:=λds R=>∃n ps,ds=[fy n ps]/\R (fy n ps)
theorem tS.mono:cU tS:=λds R R' k h=>by obtain⟨n,ps,e,q⟩:=h;exact⟨n,ps,e,k _ q⟩
def near (ps:List (Nat×Nat))(b:Nat):List Nat:=(ps.filter λp=>decide (p.2=b)).map (·.1)
theorem dY {ps:List (Nat×Nat)}{a b:Nat}:a∈near ps b↔(a,b)∈ps:=by
 unfold near;rw[X7];constructor
 ·rintro⟨p,hp,rfl⟩;obtain⟨h1,h2⟩:=X3.mp hp;rw[<- of_decide_eq_true h2];exact h1
 ·intro h;exact⟨(a,b),X3.mpr ⟨h,by simp⟩,rfl⟩
theorem ER {ps:List (Nat×Nat)}{b:Nat}(h:ps.Nodup):(near ps b).Nodup:=by
 unfold near;refine Y7.mpr ((h.filter _).imp_of_mem λ{p q} hp hq n e=>n ?_);have h1:=of_decide_eq_true (X3.mp hp).2;have h2:=of_decide_eq_true (X3.mp hq).2;exact Prod.ext e (h1.trans h2.symm)
theorem mh {ps:List (Nat×Nat)}{b:Nat}:(near ps b).length<=ps.length:=by
 unfold near;rw[Xu];exact YJ _ _
theorem wg {f:Nat->Nat}{p:Nat->Bool}{x:Nat}(hx:p x=false):∀{l:List Nat},l.Nodup->((l.filter λa=>p a || decide (a=x)).map f).sum=((l.filter p).map f).sum+if x∈l then f x else 0
 |[],_=>by simp
 |a::l,h=>by
  obtain⟨h1,h2⟩:=X9.mp h;have ih:=wg (f:=f) hx h2
  by_cases e:a=x
  ·subst e;rw[YC,if_pos (by simp),YC,if_neg (by rw[hx];simp),X5,ZD,ih,if_neg h1,if_pos (by simp)]
   lia
  ·have e':(if x∈a::l then f x else 0)=if x∈l then f x else 0:=by
    by_cases q:x∈l
    ·rw[if_pos q,if_pos (by simp[q])]
    ·rw[if_neg q,if_neg (by simp[q];exact λz=>e z.symm)]
   rw[e',YC,YC];cases q:p a
   ·rw[if_neg (by simp[e]),if_neg (by simp)];exact ih
   ·rw[if_pos (by simp),if_pos rfl,X5,ZD,X5,ZD,ih];lia
theorem oB {f:Nat->Nat}{l:List Nat}(h:l.Nodup){i:Nat}:∀len:Nat,((l.filter λa=>decide (i<=a)&&decide (a<i+len)).map f).sum=Mx.DJ IB len λr=>(if i+r∈l then 1 else 0)*f (i+r)
 |0=>by
  have:(l.filter λa=>decide (i<=a)&&decide (a<i+0))=[]:=ZN.mpr λa _=>by simp
  rw[this];rfl
 |len+1=>by
  have e:(λa=>decide (i<=a)&&decide (a<i+(len+1)))=λa=>(decide (i<=a)&&decide (a<i+len)) || decide (a=i+len):=by
   funext a
   rw[aax];simp;lia
  rw[e,wg (by simp) h,oB h len]
  show _+_=_+(if i+len∈l then 1 else 0)*f (i+len)
  congr 1
  split
  ·rw[Nat.one_mul]
  ·rw[Nat.zero_mul]
theorem rD {α:Type}{f:α->Nat}:∀{l:List α},(l.map λa=>((f a:Nat):Int)).sum=((l.map f).sum:Nat)
 |[]=>rfl
 |a::l=>by rw[X5,ZD,X5,ZD,rD];lia
def lx:Nat->Nat
 |0=>1
 |n+1=>(n+1)*lx n
theorem xr (a:Nat):∀b,lx a*lx b<=lx (a+b)
 |0=>by show lx a*1<=lx a;lia
 |b+1=>by
  show lx a*((b+1)*lx b)<=(a+b+1)*lx (a+b);rw[Nat.mul_left_comm];exact Nat.mul_le_mul (by lia) (xr a b)
theorem Co {a b:Nat}(h:a<=b):lx a<=lx b:=by
 induction b with
 |zero=>rw[show a=0 by lia];exact Xx _
 |succ b ih =>
  rcases YQ b a with q|q
  ·rw[show a=b+1 by lia];exact Xx _
  ·exact Ym (ih q) (Nat.le_mul_of_pos_left _ (by lia))
theorem wj {f:Nat->Nat}{c:Nat}:∀{n:Nat},(∀r,r<n->f r<=c)->Mx.DJ IB n f<=n*c
 |0,_=>XG _
 |n+1,h=>by
  show Mx.DJ IB n f+f n<=_;have:=wj (f:=f) (n:=n) λr hr=>h r (by lia)
  have:=h n (by lia)
  rw[Nat.add_mul,Nat.one_mul];lia
theorem J1 {a b:Int}(h:qZ a b):NJ (.int a) (.int b)=some (.int (a*b)):=by
 show (if qZ a b then _ else _)=_
 rw[if_pos h]
theorem sum_ints {α:Type}{f:α->Int}{l:List α}:c0 (λns=>some ns.sum) [.lst (l.map λk=>D.int (f k))]=some (.int (l.map f).sum):=by
 have e:(l.map λk=>D.int (f k))=(l.map f).map D.int:=by simp
 rw[e];exact iD rfl
theorem rK (n:Nat)(ps:List (Nat×Nat)):(fy n ps).pd.canLay0=true/\(fy n ps).pd.depth<=4:=by
 have:=ya (n:Int) (ps.map tI);unfold HQ at this;rw[YB]at this;exact this
end L2.Q
namespace jB
open PySem L2 L2.Q
section
variable {P:Xz}{w:XT}{K:PySem.W.Frag}{mg:Str->Option Xv}{base:Heap}
theorem nH:aL ["i","k","j"] ["i","k","j"] (aw dB):=⟨rfl,rfl,rfl,by decide +kernel,rfl,by decide +kernel,by decide +kernel⟩
theorem Bo {nV hE} (zK:N8 K mg nV hE):aN P w K mg base bU 1 nV hE ["i","k","j"] (dO P w true mS):=by
 refine oR zK.F nH (λds R MQ=> by obtain⟨i,k,j,e,_⟩ := MQ;subst e;rfl) λcP A outer s H E hr=>⟨_,(eF (bC (aI af (bK.m qz) (ab (i:=1)) l7) (aj (aY (aZ (aa (bq (aa (aE aG az (ab (i:=0)) ag) (aa (ab (i:=2)) ae))) ae)))) aP)
    (aj (aY (aZ (aa (bq (aa (aE aG az (ab (i:=0)) ag) (aa (ab (i:=1)) ae))) (aa (bq (aa (aE aG az (ab (i:=1)) ag) (aa (ab (i:=2)) ae))) ae)))))),λds R h=>?_⟩
 obtain⟨i,k,j,rfl,q⟩:=h;cases k with
 |none=>exact⟨λ_=>False,⟨_,rfl,trivial,_,rfl,_,rfl,xf rfl ⟨_,rfl,trivial,_,rfl,trivial,_,rfl,trivial,lb,trivial,Ai,trivial,q⟩⟩,λ_ z=>z.elim⟩
 |some k =>
  refine⟨λβ=>β=[some (.val false (.int i)),some (.val false (.int k)),some (.val false (.int j))],⟨_,rfl,trivial,_,rfl,_,rfl,jm rfl rfl⟩,?_⟩;rintro β rfl;exact⟨_,rfl,trivial,_,rfl,trivial,_,rfl,trivial,lb,trivial,_,rfl,trivial,_,rfl,trivial,_,rfl,trivial,lb,trivial,lb,trivial,q⟩
theorem dh:aL ["partners","worth","table","i","j","best","choices"] ["partners","worth","table","i","j"] (aw cK):=⟨rfl,rfl,rfl,by decide +kernel,rfl,by decide +kernel,by decide +kernel⟩
theorem EH {nZ hX} (zL:N7 K mg nZ hX) {fR cR} (lA:D6 K mg fR cR) (B:zC mg):aN P w K mg base bU 2 nZ hX ["partners","worth","table","i","j"] (dO P w true tT):=by
 have SF:aN P w K mg base bU 1 _ _ _ (dO P w true mU):= wU lA;refine oR zL.F dh (λds R MP=> by obtain⟨n,ps,w,T,i,j,e,_⟩ := MP;subst e;rfl) λcP A outer s H E hr=>⟨_,(ah (a6 (i:=5) (aF af a5 (aF af a5 (ab (i:=2)) (ab (i:=3))) (aE af (bK.m bz) (ab (i:=4)) (ab (i:=3)))) dh.nd)
    (ah (yh (i:=6) true ["k","j","best","worth","table","i"] [none,some 4,some 5,some 1,some 2,some 3] (by rfl) (by decide:(["k","j","best","worth","table","i"]:List Str).Nodup) rfl (λ_=>(bh (aF af a5 (ab (i:=0)) (ab (i:=3))))) (λ_ _ _ _ _ _=>(ak (i:=0) (by decide:(["k","j","best","worth","table","i"]:List Str).Nodup))) (λ_ _ _ _ _ _=>(ib (xN.t (qq (aI af (bK.m dq) (ab (i:=0)) (ab (i:=1))) (l3 (aI af (bK.m (bW hr.units)) (aT mU.mono SF (hr.mono (by decide)) lA.m lA.F.kp lA.b (aa (ab (i:=3)) (aa (ab (i:=4)) (aa (ab (i:=5)) (aa (ab (i:=0)) (aa (ab (i:=1)) ae)))))) (ab (i:=2)))))))) (λ_ _ _ _ _ _=>(ab (i:=0))) dh.nd)
    (eF (bC (aI af (bK.m (bW hr.units)) (aF af a5 (aF af a5 (ab (i:=2)) (aE aG az (ab (i:=3)) ag)) (aE af (bK.m bz) (aE af (bK.m bz) (ab (i:=4)) (ab (i:=3))) ag)) (ab (i:=5))) (aj (cD (i:=6) (λ_=>l7))) aP)
    (aj (i4 (i:=6)))))),λds R h=>?_⟩
 obtain⟨n,ps,w,T,i,j,rfl,ok,h1,h2,q⟩:=h;have Gz:=ok.sm;have hle:=ok.le;refine⟨_,rfl,trivial,_,rfl,_,o_ rfl (by lia),.inr ⟨trivial,_,rfl,trivial,_,rfl,_,rfl,_,ph (l:=j-i) (by lia) (by lia),?_⟩⟩
 refine⟨_,rfl,trivial,_,rfl,_,Mc rfl (by lia),.inr ⟨_,rfl,trivial,?_⟩⟩
 refine gb (λk=>decide (k<j)&&decide (w (i,k)+T (k-i-1) (i+1)+T (j-k-1) (k+1)=T (j-i) i)) (λk=>.int (k:Int)) trivial (eY (Ym iZ (by lia))) (λk hk x0 o J ho j1 j2=>?_) ?_
 ·have hm:=cY.mp hk;obtain⟨g1,g2⟩:=ok.lt _ hm;dsimp only at g1 g2;refine⟨_,rfl,trivial,_,rfl,_,rfl,_,rfl,jX (λRl=>?_) (λRl=>jm rfl (j2 ?_ _))⟩
  ·have Ca:k<j:=by lia
   refine⟨_,rfl,trivial,_,rfl,trivial,_,rfl,trivial,_,rfl,trivial,_,rfl,trivial,n,ps,w,(λi=>n+1-i),T,i,k,j,rfl,hm,g1,Ca,h2,by show _<n+1-(i+1);lia,by show _<n+1-(k+1);lia,trivial,_,rfl,_,bS _ _,_,rfl,jX (λe=>?_) (λe=>j2 ?_ _)⟩
   ·exact⟨_,rfl,trivial,ho,j1 (by rw[Yn,decide_eq_true_eq,decide_eq_true_eq];exact⟨Ca,e⟩) _⟩
   ·rw[Bool.and_eq_false_iff];exact .inr (decide_eq_false e)
  ·rw[Bool.and_eq_false_iff];exact .inl (decide_eq_false (by lia))
 ·have eb:eP ps w T i j=((gV ps i).filter λk=>decide (k<j)&&decide (w (i,k)+T (k-i-1) (i+1)+T (j-k-1) (k+1)=T (j-i) i)).map some++(if T (j-i-1) (i+1)=T (j-i) i then [none] else []):=rfl
  have em:(((gV ps i).filter λk=>decide (k<j)&&decide (w (i,k)+T (k-i-1) (i+1)+T (j-k-1) (k+1)=T (j-i) i)).map λ(k:Nat)=>D.int (k:Int))=(((gV ps i).filter λk=>decide (k<j)&&decide (w (i,k)+T (k-i-1) (i+1)+T (j-k-1) (k+1)=T (j-i) i)).map some).map oD:=by rw[YB];rfl
  have hl:(((gV ps i).filter λk=>decide (k<j)&&decide (w (i,k)+T (k-i-1) (i+1)+T (j-k-1) (k+1)=T (j-i) i)).map some).length<=400:=by rw[Xu];exact Ym (YJ _ _) (Ym iZ Gz)
  rw[em];generalize ((gV ps i).filter λk=>decide (k<j)&&decide (w (i,k)+T (k-i-1) (i+1)+T (j-k-1) (k+1)=T (j-i) i)).map some=cs at eb hl ⊢
  refine⟨λβ=>β[6]?=some (some (.own (.lst ((eP ps w T i j).map oD)))),?_,λβ hβ=>⟨_,hβ,q⟩⟩;refine⟨_,rfl,trivial,_,rfl,trivial,_,rfl,_,o_ (i:=i+1) (by lia) (by lia),.inr ⟨trivial,_,rfl,trivial,_,rfl,_,rfl,trivial,_,rfl,_,ph (l:=j-i-1) (by lia) (by lia),trivial,_,rfl,_,bS _ _,_,rfl,jX (λe=>?_) (λe=>?_)⟩⟩
  ·rw[if_pos e]at eb;refine⟨⟨_,rfl⟩,trivial,_,rfl,by rw[Xu];exact iU (by lia),?_⟩
   rw[eb,XX];rfl
  ·rw[if_neg e,YX]at eb;rw[eb];rfl
theorem aX:aL ["row","worth","table","i","j","partners","found","waiting","low","high","k"] ["row","worth","table","i","j"] (aw b8):=⟨rfl,rfl,rfl,by decide +kernel,rfl,by decide +kernel,by decide +kernel⟩
theorem EF {tK kM} (Dt:O0 K mg tK kM) {jq eM} (pO:D5 K mg jq eM) {nZ hX} (zL:N7 K mg nZ hX) {fR cR} (lA:D6 K mg fR cR) {nV hE} (zK:N8 K mg nV hE) (B:zC mg):aN P w K mg base bU 3 tK kM ["row","worth","table","i","j"] (dO P w true tR):=by
 have SA:aN P w K mg base bU 1 _ _ _ (dO P w true mT):= wR pO B;have WR:aN P w K mg base bU 2 _ _ _ (dO P w true tT):= EH zL lA B;have WH:aN P w K mg base bU 1 _ _ _ (dO P w true mS):= Bo zK;refine oR Dt.F aX (λds R MO=> by obtain⟨n,ps,w,i,j,e,_⟩ := MO;subst e;rfl) λcP A outer s H E hr=>⟨_,(ah (a6 (i:=5) (aT mT.mono SA (hr.mono (by decide)) pO.m pO.F.kp pO.b (aa (ab (i:=0)) ae)) aX.nd)
    (ah (cX (i:=6) (λ_=>(aZ ae)) aX.nd)
    (ah (cX (i:=7) (λ_=>(aZ (aa (bq (aa (ab (i:=3)) (aa (ab (i:=4)) ae))) ae))) aX.nd)
    (ah (Bd YD (Eg (ab (i:=7))) (ah (l9 (A6 (i:=7)) (cw (n:=2) rfl (aH (ak (i:=8) aX.nd) (aH (ak (i:=9) aX.nd) bI))))
    (aj (bC (aI af (bK.m dq) (ab (i:=8)) (ab (i:=9))) (ah (a6 (i:=10) (aF af a5 (aT tT.mono WR (hr.mono (by decide)) zL.m zL.F.kp zL.b (aa (ab (i:=5)) (aa (ab (i:=1)) (aa (ab (i:=2)) (aa (ab (i:=8)) (aa (ab (i:=9)) ae)))))) ag) aX.nd)
    (eF (bC (aI af (bK.m Bi) (ab (i:=10)) l7) (aj (cD (i:=6) (λ_=>(bq (aa (ab (i:=8)) (aa (ab (i:=10)) ae)))))) aP)
    (aj (oP (i:=7) (wG (aT mS.mono WH (hr.mono (by decide)) zK.m zK.F.kp zK.b (aa (ab (i:=8)) (aa (ab (i:=10)) (aa (ab (i:=9)) ae))))))))) aP))))
    (aj (i4 (i:=6))))))),λds R h=>?_⟩
 obtain⟨n,ps,w,i,j,rfl,ok,h1,h2,q⟩:=h;have hn:=ok.le;have hp:∀p∈ps,p.1<p.2:=λp hp=>(ok.lt p hp).1;have Xj:(bu ps w i j).length<=40:=by have:=jn (w:=w) hp (j-i) i j (Xx _);lia
 refine⟨_,rfl,trivial,n,ps,rfl,ok,XG _,trivial,_,rfl,trivial,_,rfl,trivial,lb,trivial,Ai,trivial,?_⟩;refine⟨λm β=>∃(ws:List (Nat×Nat)) (fs:List (Nat×Nat)) (x8 x9 iM:Option Q.B),β=[some (.val false (fy n ps)),some (.val false (wD ps w)),some (.val false (g9 n (tW ps w))),some (.val false (.int i)),some (.val false (.int j)),some (.val true (AU n ps)),some (.own (fP fs)),some (.own (.lst (ws.map zG))),x8,x9,iM]/\(∀p∈ws,p.2<=n)/\uI ws=m/\m<=200/\fs++(ws.reverse.flatMap λp=>bu ps w p.1 p.2)=bu ps w i j,⟨_,[(i,j)],[],_,_,_,rfl,λp hp=>by rw[XQ.mp hp];exact h2,rfl,by show 2*(j-i)+1+0<=200;lia,by simp⟩,?_⟩
 rintro m β ⟨ws,fs,x8,x9,iM,rfl,hw,hm,hl,hf⟩;rcases List.eq_nil_or_concat ws with rfl|⟨uE,⟨l,h⟩,rfl⟩
 ·refine⟨_,rfl,_,rfl,jm rfl ?_⟩;have hf:fs=bu ps w i j:=by simpa using hf
  rw[<- hf]at q;exact⟨_,rfl,q⟩
 ·rw[List.concat_eq_append]at hw hm hf ⊢
  rw[p0]at hm;have Xg:uE.length<=uI uE:=by
   unfold uI
   clear hw hm hf
   induction uE with
   |nil=>exact Xx _
   |cons a l ih=>rw[X5,ZD,XJ];lia
  have hm:uI uE+(2*(h-l)+1)=m:=hm;have hh:h<=n:=hw (l,h) (by simp)
  rw[aay,List.reverse_singleton,List.singleton_append,List.flatMap_cons]at hf;refine⟨_,rfl,_,rfl,xf (by rw[XX];cases uE <;> rfl) ?_⟩
  rw[XX];refine⟨uE.map zG,zG (l,h),rfl,_,rfl,rfl,_,_,rfl,_,_,rfl,rfl,?_⟩;refine⟨_,rfl,trivial,_,rfl,_,rfl,_,rfl,jX (λGD=>?_) (λGD=>?_)⟩
  ·have GD:l<h:=by lia
   have B9:=ud (w:=w) hp GD;have T8:=vH (w:=w) hp GD;have iA:=cE (bY (w:=w) hp GD);have Fg:bE ps w l h=(eP ps w (tW ps w) l h).headD none:=rfl;cases hb:eP ps w (tW ps w) l h with
   |nil=>exact absurd hb B9
   |cons c cs =>
    rw[hb]at Fg;have Fg:bE ps w l h=c:=Fg;rw[Fg]at T8 iA;rw[T8]at hf;have fin:∀(rd:List (Nat×Nat)) (iM:Option Q.B),rd=fs++tf l c->∃m',m'<m/\∃(ws:List (Nat×Nat)) (fs:List (Nat×Nat)) (x8 x9 KS:Option Q.B),[some (Q.B.val false (fy n ps)),some (.val false (wD ps w)),some (.val false (g9 n (tW ps w))),some (.val false (.int i)),some (.val false (.int j)),some (.val true (AU n ps)),some (.own (fP rd)),some (.own (.lst (uE.map zG++(parts l c h).reverse.map zG))),some (.val true (.int l)),some (.val true (.int h)),iM]=[some (Q.B.val false (fy n ps)),some (.val false (wD ps w)),some (.val false (g9 n (tW ps w))),some (.val false (.int i)),some (.val false (.int j)),some (.val true (AU n ps)),some (.own (fP fs)),some (.own (.lst (ws.map zG))),x8,x9,KS]/\(∀p∈ws,p.2<=n)/\uI ws=m'/\m'<=200/\fs++(ws.reverse.flatMap λp=>bu ps w p.1 p.2)=bu ps w i j:=λrd iM e=>by
     have W_:uI (parts l c h).reverse<2*(h-l)+1:=by
      rw[DE];cases c with
      |none=>show 2*(h-(l+1))+1+0<_;lia
      |some k =>
       have:=hp _ iA.1;dsimp only at this;have h3:=iA.2.1;show 2*(k-(l+1))+1+(2*(h-(k+1))+1+0)<_;lia
     refine⟨uI (uE++(parts l c h).reverse),by rw[p0];lia,uE++(parts l c h).reverse,rd,_,_,_,by rw[XX],λp kZ=>?_,rfl,by rw[p0];lia,?_⟩
     ·rcases XW.mp kZ with z|z
      ·exact hw p (by simp[z])
      ·have z:=List.mem_reverse.mp z;cases c with
       |none=>rw[XQ.mp z];exact hh
       |some k =>
        have h3:=iA.2.1;rcases Xy.mp z with rfl|z
        ·show k<=n;lia
        ·rw[XQ.mp z];exact hh
     ·rw[<- hf,e,aay,List.reverse_reverse,List.flatMap_append];simp only[YN]
    refine⟨_,rfl,trivial,_,rfl,trivial,_,rfl,trivial,_,rfl,trivial,_,rfl,trivial,n,ps,w,tW ps w,l,h,rfl,ok,GD,hh,trivial,oD c,fK (i:=0) rfl (by rw[hb];rfl),?_⟩
    cases c with
    |none =>
     refine⟨λβ=>β=[some (Q.B.val false (fy n ps)),some (.val false (wD ps w)),some (.val false (g9 n (tW ps w))),some (.val false (.int i)),some (.val false (.int j)),some (.val true (AU n ps)),some (.own (fP fs)),some (.own (.lst (uE.map zG))),some (.val true (.int l)),some (.val true (.int h)),some (.val true .bP)],⟨_,rfl,trivial,_,rfl,_,rfl,jm rfl rfl⟩,?_⟩;rintro β rfl;exact⟨⟨_,rfl⟩,_,rfl,trivial,_,rfl,trivial,_,rfl,trivial,l,none,h,rfl,_,rfl,.inl ⟨rfl,_,_,rfl,rfl,rfl,by rw[Xu];exact eY (show uE.length+1<=1000 by lia),fin fs _ (by simp[tf])⟩⟩
    |some k =>
     refine⟨λβ=>β=[some (Q.B.val false (fy n ps)),some (.val false (wD ps w)),some (.val false (g9 n (tW ps w))),some (.val false (.int i)),some (.val false (.int j)),some (.val true (AU n ps)),some (.own (fP (fs++[(l,k)]))),some (.own (.lst (uE.map zG))),some (.val true (.int l)),some (.val true (.int h)),some (.val true (.int k))],⟨_,rfl,trivial,_,rfl,_,rfl,xf rfl ⟨⟨_,rfl⟩,_,rfl,trivial,_,rfl,trivial,lb,trivial,_,rfl,?_,?_⟩⟩,?_⟩
     ·rw[Xu];have:=congrArg List.length hf;rw[Yb]at this;exact iU (by lia)
     ·unfold fP;rw[XX];rfl
     ·rintro β rfl;exact⟨⟨_,rfl⟩,_,rfl,trivial,_,rfl,trivial,_,rfl,trivial,l,some k,h,rfl,_,rfl,.inl ⟨rfl,_,_,rfl,rfl,rfl,by rw[Xu];exact eY (show uE.length+2<=1000 by lia),fin (fs++[(l,k)]) _ rfl⟩⟩
  ·have GD:¬ l<h:=by lia
   rw[bJ GD]at hf;exact⟨uI uE,by lia,uE,fs,_,_,_,rfl,λp kZ=>hw p (by simp[kZ]),rfl,by lia,by simpa using hf⟩
theorem lV:aL ["row","i","j","table"] ["row","i","j"] (aw gA):=⟨rfl,rfl,rfl,by decide +kernel,rfl,by decide +kernel,by decide +kernel⟩
theorem yx {yY pK} (GZ:SI K mg yY pK) {tJ kL} (Ds:O1 K mg tJ kL) {nY hV} (xB:D8 K mg nY hV) {jq eM} (pO:D5 K mg jq eM) {k6 fL} (xx:D4 K mg k6 fL) {k7 fM} (xA:D7 K mg k7 fM) {fR cR} (lA:D6 K mg fR cR) {nX hG} (uy:D9 K mg nX hG) {tK kM} (Dt:O0 K mg tK kM) {nZ hX} (zL:N7 K mg nZ hX) {nV hE} (zK:N8 K mg nV hE) (B:zC mg):aN P w K mg base bU 5 yY pK ["row","i","j"] (dO P w true jr):=by
 have WD:aN P w K mg base bU 4 _ _ _ (dO P w true mR):= Bn Ds xB pO xx xA lA uy B;have WN:aN P w K mg base bU 3 _ _ _ (dO P w true tR):= EF Dt pO zL lA zK B;have SD:aN P w K mg base bU 1 _ _ _ (dO P w true vK):= Bp uy;refine oR GZ.F lV (λds R MN=> by obtain⟨n,ps,i,j,e,_⟩ := MN;subst e;rfl) λcP A outer s H E hr=>⟨_,(ah (bC (lh (yq ag (e_ qw (ab (i:=1)) (e_ qw (ab (i:=2)) (qr qw (aF af a5 (ab (i:=0)) ag)))))) oO aP)
    (ah (a6 (i:=3) (aT mR.mono WD (hr.mono (by decide)) Ds.m Ds.F.kp Ds.b (aa (ab (i:=0)) ae)) lV.nd)
    (aj (aY (bq (aa (aF af a5 (aF af a5 (ab (i:=3)) (ab (i:=1))) (aE af (bK.m bz) (ab (i:=2)) (ab (i:=1)))) (aa (aT tR.mono WN (hr.mono (by decide)) Dt.m Dt.F.kp Dt.b (aa (ab (i:=0)) (aa (aT vK.mono SD (hr.mono (by decide)) uy.m uy.F.kp uy.b (aa (ab (i:=0)) ae)) (aa (ab (i:=3)) (aa (ab (i:=1)) (aa (ab (i:=2)) ae)))))) ae))))))),λds R h=>?_⟩
 obtain⟨n,ps,i,j,rfl,ok,h1,h2,q⟩:=h;have ej:(j:Int)-(i:Int)=((j-i:Nat):Int):=by lia
 refine⟨_,rfl,_,rfl,xf (decide_eq_true (by lia)) ⟨_,rfl,_,rfl,xf (decide_eq_true (by lia)) ⟨_,rfl,trivial,_,rfl,_,rfl,_,rfl,jm (by show (!decide _)=false;rw[decide_eq_true (show (j:Int)<=(n:Int) by lia)];rfl) ?_⟩⟩⟩
 exact⟨_,rfl,trivial,n,ps,rfl,ok,_,rfl,trivial,_,rfl,_,o_ rfl (by lia),.inr ⟨trivial,_,rfl,trivial,_,rfl,_,rfl,_,ph (l:=j-i) ej (by lia),trivial,_,rfl,trivial,_,rfl,trivial,n,ps,rfl,ok,trivial,_,rfl,trivial,_,rfl,trivial,_,rfl,trivial,n,ps,w1,i,j,rfl,ok,h1,h2,trivial,lb,trivial,q⟩⟩
theorem qj:aL ["row"] ["row"] (aw d_):=⟨rfl,rfl,rfl,by decide +kernel,rfl,by decide +kernel,by decide +kernel⟩
theorem ED {Fv xn} (KG:Uw K mg Fv xn) {yY pK} (GZ:SI K mg yY pK) {tJ kL} (Ds:O1 K mg tJ kL) {nY hV} (xB:D8 K mg nY hV) {jq eM} (pO:D5 K mg jq eM) {k6 fL} (xx:D4 K mg k6 fL) {k7 fM} (xA:D7 K mg k7 fM) {fR cR} (lA:D6 K mg fR cR) {nX hG} (uy:D9 K mg nX hG) {tK kM} (Dt:O0 K mg tK kM) {nZ hX} (zL:N7 K mg nZ hX) {nV hE} (zK:N8 K mg nV hE) (B:zC mg):aN P w K mg base bU 6 Fv xn ["row"] (dO P w true tO):=by
 have WJ:aN P w K mg base bU 5 _ _ _ (dO P w true jr):= yx GZ Ds xB pO xx xA lA uy Dt zL zK B;refine oR KG.F qj (λds R MM=> by obtain⟨n,ps,e,_⟩ := MM;subst e;rfl) λcP A outer s H E hr=>⟨_,(aj (aY (aT jr.mono WJ (hr.mono (by decide)) GZ.m GZ.F.kp GZ.b (aa (ab (i:=0)) (aa ag (aa (aF af a5 (ab (i:=0)) ag) ae)))))),λds R h=>?_⟩
 obtain⟨n,ps,rfl,ok,q⟩:=h;exact⟨_,rfl,trivial,trivial,_,rfl,trivial,_,rfl,trivial,n,ps,0,n,rfl,ok,XG _,Xx _,trivial,q⟩
end
end jB
namespace L2.Q
open PySem PySem.Spec PySem.SeqAt PyProof.Rows
section
variable {X:Cx}{C:Cfg}{lk:List (Option Nat)}{γ:dw}{τ:aW}{φ:aR}{T:List Nat}{scope:aaa}{N':List Str}{tg cj elt:Expr}{ifs:List Expr}{ι:cv}{pos:Pos}
def AO (lk:List (Option Nat))(ι:cv)(γ:dw)(τ:aW)(φ:aR):aR:=λβ R=>ι β λds k β1=>hold k true/\kB γ τ φ ds k (cg lk β1) λo=>R (.lst o) .own β1
theorem H4 (L:Links X scope N' lk)(pD:N'.Nodup)(hT:T.all (λi=>match lk[i]? with|some (some _)=>false|_=>true)=true)(hc:X.calm=true)(hi:vY X C true tg cj ι)
  (pA:∀a cl c s H ex,xO (aA X scope N' cl c s H ex) (C.u λc=>c=a) tg T γ) (jY:∀a cl c s H ex,uk (aA X scope N' cl c s H ex) ifs (iT (aA X scope N' cl c s H ex) (C.u λc=>c=a) true τ)) (τm:∀β R R',(∀d β,R d β->R' d β)->τ β R->τ β R')
  (mM:∀a cl c s H ex,PQ (aA X scope N' cl c s H ex) (C.u λc=>c=a) true elt φ) (γm:∀d k β R R',(∀r,R r->R' r)->γ d k β R->γ d k β R') (φm:∀β R R',(∀d k β,R d k β->R' d k β)->φ β R->φ β R')
  (hs:∀x,Yy cj X.env x=pure x:=by intro _;rfl):PQ X C true (.ListComp elt [⟨tg,cj,ifs,0⟩] scope pos) (AO lk ι γ τ φ):=by
 have Fl:∀i∈T,∀j,lk[i]?≠some (some j):=λi hi j e=>by
  have:=ZH.mp hT i hi;rw[e]at this;cases this
 refine⟨λβ R R' k h=>hi.mono β _ _ (λds kd β1 q=>⟨q.1,q.2.mono λo z=>k _ _ _ z⟩) h,?_⟩;refine(fZ (g:=⟨tg,cj,ifs,0⟩) (gs:=[]) (tg:=λa v σ H Q=>∃own β d k,SQ X (C.u λc=>c=a) σ H β own/\Rp X (fU (C.u λc=>c=a) (Wn own) k) H d v/\γ d k β λβ'=>∀σ' aQ,SQ X (C.u λc=>c=a) σ' H β' aQ->(∀a,Wn aQ a->Wn own a)->(∀j,j∉T->σ'[j]?=σ[j]?)->Q σ' H)
  (tt:=λa=>iT X (C.u λc=>c=a) true τ) (ta:=λa N σ H=>tQ X (C.u λc=>c=a) true φ σ H λv H1=>∃xs,H1 a=some (.lst xs)/\xs.length<XO/\N σ (upd H1 a (.lst (xs++[v]))))
  L hc f7 rfl rfl (λ_ _=>xF) hi.pi (λa cl c s H ex=>⟨(pA a cl c s H ex).pg,jY a cl c s H ex,f6 rfl (mM a cl c s H ex).pe⟩) hs).pre λσ H Q ⟨β,own,s,h⟩=>?_
 refine⟨β,own,s,hi.mono β _ _ (λds k β1 ⟨hk,q⟩ J H1 aC o1 it a ha=>?_) h⟩;exact j6 γm τm φm (cF L pD) Fl o1.sq ha (hp:=true) (λ_=>rfl) hk it q λo H' q o2 r=>q _ _ aC (o1.trans o2) (r.later o1.sn)
theorem Tu (N':List Str)(lk:List (Option Nat))(L:gc X.env.scope.names X.N scope N' lk=true)(pD:N'.Nodup)(hc:X.calm=true)(hi:vY X C true tg cj ι)
  (pA:∀U cl c s H ex,xO (aA X scope N' cl c s H ex) (C.u U) tg T γ) (jY:∀U cl c s H ex,qW (aA X scope N' cl c s H ex) (C.u U) true ifs τ) (mM:∀U cl c s H ex,PQ (aA X scope N' cl c s H ex) (C.u U) true elt φ)
  (hT:T.all (λi=>match lk[i]? with|some (some _)=>false|_=>true)=true:=by rfl) (hs:∀x,Yy cj X.env x=pure x:=by intro _;rfl):PQ X C true (.ListComp elt [⟨tg,cj,ifs,0⟩] scope pos) (AO lk ι γ τ φ) :=
 H4 (Links.of L) pD hT hc hi (λa=>pA _) (λa cl c s H ex=>(jY _ cl c s H ex).pt) (jY (λ_=>False) [] 0 X.s₀ X.H₀ []).mono (λa=>mM _) (pA (λ_=>False) [] 0 X.s₀ X.H₀ []).mono (mM (λ_=>False) [] 0 X.s₀ X.H₀ []).mono hs
end
section
variable {ps:List (Nat×Nat)}
def mX (ps:List (Nat×Nat))(i j:Nat):Int:=tW ps w1 (j-i) i
theorem cZ {i j:Nat}(h:j<=i):mX ps i j=0:=by unfold mX;rw[show j-i=0 by lia];rfl
theorem lq {l:List Int}{m:Int}(h:fA l=some m):m∈l/\∀x∈l,x<=m:=by
 cases l with
 |nil=>cases h
 |cons a l=>cases h;exact bX l a
theorem wY {l:List Int}{m:Int}(h1:m∈l)(h2:∀x∈l,x<=m):fA l=some m:=by
 cases h:fA l with
 |none=>cases l with|nil=>cases h1|cons a l=>cases h
 |some k =>
  obtain⟨g1,g2⟩:=lq h;have:=h2 _ g1;have:=g2 _ h1;rw[show k=m by lia]
theorem qF (hp:∀p∈ps,p.1<p.2){i j:Nat}(h:i<j):fA ((((gV ps i).filter λk=>decide (k<j)).map λk=>1+mX ps (i+1) k+mX ps (k+1) j)++[mX ps (i+1) j])=some (mX ps i j):=by
 have e:mX ps i j=jh ps w1 (tW ps w1) i j:=by
  unfold mX;rw[show j-i=(j-i-1)+1 by lia,k_ hp,show i+(j-i-1)+1=j by lia]
 rw[e];unfold jh;rw[<- oX];have e2:(((gV ps i).filter λk=>decide (k<j)).map λk=>1+mX ps (i+1) k+mX ps (k+1) j)=((gV ps i).filter λk=>decide (k<j)).map λk=>w1 (i,k)+tW ps w1 (k-i-1) (i+1)+tW ps w1 (j-k-1) (k+1):=by
  refine Yh λk _=>?_;unfold mX;rw[show k-(i+1)=k-i-1 by lia,show j-(k+1)=j-k-1 by lia]
  rfl
 rw[e2];unfold mX;rw[show j-(i+1)=j-i-1 by lia]
theorem gJ (hp:∀p∈ps,p.1<p.2){i j:Nat}(h:i<j):mX ps (i+1) j<=mX ps i j:=(lq (qF hp h)).2 _ (by simp)
theorem f9 (hp:∀p∈ps,p.1<p.2){i j k:Nat}(h:(i,k)∈ps)(hk:k<j):1+mX ps (i+1) k+mX ps (k+1) j<=mX ps i j:=by
 have yT:=hp _ h;dsimp only at yT;refine(lq (qF hp (show i<j by lia))).2 _ (YU _ (X7.mpr ⟨k,X3.mpr ⟨cY.mpr h,decide_eq_true hk⟩,rfl⟩))
theorem mq (hp:∀p∈ps,p.1<p.2){i j:Nat}(h:i<j):mX ps i j=mX ps (i+1) j\/∃k,(i,k)∈ps/\k<j/\mX ps i j=1+mX ps (i+1) k+mX ps (k+1) j:=by
 rcases XW.mp (lq (qF hp h)).1 with z|z
 ·obtain⟨k,hk,e⟩:=X7.mp z;obtain⟨h1,h2⟩:=X3.mp hk;exact .inr ⟨k,cY.mp h1,of_decide_eq_true h2,e.symm⟩
 ·exact .inl (XQ.mp z)
theorem F6 (hp:∀p∈ps,p.1<p.2):∀len i,0<=tW ps w1 len i
 |0,_=>Int.le_refl 0
 |l+1,i=>by
  rw[k_ hp];have h:=(o7 (ps:=ps) (w:=w1) (T:=tW ps w1) (i:=i) (j:=i+l+1)).2.1;rw[show i+l+1-i-1=l by lia]at h
  exact Int.le_trans (F6 hp l (i+1)) h
theorem sN (hp:∀p∈ps,p.1<p.2){i j:Nat}:0<=mX ps i j:=F6 hp (j-i) i
theorem jg (hp:∀p∈ps,p.1<p.2):∀(n i j:Nat),j-i<=n->i<j->mX ps i (j-1)<=mX ps i j
 |0,i,j,h,aJ=>by lia
 |n+1,i,j,h,aJ=>by
  by_cases e:i=j-1
  ·rw[cZ (by lia)];exact sN hp
  ·have s:=gJ hp aJ;rcases mq hp (show i<j-1 by lia)with z|⟨k,h1,h2,z⟩
   ·have:=jg hp n (i+1) j (by lia) (by lia)
    lia
   ·have yT:=hp _ h1;dsimp only at yT;have:=jg hp n (k+1) j (by lia) (by lia)
    have:=f9 hp h1 (show k<j by lia)
    lia
theorem jf (hp:∀p∈ps,p.1<p.2){a j:Nat}(ha:(a,j-1)∈ps)(hj:0<j):∀(n i:Nat),j-i<=n->i<=a->mX ps i a+1+mX ps (a+1) (j-1)<=mX ps i j
 |0,i,h,hi=>by have:=hp _ ha;dsimp only at this;lia
 |n+1,i,h,hi=>by
  have V6:=hp _ ha;dsimp only at V6
  by_cases e:i=a
  ·subst e;have t:=f9 hp ha (show j-1<j by lia)
   rw[cZ (Xx i)];rw[cZ (i:=j-1+1) (by lia)]at t
   lia
  ·have s:=gJ hp (show i<j by lia)
   rcases mq hp (show i<a by lia)with z|⟨k,h1,h2,z⟩
   ·have:=jf hp ha hj n (i+1) (by lia) (by lia)
    lia
   ·have yT:=hp _ h1;dsimp only at yT;have:=jf hp ha hj n (k+1) (by lia) (by lia)
    have:=f9 hp h1 (show k<j by lia)
    lia
theorem jP (hp:∀p∈ps,p.1<p.2):∀(n i j:Nat),j-i<=n->i<j->mX ps i j=mX ps i (j-1)\/∃a,(a,j-1)∈ps/\i<=a/\mX ps i j=mX ps i a+1+mX ps (a+1) (j-1)
 |0,i,j,h,aJ=>by lia
 |n+1,i,j,h,aJ=>by
  have rs:=jg hp (j-i) i j (Xx _) aJ;rcases mq hp aJ with z|⟨k,h1,h2,z⟩
  ·by_cases e:i+1=j
   ·left
    rw[cZ (i:=i+1) (by lia)]at z
    rw[cZ (i:=i) (j:=j-1) (by lia)]
    exact z
   ·have s:=gJ hp (show i<j-1 by lia)
    rcases jP hp n (i+1) j (by lia) (by lia)with y|⟨a,h1,h2,y⟩
    ·left;lia
    ·right
     have s2:=gJ hp (show i<a by lia)
     have t:=jf hp h1 (by lia) (j-i) i (Xx _) (by lia)
     exact⟨a,h1,by lia,by lia⟩
  ·have yT:=hp _ h1;dsimp only at yT
   by_cases e:k=j-1
   ·right
    subst e;refine⟨i,h1,Xx _,?_⟩;rw[cZ (i:=j-1+1) (by lia)]at z
    rw[cZ (Xx i)];lia
   ·rcases jP hp n (k+1) j (by lia) (by lia)with y|⟨a,g1,g2,y⟩
    ·left
     have:=f9 hp h1 (show k<j-1 by lia)
     lia
    ·right
     have:=f9 hp h1 (show k<a by lia)
     have t:=jf hp g1 (by lia) (j-i) i (Xx _) (by lia)
     exact⟨a,g1,by lia,by lia⟩
theorem BB (hp:∀p∈ps,p.1<p.2){i j:Nat}(h:i<j):fA ([mX ps i (j-1)]++(((near ps (j-1)).filter λa=>decide (i<=a)).map λa=>mX ps i a+1+mX ps (a+1) (j-1)))=some (mX ps i j):=by
 refine wY ?_ λx hx=>?_
 ·rcases jP hp (j-i) i j (Xx _) h with z|⟨a,h1,h2,z⟩
  ·rw[z];simp
  ·exact Yk _ (X7.mpr ⟨a,X3.mpr ⟨dY.mpr h1,decide_eq_true h2⟩,z.symm⟩)
 ·rcases XW.mp hx with z|z
  ·rw[XQ.mp z];exact jg hp (j-i) i j (Xx _) h
  ·obtain⟨a,ha,rfl⟩:=X7.mp z;obtain⟨h1,h2⟩:=X3.mp ha;exact jf hp (dY.mp h1) (by lia) (j-i) i (Xx _) (of_decide_eq_true h2)
end
section
end
theorem oW {l:List Int}{m:Int}(h:fA l=some m):c0 fA [.lst (l.map D.int)]=some (.int m):=iD h
section
end
theorem ai.snoc {P:Xz}{w:XT}{W:Addr->Prop}{H:Hp}{d:D}{v:V}(h:ay P w W H d v):∀{ds:List D} {vs:List V},ai P w W H ds vs->ai P w W H (ds++[d]) (vs++[v])
 |[],_,e=>by cases e;exact⟨v,[],rfl,h,rfl⟩
 |_::_,_,⟨u,r,rfl,h1,h2⟩=>⟨u,r++[v],rfl,h1,ai.snoc h h2⟩
section
theorem IV {H:Hp}{a:Addr}{o oc:HO}{W:Addr->Prop}(h:H a=some oc)(ht:∀xs,oc≠.tup xs)(hw:W a):Kp W H (upd H a o):=(jS h ht).mono λc z=>by rw[z];exact hw
end
def o4 (τ:aW)(T:Nat)(ds:List D)(β0:a7)(K:List D->Prop):Prop:=∃I:Nat->a7->List D->Prop,I 0 β0 [] /\
 (∀i d β o,ds[i]?=some d->I i β o->τ (β.set T (some (.val true d))) λt β2=>if t=true then o.length<XO/\I (i+1) β2 (o++[d]) else I (i+1) β2 o)/\∀β o,I ds.length β o->dZ β0 β/\K o
theorem o4.mono {τ:aW}{T:Nat}{ds:List D}{β0:a7}{K K':List D->Prop}(h:∀o,K o->K' o)(q:o4 τ T ds β0 K):o4 τ T ds β0 K':=let ⟨I,h0,h1,h2⟩:=q;⟨I,h0,h1,λβ o z=>⟨(h2 β o z).1,h _ (h2 β o z).2⟩⟩
section
variable {X:Cx}{C:Cfg}{lk:List (Option Nat)}{τ:aW}{T:Nat}
theorem yW {σ:St}{H1:Hp}{β:a7}{own:Nat->List Addr}{a:Addr}{J:It}{ds:List D}{K:List D->Prop}{End:Hp->Prop}
  (τm:∀β R R',(∀d β,R d β->R' d β)->τ β R->τ β R')
  (inj:∀(i i' j:Nat),lk[i]?=some (some j)->lk[i']?=some (some j)->i=i') (hT:∀j,lk[T]?≠some (some j)) (V8:T<lk.length)
  (s1:SQ X C σ H1 β own) (ha:H1 a=none) (it:xQ X (av C (Wn own) .dN) J ds H1) (q:o4 τ T ds (cg lk β) K)
  (fin:∀o H',K o->Out X C σ H1 own true β H' own->KV X.prog X.w C (H1,Wn own) own H' .dN (.lst o) (.ref a)->End H') :
  fG J (xk T) (iT X (C.u λc=>c=a) true τ) (λN σ H=>(∃v,σ[T]?=some (some v)/\∃xs,H a=some (.lst xs)/\xs.length<XO/\N σ (upd H a (.lst (xs++[v])))))
   (λ_ H'=>End H') (da lk σ) (upd H1 a (.lst [])):=by
 obtain⟨I,i0,i1,i2⟩:=q;have h0:C.H0 a=none:=Yu λz=>s1.iJ a z ha;have sm:au H1 (upd H1 a (.lst [])):=au.new ha;have Vn:¬ av C (Wn own) .dN a:=λz=>z.elim (λz=>s1.zJ a z ha) λz=>z h0;let W:Addr->Prop:=λb=>av C (Wn own) .dN b\/H1 b=none
 let S:Nat->St->Hp->Prop:=λi σ' H'=>∃βi eT vs o,SQ X (C.u λc=>c=a) σ' H' βi eT/\(∀c,Wn eT c->Wn (ba lk β own) c)/\H' a=some (.lst vs)/\ai X.prog X.w W H' o vs /\
  au H1 H'/\σ'.length=lk.length/\(∀j,j≠T->σ'[j]?=(da lk σ)[j]?)/\I i βi o
 have Gu:=it (λb=>av C (Wn own) .dN b\/H1 b=none) λb z=>z;refine⟨λi m σ' H'=>i<=ds.length/\m=ds.length-i/\S i σ' H',⟨_,XG _,rfl,cg lk β,ba lk β own,[],[],s1.enter ha inj,λ_ z=>z,ar,rfl,sm,by unfold da;simp,λ_ _=>rfl,i0⟩,?_⟩
 rintro i m σ2 H2 ⟨hi,rfl,βi,eT,vs,o,sq,le,Kx,os,pu,hlen,st,hl⟩;obtain⟨cj,nM⟩:=Gu i H2 (pu.kp.mono λb z=>.inr z)
 by_cases d9:i<ds.length
 ·right
  have hd:ds[i]?=some ds[i]:=XH d9;obtain⟨go,yl⟩:=cj _ hd;refine⟨go,λσ' H'=>S (i+1) σ' H',λσ' H' h=>⟨_,by lia,d9,rfl,h⟩,λx H3 y=>?_⟩
  obtain⟨s3,r3⟩:=yl x H3 y;have Ko:ay X.prog X.w W H3 ds[i] x:=r3;have sub:∀c,fU (C.u λc=>c=a) (Wn eT) .dN c->W c:=λc z=>z.elim (λz=>.inl (z.imp (λz=>bg c (le c z)) id)) λz=>.inr (by rw[z];exact ha)
  have s4:=(sq.same s3).fo (i:=T) (y:=true) (ay.aV sub Ko);have L_:∀c,Wn (aS eT T []) c->Wn (ba lk β own) c:=λc z=>le c (eQ z);refine⟨_,_,s4,τm _ _ _ (λt β5 q H5 i9 o5=>?_) (i1 i _ βi o hd hl)⟩;obtain⟨s5,e5⟩:=o5.pu rfl;have ee:au H1 H5:=(pu.trans s3).trans s5;have Ik:ai X.prog X.w W H5 o vs:=(os.same s3).same s5;have vE:H5 a=some (.lst vs):=s5 _ _ (s3 _ _ Kx);have Tt:∀c,Wn i9 c->Wn (ba lk β own) c:=λc z=>L_ c (o5.le c z);have Dg:∀j,j≠T->(σ2.set T (some x))[j]?=(da lk σ)[j]?:=λj hj=>(bp (YS hj)).trans (st j hj);cases t with
  |false=>exact⟨β5,i9,vs,o,o5.sq,Tt,vE,Ik,ee,by simpa using hlen,Dg,q⟩
  |true =>
   obtain⟨hz,q⟩:=q;have kp:Kp W H5 (upd H5 a (.lst (vs++[x]))):=IV vE (λxs z=>by cases z) (.inr ha)
   refine⟨x,get_set (by rw[hlen];exact V8),vs,vE,by rw[Ik.length];exact hz,β5,i9,vs++[x],o++[ds[i]],o5.sq.DV vE (λxs z=>by cases z) h0,Tt,ar,ai.snoc ((Ko.same s5).keep kp) (Ik.keep kp),λb ob e=>?_,by simpa using hlen,Dg,q⟩
   rw[ao (λz'=>by rw[z',ha]at e;cases e)]
   exact ee b ob e
 ·left
  have e:i=ds.length:=by lia
  subst e;obtain⟨hh,q⟩:=i2 βi o hl;have sn:Sn (H1,Wn (ba lk β own)) H2 (Wn eT):=⟨λb z=>.inl (le b z),pu.kp.mono λb z=>.inr z,λb z e=>z (pu.free e)⟩;have lv:SQ X C σ H2 β own:=s1.leave sq sn le hh λj ok i' e1 e2=>st i' λz=>hT j (z▸e2);exact⟨nM (Xx _),fin o H2 q ⟨lv,⟨λb z=>.inl z,pu.kp.mono λb z=>.inr z,λb z e=>z (pu.free e)⟩,λz=>⟨pu,rfl⟩,λ_ z=>z⟩ ⟨a,vs,rfl,Kx,Vn,ai.aV (λc z=>.inl z) os⟩⟩
variable {scope:aaa}{N':List Str}{cj:Expr}{ifs:List Expr}{ι:cv}{pos px py:Pos}{x:Str}{pi:Bool}
def Lq (lk:List (Option Nat))(ι:cv)(τ:aW)(T:Nat):aR:=λβ R=>ι β λds k β1=>k=.dN/\o4 τ T ds (cg lk β1) λo=>R (.lst o) .dN β1
theorem Vs (T:Nat)(N':List Str)(lk:List (Option Nat))(L:gc X.env.scope.names X.N scope N' lk=true)(pD:N'.Nodup)(hc:X.calm=true)(hi:vY X C pi (.Name x px) cj ι)
  (jY:∀U cl c s H ex,qW (aA X scope N' cl c s H ex) (C.u U) true ifs τ) (hx:N'[T]?=some x:=by rfl) (hT:lk[T]?=some none:=by rfl)
  (Rh:∀cl c s H ex,Loc (aA X scope N' cl c s H ex).env.scope x:=by intro _ _ _ _ _;first|exact .inl rfl|exact .inr rfl)
  (hv:∀cl c s H ex,vW (aA X scope N' cl c s H ex).env.scope x:=by intro _ _ _ _ _;first|exact .inl rfl|exact .inr (.inl rfl)|exact .inr (.inr rfl))
  (hf:∀cl c s H ex,(aA X scope N' cl c s H ex).fn x=true\/(aA X scope N' cl c s H ex).env.scope.names.lookup x=some .local:=by intro _ _ _ _ _;first|exact .inl rfl|exact .inr rfl)
  (hd:(x==("__debug__" : Str))=false:=by decide) (gZ:(x==("__classdict__" : Str))=false:=by decide)
  (hs:∀x,Yy cj X.env x=pure x:=by intro _;rfl):PQ X C pi (.ListComp (.Name x py) [⟨.Name x px,cj,ifs,0⟩] scope pos) (Lq lk ι τ T):=by
 have L':=Links.of L;refine⟨λβ R R' k h=>hi.mono β _ _ (λds kd β1 q=>⟨q.1,q.2.mono λo z=>k _ _ _ z⟩) h,?_⟩;refine(fZ (g:=⟨.Name x px,cj,ifs,0⟩) (gs:=[]) (tg:=λ_=>xk T) (tt:=λa=>iT X (C.u λc=>c=a) true τ) (ta:=λa N σ H=>∃v,σ[T]?=some (some v)/\∃xs,H a=some (.lst xs)/\xs.length<XO/\N σ (upd H a (.lst (xs++[v]))))
  L' hc f7 rfl rfl (λ_ _=>xF) hi.pi (λa cl c s H ex=>⟨wN pD hx (Rh cl c s H ex) (hf cl c s H ex),(jY _ cl c s H ex).pt,f6 rfl (dj hx (hv cl c s H ex) hd gZ)⟩) hs).pre λσ H Q ⟨β,own,s,h⟩=>?_
 refine⟨β,own,s,hi.mono β _ _ (λds k β1 ⟨hk,q⟩ J H1 aC o1 it a ha=>?_) h⟩;subst hk;exact yW (jY (λ_=>False) [] 0 X.s₀ X.H₀ []).mono (cF L' pD) (λj e=>by rw[hT]at e;cases e) (XI.mp hT).1 o1.sq ha it q λo H' q o2 r=>q _ _ aC (o1.UG o2 λz=>⟨z,rfl⟩) (r.later o1.sn)
end
theorem IK {α:Type}{τ:aW}{l:List α}{f:α->D}{lB:a7}{K:List D->Prop}(t:α->Bool)(h0:dZ lB lB)(hl:l.length<=XO)(h:∀x∈l,∀R:Bool->a7->Prop,R (t x) (some (.val true (f x))::lB)->τ (some (.val true (f x))::lB) R)(q:K ((l.filter t).map f)):o4 τ 0 (l.map f) (none::lB) K:=by
 refine⟨λi β o=>i<=l.length/\(∃x0,β=x0::lB)/\o=((l.take i).filter t).map f,⟨XG _,⟨_,rfl⟩,rfl⟩,?_,?_⟩
 ·rintro i d β o hd ⟨hi,⟨x0,rfl⟩,rfl⟩;rw[XM]at hd;obtain⟨x,hx,rfl⟩:=XY.mp hd;have Ff:=(XI.mp hx).1;have hlen:(((l.take i).filter t).map f).length<=i:=by
   rw[Xu];exact Ym (YJ _ _) (by rw[X_];lia)
  have et:(l.take (i+1)).filter t=(l.take i).filter t++if t x=true then [x] else []:=by
   rw[YT,hx,Y9];cases ee:t x <;> simp[ee]
  refine h x (Yq hx) _ ?_;cases e:t x with
  |true =>
   rw[if_pos rfl];exact⟨by lia,by lia,⟨_,rfl⟩,by rw[et,e,if_pos rfl,XX];rfl⟩
  |false =>
   rw[if_neg (by simp)]
   exact⟨by lia,⟨_,rfl⟩,by rw[et,e,if_neg (by simp),YX]⟩
 ·rintro β o ⟨_,⟨x0,rfl⟩,rfl⟩;rw[Xu,Y_];exact⟨h0,q⟩
end L2.Q
namespace OV
open PySem PySem.Spec PyProof.Rows
section
variable {A:Yv}{s:Xw}
theorem c_:∀{vs:List Xv} {ns:List Int} {j:Nat},Zb vs ns->∀(h:j<vs.length),∃n t,ns[j]?=some n/\vs[j]=.int n t
 |_,_,_,.nil,h=>by cases h
 |_,_,0,.cons a t _,_=>⟨a,t,rfl,rfl⟩
 |_,_,j+1,.cons a t r,h=>by
  obtain⟨n,t',h1,h2⟩:=c_ (j:=j) r (Nat.lt_of_succ_lt_succ h);exact⟨n,t',h1,h2⟩
theorem kK:∀{vs:List Xv} {ns ms:List Int},Zb vs ns->Zb vs ms->ns=ms
 |_,_,_,.nil,.nil=>rfl
 |_,_,_,.cons a t r,.cons _ _ r'=>by rw[kK r r']
theorem y_ {l b:Addr}{items aD:Array Xv}{ns ms:List Int}(hl:IsTup s.heap l items)(hb:IsTup s.heap b aD)(hi:Zb items.toList ns)(hj:Zb aD.toList ms)(ne:ns≠ms)(hu:A.units<ZQ):SeqAt.EqAt A s (.ref l) (.ref b) false:=by
 have Vh:l≠b:=λz=>by
  subst z;obtain⟨o,g1,_,_,g2⟩:=id hl;obtain⟨o',Ug,_,_,Ue⟩:=id hb;rw[g1]at Ug;cases Ug;rw[g2]at Ue;injection Ue with e
  subst e;exact ne (kK hi hj)
 have q:=SeqAt.RcAt.tuples (e:=λj=>ns[j]?==ms[j]?) hl hb hu λj h1 h2=>by
  obtain⟨n,t,e1,e2⟩:=c_ hi (j:=j) (by simpa using h1)
  obtain⟨m,t',e3,e4⟩:=c_ hj (j:=j) (by simpa using h2)
  have Sa:items[j]=.int n t:=by simpa using e2
  have R_:aD[j]=.int m t':=by simpa using e4
  rw[e1,e3,Sa,R_];have:=SeqAt.EqAt.int_int (A:=A.in1) (s:=s) n t m t';simpa using this
 have z1:items.size=ns.length:=by rw[<- hi.length];simp
 have z2:aD.size=ms.length:=by rw[<- hj.length];simp
 have ef:((XD (min items.size aD.size)).all (λj=>ns[j]?==ms[j]?)&&items.size==aD.size)=false:=by
  cases h:((XD (min items.size aD.size)).all (λj=>ns[j]?==ms[j]?)&&items.size==aD.size)with
  |false=>rfl
  |true =>
   refine absurd ?_ ne;rw[Yn,ZH,beq_iff_eq]at h;apply Zm;intro j
   by_cases Dq:j<ns.length
   ·exact beq_iff_eq.mp (h.1 j (YV.mpr (by lia)))
   ·rw[Ys (by lia),Ys (by lia)]
 rw[ef]at q;exact SeqAt.EqAt.of_refs Vh q
end
section
open PySem.SeqAt
open PySem.AutoSeq1 (wpAny_loadPart')
open PySem.MeetsSeq PySem.MeetsSeq2 PySem.MeetsSeq3
end
end OV
namespace L2
open PySem PySem.Spec PySem.SeqAt PyProof.Rows
section
end
end L2
namespace L2.Q
open PySem PySem.Spec PySem.SeqAt PyProof.Rows
section
variable {X:Cx}{C:Cfg}{e k k2:Expr}{φ φk φj:aR}{i:Nat}{x:Str}{pos pos' px kp:Pos}{p:Bool}
theorem sf (he:∀U,PQ X (C.u U) p e φ)(hk:∀U,PQ X (C.u U) true k φk)(hj:∀U,PQ X (C.u U) true k2 φj)(hN:X.N[i]?=some x:=by rfl)(hv:vW X.env.scope x:=by first|exact .inl rfl|exact .inr (.inl rfl)|exact .inr (.inr rfl))(hd:(x==("__debug__" : Str))=false:=by decide)(gZ:(x==("__classdict__" : Str))=false:=by decide)
  (Nj:lE k:=by exact λ_ _=>rfl)
  (ha:∀v,assign (.Subscript (.Subscript (.Name x px) k kp) k2 pos') X.env v=(do
   let ov <- holding [v] (eval (.Subscript (.Name x px) k kp) X.env)
   let iv <- holding [v,ov] (eval k2 X.env)
   aaL pos'
   holding [v,ov,iv] (setItem ov iv v)
   release [v,ov,iv] []):=by intro _;rfl) (hs:swapsWithSole [.Subscript (.Subscript (.Name x px) k kp) k2 pos'] e pos.line X.env=pure false:=by rfl) (hw:swappedStores [.Subscript (.Subscript (.Name x px) k kp) k2 pos'] e X.env=pure none:=by rfl)
  (h1:(ZC [.Subscript (.Subscript (.Name x px) k kp) k2 pos'] X.env).map (·.2)=[assign (.Subscript (.Subscript (.Name x px) k kp) k2 pos') X.env]:=by rfl) :
  PB X C (.Assign [.Subscript (.Subscript (.Name x px) k kp) k2 pos'] e pos) (λE β=>φ β λd kd β1=>d.flat=true/\(∃d0,β1[i]?=some (some (.own d0)))/\φk β1 λjd _ β2=>∃ds j m es,jd=.int j/\β2[i]?=some (some (.own (.lst ds)))/\xb ds.length j=some m/\ds[m]?=some (.lst es) /\
   φj β2 λid _ β3=>∃j2 m2,id=.int j2/\β3[i]?=some (some (.own (.lst ds)))/\xb es.length j2=some m2/\E.nx (β3.set i (some (.own (.lst (ds.set m (.lst (es.set m2 d)))))))):=by
 refine⟨λE E' β l q=>(he λ_=>False).mono _ _ _ (λd kd β1 h=>by
  obtain⟨f,h0,q⟩:=h;exact⟨f,h0,(hk λ_=>False).mono _ _ _ (λjd _ β2 h=>by
   obtain⟨ds,j,m,es,g1,g2,g3,g4,q⟩:=h;exact⟨ds,j,m,es,g1,g2,g3,g4,(hj λ_=>False).mono _ _ _ (λid _ β3 h=>by obtain⟨j2,m2,g5,g6,g7,q⟩:=h;exact⟨j2,m2,g5,g6,g7,l.nx _ q⟩) q⟩) q⟩) q,λpins s σ H De I ⟨Z,E,β,⟨own,sq,n⟩,q,ok⟩=>?_⟩
 refine qo (he λa=>H a=none).pe (u_ (kz (pos:=kp) eK (dj (pos:=px) hN hv hd gZ) (hk λa=>H a=none).pe Nj) (hj λa=>H a=none).pe set_list ha) hs hw h1 pins s σ H De I ?_;refine tQ.of (he λa=>H a=none) (sq.rp (C:=C.z) (U:=λa=>H a=none) λa z=>z) q λd kd β1 v H1 aC ⟨f,⟨d0,Kw⟩,q⟩ o r=>?_;obtain⟨v0,Fb,_,_⟩:=o.sq.ow i d0 Kw;refine⟨v0,Fb,tQ.of (hk λa=>H a=none) o.sq q λjd kk β2 kv H2 a8 ⟨ds,j,m,es,e1,hb,VW,hm,q⟩ o2 r2=>?_⟩;subst e1;cases r2.rep;obtain⟨v1,Mr,ow,h0⟩:=o2.sq.ow i _ hb;rw[Fb]at Mr;cases Mr;obtain⟨a,vs,c,us,B,rfl,q1,q2,q3,q4,q5,q6,q7,q8,q9⟩:=i8 (l:=true) ow (o2.sq.nz i) hm;have OQ:og vs j=some (.ref c):=by unfold og;rw[q2,VW];exact q3
 refine⟨a,vs,j,.ref c,rfl,rfl,c6.of q1,OQ,tQ.of (hj λa=>H a=none) o2.sq q λid kj β3 iv H3 LB ⟨j2,m2,e2,Ua,JH,q⟩ o3 r3=>?_⟩;subst e2;cases r3.rep;obtain⟨s3,e3⟩:=o3.pu rfl;subst e3;obtain⟨v2,TC,Vd,Xn⟩:=o3.sq.ow i _ Ua;rw[Fb]at TC;cases TC;obtain⟨a',vs',c',uL,B',ea,p1,p2,p3,p4,p5,p6,p7,p8,p9⟩:=i8 (l:=true) Vd (o3.sq.nz i) hm;cases ea;have e4:=s3 _ _ q1;rw[p1]at e4;cases e4;rw[q3]at p3;cases p3;have e5:=s3 _ _ q4;rw[p4]at e5;cases e5;have JF:m2<es.length:=Jc JH;have VR:es[m2]?=some es[m2]:=XH JF;obtain⟨w0,B1,B2,B3,k1,rfl,k3,k4,k5⟩:=p6.split VR;have OC:m2<us.length:=by rw[p6.length];exact JF
 have rf:Own X.prog X.w H3 d v []:=c9 f (((ay.flat (W':=λ_=>True) f r.rep).keep (o2.sn.k.mono λ_ _=>trivial)).same s3);have P5:aK X.prog X.w H3 (es.set m2 d) (us.set m2 v) (B1++([]++B3)):=by
  rw[aaj,if_pos JF,aaj,if_pos OC];exact k3.append ⟨v,_,[],B3,rfl,rfl,rf,k5⟩
 have nd:=p8;obtain⟨n1,n2,n3⟩:=YM.mp nd;obtain⟨n4,n5,n6⟩:=YM.mp n2;obtain⟨A',g1,g2,g3⟩:=p9 (es.set m2 d) (us.set m2 v) (B1++([]++B3)) P5 (YM.mpr ⟨n1,n5,λx hx y hy=>n3 x hx y (Yk _ hy)⟩)
  (λx hx=>.inl ((XW.mp hx).elim (λz=>by simp[z]) λz=>by simp[show x∈B3 from z])) (λx hx=>(p7 x ((XW.mp hx).elim (λz=>by simp[z]) λz=>by simp[show x∈B3 from z])).2)
 have hA:∀x∈A',x∈LB i\/(C.H0 x=none/\¬ Wn LB x/\H x=none):=λx hx=>by
  rcases g3 x hx with z|z
  ·exact .inl z
  ·exact .inl (p7 x ((XW.mp z).elim (λz=>by simp[z]) λz=>by simp[show x∈B3 from z])).1
 exact⟨c,us,j2,m2,rfl,rfl,p4,by rw[p6.length];exact JH,ok.nx _ _ _ ⟨_,o3.sq.putIn (C:=C) (U:=λa=>H a=none) Ua Fb p5 g1 g2 hA,qf (((n.trans o.sn).trans o2.sn).trans o3.sn) (λb z=>n.free z) ⟨i,p5⟩ ⟨_,p4,λxs z=>by cases z⟩ hA⟩ q⟩
end
theorem El {X:Cx}{C:Cfg}{a:List Stmt}{ψ:F2}(i:Nat)(h:uB X C a ψ):uB X C a (λE β=>∃d,β[i]?=some (some (.own d))/\ψ E (β.set i (some (.val true d)))) :=
 ⟨λE E' β l q=>by obtain⟨d,e,q⟩:=q;exact⟨d,e,h.mono E E' _ l q⟩,h.ps.pre λD σ H z=>by
  obtain⟨Z,E,β,⟨own,s,n⟩,⟨d,e,q⟩,ok⟩:=z;exact⟨Z,E,_,⟨_,s.freeze e,uV n⟩,q,ok⟩⟩
end L2.Q
namespace L2
open PySem PySem.Spec PySem.SeqAt PyProof.Rows
def J0 (a b:D):Option D:=a.vn.bind λds=>b.int?.bind λk=>if 0<=k/\k<2 ^ 62/\ds.length*k.toNat<=XO then some (.lst (Yl k.toNat ds).flatten) else none
theorem jG {P:Xz}{w:XT}{W:Addr->Prop}{H:Hp}{ds:List D}{vs:List V}(h:ai P w W H ds vs):∀k:Nat,ai P w W H (Yl k ds).flatten (Yl k vs).flatten
 |0=>rfl
 |k+1=>by
  rw[Zc,ZA,Zc,ZA];exact h.append (jG h k)
theorem Bh {X:Cx}:N4 X (ZE .Mult) J0:=by
 intro pins s σ H x y v u Q I rx ry h;obtain⟨W,d1,d2,d,hd,r1,r2,e,q⟩:=h;obtain⟨ds,h1,e⟩:=Yw.mp e;obtain⟨k,h2,e⟩:=Yw.mp e;obtain⟨⟨k0,k1,hl⟩,rfl⟩:=dv e;rw[D.lr h1]at r1;rw[D.xc h2]at r2;obtain⟨p,vs,rfl,g1,n1,q1⟩:=r1;exact Il pins s σ H _ _ v u Q I rx ry ⟨p,k,vs,rfl,r2,g1,by lia,by lia,by rw[q1.length];exact hl,λl vC=>q _ _ (au.new vC) (Rp.f_ hd vC (jG q1 _)) λf=>vf vC f (jG q1 _)⟩
namespace Q
def cq (n:Nat)(f:Nat->Nat->D):D:=.lst ((XD (n+1)).map λb=>.lst ((XD (n+1)).map λe=>f b e))
theorem lT {α:Type}{n m:Nat}{f g:Nat->α}(h:∀k,k<n->k≠m->f k=g k):((XD n).map f).set m (g m)=(XD n).map g:=by
 apply Zm;intro k;rw[ZY]
 by_cases hk:k<n
 ·rw[a_ hk]
  by_cases e:m=k
  ·subst e;rw[if_pos rfl,if_pos (by rw[Xu,Ye];exact hk),a_ hk]
  ·rw[if_neg e,a_ hk,h k hk (YS e)]
 ·have hn:((XD n).map g)[k]?=none:=Ys (by rw[Xu,Ye];lia)
  have Kt:((XD n).map f)[k]?=none:=Ys (by rw[Xu,Ye];lia)
  rw[hn,Kt]
  split
  ·rw[if_neg (by rw[Xu,Ye];lia)]
  ·rfl
theorem AD {n b e:Nat}{f g:Nat->Nat->D}(h:∀x y,¬ (x=b/\y=e)->f x y=g x y):((XD (n+1)).map λx=>D.lst ((XD (n+1)).map λy=>f x y)).set b (.lst (((XD (n+1)).map λy=>f b y).set e (g b e)))=(XD (n+1)).map λx=>D.lst ((XD (n+1)).map λy=>g x y):=by
 have e1:((XD (n+1)).map λy=>f b y).set e (g b e)=(XD (n+1)).map λy=>g b y:=lT λk _ hk=>h b k λz=>hk z.2;rw[e1];exact lT (g:=λx=>D.lst ((XD (n+1)).map λy=>g x y)) λk _ hk=>by
  rw[show (λy=>f k y)=λy=>g k y from funext λy=>h k y λz=>hk z.1]
theorem pI {α:Type}{f:α->D}(h:∀x,(f x).flat=true):∀l:List α,D.bQ (l.map f)=true
 |[]=>rfl
 |x::l=>by
  show ((f x).flat&&D.bQ (l.map f))=true;rw[h x,pI h l];rfl
theorem Ea {d:D}{k:Nat}:(Yl k [d]).flatten=Yl k d:=by
 induction k with
 |zero=>rfl
 |succ k ih=>rw[Zc,ZA,ih];rfl
theorem oT {l:List (Nat×Nat)}{p:Nat×Nat}{b:Nat}:near (l++[p]) b=near l b++if p.2=b then [p.1] else []:=by
 unfold near;rw[Y9,XX,YC,List.filter_nil]
 by_cases h:p.2=b <;> simp[h]
section
variable {ps:List (Nat×Nat)}
def Dv (ps:List (Nat×Nat)):Nat->Nat->Nat->Nat
 |0,_,_=>1
 |f+1,b,e=>if e<=b then 1 else (if mX ps b (e-1)=mX ps b e then Dv ps f b (e-1) else 0)+(((near ps (e-1)).filter λa=>decide (b<=a)).map λa=>if 1+mX ps b a+mX ps (a+1) (e-1)=mX ps b e then Dv ps f b a*Dv ps f (a+1) (e-1) else 0).sum
theorem gv (hp:∀p∈ps,p.1<p.2):∀{f g b e:Nat},e-b<=f->e-b<=g->Dv ps f b e=Dv ps g b e
 |0,0,_,_,_,_=>rfl
 |0,g+1,b,e,h,_=>by unfold Dv;rw[if_pos (by lia)]
 |f+1,0,b,e,_,h=>by unfold Dv;rw[if_pos (by lia)]
 |f+1,g+1,b,e,h1,h2=>by
  unfold Dv
  by_cases hb:e<=b
  ·rw[if_pos hb,if_pos hb]
  ·rw[if_neg hb,if_neg hb,gv hp (f:=f) (g:=g) (b:=b) (e:=e-1) (by lia) (by lia)]
   congr 2
   refine Yh λa ha=>?_;obtain⟨h3,h4⟩:=X3.mp ha;have h5:=of_decide_eq_true h4;have h6:=hp _ (dY.mp h3);dsimp only at h6;rw[gv hp (f:=f) (g:=g) (b:=b) (e:=a) (by lia) (by lia),gv hp (f:=f) (g:=g) (b:=a+1) (e:=e-1) (by lia) (by lia)]
def cL (ps:List (Nat×Nat))(b e:Nat):Nat:=Dv ps (e-b) b e
theorem qT {b e:Nat}(h:e<=b):cL ps b e=1:=by
 unfold cL;rw[show e-b=0 by lia]
 rfl
theorem xG (hp:∀p∈ps,p.1<p.2){b e:Nat}(h:b<e):cL ps b e=(if mX ps b (e-1)=mX ps b e then cL ps b (e-1) else 0)+(((near ps (e-1)).filter λa=>decide (b<=a)).map λa=>if 1+mX ps b a+mX ps (a+1) (e-1)=mX ps b e then cL ps b a*cL ps (a+1) (e-1) else 0).sum:=by
 unfold cL;rw[show e-b=(e-1-b)+1 by lia]
 conv=>lhs;unfold Dv
 rw[if_neg (by lia)]
 congr 2
 refine Yh λa ha=>?_;obtain⟨h3,h4⟩:=X3.mp ha;have h5:=of_decide_eq_true h4;have h6:=hp _ (dY.mp h3);dsimp only at h6;rw[gv hp (f:=e-1-b) (g:=a-b) (b:=b) (e:=a) (by lia) (by lia),gv hp (f:=e-1-b) (g:=e-1-(a+1)) (b:=a+1) (e:=e-1) (by lia) (by lia)]
theorem xH (hp:∀p∈ps,p.1<p.2)(nd:ps.Nodup):∀(l b e:Nat),e-b<=l->cL ps b e<=lx (e-b)
 |0,b,e,h=>by rw[qT (by lia),show e-b=0 by lia];decide
 |l+1,b,e,h=>by
  by_cases hb:e<=b
  ·rw[qT hb,show e-b=0 by lia];decide
  ·obtain⟨m,hm⟩:∃m,e-b=m+1:=⟨e-b-1,by lia⟩
   rw[xG hp (by lia),hm]
   have h1:(if mX ps b (e-1)=mX ps b e then cL ps b (e-1) else 0)<=lx m:=by
    have:=xH hp nd l b (e-1) (by lia)
    rw[show e-1-b=m by lia]at this
    split <;> lia
   cases m with
   |zero =>
    have en:(near ps (e-1)).filter (λa=>decide (b<=a))=[]:=by
     rw[ZN];intro a ha z;have h5:=of_decide_eq_true z;have h6:=hp _ (dY.mp ha);dsimp only at h6;lia
    rw[en];show _+0<=_;have:lx 0=1:=rfl;have:lx (0+1)=1:=rfl;lia
   |succ m =>
    have ef:(near ps (e-1)).filter (λa=>decide (b<=a))=(near ps (e-1)).filter λa=>decide (b<=a)&&decide (a<b+(m+1)):=List.filter_congr λa ha=>by
     have h6:=hp _ (dY.mp ha);dsimp only at h6;rw[decide_eq_true (show a<b+(m+1) by lia),Bool.and_true]
    rw[ef,oB (ER nd)];have h2:=wj (n:=m+1) (c:=lx m) (f:=λr=>(if b+r∈near ps (e-1) then 1 else 0)*(if 1+mX ps b (b+r)+mX ps (b+r+1) (e-1)=mX ps b e then cL ps b (b+r)*cL ps (b+r+1) (e-1) else 0)) (λr hr=>by
     have k1:=xH hp nd l b (b+r) (by lia)
     have k2:=xH hp nd l (b+r+1) (e-1) (by lia)
     rw[show b+r-b=r by lia]at k1
     rw[show e-1-(b+r+1)=m-r by lia]at k2
     have k3:=Nat.mul_le_mul k1 k2;have k4:=xr r (m-r);rw[show r+(m-r)=m by lia]at k4
     have k5:(if 1+mX ps b (b+r)+mX ps (b+r+1) (e-1)=mX ps b e then cL ps b (b+r)*cL ps (b+r+1) (e-1) else 0)<=lx m:=by split <;> lia
     split
     ·rw[Nat.one_mul];exact k5
     ·rw[Nat.zero_mul];exact XG _)
    have e1:lx (m+1)=(m+1)*lx m:=rfl;have e2:lx (m+1+1)=(m+1+1)*lx (m+1):=rfl;rw[e2,Nat.succ_mul];have e3:lx (m+1)<=(m+1)*lx (m+1):=Nat.le_mul_of_pos_left _ (by lia)
    lia
end
theorem D_ {n:Nat}(hn:n<=40){d:D}:J0 (.lst [d]) (.int ((n:Int)+1))=some (.lst ((XD (n+1)).map λ_=>d)):=by
 unfold J0 D.vn D.int?;rw[Zg,Zg,if_pos ⟨by lia,by lia,by rw[ZU,Nat.one_mul,show ((n:Int)+1).toNat=n+1 by lia];exact eY (by lia)⟩,Ea,show ((n:Int)+1).toNat=n+1 by lia,List.map_const',Ye]
def q_ (ps:List (Nat×Nat))(b e:Nat):D:=.tup [.int (mX ps b e),.int (cL ps b e:Int)]
theorem rZ {ps:List (Nat×Nat)}{b e:Nat}(h:e<=b):q_ ps b e=.tup [.int 0,.int 1]:=by
 unfold q_;rw[cZ h,qT h];rfl
def kT (ps:List (Nat×Nat))(J m b e:Nat):D:=if e<J\/(e=J/\J<=b+m) then q_ ps b e else .tup [.int 0,.int 1]
theorem uQ {ps:List (Nat×Nat)}{J m b e:Nat}(h:e<J\/(e=J/\J<=b+m)):kT ps J m b e=q_ ps b e:=if_pos h
theorem iB {n:Nat}{f g:Nat->Nat->D}(h:∀b e,b<=n->e<=n->f b e=g b e):cq n f=cq n g:=by
 unfold cq
 congr 1
 refine Yh λb hb=>?_
 congr 1
 exact Yh λe he=>h b e (by have:=YV.mp hb;lia) (by have:=YV.mp he;lia)
theorem xX {ps:List (Nat×Nat)}{n:Nat}:cq n (λ_ _=>.tup [.int 0,.int 1])=cq n (kT ps 1 0):=iB λb e _ _=>by
 unfold kT
 split
 ·rw[rZ (by lia)]
 ·rfl
theorem Am {ps:List (Nat×Nat)}{n J:Nat}:cq n (kT ps J J)=cq n (kT ps (J+1) 0):=iB λb e _ _=>by
 unfold kT
 by_cases h1:e<J\/(e=J/\J<=b+J)
 ·rw[if_pos h1,if_pos (by lia)]
 ·rw[if_neg h1]
  split
  ·rw[rZ (by lia)]
  ·rfl
theorem DL {ps:List (Nat×Nat)}{n:Nat}:cq n (kT ps (n+1) 0)=cq n (q_ ps):=iB λb e _ he=>uQ (.inl (by lia))
theorem DK {ps:List (Nat×Nat)}{n J m b:Nat}(h:b+m+1=J):((XD (n+1)).map λx=>D.lst ((XD (n+1)).map λy=>kT ps J m x y)).set b (.lst (((XD (n+1)).map λy=>kT ps J m b y).set J (q_ ps b J)))=(XD (n+1)).map λx=>D.lst ((XD (n+1)).map λy=>kT ps J (m+1) x y):=by
 have:=AD (n:=n) (b:=b) (e:=J) (f:=kT ps J m) (g:=kT ps J (m+1)) λx y Mo=>by
  unfold kT
  by_cases h1:y<J\/(y=J/\J<=x+m)
  ·rw[if_pos h1,if_pos (by lia)]
  ·rw[if_neg h1]
   split
   ·next h2=>exact absurd (show x=b/\y=J by lia) Mo
   ·rfl
 rw[show kT ps J (m+1) b J=q_ ps b J from uQ (.inr ⟨rfl,by lia⟩)]at this
 exact this
def xE (ps:List (Nat×Nat))(b J:Nat)(l:List Nat):List (Int×Int):=(mX ps b (J-1),(cL ps b (J-1):Int))::(l.filter λa=>decide (b<=a)).map λa=>(1+mX ps b a+mX ps (a+1) (J-1),(cL ps b a:Int)*(cL ps (a+1) (J-1):Int))
def Vb (p:Int×Int):D:=.tup [.int p.1,.int p.2]
theorem CP {ps:List (Nat×Nat)}{b J:Nat}{l:List Nat}{a:Nat}:xE ps b J (l++[a])=xE ps b J l++if b<=a then [(1+mX ps b a+mX ps (a+1) (J-1),(cL ps b a:Int)*(cL ps (a+1) (J-1):Int))] else []:=by
 unfold xE;rw[Y9,XX,YC,List.filter_nil,Z8]
 by_cases h:b<=a <;> simp[h]
theorem FP {ps:List (Nat×Nat)}(hp:∀p∈ps,p.1<p.2){b J:Nat}(h:b<J):fA ((xE ps b J (near ps (J-1))).map (·.1))=some (mX ps b J):=by
 have:=BB hp h;unfold xE;rw[X5,YB];rw[show (((near ps (J-1)).filter λa=>decide (b<=a)).map λa=>mX ps b a+1+mX ps (a+1) (J-1))=((near ps (J-1)).filter λa=>decide (b<=a)).map ((λx:Int×Int=>x.1) ∘ λa=>(1+mX ps b a+mX ps (a+1) (J-1),(cL ps b a:Int)*(cL ps (a+1) (J-1):Int))) from Yh λa _=>by show _=1+mX ps b a+mX ps (a+1) (J-1);lia]at this
 exact this
theorem Aj {α:Type}{q:α->Bool}{f:α->Int}:∀l:List α,((l.filter q).map f).sum=(l.map λx=>if q x=true then f x else 0).sum
 |[]=>rfl
 |x::l=>by
  rw[YC,X5,ZD,<- Aj l]
  split
  ·rw[X5,ZD]
  ·rw[Int.zero_add]
theorem FO {ps:List (Nat×Nat)}(hp:∀p∈ps,p.1<p.2){b J:Nat}(h:b<J):(((xE ps b J (near ps (J-1))).filter λp=>decide (p.1=mX ps b J)).map (·.2)).sum=(cL ps b J:Int):=by
 rw[Aj,xG hp h];unfold xE;rw[X5,ZD,YB,Int.natCast_add,<- rD]
 congr 1
 ·by_cases h1:mX ps b (J-1)=mX ps b J
  ·rw[if_pos (decide_eq_true h1),if_pos h1]
  ·rw[if_neg (by rw[decide_eq_false h1];simp),if_neg h1];rfl
 ·congr 1
  refine Yh λa _=>?_;show (if decide (1+mX ps b a+mX ps (a+1) (J-1)=mX ps b J)=true then _ else _)=_
  by_cases h1:1+mX ps b a+mX ps (a+1) (J-1)=mX ps b J
  ·rw[if_pos (decide_eq_true h1),if_pos h1,Int.natCast_mul]
  ·rw[if_neg (by rw[decide_eq_false h1];simp),if_neg h1];rfl
def tN:FD:=λds R=>∃(n:Nat) (ps:List (Nat×Nat)),ds=[fy n ps]/\zN n ps/\n<=40/\R (cq n (q_ ps))
theorem tN.mono:cU tN:=λds R R' k h=>by obtain⟨n,ps,e,h1,h2,q⟩:=h;exact⟨n,ps,e,h1,h2,k _ q⟩
theorem J8 {ps:List (Nat×Nat)}(hp:∀p∈ps,p.1<p.2)(nd:ps.Nodup){a b c d:Nat}(h:(b-a)+(d-c)<=40):qZ (cL ps a b:Int) (cL ps c d:Int):=by
 have big:∀x y,y-x<=20->((cL ps x y:Nat):Int)<2 ^ 64:=λx y hl=>by
  have h1:=xH hp nd (y-x) x y (Xx _);have h2:=Co hl;have h3:lx 20<2 ^ 64:=by decide
  lia
 rcases YQ 20 (b-a)with q|q
 ·exact .inr ⟨by lia,big c d (by lia)⟩
 ·exact .inl ⟨by lia,big a b q⟩
end Q
end L2
namespace jB
open PySem L2 L2.Q
section
variable {P:Xz}{w:XT}{K:PySem.W.Frag}{mg:Str->Option Xv}{base:Heap}
theorem aM:aL ["row","many","ties","lesser","one","other","found","end","begin","some","point","left","right","best"] ["row"] (aw eh):=⟨rfl,rfl,rfl,by decide +kernel,rfl,by decide +kernel,by decide +kernel⟩
theorem EA {Fu xm} (KC:Uv K mg Fu xm) (B:zC mg):aN P w K mg base bU 1 Fu xm ["row"] (dO P w true tN):=by
 refine oR KC.F aM (λds R ML=> by obtain⟨n,ps,e,_⟩ := ML;subst e;rfl) λcP A outer s H E hr=>⟨_,(ah (l9 (ab (i:=0)) (cw (n:=2) rfl (aH (ak (i:=1) aM.nd) (aH (ak (i:=2) aM.nd) bI))))
    (ah (yh (i:=3) true ["point"] [none] (by rfl) (by decide:(["point"]:List Str).Nodup) rfl (λ_=>(bw B.range (aa (ab (i:=1)) ae))) (λ_ _ _ _ _ _=>(ak (i:=0) (by decide:(["point"]:List Str).Nodup))) (λ_ _ _ _ _ _=>eR) (λ_ _ _ _ _ _=>(aZ ae)) aM.nd)
    (ah (cB YD rfl (bh (ab (i:=2))) (cw (n:=2) rfl (aH (ak (i:=4) aM.nd) (aH (ak (i:=5) aM.nd) bI))) (aj (eG (i:=3) true (λ_=>(ab (i:=4))) (λ_=>(ab (i:=5))))))
    (El 3 (ah (yh (i:=6) true ["begin","many"] [none,some 1] (by rfl) (by decide:(["begin","many"]:List Str).Nodup) rfl (λ_=>(bw B.range (aa (aE aG az (ab (i:=1)) ag) ae))) (λ_ _ _ _ _ _=>(ak (i:=0) (by decide:(["begin","many"]:List Str).Nodup))) (λ_ _ _ _ _ _=>eR) (λ_ _ _ _ _ _=>(aE aG Bh (aZ (aa (bq (aa ag (aa ag ae))) ae)) (aE aG az (ab (i:=1)) ag))) aM.nd)
    (ah (cB YD rfl (ik B.range (aa ag (aa (aE aG az (ab (i:=1)) ag) ae))) (ak (i:=7) aM.nd) (aj (cB YD rfl (l4 B.range (aa (aE af (bK.m bz) (ab (i:=7)) ag) (aa (wF k9 ag) (aa (wF k9 ag) ae)))) (ak (i:=8) aM.nd) (ah (cX (i:=9) (λ_=>(aZ (aa (aF af a5 (aF af a5 (ab (i:=6)) (ab (i:=8))) (aE af (bK.m bz) (ab (i:=7)) ag)) ae))) aM.nd)
    (ah (cB YD rfl (bh (aF af a5 (ab (i:=3)) (aE af (bK.m bz) (ab (i:=7)) ag))) (ak (i:=10) aM.nd) (aj (bC (aI af (bK.m vc) (ab (i:=10)) (ab (i:=8))) (ah (a6 (i:=11) (aF af a5 (aF af a5 (ab (i:=6)) (ab (i:=8))) (ab (i:=10))) aM.nd)
    (ah (a6 (i:=12) (aF af a5 (aF af a5 (ab (i:=6)) (aE aG az (ab (i:=10)) ag)) (aE af (bK.m bz) (ab (i:=7)) ag)) aM.nd)
    (aj (cD (i:=9) (λ_=>(bq (aa (aE aG az (aE aG az ag (aF af a5 (ab (i:=11)) ag)) (aF af a5 (ab (i:=12)) ag)) (aa (aE af (bK.m Ew) (aF af a5 (ab (i:=11)) ag) (aF af a5 (ab (i:=12)) ag)) ae)))))))) aP)))
    (ah (a6 (i:=13) (bf af (bG.m (j8 rfl)) B.max nj (aa (Tu ["most","sets"] [none,none] (by rfl) (by decide:(["most","sets"]:List Str).Nodup) rfl (bh (ab (i:=9))) (λ_ _ _ _ _ _=>(cw (n:=2) rfl (aH (ak (i:=0) (by decide:(["most","sets"]:List Str).Nodup)) (aH (ak (i:=1) (by decide:(["most","sets"]:List Str).Nodup)) bI)))) (λ_ _ _ _ _ _=>eR) (λ_ _ _ _ _ _=>(ab (i:=0)))) ae)) aM.nd)
    (aj (sf (i:=6) (λ_=>(bq (aa (ab (i:=13)) (aa (bf af (bG.m (zj rfl)) B.sum J_ (aa (Tu ["most","sets","best"] [none,none,some 13] (by rfl) (by decide:(["most","sets","best"]:List Str).Nodup) rfl (bh (ab (i:=9))) (λ_ _ _ _ _ _=>(cw (n:=2) rfl (aH (ak (i:=0) (by decide:(["most","sets","best"]:List Str).Nodup)) (aH (ak (i:=1) (by decide:(["most","sets","best"]:List Str).Nodup)) bI)))) (λ_ _ _ _ _ _=>(ib (aI af (bK.m (bW hr.units)) (ab (i:=0)) (ab (i:=2))))) (λ_ _ _ _ _ _=>(ab (i:=1)))) ae)) ae)))) (λ_=>(ab (i:=8))) (λ_=>(ab (i:=7)))))))))))
    (aj (i4 (i:=6))))))))),λds R h=>?_⟩
 obtain⟨n,ps,rfl,ok,hn,q⟩:=h;have Gz:=ok.sm;have hp:∀p∈ps,p.1<p.2:=λp hp=>(ok.lt p hp).1;refine⟨_,rfl,_,rfl,rfl,_,_,rfl,_,_,rfl,rfl,_,rfl,trivial,n,rfl,by lia,by lia,trivial,?_⟩
 rw[ZZ];refine gb (λ_=>true) (λ_=>.lst []) trivial (by rw[Ye];exact eY (by lia)) (λx hx x0 o J ho h1 _=>⟨XG _,trivial,ho,h1 rfl _⟩) ?_
 rw[cG];refine⟨_,rfl,_,rfl,trivial,?_⟩;refine⟨λm β=>∃x4 x5 x6 x7 x8 x9 iM uD uC zE,β=[some (.val false (fy n ps)),some (.val true (.int n)),some (.val false (fP ps)),some (.own (.lst ((XD n).map λi=>D.lst (Q.bj (near (ps.take m) i))))),x4,x5,x6,x7,x8,x9,iM,uD,uC,zE],⟨_,_,_,_,_,_,_,_,_,_,rfl⟩,?_,?_⟩
 ·rintro m d β hd ⟨x4,x5,x6,x7,x8,x9,iM,uD,uC,zE,rfl⟩;rw[XM]at hd;obtain⟨p,s_,rfl⟩:=XY.mp hd;obtain⟨h1,h2⟩:=ok.lt p (Yq s_);have et:ps.take (m+1)=ps.take m++[p]:=by rw[YT,s_];rfl
  have es:((XD n).map λi=>D.lst (Q.bj (near (ps.take m) i))).set p.2 (.lst (Q.bj (near (ps.take m) p.2)++[.int (p.1:Int)]))=(XD n).map λi=>D.lst (Q.bj (near (ps.take (m+1)) i)):=by
   rw[et];have e1:D.lst (Q.bj (near (ps.take m) p.2)++[.int (p.1:Int)])=D.lst (Q.bj (near (ps.take m++[p]) p.2)):=by
    rw[oT,if_pos rfl];unfold Q.bj;rw[XX];rfl
   rw[e1];exact lT (g:=λi=>D.lst (Q.bj (near (ps.take m++[p]) i))) λk _ hk=>by rw[oT,if_neg (YS hk),YX]
  refine⟨_,rfl,rfl,_,_,rfl,_,_,rfl,rfl,⟨_,rfl⟩,_,rfl,_,_,_,_,rfl,rfl,by rw[Xu,Ye];exact yM rfl (show p.2<n by lia),a_ (show p.2<n by lia),_,rfl,trivial,rfl,?_,?_⟩
  ·unfold Q.bj;rw[Xu];have:=mh (ps:=ps.take m) (b:=p.2);rw[X_]at this;exact iU (by lia)
  ·exact⟨_,_,_,_,_,_,_,_,_,_,by rw[es];rfl⟩
 ·rintro β ⟨x4,x5,x6,x7,x8,x9,iM,uD,uC,zE,rfl⟩;rw[Xu,Y_];have R7:=D_ hn (d:=.tup [.int 0,.int 1]);refine⟨_,rfl,_,rfl,trivial,_,rfl,trivial,(n:Int)+1,rfl,by lia,by lia,trivial,?_⟩
  rw[show ((n:Int)+1).toNat=n+1 by lia]
  refine gb (λ_=>true) (λ_=>.lst ((XD (n+1)).map λ_=>D.tup [.int 0,.int 1])) trivial (by rw[Ye];exact eY (by lia)) (λx hx x0 o J ho h1 _=>?_) ?_
  ·exact⟨trivial,trivial,lb,trivial,Ai,trivial,_,rfl,trivial,_,rfl,_,R7,.inl ⟨pI (λ_=>rfl) _,trivial,ho,h1 rfl _⟩⟩
  rw[cG];have e0:D.lst ((XD (n+1)).map λ_=>D.lst ((XD (n+1)).map λ_=>D.tup [.int 0,.int 1]))=cq n (kT ps 1 0):=xX;rw[e0];refine⟨trivial,_,rfl,trivial,_,rfl,trivial,1,(n:Int)+1,rfl,⟨by lia,by lia,by lia,by lia⟩,trivial,?_⟩
  rw[show ((n:Int)+1-1).toNat=n by lia]
  refine⟨λj β=>j<=n/\∃x7 x8 x9 iM uD uC zE,β=[some (.val false (fy n ps)),some (.val true (.int n)),some (.val false (fP ps)),some (.val true (.lst ((XD n).map λi=>D.lst (Q.bj (near ps i))))),x4,x5,some (.own (cq n (kT ps (j+1) 0))),x7,x8,x9,iM,uD,uC,zE],⟨XG _,_,_,_,_,_,_,_,rfl⟩,?_,?_⟩
  ·rintro j d β hd ⟨_,x7,x8,x9,iM,uD,uC,zE,rfl⟩;obtain⟨hj,rfl⟩:=ck hd;obtain⟨J,hJ⟩:∃J,J=j+1:=⟨_,rfl⟩;rw[show (1:Int)+(j:Int)=(J:Int) by lia,<- hJ]
   refine⟨_,rfl,trivial,_,rfl,trivial,_,rfl,rfl,trivial,_,rfl,rfl,trivial,(J:Int)-1,-1,rfl,⟨by lia,by lia,by lia,by lia⟩,trivial,?_⟩
   rw[show ((J:Int)-1 - -1).toNat=J by lia]
   refine⟨λm β=>m<=J/\∃x8 x9 iM uD uC zE,β=[some (.val false (fy n ps)),some (.val true (.int n)),some (.val false (fP ps)),some (.val true (.lst ((XD n).map λi=>D.lst (Q.bj (near ps i))))),x4,x5,some (.own (cq n (kT ps J m))),some (.val true (.int J)),x8,x9,iM,uD,uC,zE],⟨XG _,_,_,_,_,_,_,rfl⟩,?_,?_⟩
   ·rintro m d β hd ⟨_,x8,x9,iM,uD,uC,zE,rfl⟩;obtain⟨hm,rfl⟩:=l0 hd;obtain⟨b,hb⟩:∃b,b+m+1=J:=⟨J-1-m,by lia⟩
    rw[show (J:Int)-1-(m:Int)=(b:Int) by lia]
    have qJ:∀x:Nat,x<=n->pP (cq n (kT ps J m)) (.int (x:Int))=some (.lst ((XD (n+1)).map λy=>kT ps J m x y)):=λx hx=>fK rfl (a_ (by lia))
    have GN:∀x y:Nat,y<=n->(y<J\/(y=J/\J<=x+m))->pP (.lst ((XD (n+1)).map λy=>kT ps J m x y)) (.int (y:Int))=some (.tup [.int (mX ps x y),.int (cL ps x y:Int)]):=λx y hy h=>fK rfl (by rw[a_ (by lia),uQ h];rfl)
    have eJ:(J:Int)-1=((J-1:Nat):Int):=by lia
    have GF:∀x:Nat,pP (.lst ((XD (n+1)).map λy=>kT ps J m x y)) (.int ((J:Int)-1))=some (.tup [.int (mX ps x (J-1)),.int (cL ps x (J-1):Int)]):=λx=>by rw[eJ];exact GN x (J-1) (by lia) (.inl (by lia))
    refine⟨_,rfl,trivial,_,rfl,_,qJ b (by lia),.inr ⟨trivial,_,rfl,trivial,_,rfl,_,GF b,trivial,Ai,.inl ⟨⟨rfl,trivial⟩,trivial,?_⟩⟩⟩
    refine⟨_,rfl,trivial,_,rfl,trivial,_,rfl,_,fK (i:=J-1) eJ (a_ (by lia)),.inr ⟨_,rfl,trivial,?_⟩⟩
    refine⟨λk β=>k<=(near ps (J-1)).length/\∃iM uD uC,β=[some (.val false (fy n ps)),some (.val true (.int n)),some (.val false (fP ps)),some (.val true (.lst ((XD n).map λi=>D.lst (Q.bj (near ps i))))),x4,x5,some (.own (cq n (kT ps J m))),some (.val true (.int J)),some (.val true (.int b)),some (.own (.lst ((xE ps b J ((near ps (J-1)).take k)).map Vb))),iM,uD,uC,zE],⟨XG _,_,_,_,rfl⟩,?_,?_⟩
    ·rintro k d β hd ⟨_,iM,uD,uC,rfl⟩;have Q9:=mh (ps:=ps) (b:=J-1);unfold Q.bj at hd;rw[XM]at hd;obtain⟨a,ha,rfl⟩:=XY.mp hd;have Rk:=(XI.mp ha).1;have VJ:=ok.lt _ (dY.mp (Yq ha));dsimp only at VJ;have et:(near ps (J-1)).take (k+1)=(near ps (J-1)).take k++[a]:=by rw[YT,ha];rfl
     have OO:=CP (ps:=ps) (b:=b) (J:=J) (l:=(near ps (J-1)).take k) (a:=a);refine⟨_,rfl,trivial,_,rfl,_,rfl,_,rfl,jX (λh=>?_) (λh=>?_)⟩
     ·have RM:b<=a:=by lia
      rw[if_pos RM]at OO;refine⟨_,rfl,trivial,_,rfl,_,qJ b (by lia),.inr ⟨trivial,_,rfl,_,GN b a (by lia) (.inl (by lia)),rfl,?_⟩⟩
      refine⟨_,rfl,trivial,_,rfl,trivial,_,rfl,_,qJ (a+1) (by lia),.inr ⟨trivial,_,rfl,trivial,_,rfl,_,GF (a+1),rfl,?_⟩⟩
      refine⟨⟨_,rfl⟩,trivial,_,rfl,trivial,_,rfl,_,rfl,trivial,_,rfl,trivial,_,rfl,_,rfl,trivial,_,rfl,trivial,_,rfl,trivial,_,rfl,trivial,_,rfl,_,J1 (J8 hp ok.nd (by lia)),trivial,lb,trivial,_,rfl,?_,Rk,_,_,_,by rw[et,OO,XX];rfl⟩
      rw[Xu];have e1:=YJ (λa=>decide (b<=a)) ((near ps (J-1)).take k);have e2:((near ps (J-1)).take k).length<=400:=by rw[X_];lia
      unfold xE;rw[XJ,Xu];exact iU (by lia)
     ·rw[if_neg (by lia),YX]at OO
      exact⟨Rk,_,_,_,by rw[et,OO];rfl⟩
    ·rintro β ⟨_,iM,uD,uC,rfl⟩;rw[show (Q.bj (near ps (J-1))).length=(near ps (J-1)).length by unfold Q.bj;rw[Xu],Y_]
     have Fi:(xE ps b J (near ps (J-1))).length<=1000:=by
      have e1:=YJ (λa=>decide (b<=a)) (near ps (J-1));have Q9:=mh (ps:=ps) (b:=J-1);unfold xE;rw[XJ,Xu];lia
     have em:c0 fA [.lst ((xE ps b J (near ps (J-1))).map λp=>D.int p.1)]=some (.int (mX ps b J)):=by
      have:=oW (FP hp (show b<J by lia))
      rw[YB]at this;exact this
     refine⟨_,rfl,_,rfl,trivial,?_⟩;refine BD (λ_=>true) (λp=>.int p.1) trivial (eY Fi) (λp kZ y0 y1 o J' ho j1 j2=>?_) ?_
     ·exact⟨_,rfl,rfl,_,_,rfl,_,_,rfl,rfl,_,rfl,trivial,ho,j1 rfl _ _⟩
     rw[cG];refine⟨trivial,_,em,?_⟩;have R6:c0 (λns=>some ns.sum) [.lst (((xE ps b J (near ps (J-1))).filter λp=>decide (p.1=mX ps b J)).map λp=>D.int p.2)]=some (.int (cL ps b J:Int)):=by
      have:=sum_ints (f:=λp:Int×Int=>p.2) (l:=(xE ps b J (near ps (J-1))).filter λp=>decide (p.1=mX ps b J));rw[FO hp (show b<J by lia)]at this
      exact this
     refine⟨_,rfl,trivial,_,rfl,_,rfl,trivial,?_⟩;refine BD (λp=>decide (p.1=mX ps b J)) (λp=>.int p.2) trivial (eY Fi) (λp kZ y0 y1 o J' ho j1 j2=>?_) ?_
     ·exact⟨_,rfl,rfl,_,_,rfl,_,_,rfl,rfl,_,rfl,trivial,_,rfl,_,bS _ _,_,rfl,jX (λh=>⟨_,rfl,trivial,ho,j1 (decide_eq_true h) _ _⟩) (λh=>j2 (decide_eq_false h) _ _)⟩
     have R8:((XD (n+1)).map λx=>D.lst ((XD (n+1)).map λy=>kT ps J m x y)).set b (.lst (((XD (n+1)).map λy=>kT ps J m b y).set J (.tup [.int (mX ps b J),.int (cL ps b J:Int)])))=(XD (n+1)).map λx=>D.lst ((XD (n+1)).map λy=>kT ps J (m+1) x y):=DK hb;refine⟨trivial,_,R6,trivial,lb,rfl,⟨_,rfl⟩,_,rfl,_,(b:Int),b,_,rfl,rfl,by rw[Xu,Ye];exact yM rfl (by lia),a_ (show b<n+1 by lia),_,rfl,(J:Int),J,rfl,rfl,by rw[Xu,Ye];exact yM rfl (by lia),hm,_,_,_,_,_,_,by rw[R8];rfl⟩
   ·rintro β ⟨_,x8,x9,iM,uD,uC,zE,rfl⟩;rw[lZ,Am];exact⟨by lia,_,_,_,_,_,_,_,rfl⟩
  ·rintro β ⟨_,x7,x8,x9,iM,uD,uC,zE,rfl⟩;rw[cM,DL];exact⟨_,rfl,q⟩
end
end jB
namespace L2.Q
open PySem
section
variable {ps:List (Nat×Nat)}(hp:∀p∈ps,p.1<p.2)
include hp
theorem gQ:∀(l i j:Nat),j-i<=l->((bu ps w1 i j).length:Int)=mX ps i j
 |0,i,j,h=>by rw[bJ (by lia),cZ (by lia)];rfl
 |l+1,i,j,h=>by
  by_cases aJ:i<j
  ·rw[dG hp aJ];have hm:=cE (bY (w:=w1) hp aJ);cases q:bE ps w1 i j with
   |none =>
    rw[q]at hm;dsimp only;rw[gQ l (i+1) j (by lia)]
    unfold mX;rw[show j-(i+1)=j-i-1 by lia]
    exact hm
   |some k =>
    rw[q]at hm;obtain⟨h1,h2,h3⟩:=hm;have yT:=hp _ h1;dsimp only at yT ⊢
    rw[XJ,Yb];have e1:=gQ l (i+1) k (by lia)
    have e2:=gQ l (k+1) j (by lia)
    unfold mX at e1 e2 ⊢
    rw[show k-(i+1)=k-i-1 by lia]at e1
    rw[show j-(k+1)=j-k-1 by lia]at e2
    rw[<- h3,<- e1,<- e2];show _=(1:Int)+_+_;lia
  ·rw[bJ aJ,cZ (by lia)];rfl
theorem gP {i j:Nat}:((bu ps w1 i j).length:Int)=mX ps i j:=gQ hp (j-i) i j (Xx _)
end
def nh (ps:List (Nat×Nat))(i j:Nat)(p:Nat×Nat):List (Nat×Nat):=p::(bu ps w1 (i+1) p.2++bu ps w1 (p.2+1) j)
def lM (i j:Nat)(l:List (Nat×Nat)):List (Nat×Nat):=l.filter λp=>decide (p.1=i)&&decide (p.2<j)
def gX (ps:List (Nat×Nat))(i j:Nat)(c:List (Nat×Nat)):Bool:=decide ((c.length:Int)=mX ps i j)
section
variable {ps:List (Nat×Nat)}{i j:Nat}
theorem mm {l:List (Nat×Nat)}{p:Nat×Nat}:p∈lM i j l↔p∈l/\p.1=i/\p.2<j:=by
 unfold lM;rw[X3,Yn,decide_eq_true_eq,decide_eq_true_eq]
variable (hp:∀p∈ps,p.1<p.2)
include hp
theorem qO {p:Nat×Nat}:((nh ps i j p).length:Int)=1+mX ps (i+1) p.2+mX ps (p.2+1) j:=by
 unfold nh;rw[XJ,Yb,<- gP hp,<- gP hp];lia
theorem zt:((gV ps i).filter λk=>decide (k<j)&&decide (w1 (i,k)+tW ps w1 (k-i-1) (i+1)+tW ps w1 (j-k-1) (k+1)=tW ps w1 (j-i) i))=((lM i j ps).filter λp=>gX ps i j (nh ps i j p)).map (·.2):=by
 unfold gV lM;rw[List.filter_map,List.filter_filter,List.filter_filter]
 congr 1
 refine List.filter_congr λp _=>?_;unfold gX;rw[qO hp];unfold mX;simp only[Function.comp];rw[show p.2-(i+1)=p.2-i-1 by lia,show j-(p.2+1)=j-p.2-1 by lia]
 rw[show w1 (i,p.2)=1 from rfl]
 cases decide (p.1=i) <;> cases decide (p.2<j) <;> simp
theorem mQ {p:Nat×Nat}{r:List (Nat×Nat)}(e:(lM i j ps).filter (λp=>gX ps i j (nh ps i j p))=p::r):bE ps w1 i j=some p.2:=by
 unfold bE eP;rw[zt hp,e];rfl
omit hp in
theorem IM {a b d:Nat}(h:d<b):HT.lexLt (tI (a,b)) (tI (a,d))=false:=by
 show (if (a:Int)=a then (if (b:Int)=d then HT.lexLt [] [] else decide ((b:Int)<d)) else decide ((a:Int)<a))=false
 rw[if_pos rfl,if_neg (by lia)]
 exact decide_eq_false (by lia)
end
section
end
def jz (ps:List (Nat×Nat))(b e:Nat)(p:Nat×Nat):Bool:=decide (b<=p.1)&&decide (p.2<e)&&decide (1+mX ps (p.1+1) p.2+mX ps (p.2+1) e=mX ps b e)
theorem cy {ps:List (Nat×Nat)}{b e:Nat}{p:Nat×Nat}:jz ps b e p=true↔b<=p.1/\p.2<e/\1+mX ps (p.1+1) p.2+mX ps (p.2+1) e=mX ps b e:=by
 unfold jz;rw[Yn,Yn,decide_eq_true_eq,decide_eq_true_eq,decide_eq_true_eq,and_assoc]
theorem pJ {α:Type}{p q:α->Bool}:∀{l:List α},(∀x∈l,p x=q x)->l.find? p=l.find? q
 |[],_=>rfl
 |x::l,h=>by rw[YW,YW,h x (by simp),pJ λy hy=>h y (by simp[hy])]
section
variable {ps:List (Nat×Nat)}(hp:∀p∈ps,p.1<p.2)(hs:ps.Pairwise λp q=>p.1<q.1\/(p.1=q.1/\p.2<q.2))
include hp hs
theorem Fs {b e k:Nat}(hm:(b,k)∈ps)(hk:jz ps b e (b,k)=true)(hf:∀x,(b,x)∈ps->x<k->jz ps b e (b,x)=false):ps.find? (jz ps b e)=some (b,k):=by
 rw[List.find?_eq_some_iff_append];refine⟨hk,?_⟩;obtain⟨l,r,e'⟩:=List.append_of_mem hm;refine⟨l,r,e',λq hq=>?_⟩;have VI:q∈ps:=by rw[e'];simp[hq]
 have d9:q.1<b\/(q.1=b/\q.2<k):=by
  rw[e']at hs;exact(List.pairwise_append.mp hs).2.2 q hq (b,k) (by simp)
 rcases d9 with h|⟨h1,h2⟩
 ·have:jz ps b e q=false:=by
   cases z:jz ps b e q with
   |false=>rfl
   |true=>have:=(cy.mp z).1;lia
  simp[this]
 ·have:jz ps b e q=false:=by
   rw[show q=(b,q.2) by rw[<- h1]]
   exact hf q.2 (by rw[show (b,q.2)=q by rw[<- h1]];exact VI) h2
  simp[this]
theorem tq:∀(l b e:Nat),e-b<=l->b<e->bu ps w1 b e=match ps.find? (jz ps b e)with
  |some p=>p::(bu ps w1 (p.1+1) p.2++bu ps w1 (p.2+1) e)
  |none=>[]
 |0,b,e,h,Cd=>by lia
 |l+1,b,e,h,Cd=>by
  have V0:=bY (w:=w1) hp Cd;have hm:=cE V0;rw[dG hp Cd];cases q:bE ps w1 b e with
  |some k =>
   rw[q]at hm;obtain⟨h1,h2,h3⟩:=hm;have V4:=hp _ h1;dsimp only at V4;have hk:jz ps b e (b,k)=true:=cy.mpr ⟨Xx _,h2,by
    unfold mX;rw[show k-(b+1)=k-b-1 by lia,show e-(k+1)=e-k-1 by lia]
    exact h3⟩
   rw[Fs hp hs h1 hk λx hx Dl=>?_];cases z:jz ps b e (b,x)with
   |false=>rfl
   |true =>
    exfalso
    obtain⟨_,z2,z3⟩:=cy.mp z;dsimp only at z2 z3;have hL:=gX ps b e (nh ps b e (b,x));have Dn:gX ps b e (nh ps b e (b,x))=true:=decide_eq_true (by rw[qO hp];exact z3)
    have iA:(b,x)∈(lM b e ps).filter λp=>gX ps b e (nh ps b e p):=X3.mpr ⟨mm.mpr ⟨hx,rfl,z2⟩,Dn⟩;cases ef:(lM b e ps).filter (λp=>gX ps b e (nh ps b e p))with
    |nil=>rw[ef]at iA;cases iA
    |cons p r =>
     have e1:=mQ hp ef;rw[q]at e1;have e2:k=p.2:=Yg e1;have QB:(p::r).Sublist ps:=by rw[<- ef];exact(List.filter_sublist).trans List.filter_sublist
     have Dp:=hs.sublist QB;have s_:p.1=b:=(mm.mp (X3.mp (show p∈(lM b e ps).filter _ by rw[ef];simp)).1).2.1
     rw[ef]at iA;rcases Xy.mp iA with z|z
     ·rw[<- z]at e2;dsimp only at e2;lia
     ·have:=(Yt.mp Dp).1 (b,x) z;dsimp only at this;lia
  |none =>
   rw[q]at hm;have em:mX ps (b+1) e=mX ps b e:=by
    unfold mX;rw[show e-(b+1)=e-b-1 by lia]
    exact hm
   have B7:(lM b e ps).filter (λp=>gX ps b e (nh ps b e p))=[]:=by
    cases ef:(lM b e ps).filter (λp=>gX ps b e (nh ps b e p))with
    |nil=>rfl
    |cons p r=>rw[mQ hp ef]at q;cases q
   have heq:ps.find? (jz ps b e)=ps.find? (jz ps (b+1) e):=by
    refine pJ λp s_=>?_;cases z:jz ps (b+1) e p with
    |true =>
     obtain⟨z1,z2,z3⟩:=cy.mp z;exact cy.mpr ⟨by lia,z2,by rw[z3,em]⟩
    |false =>
     cases z':jz ps b e p with
     |false=>rfl
     |true =>
      obtain⟨z1,z2,z3⟩:=cy.mp z'
      by_cases hb:p.1=b
      ·have:p∈(lM b e ps).filter λp=>gX ps b e (nh ps b e p):=X3.mpr ⟨mm.mpr ⟨s_,hb,z2⟩,decide_eq_true (by rw[qO hp];rw[hb]at z3;exact z3)⟩
       rw[B7]at this;cases this
      ·have:jz ps (b+1) e p=true:=cy.mpr ⟨by lia,z2,by rw[z3,em]⟩
       rw[this]at z;cases z
   dsimp only;rw[heq]
   by_cases Nt:b+1<e
   ·exact tq l (b+1) e (by lia) Nt
   ·rw[bJ Nt];have:ps.find? (jz ps (b+1) e)=none:=by
     rw[List.find?_eq_none];intro p s_ z;obtain⟨z1,z2,_⟩:=cy.mp z;have:=hp p s_;lia
    rw[this]
end
def kP (k:Nat):FD:=λds R=>∃(n:Nat) (ps:List (Nat×Nat)) (b e:Nat),ds=[fy n ps,cq n (q_ ps),.int b,.int e]/\zN n ps/\n<=40/\(ps.Pairwise λp q=>p.1<q.1\/(p.1=q.1/\p.2<q.2))/\e<=n/\e-b<=k/\R (fP (bu ps w1 b e))
theorem kP.mono {k:Nat}:cU (kP k):=λds R R' kk h=>by obtain⟨n,ps,b,e,h0,h1,h2,h3,h4,h5,q⟩:=h;exact⟨n,ps,b,e,h0,h1,h2,h3,h4,h5,kk _ q⟩
end L2.Q
namespace jB
open PySem L2 L2.Q
section
variable {P:Xz}{w:XT}{K:PySem.W.Frag}{mg:Str->Option Xv}{base:Heap}
theorem b6:aL ["row","table","begin","end","one","other","here","inner"] ["row","table","begin","end"] (aw eC):=⟨rfl,rfl,rfl,by decide +kernel,rfl,by decide +kernel,by decide +kernel⟩
theorem EG {Fw xo} (zc:Uu K mg Fw xo) (B:Bs2 mg):∀k:Nat,aN P w K mg base bU (k+1) Fw xo ["row","table","begin","end"] (dO P w true (kP k)):=by
 intro k
 induction k with
 |zero =>
  refine oR zc.F b6 (λds R MK=> by obtain⟨n,ps,b,e,e0,_⟩ := MK;subst e0;rfl) λcP A outer s H E hr=>⟨_,(ah (bC (aI af (bK.m vc) (ab (i:=2)) (ab (i:=3))) (aj (aY (aZ ae))) aP) oO),λds R h=>?_⟩
  obtain⟨n,ps,b,e,rfl,ok,hn,hs,he,hk,q⟩:=h;rw[bJ (by lia)]at q
  exact⟨_,rfl,trivial,_,rfl,_,rfl,_,rfl,xf (decide_eq_true (by lia)) ⟨XG _,trivial,q⟩⟩
 |succ k ih =>
  have OY:aN P w K mg base bU (k+1) _ _ _ (dO P w true (kP k)):=ih;refine oR zc.F b6 (λds R MJ=> by obtain⟨n,ps,b,e,e0,_⟩ := MJ;subst e0;rfl) λcP A outer s H E hr=>⟨_,(ah (bC (aI af (bK.m vc) (ab (i:=2)) (ab (i:=3))) (aj (aY (aZ ae))) aP)
    (ah (cB YD rfl (bh (aF af a5 (ab (i:=0)) ag)) (cw (n:=2) rfl (aH (ak (i:=4) b6.nd) (aH (ak (i:=5) b6.nd) bI))) (aj (bC (xN.t (qq (aI af (bK.m qw) (ab (i:=2)) (ab (i:=4))) (l3 (aI af (bK.m dq) (ab (i:=5)) (ab (i:=3)))))) (ah (a6 (i:=6) (aE aG az (aE aG az ag (aF af a5 (aF af a5 (aF af a5 (ab (i:=1)) (aE aG az (ab (i:=4)) ag)) (ab (i:=5))) ag)) (aF af a5 (aF af a5 (aF af a5 (ab (i:=1)) (aE aG az (ab (i:=5)) ag)) (ab (i:=3))) ag)) b6.nd)
    (aj (bC (aI af (bK.m (bW hr.units)) (ab (i:=6)) (aF af a5 (aF af a5 (aF af a5 (ab (i:=1)) (ab (i:=2))) (ab (i:=3))) ag)) (ah (a6 (i:=7) (aT kP.mono OY (hr.mono (by lia)) zc.m zc.F.kp zc.b (aa (ab (i:=0)) (aa (ab (i:=1)) (aa (aE aG az (ab (i:=4)) ag) (aa (ab (i:=5)) ae))))) b6.nd)
    (aj (aY (aE aG az (aE aG az (aZ (aa (bq (aa (ab (i:=4)) (aa (ab (i:=5)) ae))) ae)) (ab (i:=7))) (aT kP.mono OY (hr.mono (by lia)) zc.m zc.F.kp zc.b (aa (ab (i:=0)) (aa (ab (i:=1)) (aa (aE aG az (ab (i:=5)) ag) (aa (ab (i:=3)) ae))))))))) aP))) aP)))
    (aj (aY (aZ ae))))),λds R h=>?_⟩
  obtain⟨n,ps,b,e,rfl,ok,hn,hs,he,hk,q⟩:=h;have hp:∀p∈ps,p.1<p.2:=λp hp=>(ok.lt p hp).1;refine⟨_,rfl,trivial,_,rfl,_,rfl,_,rfl,jX (λh=>?_) (λh=>?_)⟩
  ·rw[bJ (by lia)]at q
   exact⟨XG _,trivial,q⟩
  ·rw[tq hp hs (e-b) b e (Xx _) (by lia)]at q
   refine⟨_,rfl,trivial,_,rfl,.inr ⟨_,rfl,trivial,?_⟩⟩;have qJ:∀x:Nat,x<=n->pP (cq n (q_ ps)) (.int (x:Int))=some (.lst ((XD (n+1)).map λy=>q_ ps x y)):=λx hx=>fK rfl (a_ (by lia))
   have GN:∀x y:Nat,y<=n->pP (.lst ((XD (n+1)).map λy=>q_ ps x y)) (.int (y:Int))=some (.tup [.int (mX ps x y),.int (cL ps x y:Int)]):=λx y hy=>fK rfl (by rw[a_ (by lia)];rfl)
   refine⟨λm β=>(∀p∈ps.take m,jz ps b e p=false)/\∃x4 x5 x6 x7,β=[some (.val false (fy n ps)),some (.val false (cq n (q_ ps))),some (.val false (.int b)),some (.val false (.int e)),x4,x5,x6,x7],⟨λp hp=>(nomatch hp),_,_,_,_,rfl⟩,?_,?_⟩
   ·rintro m d β hd ⟨B7,x4,x5,x6,x7,rfl⟩;rw[XM]at hd;obtain⟨p,s_,rfl⟩:=XY.mp hd;obtain⟨h1,h2⟩:=ok.lt p (Yq s_);have et:ps.take (m+1)=ps.take m++[p]:=by rw[YT,s_];rfl
    have next:jz ps b e p=false->∀p'∈ps.take (m+1),jz ps b e p'=false:=λhf p' kZ=>by
     rw[et]at kZ;rcases XW.mp kZ with z|z
     ·exact B7 p' z
     ·rw[XQ.mp z];exact hf
    refine⟨_,rfl,rfl,_,_,rfl,_,_,rfl,rfl,?_⟩;refine⟨_,rfl,trivial,_,rfl,_,rfl,_,rfl,jX (λc1=>⟨_,rfl,trivial,_,rfl,_,rfl,_,rfl,jX (λc2=>?_) (λc2=>?_)⟩) (λc1=>?_)⟩
    ·have RN:b<=p.1:=by lia
     have OJ:p.2<e:=by lia
     refine⟨trivial,_,rfl,trivial,_,rfl,trivial,_,rfl,_,qJ (p.1+1) (by lia),.inr ⟨trivial,_,rfl,_,GN (p.1+1) p.2 (by lia),trivial,_,rfl,_,rfl,trivial,_,rfl,trivial,_,rfl,trivial,_,rfl,_,qJ (p.2+1) (by lia),.inr ⟨trivial,_,rfl,_,GN (p.2+1) e (by lia),trivial,_,rfl,_,rfl,?_⟩⟩⟩
     refine⟨_,rfl,trivial,_,rfl,trivial,_,rfl,_,qJ b (by lia),.inr ⟨trivial,_,rfl,_,GN b e (by lia),trivial,_,rfl,_,bS _ _,_,rfl,jX (λc3=>?_) (λc3=>?_)⟩⟩
     ·have bt:jz ps b e p=true:=cy.mpr ⟨RN,OJ,c3⟩;have Nm:ps.find? (jz ps b e)=some p:=by
       rw[List.find?_eq_some_iff_append];refine⟨bt,ps.take m,ps.drop (m+1),?_,λq hq=>by rw[B7 q hq];rfl⟩
       have:=Ze m ps;rw[Yp (XI.mp s_).1,(XI.mp s_).2]at this;exact this.symm
      rw[Nm]at q;dsimp only at q;have l1:=jn (w:=w1) hp (p.2-(p.1+1)) (p.1+1) p.2 (Xx _);have l2:=jn (w:=w1) hp (e-(p.2+1)) (p.2+1) e (Xx _);have a1:vP (.lst [kD (tI p)]) (fP (bu ps w1 (p.1+1) p.2))=some (fP (p::bu ps w1 (p.1+1) p.2)):=gq (by rw[Xu];show 1+_<=_;lia)
      have a2:vP (fP (p::bu ps w1 (p.1+1) p.2)) (fP (bu ps w1 (p.2+1) e))=some (fP (p::(bu ps w1 (p.1+1) p.2++bu ps w1 (p.2+1) e))):=by
       have:=gq (a:=(p::bu ps w1 (p.1+1) p.2).map λp=>kD (tI p)) (b:=(bu ps w1 (p.2+1) e).map λp=>kD (tI p)) (by rw[Xu,Xu,XJ];lia)
       rw[<- XX]at this;exact this
      refine⟨_,rfl,trivial,_,rfl,trivial,_,rfl,trivial,_,rfl,trivial,_,rfl,trivial,n,ps,p.1+1,p.2,rfl,ok,hn,hs,by lia,by lia,?_⟩
      exact⟨_,rfl,trivial,_,rfl,trivial,lb,trivial,Ai,trivial,_,rfl,_,a1,.inl ⟨jo,trivial,_,rfl,trivial,_,rfl,trivial,_,rfl,trivial,_,rfl,trivial,_,rfl,trivial,n,ps,p.2+1,e,rfl,ok,hn,hs,he,by lia,_,a2,.inl ⟨jo,trivial,q⟩⟩⟩
     ·have hf:jz ps b e p=false:=by
       cases z:jz ps b e p with
       |false=>rfl
       |true=>exact absurd (cy.mp z).2.2 c3
      exact⟨next hf,_,_,_,_,rfl⟩
    ·have hf:jz ps b e p=false:=by
      cases z:jz ps b e p with
      |false=>rfl
      |true=>exact absurd (cy.mp z).2.1 (by lia)
     exact⟨next hf,_,_,_,_,rfl⟩
    ·have hf:jz ps b e p=false:=by
      cases z:jz ps b e p with
      |false=>rfl
      |true=>exact absurd (cy.mp z).1 (by lia)
     exact⟨next hf,_,_,_,_,rfl⟩
   ·rintro β ⟨B7,x4,x5,x6,x7,rfl⟩;rw[Xu,Y_]at B7;rw[List.find?_eq_none.mpr λp hp z=>by rw[B7 p hp]at z;cases z]at q
    exact⟨XG _,trivial,q⟩
end
end jB
namespace OR
open PySem PySem.Spec PyProof.Rows TS
def gY:List (List Int)->List (List Int)->Bool
 |[],y=>decide (0<y.length)
 |_::_,[]=>false
 |a::x,b::y=>if a=b then gY x y else HT.lexLt a b
theorem gK {b:List Int}{y:List (List Int)}:gY [] (b::y)=true:=decide_eq_true (Nat.succ_pos _)
theorem cn {a b:List Int}{x y:List (List Int)}:gY (a::x) (b::y)=if a=b then gY x y else HT.lexLt a b:=rfl
theorem mx:∀{x y:List (List Int)},gY x y=true->gY y x=false
 |[],[],h=>by cases h
 |[],_::_,_=>rfl
 |_::_,[],h=>by cases h
 |a::x,b::y,h=>by
  rw[cn]at h ⊢
  by_cases e:a=b
  ·subst e;rw[if_pos rfl]at h ⊢;exact mx h
  ·rw[if_neg e]at h;rw[if_neg (YS e)];exact mC h
theorem qG:∀{x z:List (List Int)} (y:List (List Int)),gY x z=true->gY x y=true\/gY y z=true
 |[],[],_,h=>by cases h
 |_::_,[],_,h=>by cases h
 |[],_::_,[],_=>.inr gK
 |[],_::_,_::_,_=>.inl gK
 |_::_,_::_,[],_=>.inr gK
 |a::x,c::z,b::y,h=>by
  rw[cn]at h ⊢
  rw[cn]
  by_cases e:a=c
  ·subst e;rw[if_pos rfl]at h
   by_cases e2:a=b
   ·subst e2;rw[if_pos rfl,if_pos rfl];exact qG y h
   ·rw[if_neg e2,if_neg (YS e2)];cases h1:HT.lexLt a b with
    |true=>exact .inl rfl
    |false =>
     cases h2:HT.lexLt b a with
     |true=>exact .inr rfl
     |false=>exact absurd (jR h1 h2) e2
  ·rw[if_neg e]at h
   by_cases e2:a=b
   ·subst e2;rw[if_neg e];exact .inr h
   ·by_cases e3:b=c
    ·subst e3;rw[if_neg e2];exact .inl h
    ·rw[if_neg e2,if_neg e3];exact qH b h
theorem jQ:∀{x y:List (List Int)},gY x y=false->gY y x=false->x=y
 |[],[],_,_=>rfl
 |[],_::_,h,_=>by rw[gK]at h;cases h
 |_::_,[],_,h=>by rw[gK]at h;cases h
 |a::x,b::y,h1,h2=>by
  rw[cn]at h1 h2
  by_cases e:a=b
  ·subst e;rw[if_pos rfl]at h1 h2;rw[jQ h1 h2]
  ·rw[if_neg e]at h1;rw[if_neg (YS e)]at h2;exact absurd (jR h1 h2) e
section
variable {A:Yv}{s:Xw}
theorem Cy {l b:Addr}{items aD:Array Xv}{ns ms:List Int}(hl:IsTup s.heap l items)(hb:IsTup s.heap b aD)(hi:Zb items.toList ns)(hj:Zb aD.toList ms)(hu:A.units<ZQ):SeqAt.EqAt A s (.ref l) (.ref b) (decide (ns=ms)):=by
 by_cases e:ns=ms
 ·rw[decide_eq_true e]
  by_cases z:l=b
  ·subst z;exact SeqAt.EqAt.same _
  subst e;have q:=SeqAt.RcAt.tuples (e:=λj=>true) hl hb hu λj h1 h2=>by
   obtain⟨n,t,e1,e2⟩:=OV.c_ hi (j:=j) (by simpa using h1)
   obtain⟨m,t',e3,e4⟩:=OV.c_ hj (j:=j) (by simpa using h2)
   have Sa:items[j]=.int n t:=by simpa using e2
   have R_:aD[j]=.int m t':=by simpa using e4
   rw[e1]at e3;cases e3;rw[Sa,R_];have:=SeqAt.EqAt.int_int (A:=A.in1) (s:=s) n t n t';simpa using this
  have z1:items.size=ns.length:=by rw[<- hi.length];simp
  have z2:aD.size=ns.length:=by rw[<- hj.length];simp
  have ef:((XD (min items.size aD.size)).all (λj=>true)&&items.size==aD.size)=true:=by
   rw[z1,z2];simp
  rw[ef]at q;exact SeqAt.EqAt.of_refs z q
 ·rw[decide_eq_false e];exact OV.y_ hl hb hi hj e hu
end
section
open PySem.SeqAt
open PySem.AutoSeq1 (wpAny_loadPart')
open PySem.MeetsSeq PySem.MeetsSeq2 PySem.MeetsSeq3
def SJ (A:Yv)(s:Xw)(items aD:Array Xv)(ks ms:List (List Int)):Prop :=
 items.size=ks.length/\aD.size=ms.length/\∀(j:Nat) (h1:j<items.size) (h2:j<aD.size),EqAt A.in1 s items[j] aD[j] (decide (ks.getD j []=ms.getD j []))/\∀(prog:Xz) (w:XT) (E:Xv->Xw->Prop) (Q:Xv->Xw->Prop),Q (.bool (HT.lexLt (ks.getD j []) (ms.getD j []))) s->X4 (model prog w) A.in1 (richCompare .Lt items[j] aD[j]) Q E s
theorem drop_getD {ks:List (List Int)}{i:Nat}(h:i<ks.length):ks.drop i=ks.getD i []::ks.drop (i+1):=by
 rw[Yp h,YZ,XH h];rfl
theorem BE (l b:Addr)(items aD:Array Xv)(n n2:Nat)(dd Dr:Option Addr)(sl Dh:Array (Option Xv))(ks ms:List (List Int))(k:Nat):
  ∀i:Nat,items.size-i=k->i<=items.size->Meets (ZO.«list.__eq__.loop» ⟨[.ref l,.ref b,rawInt i,rawInt 0],[]⟩)
   (λA R s=>s.heap.get? l=some {cls:=.type "list",dict:=dd,data:=.seq items n,slots:=sl}/\s.heap.get? b=some {cls:=.type "list",dict:=Dr,data:=.seq aD n2,slots:=Dh} /\
    i<=aD.size/\SJ A s items aD ks ms/\R (.ok (.ret (.bool (gY (ks.drop i) (ms.drop i))))) s):=by
 have fin:∀i:Nat,i<=items.size->i<=aD.size->(i=items.size\/i=aD.size)->items.size=ks.length->aD.size=ms.length->gY (ks.drop i) (ms.drop i)=decide (items.size<aD.size):=λi h1 h2 h z1 z2=>by
  rcases h with h|h
  ·rw[Zs (l:=ks) (by lia)]
   by_cases q:i<ms.length
   ·rw[drop_getD q,gK,decide_eq_true (by lia)]
   ·rw[Zs (l:=ms) (by lia),decide_eq_false (by lia)];rfl
  ·rw[Zs (l:=ms) (by lia),decide_eq_false (by lia)]
   cases ks.drop i <;> rfl
 induction k with
 |zero =>
  intro i hk Rx prog w A R s h;obtain⟨hp,g,d,tk,os⟩:=s;obtain⟨hl,hb,Ku,⟨z1,z2,he⟩,h⟩:=h;rw[fin i Rx Ku (.inl (by lia)) z1 z2]at h
  wp_walk using Yo hl,Yo hb
  have GJ:items[((i:Nat):Int).toNat]?=none:=by simp;lia
  rw[GJ]
  wp_walk using Yo hl,Yo hb
  exact h
 |succ k ih =>
  intro i hk Rx prog w A R s h;obtain⟨hp,g,d,tk,os⟩:=s;obtain⟨hl,hb,Ku,⟨z1,z2,he⟩,h⟩:=h;have d9:i<items.size:=by lia
  have GJ:items[((i:Nat):Int).toNat]?=some items[i]:=by simp[d9]
  by_cases JG:i<aD.size
  ·have JH:aD[((i:Nat):Int).toNat]?=some aD[i]:=by simp[JG]
   have hc:((i:Int)+1)=((i+1:Nat):Int):=by push_cast;rfl
   wp_walk using Yo hl,Yo hb
   rw[GJ,JH];obtain⟨e1,e2⟩:=he i d9 JG;refine Xs (e1 prog w _ _ ?_);rw[drop_getD (ks:=ks) (z1▸d9),drop_getD (ks:=ms) (z2▸JG),cn]at h
   by_cases q:ks.getD i []=ms.getD i []
   ·rw[if_pos q]at h;rw[decide_eq_true q]
    wp_walk
    rw[hc];exact⟨plainId_quiet plain_eq_loop _,aaf entry_eq_loop (by
     rw[Z4 plain_eq_loop _];exact ih (i+1) (by lia) (by lia) prog w A R _ ⟨hl,hb,by lia,⟨z1,z2,he⟩,h⟩)⟩
   ·rw[if_neg q]at h;rw[decide_eq_false q]
    wp_walk using Yo hl,Yo hb
    rw[GJ,JH];have QE:=e2 prog w
    wp_walk using QE
    exact h
  ·rw[fin i Rx Ku (.inr (by lia)) z1 z2]at h
   have JH:aD[((i:Nat):Int).toNat]?=none:=by simp;lia
   wp_walk using Yo hl,Yo hb
   rw[GJ,JH]
   wp_walk using Yo hl,Yo hb
   exact h
theorem EY (l b:Addr)(items aD:Array Xv)(n n2:Nat)(dd Dr:Option Addr)(sl Dh:Array (Option Xv))(ks ms:List (List Int)):
  Meets (ZO.«list.__lt__» ⟨[.ref l,.ref b],[]⟩)
   (λA R s=>s.heap.get? l=some {cls:=.type "list",dict:=dd,data:=.seq items n,slots:=sl}/\s.heap.get? b=some {cls:=.type "list",dict:=Dr,data:=.seq aD n2,slots:=Dh} /\
    SJ A s items aD ks ms/\R (.ok (.ret (.bool (gY ks ms)))) s):=by
 intro prog w A R s h;obtain⟨hp,g,d,tk,os⟩:=s;obtain⟨hl,hb,he,h⟩:=h;have f3:=AutoSeq1.sub_list_list
 wp_walk using Yo hl,Yo hb
 exact⟨plainId_quiet plain_eq_loop _,aaf entry_eq_loop (by
  rw[Z4 plain_eq_loop _];exact BE l b items aD n n2 dd Dr sl Dh ks ms _ 0 rfl (XG _) prog w A R _ ⟨hl,hb,XG _,he,h⟩)⟩
end
section
variable {prog:Xz}{w:XT}{A:Yv}{E:Xv->Xw->Prop}{s:Xw}
theorem Aw {x:Xv}{vs:List Xv}{κ:ZF}{c:Xv->Xv->Bool}{Q:Xv->Xw->Prop}(hz:vs.length<=1000000)
  (col:∀(R:List Xv->Xw->Prop),(∀(h':Heap) (tk:Nat),(∀b o,s.heap.get? b=some o->h'.get? b=some o)->s.heap.objs.size<=h'.objs.size->R vs {s with heap:=h',toks:=tk})->X4 (model prog w) A.in1 (collect x) R E s)
  (O:cf λx y=>c x.1 y.1)
  (T:∀s':Xw,(∀t o,s.heap.get? t=some o->s'.heap.get? t=some o)->(2<=vs.length->∀(Q:ZF->Xw->Prop),Q κ s'->X4 (model prog w) A.in1.in1 (keyKind' vs.toArray) Q E s')/\eW prog w A.in1.in1 E s' κ (λx y=>c x.1 y.1) (·∈(vs.toArray.zip vs.toArray).toList))
  (h:∀(out:List Xv) (l:Addr) (h':Heap) (tk:Nat) (n:Nat),out.Perm vs->out.Pairwise (λx y=>c y x=false)->s.heap.objs.size<=l->(∀b o,s.heap.get? b=some o->h'.get? b=some o)->h'.get? l=some (Zq "list" out.toArray n)->Q (.ref l) {s with heap:=h',toks:=tk}) :
  X4 (model prog w) A (call (.builtin "sorted") [x]) Q E s:=by
 refine aaK kind_sorted plain_sorted entry_sorted (args_sorted1 _) ?_;unfold ZO.«sorted»
 refine Xs (m:=checkCount "sorted" 1 1 _) (XB ?_);refine Xs (col _ λh' tk kp Qi=>?_);have nl:vs.length<=XO:=by rw[YA];lia
 refine Xs (wpAny_newList ?_ nl);have hl:(h'.push (Zq "list" vs.toArray 0)).get? h'.objs.size=some (Zq "list" vs.toArray 0):=X6 _ rfl;refine Xs (Y0 (Y1 slot_list_sort ⟨_,hl,rfl⟩ entry_list_sort (mz (κ:=κ) (c:=c) (s:={s with heap:=h'.push (Zq "list" vs.toArray 0),toks:=tk}) hl hz O (λs' k=>T s' λt o e=>k t o (Yc (XU (kp _ _ e))) (XA _ (kp _ _ e))) λout hp hs=>⟨_,rfl,?_⟩) (args_list_sort _)))
 obtain⟨n,hn⟩:=sortedHeap_at (out:=out.toArray) hl;refine XB ⟨_,rfl,h out h'.objs.size _ tk n hp hs Qi (λb o e=>?_) hn⟩;have hb:=XU (kp _ _ e);rw[sortedHeap_old (Yc hb) (by rw[size_push'];exact ZX hb)]
 exact XA _ (kp _ _ e)
def zw (h:Heap)(kl:Xv->List (List Int))(vs:List Xv):Prop :=
 ∀v∈vs,∃t its,v=.ref t/\h.IsList t its/\its.size=(kl v).length/\∀j (hj:j<its.size),∃q xs,its[j]=.ref q/\IsTup h q xs/\Zb xs.toList ((kl v).getD j [])
theorem zw.keep {h h':Heap}{kl:Xv->List (List Int)}{vs:List Xv}(L:zw h kl vs)(k:∀t o,h.get? t=some o->h'.get? t=some o):zw h' kl vs:=λv hv=>by
 obtain⟨t,its,e,⟨o,ho,r⟩,hz,hj⟩:=L v hv;refine⟨t,its,e,⟨o,k _ _ ho,r⟩,hz,λj Dq=>?_⟩;obtain⟨q,xs,e1,⟨o2,GC,r2⟩,e3⟩:=hj j Dq;exact⟨q,xs,e1,⟨o2,k _ _ GC,r2⟩,e3⟩
theorem J4 {h:Xw}{kl:Xv->List (List Int)}{v v':Xv}{its its':Array Xv}(hu:A.units+1<ZQ)(hz:its.size=(kl v).length)(Jg:its'.size=(kl v').length)
  (hj:∀j (hj:j<its.size),∃q xs,its[j]=.ref q/\IsTup h.heap q xs/\Zb xs.toList ((kl v).getD j [])) (Dq:∀j (hj:j<its'.size),∃q xs,its'[j]=.ref q/\IsTup h.heap q xs/\Zb xs.toList ((kl v').getD j [])):SJ A h its its' (kl v) (kl v'):=by
 refine⟨hz,Jg,λj h1 h2=>?_⟩;obtain⟨q,xs,e1,t1,n1⟩:=hj j h1;obtain⟨q',N_,Sd,SV,Tq⟩:=Dq j h2;rw[e1,Sd];exact⟨Cy t1 SV n1 Tq hu,λprog w E Q hQ=>HT.vj t1 SV n1 Tq hu hQ⟩
theorem vi {kl:Xv->List (List Int)}{vs:List Xv}{a₀:Array XC}(hu:A.units+1<ZQ)(T:zw s.heap kl vs)(hm:∀z∈a₀.toList,z.1∈vs):eW prog w A E s oneType' (λx y=>gY (kl x.1) (kl y.1)) (·∈a₀.toList):=by
 intro x y st Q hx hy hk q;obtain⟨t,its,e,l1,hz,hj⟩:=T _ (hm _ hx);obtain⟨t',its',e',Vu,Jg,Dq⟩:=T _ (hm _ hy);have cm:=J4 (A:=A) hu hz Jg hj Dq;rw[lt'_eq];refine XE (aaz ?_);rw[hk,keyLt'_oneType,oneLt'_eq,if_pos rfl,e,e'];have q:Q (some (gY (kl x.1) (kl y.1))) st:=q;rw[e,e']at cm q;obtain⟨⟨cls,dd,data,sl⟩,ho,pC,n,OH⟩:=id l1;obtain⟨⟨Sj,Dr,data2,Dh⟩,GC,nP,n',hd2⟩:=id Vu;simp only at pC OH nP hd2;subst pC OH nP hd2;refine XE (aaS (aap (Xs (wpAny_cRoomFor (Nat.lt_of_succ_lt hu) (Xs (wpAny_callSpecialIfBound?_slot (T:="list") ⟨_,ho,rfl⟩ PySem.F.slot_list_lt
  (call_meets PySem.F.slot_list_lt ⟨_,ho,rfl⟩ PySem.F.entry_list_lt (PySem.F.args_list_lt_2 _ _) (EY _ _ its its' n n' dd Dr sl Dh (kl (.ref t)) (kl (.ref t'))) ⟨ho,GC,cm,?_⟩)))))))
 exact Y6 ⟨rfl,XS q⟩
theorem vp {kl:Xv->List (List Int)}{vs:List Xv}{Q:ZF->Xw->Prop}(T:zw s.heap kl vs)(h2:2<=vs.length)(q:Q oneType' s):X4 (model prog w) A (keyKind' vs.toArray) Q E s :=
 PySem.W.kas_kind (T:=.type "list") h2 (λv hv=>by
  obtain⟨t,its,rfl,⟨o,ho,hc,_⟩,_⟩:=T v hv;exact hc▸(PySem.W.Looks.ld ho).andThen .now) (by decide) (by decide) q
end
theorem Es (kl:Xv->List (List Int)):cf λ(x y:XC)=>gY (kl x.1) (kl y.1):=⟨λ_ _ h=>mx h,λ_ y _ h=>qG (kl y.1) h⟩
end OR
namespace L2
open PySem PySem.Spec PyProof.Rows OR
abbrev lD (ks:List (List Int)):D:=.lst (ks.map kD)
def sP:List D->Option (List (List (List Int)))
 |[]=>some []
 |d::ds=>(d.vn.bind dz).bind λk=>(sP ds).map (k::·)
theorem sO:∀{ds:List D} {kX:List (List (List Int))},sP ds=some kX->ds=kX.map lD/\∀ks∈kX,∀k∈ks,k≠[]
 |[],_,h=>by cases h;exact⟨rfl,λ_ z=>nomatch z⟩
 |d::ds,kX,h=>by
  obtain⟨k,h1,h2⟩:=Yw.mp h;obtain⟨es,h3,h4⟩:=Yw.mp h1;obtain⟨r,h5,rfl⟩:=XY.mp h2;obtain⟨e1,e2⟩:=sO h5;obtain⟨f1,f2⟩:=jj h4;rw[D.lr h3,e1,f1];refine⟨rfl,λks hk=>?_⟩;rcases Xy.mp hk with rfl|hk
  ·exact f2
  ·exact e2 ks hk
theorem oZ:∀{kX:List (List (List Int))},(∀ks∈kX,∀k∈ks,k≠[])->sP (kX.map lD)=some kX
 |[],_=>rfl
 |ks::kX,h=>by
  show (dz (ks.map kD)).bind _=_;rw[gN (h ks (XN ..)),Zg,oZ λx hx=>h x (XR _ hx)];rfl
def xZ (kX:List (List (List Int))):List (List (List Int)):=kX.mergeSort λa b=>!gY b a
theorem jF (kX:List (List (List Int))):(xZ kX).Perm kX:=List.mergeSort_perm _ _
theorem oE (kX:List (List (List Int))):(xZ kX).Pairwise λa b=>gY b a=false:=by
 refine(List.pairwise_mergeSort (le:=λa b=>!gY b a) (λa b c h1 h2=>?_) (λa b=>?_) kX).imp λ{a b} h=>by simpa using h
 ·simp only[aam]at h1 h2 ⊢
  cases q:gY c a with
  |false=>rfl
  |true =>
   rcases qG b q with z|z
   ·rw[z]at h2;cases h2
   ·rw[z]at h1;cases h1
 ·cases q:gY b a with
  |false=>rfl
  |true=>rw[mx q];rfl
theorem DM {a b:List (List (List Int))}(p:a.Perm b)(h:a.Pairwise λx y=>gY y x=false):a=xZ b :=
 List.Perm.eq_of_pairwise (λx y _ _ h1 h2=>jQ h2 h1) h (oE b) (p.trans (jF b).symm)
def CI:List D->Option D
 |[d]=>d.vn.bind λds=>(sP ds).bind λkX=>if kX.length<=1000000 then some (.lst ((xZ kX).map lD)) else none
 |_=>none
abbrev AL:=Addr×List (List Int)
def sV (H:Hp):Xv->List (List Int)
 |.ref t=>match H t with
  |some (.lst xs)=>xs.map fun
   |.ref q=>sW H (.ref q)
   |_=>[]
  |_=>[]
 |_=>[]
def gL (H:Hp):Xv->AL
 |.ref t=>(t,sV H (.ref t))
 |_=>(0,[])
section
variable {P:Xz}{w:XT}{W:Addr->Prop}{H:Hp}
theorem BI {t:Addr}{ks:List (List Int)}(hk:∀k∈ks,k≠[])(r:ay P w W H (lD ks) (.ref t)):sV H (.ref t)=ks/\∃ts:List (Addr×List Int),H t=some (.lst (ts.map qb))/\vX H ts/\ts.map (·.2)=ks:=by
 obtain⟨p,vs,e,hp,_,rs⟩:=r;cases e;obtain⟨ts,rfl,T,rfl⟩:=gM hk rs;refine⟨?_,ts,hp,T,rfl⟩;unfold sV;dsimp only;rw[hp];dsimp only;rw[YB];exact Yh λx hx=>ji (T x hx).1
theorem oY:∀{kX:List (List (List Int))} {vs:List V},ai P w W H (kX.map lD) vs->∃ts:List AL,vs=ts.map (λt=>V.ref t.1)/\ts.map (·.2)=kX/\∀t∈ts,ay P w W H (lD t.2) (.ref t.1)
 |[],_,h=>⟨[],h,rfl,λ_ z=>nomatch z⟩
 |ks::kX,_,⟨v,r,e,h1,h2⟩=>by
  obtain⟨ts,q1,q2,q3⟩:=oY h2;obtain⟨a,us,rfl,_⟩:=id h1;refine⟨(a,ks)::ts,by rw[e,q1];rfl,by rw[X5,q2],λt ht=>?_⟩
  rcases Xy.mp ht with rfl|ht
  ·exact h1
  ·exact q3 t ht
theorem oJ:∀{ts:List AL},(∀t∈ts,ay P w W H (lD t.2) (.ref t.1))->ai P w W H ((ts.map (·.2)).map lD) (ts.map λt=>V.ref t.1)
 |[],_=>rfl
 |t::ts,h=>⟨_,_,rfl,h t (XN ..),oJ λx hx=>h x (XR _ hx)⟩
end
theorem rq:∀{ts:List AL} {us:List Xv},Vals (ts.map λt=>V.ref t.1) us->us=ts.map λt=>Value.ref t.1
 |[],_,.nil=>rfl
 |t::ts,_,.cons r q=>by
  rw[X5,<- rq q];cases r;rfl
theorem uf:∀(ts:List AL),Vals (ts.map λt=>V.ref t.1) (ts.map λt=>Value.ref t.1)
 |[]=>.nil
 |t::ts=>.cons rfl (uf ts)
section
variable {X:Cx}
theorem qS (hu:X.A.units+16<ZQ):bG X (.builtin "sorted") CI:=by
 intro pins s σ H xs us Q I r h;obtain⟨W,ds,d,hd,r1,e,q⟩:=h
 match ds,e with
 |[x],e =>
  obtain⟨es,e1,e2⟩:=Yw.mp (show x.vn.bind _=some d from e)
  obtain⟨kX,e3,e4⟩:=Yw.mp e2;obtain⟨hz,rfl⟩:=dv e4;obtain⟨rfl,hk⟩:=sO e3;rw[D.lr e1]at r1;obtain⟨x,rfl,p,vs,rfl,hp,n1,q1⟩:=jx r1;obtain⟨ts,rfl,rfl,T⟩:=oY q1;obtain⟨u,rfl,rx⟩:=vals1 r;cases rx;obtain⟨its,r',pl,hl⟩:=I.list (c6.of hp);obtain rfl:=rq r';rw[Xu]at hz;have nl:(ts.map λt=>Value.ref t.1).length<=XO:=by rw[Xu,YA];lia
  have kt:∀t∈ts,∀k∈t.2,k≠[]:=λt ht=>hk t.2 (X7.mpr ⟨t,ht,rfl⟩);have kl:∀t∈ts,sV H (.ref t.1)=t.2:=λt ht=>(BI (kt t ht) (T t ht)).1;have LL:zw s.heap (sV H) (ts.map λt=>Value.ref t.1):=λv hv=>by
   obtain⟨t,ht,rfl⟩:=X7.mp hv;obtain⟨e5,tt,h5,T5,e6⟩:=BI (kt t ht) (T t ht);obtain⟨i5,r5,l5,_⟩:=I.list (c6.of h5);obtain rfl:=gy r5;refine⟨t.1,_,rfl,l5.isList,by rw[e5,<- e6];simp,λj hj=>?_⟩
   have Dq:j<tt.length:=by simpa using hj
   obtain⟨h6,_⟩:=T5 tt[j] (ZG Dq);obtain⟨i6,r6,l6,_⟩:=I.tuple (qV.of h6);refine⟨tt[j].1,_,by simp,l6,?_⟩
   rw[e5,<- e6,show (tt.map (·.2)).getD j []=tt[j].2 by simp[YZ,Dq]]
   exact intsAre_of (by simpa using r6)
  refine Aw (κ:=oneType') (c:=λx y=>gY (sV H x) (sV H y)) (by rw[Xu];exact hz) (λR hR=>?_) (Es _) (λs' k=>⟨λh2 Q q=>vp (LL.keep k) h2 q,vi (by
   show X.A.units+1+1+1<ZQ;exact Nat.lt_of_le_of_lt (by lia) hu) (LL.keep k) λz hz=>by
   rw[aaY]at hz;exact(aau hz).1⟩) λout l h' tk n hp hs hle kp ho=>?_
  ·refine collect_list pl.isList (hR _ s.toks (λb o e=>?_) ?_) nl
   ·have hb:=XU e;rw[Heap.get?_update_ne _ _ _ _ (Yc hb)];exact XA _ e
   ·rw[Heap.size_update,size_push'];exact Nat.le_succ _
  ·have o1:out=(out.map (gL H)).map (λt=>Value.ref t.1):=by
    rw[YB];refine(Yh (g:=id) λv hv=>?_).trans (List.map_id _) |>.symm
    obtain⟨t,ht,rfl⟩:=X7.mp (hp.mem_iff.mp hv);rfl
   have o2:(out.map (gL H)).Perm ts:=by
    refine(hp.map (gL H)).trans (aaw ?_);rw[YB];refine(Yh (g:=id) λt ht=>?_).trans (List.map_id _);show (t.1,sV H (.ref t.1))=t;rw[kl t ht]
   have zl:out.length=ts.length:=by rw[hp.length_eq,Xu]
   have hf:H l=none:=I.bt.fresh hle;have eq:(out.map (gL H)).map (·.2)=xZ (ts.map (·.2)):=DM (o2.map _) (by
    rw[YB,Y7];refine hs.imp_of_mem λ{x y} hx hy hh=>?_;obtain⟨t,ht,rfl⟩:=X7.mp (hp.mem_iff.mp hx);obtain⟨t',TJ,rfl⟩:=X7.mp (hp.mem_iff.mp hy);exact hh)
   rw[<- eq]at q;refine⟨.ref l,_,I.laid (t':=tk) (o:=.lst ((out.map (gL H)).map λt=>V.ref t.1)) kp hle ?_,rfl,q _ _ (au.new hf) (Rp.f_ hd hf (oJ λt ht=>T t (o2.mem_iff.mp ht)))⟩;refine⟨by rw[Xu,Xu,zl,YA];lia,out,n,?_,ho⟩
   have:=uf (out.map (gL H));rw[<- o1]at this;exact this
end
end L2
namespace L2.Q
open PySem
abbrev NN:=Nat×Nat
def KP (p q:NN):Prop:=p.1<q.1/\(p.2<q.1\/q.2<p.2)
structure C8 (ps:List NN)(i j:Nat)(S:List NN):Prop where
 pw:S.Pairwise KP
 of:∀p∈S,p∈ps/\i<=p.1/\p.2<j
section
variable {ps:List NN}(hp:∀p∈ps,p.1<p.2){i j:Nat}{S A B:List NN}
theorem C8.nil:C8 ps i j []:=⟨List.Pairwise.nil,λ_ z=>nomatch z⟩
include hp in
theorem iV (h:¬ i<j)(s:C8 ps i j S):S=[]:=by
 cases S with
 |nil=>rfl
 |cons p S=>obtain⟨h1,h2,h3⟩:=s.of p XN;have:=hp p h1;lia
theorem xD {k:Nat}:∀{T:List NN},T.Pairwise KP->(∀q∈T,q.1<q.2/\(q.2<k\/k<q.1))->T=T.filter (λq=>decide (q.2<k))++T.filter (λq=>decide (k<q.1))
 |[],_,_=>rfl
 |q::T,hw,h=>by
  obtain⟨w1,w2⟩:=Yt.mp hw;obtain⟨a1,a2⟩:=h q XN;have ih:=xD w2 λx hx=>h x (XR _ hx);rcases a2 with a2|a2
  ·rw[YC,YC,if_pos (decide_eq_true a2),if_neg (by rw[decide_eq_true_eq];lia),Z8,<- ih]
  ·have e1:(q::T).filter (λq=>decide (q.2<k))=[]:=by
    rw[ZN];intro x hx;rw[decide_eq_true_eq];rcases Xy.mp hx with rfl|hx
    ·lia
    ·have:=(w1 x hx).1;have:=(h x (XR _ hx)).1;lia
   have e2:(q::T).filter (λq=>decide (k<q.1))=q::T:=by
    rw[List.filter_eq_self];intro x hx;rw[decide_eq_true_eq];rcases Xy.mp hx with rfl|hx
    ·lia
    ·have:=(w1 x hx).1;lia
   rw[e1,e2,List.nil_append]
include hp in
theorem gz (h:i<j):C8 ps i j S↔C8 ps (i+1) j S\/∃k A B,(i,k)∈ps/\k<j/\S=(i,k)::(A++B)/\C8 ps (i+1) k A/\C8 ps (k+1) j B:=by
 constructor
 ·intro s;cases S with
  |nil=>exact .inl .nil
  |cons p T =>
   obtain⟨w1,w2⟩:=Yt.mp s.pw;obtain⟨h1,h2,h3⟩:=s.of p XN;have ot:∀q∈T,q∈ps/\i<=q.1/\q.2<j:=λq hq=>s.of q (XR _ hq)
   by_cases e:p.1=i
   ·right
    obtain⟨a,k⟩:=p;dsimp only at e h2 h3;subst e;refine⟨k,T.filter (λq=>decide (q.2<k)),T.filter (λq=>decide (k<q.1)),h1,h3,?_,⟨w2.filter _,λq hq=>?_⟩,⟨w2.filter _,λq hq=>?_⟩⟩
    ·rw[<- xD w2 λq hq=>⟨hp q (ot q hq).1,(w1 q hq).2.symm⟩]
    ·obtain⟨g1,g2⟩:=X3.mp hq;have:=(w1 q g1).1;dsimp only at this;exact⟨(ot q g1).1,by lia,of_decide_eq_true g2⟩
    ·obtain⟨g1,g2⟩:=X3.mp hq;exact⟨(ot q g1).1,of_decide_eq_true g2,(ot q g1).2.2⟩
   ·left
    refine⟨s.pw,λq hq=>?_⟩;rcases Xy.mp hq with rfl|hq
    ·exact⟨h1,by lia,h3⟩
    ·have:=(w1 q hq).1;exact⟨(ot q hq).1,by lia,(ot q hq).2.2⟩
 ·rintro (s|⟨k,A,B,h1,h2,rfl,a,b⟩)
  ·exact⟨s.pw,λp hp=>let ⟨a,b,c⟩:=s.of p hp;⟨a,by lia,c⟩⟩
  ·have hk:=hp _ h1;dsimp only at hk;refine⟨Yt.mpr ⟨λq hq=>?_,List.pairwise_append.mpr ⟨a.pw,b.pw,λx hx y hy=>?_⟩⟩,λq hq=>?_⟩
   ·rcases XW.mp hq with z|z
    ·obtain⟨g1,g2,g3⟩:=a.of q z;exact⟨by dsimp only;lia,.inr g3⟩
    ·obtain⟨g1,g2,g3⟩:=b.of q z;exact⟨by dsimp only;lia,.inl g2⟩
   ·obtain⟨g1,g2,g3⟩:=a.of x hx;obtain⟨f1,f2,f3⟩:=b.of y hy;have:=hp x g1;exact⟨by lia,.inl (by lia)⟩
   ·rcases Xy.mp hq with rfl|hq
    ·exact⟨h1,Xx _,h2⟩
    ·rcases XW.mp hq with z|z
     ·obtain⟨g1,g2,g3⟩:=a.of q z;exact⟨g1,by lia,by lia⟩
     ·obtain⟨g1,g2,g3⟩:=b.of q z;exact⟨g1,by lia,g3⟩
include hp in
include hp in
theorem qd:∀(l i j:Nat) (S:List NN),j-i<=l->C8 ps i j S->(S.length:Int)<=mX ps i j:=by
 intro l
 induction l with
 |zero=>intro i j S hl s;rw[iV hp (by lia) s];exact sN hp
 |succ l ih =>
  intro i j S hl s
  by_cases h:i<j
  ·rcases (gz hp h).mp s with s|⟨k,A,B,h1,h2,rfl,a,b⟩
   ·exact Int.le_trans (ih (i+1) j S (by lia) s) (gJ hp h)
   ·have hk:=hp _ h1;dsimp only at hk;have g1:=ih (i+1) k A (by lia) a
    have g2:=ih (k+1) j B (by lia) b
    have g3:=f9 hp h1 h2;rw[XJ,Yb];lia
  ·rw[iV hp h s];exact sN hp
include hp in
include hp in
end
section
variable {ps:List NN}(hp:∀p∈ps,p.1<p.2)
theorem JR {α:Type}{q:α->Bool}{l:List α}(h:∀x∈l,q x=false):l.filter q=[]:=ZN.mpr λx hx=>by rw[h x hx];simp
include hp in
include hp in
include hp in
end
open OR
section
variable {ps:List NN}(hp:∀p∈ps,p.1<p.2){i j:Nat}{S:List NN}
include hp in
include hp in
def ip (p q:NN):Bool:=decide (p.1=q.1) || decide (p.1=q.2) || decide (p.2=q.1) || decide (p.2=q.2) || gu p.1 p.2 q.1 q.2
def wo (L:List (List NN))(p:NN):List (List NN):=L++(L.filter λS=>decide (S.filter (λq=>ip q p)=[])).map (p::·)
def eV:List NN->List (List NN)
 |[]=>[[]]
 |p::ps=>wo (eV ps) p
theorem sF {p q:NN}(h1:p.1<p.2)(h2:q.1<q.2)(h:p.1<q.1\/(p.1=q.1/\p.2<q.2)):ip q p=false↔KP p q:=by
 unfold ip gu KP;simp only[Bool.or_eq_false_iff,decide_eq_false_iff_not,Bool.and_eq_false_iff];lia
theorem oV {L:List (List NN)}{p:NN}:S∈wo L p↔S∈L\/∃T∈L,(∀q∈T,ip q p=false)/\S=p::T:=by
 unfold wo;rw[XW,X7];refine or_congr Iff.rfl ⟨λ⟨T,hT,e⟩=>?_,λMI=> by obtain⟨T,h1,h2,e⟩ := MI;exact⟨T,X3.mpr ⟨h1,decide_eq_true (JR h2)⟩,e.symm⟩⟩
 obtain⟨g1,g2⟩:=X3.mp hT;exact⟨T,g1,λq hq=>by
  have:=ZN.mp (of_decide_eq_true g2) q hq;simpa using this,e.symm⟩
theorem sM:∀{ps:List NN},(∀p∈ps,p.1<p.2)->(ps.Pairwise λp q=>p.1<q.1\/(p.1=q.1/\p.2<q.2))->∀{S:List NN},S∈eV ps↔S.Pairwise KP/\∀p∈S,p∈ps
 |[],_,_,S=>by
  unfold eV;rw[XQ];refine⟨λe=>by rw[e];exact⟨.nil,λ_ z=>z⟩,λh=>?_⟩
  cases S with
  |nil=>rfl
  |cons p S=>exact absurd (h.2 p XN) YH
 |p::ps,hp,hs,S=>by
  obtain⟨s1,s2⟩:=Yt.mp hs;have kZ:∀q∈ps,q.1<q.2:=λq hq=>hp q (XR _ hq);have pp:=hp p XN;have ih:∀{S:List NN},S∈eV ps↔S.Pairwise KP/\∀p∈S,p∈ps:=sM kZ s2;unfold eV;rw[oV,ih];constructor
  ·rintro (⟨h1,h2⟩|⟨T,hT,h1,rfl⟩)
   ·exact⟨h1,λq hq=>XR _ (h2 q hq)⟩
   ·obtain⟨g1,g2⟩:=ih.mp hT;refine⟨Yt.mpr ⟨λq hq=>(sF pp (kZ q (g2 q hq)) (s1 q (g2 q hq))).mp (h1 q hq),g1⟩,λq hq=>?_⟩;rcases Xy.mp hq with rfl|hq
    ·exact XN
    ·exact XR _ (g2 q hq)
  ·rintro⟨h1,h2⟩
   by_cases Q0:p∈S
   ·right
    cases S with
    |nil=>cases Q0
    |cons x T =>
     obtain⟨w1,w2⟩:=Yt.mp h1;have ex:x=p:=by
      rcases Xy.mp Q0 with z|z
      ·exact z.symm
      ·have g:=(w1 p z).1;rcases Xy.mp (h2 x XN)with q|q
       ·exact q
       ·have:=s1 x q;lia
     subst ex;have hT:∀q∈T,q∈ps:=λq hq=>by
      rcases Xy.mp (h2 q (XR _ hq))with z|z
      ·have:=(w1 q hq).1;rw[z]at this;lia
      ·exact z
     exact⟨T,ih.mpr ⟨w2,hT⟩,λq hq=>(sF pp (kZ q (hT q hq)) (s1 q (hT q hq))).mpr (w1 q hq),rfl⟩
   ·left
    exact⟨h1,λq hq=>by
     rcases Xy.mp (h2 q hq)with z|z
     ·rw[z]at hq;exact absurd hq Q0
     ·exact z⟩
theorem mH:∀{ps:List NN},(eV ps).length<=2 ^ ps.length
 |[]=>Xx _
 |p::ps=>by
  have ih:=mH (ps:=ps);have:=YJ (λS=>decide (S.filter (λq=>ip q p)=[])) (eV ps);unfold eV wo;rw[Yb,Xu,XJ,aaC];lia
theorem qU {n:Nat}(hp:∀p∈ps,p.1<p.2/\p.2<n)(hs:ps.Pairwise λp q=>p.1<q.1\/(p.1=q.1/\p.2<q.2)):S∈eV ps↔C8 ps 0 n S:=by
 rw[sM (λp h=>(hp p h).1) hs];exact⟨λMH=> by obtain⟨a,b⟩ := MH;exact⟨a,λp h=>⟨b p h,XG _,(hp p (b p h)).2⟩⟩,λs=>⟨s.pw,λp h=>(s.of p h).1⟩⟩
include hp in
theorem Fp:∀(l i j:Nat),j-i<=l->C8 ps i j (bu ps w1 i j):=by
 intro l
 induction l with
 |zero=>intro i j h;rw[bJ (by lia)];exact .nil
 |succ l ih =>
  intro i j h
  by_cases aJ:i<j
  ·rw[dG hp aJ];have hm:=cE (bY (w:=w1) hp aJ);cases hc:bE ps w1 i j with
   |none=>exact(gz hp aJ).mpr (.inl (ih _ _ (by lia)))
   |some k =>
    rw[hc]at hm;obtain⟨h1,h2,_⟩:=hm;have h3:=hp _ h1;dsimp only at h3;exact(gz hp aJ).mpr (.inr ⟨k,_,_,h1,h2,rfl,ih _ _ (by lia),ih _ _ (by lia)⟩)
  ·rw[bJ aJ];exact .nil
theorem wZ:∀{a b c d:List (List Int)},a.length=c.length->gY (a++b) (c++d)=if a=c then gY b d else gY a c
 |[],b,[],d,_=>by rw[if_pos rfl];rfl
 |x::a,b,y::c,d,h=>by
  rw[Z8,Z8,cn,wZ (by simpa using h),cn]
  by_cases e:x=y
  ·subst e;rw[if_pos rfl,if_pos rfl]
   by_cases e2:a=c
   ·subst e2;rw[if_pos rfl,if_pos rfl]
   ·rw[if_neg e2,if_neg (λz=>e2 (List.cons.inj z).2)]
  ·rw[if_neg e,if_neg e,if_neg λz=>e (List.cons.inj z).1]
end
theorem Ab (S:List NN):fP S=lD (S.map tI):=by unfold fP lD;rw[YB];rfl
theorem DH (L:List (List NN)):L.map fP=(L.map λS=>S.map tI).map lD:=by
 rw[YB];exact Yh λS _=>Ab S
def Cs:FD:=λds R=>∃p q:NN,ds=[kD (tI p),kD (tI q)]/\R (.bl (gu p.1 p.2 q.1 q.2))
theorem Cs.mono:cU Cs:=λds R R' k h=>by obtain⟨p,q,e,h⟩:=h;exact⟨p,q,e,k _ h⟩
def Cr:FD:=λds R=>∃p q:NN,ds=[kD (tI p),kD (tI q)]/\R (.bl (ip p q))
theorem Cr.mono:cU Cr:=λds R R' k h=>by obtain⟨p,q,e,h⟩:=h;exact⟨p,q,e,k _ h⟩
def ic (ps:List NN):List (List (List Int)):=xZ ((eV ps).map λS=>S.map tI)
def tV:FD:=λds R=>∃n ps,ds=[fy n ps]/\ps.length<=8/\R (.lst ((ic ps).map lD))
theorem tV.mono:cU tV:=λds R R' k h=>by obtain⟨n,ps,e,h1,h⟩:=h;exact⟨n,ps,e,h1,k _ h⟩
theorem EW (p q:NN):ip p q=(decide ((p.1:Int)∈[(q.1:Int),(q.2:Int)]) || (decide ((p.2:Int)∈[(q.1:Int),(q.2:Int)]) || gu p.1 p.2 q.1 q.2)):=by
 have e:∀a b c:Nat,decide ((a:Int)∈[(b:Int),(c:Int)])=(decide (a=b) || decide (a=c)):=λa b c=>by
  rw[<- Bool.decide_or];refine decide_eq_decide.mpr ?_;simp only[Xy,YH,or_false];lia
 rw[e,e];unfold ip;simp only[Bool.or_assoc]
theorem rH {ps:List NN}:CI [.lst ((eV ps).map fP)]=(if (eV ps).length<=1000000 then some (.lst ((ic ps).map lD)) else none):=by
 rw[DH];show (sP _).bind _=_;rw[oZ λks hk k GG=>?_,Zg,Xu]
 ·rfl
 ·obtain⟨S,_,rfl⟩:=X7.mp hk;obtain⟨p,_,rfl⟩:=X7.mp GG;exact List.cons_ne_nil _ _
def gW (p:NN)(L:List (List NN)):List (List NN):=(L.filter λS=>decide (S.filter (λq=>ip q p)=[])).map (p::·)
theorem zv {ps:List NN}{m:Nat}{p:NN}(h:ps.reverse[m]?=some p):eV (ps.drop (ps.length-(m+1)))=eV (ps.drop (ps.length-m))++gW p (eV (ps.drop (ps.length-m))):=by
 have hm:=(XI.mp h).1;rw[List.length_reverse]at hm;rw[List.getElem?_reverse hm]at h;have hd:ps.drop (ps.length-(m+1))=p::ps.drop (ps.length-m):=by
  rw[Yp (by lia),show ps.length-(m+1)+1=ps.length-m by lia]
  have e2:ps.length-1-m=ps.length-(m+1):=by lia
  rw[e2]at h;rw[(XI.mp h).2]
 rw[hd];rfl
theorem vg {p:NN}{L:List (List NN)}{S:List NN}:gW p (L++[S])=gW p L++if S.filter (λq=>ip q p)=[] then [p::S] else []:=by
 unfold gW;rw[Y9,XX]
 congr 1
 by_cases h:S.filter (λq=>ip q p)=[]
 ·rw[if_pos h,YC,if_pos (decide_eq_true h)];rfl
 ·rw[if_neg h,YC,if_neg (by rw[decide_eq_true_eq];exact h)];rfl
theorem o8 {p:NN}{L:List (List NN)}:(gW p L).length<=L.length:=by unfold gW;rw[Xu];exact YJ _ _
theorem IP {ps:List NN}{S:List NN}:S∈eV ps->S.length<=ps.length:=by
 induction ps generalizing S with
 |nil=>intro h;rw[XQ.mp h];exact Xx _
 |cons p ps ih =>
  intro h;rcases oV.mp h with h|⟨T,hT,_,rfl⟩
  ·exact Nat.le_succ_of_le (ih h)
  ·exact Nat.succ_le_succ (ih hT)
end L2.Q
namespace jB
open PySem L2 L2.Q
section
variable {P:Xz}{w:XT}{K:PySem.W.Frag}{mg:Str->Option Xv}{base:Heap}
theorem cI:aL ["one","other","a","b","c","d"] ["one","other"] (aw eD):=⟨rfl,rfl,rfl,by decide +kernel,rfl,by decide +kernel,by decide +kernel⟩
theorem Iu {tL kO} (Du:OZ K mg tL kO):aN P w K mg base bU 1 tL kO ["one","other"] (dO P w true Cs):=by
 refine oR Du.F cI (λds R MG=> by obtain⟨t,u,e,_⟩ := MG;subst e;rfl) λcP A outer s H E hr=>⟨_,(ah (l9 (ab (i:=0)) (cw (n:=2) rfl (aH (ak (i:=2) cI.nd) (aH (ak (i:=3) cI.nd) bI))))
    (ah (l9 (ab (i:=1)) (cw (n:=2) rfl (aH (ak (i:=4) cI.nd) (aH (ak (i:=5) cI.nd) bI))))
    (aj (aY (A7 (r9 (ab (i:=2)) (e_ dq (ab (i:=4)) (e_ dq (ab (i:=3)) (qr dq (ab (i:=5)))))) (qt (r9 (ab (i:=4)) (e_ dq (ab (i:=2)) (e_ dq (ab (i:=5)) (qr dq (ab (i:=3)))))))))))),λds R h=>?_⟩
 obtain⟨⟨a,b⟩,⟨c,d⟩,rfl,q⟩:=h;refine⟨_,rfl,_,rfl,rfl,_,_,rfl,_,_,rfl,rfl,?_⟩;refine⟨_,rfl,_,rfl,rfl,_,_,rfl,_,_,rfl,rfl,?_⟩;refine CS (a:=a) (b:=c) (c:=b) (d:=d) rfl rfl rfl rfl ⟨_,rfl,Tx (λh=>⟨trivial,?_⟩) (λh=>CS (a:=c) (b:=a) (c:=d) (d:=b) rfl rfl rfl rfl ⟨trivial,?_⟩)⟩
 ·have:gu a b c d=true:=by unfold gu;rw[h];rfl
  rw[<- this];exact q
 ·have:gu a b c d=(decide ((c:Int)<a)&&(decide ((a:Int)<d)&&decide ((d:Int)<b))):=by unfold gu;rw[h];rfl
  rw[<- this];exact q
theorem rQ:aL ["one","other"] ["one","other"] (aw fw):=⟨rfl,rfl,rfl,by decide +kernel,rfl,by decide +kernel,by decide +kernel⟩
theorem Iq {yZ pL} (G0:SH K mg yZ pL) {tL kO} (Du:OZ K mg tL kO):aN P w K mg base bU 2 yZ pL ["one","other"] (dO P w true Cr):=by
 have WO:aN P w K mg base bU 1 _ _ _ (dO P w true Cs):=Iu Du;refine oR G0.F rQ (λds R MF=> by obtain⟨t,u,e,_⟩ := MF;subst e;rfl) λcP A outer s H E hr=>⟨_,(aj (aY (A7 (il af (bK.m (Bj hr.v7)) (aF af a5 (ab (i:=0)) ag) (ab (i:=1))) (A7 (il af (bK.m (Bj hr.v7)) (aF af a5 (ab (i:=0)) ag) (ab (i:=1))) (qt (aT Cs.mono WO (hr.mono (by decide)) Du.m Du.F.kp Du.b (aa (ab (i:=0)) (aa (ab (i:=1)) ae)))))))),λds R h=>?_⟩
 obtain⟨p,q,rfl,h⟩:=h;rw[EW]at h;refine⟨_,rfl,trivial,_,rfl,trivial,_,rfl,_,CM p.1 (tI q),_,rfl,jX (λz=>⟨trivial,?_⟩) (λz=>⟨_,rfl,trivial,_,rfl,trivial,_,rfl,_,CM p.2 (tI q),_,rfl,jX (λz2=>⟨trivial,?_⟩) (λz2=>⟨_,rfl,trivial,_,rfl,trivial,p,q,rfl,trivial,?_⟩)⟩)⟩
 ·rw[decide_eq_true (show (p.1:Int)∈[(q.1:Int),(q.2:Int)] from z)]at h
  exact h
 ·rw[decide_eq_true (show (p.2:Int)∈[(q.1:Int),(q.2:Int)] from z2),Bool.true_or,Bool.or_true]at h
  exact h
 ·rw[decide_eq_false (show ¬ (p.1:Int)∈[(q.1:Int),(q.2:Int)] from z),decide_eq_false (show ¬ (p.2:Int)∈[(q.1:Int),(q.2:Int)] from z2)]at h
  exact h
theorem cS:aL ["row","found","tie","more","some"] ["row"] (aw gC):=⟨rfl,rfl,rfl,by decide +kernel,rfl,by decide +kernel,by decide +kernel⟩
theorem EJ {Fy xq} (KI:Ut K mg Fy xq) {yZ pL} (G0:SH K mg yZ pL) {tL kO} (Du:OZ K mg tL kO) (B:zC mg):aN P w K mg base bU 3 Fy xq ["row"] (dO P w false tV):=by
 have WK:aN P w K mg base bU 2 _ _ _ (dO P w true Cr):=Iq G0 Du;refine oR KI.F cS (λds R ME=> by obtain⟨n,ps,e,_⟩ := ME;subst e;rfl) λcP A outer s H E hr=>⟨_,(ah (a6 (i:=1) (aZ (aa (aZ ae) ae)) cS.nd)
    (ah (cB YD rfl (bh (wG (aF af a5 (ab (i:=0)) ag))) (ak (i:=2) cS.nd) (ah (cX (i:=3) (λ_=>(aZ ae)) cS.nd)
    (ah (cB YD rfl (bh (ab (i:=1))) (ak (i:=4) cS.nd) (aj (bC (aI af (bK.m (bW hr.units)) (Ma ["one","tie"] [none,some 2] (by rfl) (by decide:(["one","tie"]:List Str).Nodup) rfl (bh (ab (i:=4))) (λ_ _ _ _ _ _=>(ak (i:=0) (by decide:(["one","tie"]:List Str).Nodup))) (λ_ _ _ _ _ _=>(ib (gG (aT Cr.mono WK (hr.mono (by decide)) G0.m G0.F.kp G0.b (aa (ab (i:=0)) (aa (ab (i:=1)) ae)))))) (λ_ _ _ _ _ _=>(ab (i:=0)))) (aZ ae)) (aj (cD (i:=3) (λ_=>(aE aG az (aZ (aa (ab (i:=2)) ae)) (ab (i:=4)))))) aP)))
    (aj (a6 (i:=1) (aE aG az (ab (i:=1)) (A8 (i:=3))) cS.nd)))))
    (aj (aY (bf af (bG.m (qS hr.v8)) B.sorted j9 (aa (ab (i:=1)) ae)))))),λds R h=>?_⟩
 obtain⟨n,ps,rfl,hl,q⟩:=h;refine⟨XG _,trivial,Ai,?_⟩;refine⟨_,rfl,trivial,_,rfl,.inr ⟨_,rfl,.inr ⟨_,rfl,trivial,?_⟩⟩⟩;have jZ:∀m,(eV (ps.drop m)).length<=256:=λm=>Ym mH (Ym (Zz (by decide) (show (ps.drop m).length<=8 by rw[Z7];lia)) (by decide))
 refine⟨λm β=>∃x2 x3 x4,β=[some (.val false (fy n ps)),some (.val true (.lst ((eV (ps.drop (ps.length-m))).map fP))),x2,x3,x4],⟨_,_,_,by rw[Nat.sub_zero,List.drop_length];rfl⟩,?_,?_⟩
 ·rintro m d β hd ⟨x2,x3,x4,rfl⟩;rw[<- List.map_reverse,XM]at hd;obtain⟨p,s_,rfl⟩:=XY.mp hd;have ea:=zv s_;have hL:=jZ (ps.length-m);generalize VZ:eV (ps.drop (ps.length-m))=L at ea hL ⊢
  refine⟨XG _,trivial,?_⟩;refine⟨_,rfl,_,rfl,trivial,?_⟩;refine⟨λk β=>k<=L.length/\∃x4,β=[some (.val false (fy n ps)),some (.val true (.lst (L.map fP))),some (.val false (kD (tI p))),some (.own (.lst ((gW p (L.take k)).map fP))),x4],⟨XG _,_,rfl⟩,?_,?_⟩
  ·rintro k d β hd ⟨_,x4,rfl⟩;rw[XM]at hd;obtain⟨S,hS,rfl⟩:=XY.mp hd;have hk:=(XI.mp hS).1;have Xk:S.length<=8:=by
    have:=IP (S:=S) (ps:=ps.drop (ps.length-m)) (by rw[VZ];exact Yq hS)
    rw[Z7]at this;lia
   have et:L.take (k+1)=L.take k++[S]:=by rw[YT,hS];rfl
   have es:=vg (p:=p) (L:=L.take k) (S:=S);rw[<- et]at es;have Xe:(gW p (L.take k)).length<=256:=Ym o8 (by rw[X_];lia)
   refine⟨_,rfl,_,rfl,trivial,?_⟩;refine gb (λq=>ip q p) (λq=>kD (tI q)) trivial (by rw[YA];lia) (λq hq x0 o J ho j1 j2=>?_) ?_
   ·exact⟨_,rfl,trivial,_,rfl,trivial,q,p,rfl,_,rfl,Tx (λh=>⟨_,rfl,xl _,ho,j1 h _⟩) (λh=>j2 h _)⟩
   ·have e0:J2 (.lst ((S.filter λq=>ip q p).map λq=>kD (tI q))) (.lst [])=some (.bl (decide ((S.filter λq=>ip q p)=[]))):=by
     have:=CN ((S.filter λq=>ip q p).map tI) [];rw[YB]at this;rw[show (λq:NN=>kD (tI q))=kD ∘ tI from rfl]
     rw[show (D.lst [])=D.lst (([]:List (List Int)).map kD) from rfl,this]
     congr 2
     exact decide_eq_decide.mpr List.map_eq_nil_iff
    refine⟨trivial,XG _,_,e0,_,rfl,jX (λh=>?_) (λh=>?_)⟩
    ·rw[if_pos h]at es;have a1:vP (.lst [kD (tI p)]) (fP S)=some (fP (p::S)):=gq (by rw[Xu];show 1+_<=_;lia)
     refine⟨⟨_,rfl⟩,_,rfl,trivial,Ai,.inl ⟨⟨xl _,trivial⟩,trivial,_,rfl,_,a1,.inl ⟨jo,trivial,_,rfl,by rw[Xu];exact iU (by lia),hk,_,by rw[es,XX];rfl⟩⟩⟩
    ·rw[if_neg h,YX]at es;exact⟨hk,_,by rw[es];rfl⟩
  ·rintro β ⟨_,x4,rfl⟩;rw[Xu,Y_];have a2:vP (.lst (L.map fP)) (.lst ((gW p L).map fP))=some (.lst ((L++gW p L).map fP)):=by
    rw[XX];exact gq (by rw[Xu,Xu];have:=o8 (p:=p) (L:=L);lia)
   exact⟨_,rfl,trivial,_,rfl,_,a2,.inr ⟨_,_,_,by rw[ea];rfl⟩⟩
 ·rintro β ⟨x2,x3,x4,rfl⟩;rw[List.length_reverse,Xu,aaB,List.drop_zero];exact⟨_,rfl,trivial,_,rH.trans (if_pos (by have:=jZ 0;rw[List.drop_zero]at this;lia)),.inr ⟨trivial,q⟩⟩
end
end jB
namespace L2.Q
open PySem PySem.Spec PySem.SeqAt PyProof.Rows
inductive Kk:Nat->D->Prop
 |int {n:Nat} {i:Int}:Kk n (.int i)
 |tup {n:Nat} {es:List D} (l:es.length<=1000) (h:∀x∈es,Kk n x):Kk (n+1) (.tup es)
 |lst {n:Nat} {es:List D} (l:es.length<=1000) (h:∀x∈es,Kk n x):Kk (n+1) (.lst es)
def iC (n:Nat):FD:=λds R=>∃d,ds=[d,d]/\Kk n d/\R (.bl true)
theorem iC.mono {n:Nat}:cU (iC n):=λds R R' k h=>by obtain⟨d,e,h,q⟩:=h;exact⟨d,e,h,k _ q⟩
theorem JY {n:Nat}{ps:List (Nat×Nat)}(h:ps.length<=1000):Kk 3 (fy n ps):=by
 refine .tup (by show 2<=1000;decide) λx hx=>?_
 rcases Xy.mp hx with rfl|hx
 ·exact .int
 ·rw[XQ.mp hx];refine .lst (by rw[Xu];exact h) λy hy=>?_
  obtain⟨p,_,rfl⟩:=X7.mp hy;exact .tup (by show 2<=1000;decide) λz hz=>by
   obtain⟨i,_,rfl⟩:=X7.mp hz;exact .int
end L2.Q
namespace jB
open PySem L2 L2.Q
section
variable {P:Xz}{w:XT}{K:PySem.W.Frag}{mg:Str->Option Xv}{base:Heap}
theorem rP:aL ["found","due"] ["found","due"] (aw fv):=⟨rfl,rfl,rfl,by decide +kernel,rfl,by decide +kernel,by decide +kernel⟩
def fS:Nat->FD
 |0=>λ_ _=>False
 |n+1=>iC n
theorem fS.mono:∀{n:Nat},cU (fS n)
 |0=>λ_ _ _ _ h=>h
 |_+1=>iC.mono
theorem LK {JT vJ} (dM:SG K mg JT vJ) (B:Bs2 mg):∀n:Nat,aN P w K mg base bU n JT vJ ["found","due"] (dO P w true (fS n)):=by
 intro n
 induction n with
 |zero=>exact⟨λ_ _ _ _ h=>by obtain⟨_,_,h⟩:=h;exact h.elim,λ_ _ _ _ _ _ _ _ _ _ _ _ _ h=>by obtain⟨_,_,h⟩:=h;exact h.elim⟩
 |succ n GM =>
  refine oR dM.F rP (λds R MD=> by obtain⟨d,e,_⟩ := MD;subst e;rfl) λcP A outer s H E hr=>⟨_,(ah (bC (gG (fY (wA B.Gw (eS (i:=1)) B.list jv B.tuple ub))) (ah (bC (xN.t (u6 (lh (gG (fY (wA B.Gw (eS (i:=0)) B.list jv B.tuple ub)))) (qp (aI af (bK.m (me hr.units)) (fY (gF B.Gw (eS (i:=0)) B.list jv)) (fY (gF B.Gw (eS (i:=1)) B.list jv)))))) (aj (aY wH)) aP)
    (ah (bC (aI af (bK.m (me hr.units)) (bf af (bG.m fg) B.len nk (aa (ab (i:=0)) ae)) (bf af (bG.m fg) B.len nk (aa (ab (i:=1)) ae))) (aj (aY wH)) aP)
    (aj (aY (il af (bK.m (bW hr.units)) (Ma ["one","other"] [none,none] (by rfl) (by decide:(["one","other"]:List Str).Nodup) rfl (Eh (Ec B.zip (rX (eS (i:=0)) (rX (eS (i:=1)) Ed)))) (λ_ _ _ _ _ _=>(cw (n:=2) rfl (aH (ak (i:=0) (by decide:(["one","other"]:List Str).Nodup)) (aH (ak (i:=1) (by decide:(["one","other"]:List Str).Nodup)) bI)))) (λ_ _ _ _ _ _=>(ib (lh (gG (aT fS.mono GM (hr.mono (by lia)) dM.m dM.F.kp dM.b (aa (ab (i:=0)) (aa (ab (i:=1)) ae))))))) (λ_ _ _ _ _ _=>ag)) (aZ ae)))))) aP)
    (ah (bC (gG (fY (gF B.Gw (eS (i:=1)) B.str CW))) (aj (aY (u9 (fY (gF B.Gw (eS (i:=0)) B.str CW)) (qt (il af (bK.m (bW hr.units)) (ab (i:=0)) (ab (i:=1))))))) aP)
    (ah (bC (aI af (bK.m qz) (ab (i:=1)) l7) (aj (aY (il af (bK.m qz) (ab (i:=0)) l7))) aP)
    (aj (aY (u9 (fY (gF B.Gw (eS (i:=0)) B.int vU)) (u9 (HZ (fY (gF B.Gw (eS (i:=0)) B.bool FU))) (qt (il af (bK.m (bW hr.units)) (ab (i:=0)) (ab (i:=1))))))))))),λds R h=>?_⟩
  obtain⟨d,rfl,hl,q⟩:=h;cases hl with
  | @int _ i =>
   refine⟨_,rfl,_,_,rfl,E3,rfl,_,rfl,jm rfl ⟨_,rfl,_,_,rfl,kit_is,rfl,_,rfl,jm rfl ⟨_,rfl,trivial,_,rfl,_,rfl,jm rfl ?_⟩⟩⟩;exact⟨_,rfl,_,_,rfl,IW,rfl,_,rfl,xf rfl ⟨_,rfl,_,_,rfl,IX,rfl,_,rfl,_,rfl,xf rfl ⟨_,rfl,trivial,_,rfl,_,m_ (bL i),trivial,q⟩⟩⟩
  | @tup _ es l hl =>
   refine⟨_,rfl,_,_,rfl,w9,rfl,_,rfl,xf rfl ?_⟩;refine⟨_,rfl,_,_,rfl,w9,rfl,_,rfl,jm rfl ⟨_,rfl,_,_,rfl,BJ,rfl,trivial,_,rfl,_,_,rfl,BJ,rfl,_,ff (rM false),_,rfl,jm rfl ?_⟩⟩;refine⟨_,rfl,trivial,_,rfl,trivial,_,rfl,trivial,_,rfl,_,ff (bL _),_,rfl,jm rfl ?_⟩;refine⟨_,rfl,_,rfl,es,es,.inr rfl,trivial,?_⟩;refine⟨λi β o=>o=[]/\∃x0 x1,β=[x0,x1],⟨rfl,_,_,rfl⟩,?_,?_⟩
   ·rintro i d β o hd ⟨rfl,x0,x1,rfl⟩;obtain⟨a,ha,rfl⟩:=om (Yq hd);have xi:=hl a ha;have hb:=xi
    clear ha hd
    cases hb with
    |int=>exact⟨_,rfl,rfl,_,_,rfl,_,_,rfl,rfl,_,rfl,trivial,_,rfl,trivial,_,rfl,xi,_,rfl,jm rfl ⟨rfl,_,_,rfl⟩⟩
    |tup=>exact⟨_,rfl,rfl,_,_,rfl,_,_,rfl,rfl,_,rfl,trivial,_,rfl,trivial,_,rfl,xi,_,rfl,jm rfl ⟨rfl,_,_,rfl⟩⟩
    |lst=>exact⟨_,rfl,rfl,_,_,rfl,_,_,rfl,rfl,_,rfl,trivial,_,rfl,trivial,_,rfl,xi,_,rfl,jm rfl ⟨rfl,_,_,rfl⟩⟩
   ·rintro β o ⟨rfl,x0,x1,rfl⟩;exact⟨trivial,trivial,XG _,_,m_ (fk []),trivial,q⟩
  | @lst _ es l hl =>
   refine⟨_,rfl,_,_,rfl,w_,rfl,_,rfl,xf rfl ?_⟩;refine⟨_,rfl,_,_,rfl,w_,rfl,_,rfl,jm rfl ⟨_,rfl,_,_,rfl,BK,rfl,trivial,_,rfl,_,_,rfl,BK,rfl,_,ff (rM true),_,rfl,jm rfl ?_⟩⟩;refine⟨_,rfl,trivial,_,rfl,trivial,_,rfl,trivial,_,rfl,_,ff (bL _),_,rfl,jm rfl ?_⟩;refine⟨_,rfl,_,rfl,es,es,.inl rfl,trivial,?_⟩;refine⟨λi β o=>o=[]/\∃x0 x1,β=[x0,x1],⟨rfl,_,_,rfl⟩,?_,?_⟩
   ·rintro i d β o hd ⟨rfl,x0,x1,rfl⟩;obtain⟨a,ha,rfl⟩:=om (Yq hd);have xi:=hl a ha;have hb:=xi
    clear ha hd
    cases hb with
    |int=>exact⟨_,rfl,rfl,_,_,rfl,_,_,rfl,rfl,_,rfl,trivial,_,rfl,trivial,_,rfl,xi,_,rfl,jm rfl ⟨rfl,_,_,rfl⟩⟩
    |tup=>exact⟨_,rfl,rfl,_,_,rfl,_,_,rfl,rfl,_,rfl,trivial,_,rfl,trivial,_,rfl,xi,_,rfl,jm rfl ⟨rfl,_,_,rfl⟩⟩
    |lst=>exact⟨_,rfl,rfl,_,_,rfl,_,_,rfl,rfl,_,rfl,trivial,_,rfl,trivial,_,rfl,xi,_,rfl,jm rfl ⟨rfl,_,_,rfl⟩⟩
   ·rintro β o ⟨rfl,x0,x1,rfl⟩;exact⟨trivial,trivial,XG _,_,m_ (fk []),trivial,q⟩
theorem EC {JT vJ} (dM:SG K mg JT vJ) (B:Bs2 mg) (n:Nat):aN P w K mg base bU (n+1) JT vJ ["found","due"] (dO P w true (iC n)):=LK dM B (n+1)
theorem nJ:aL ["row"] ["row"] (aw dC):=⟨rfl,rfl,rfl,by decide +kernel,rfl,by decide +kernel,by decide +kernel⟩
theorem yy {Fx xp} (KH:Us K mg Fx xp) (B:Bs mg):aN P w K mg base bU 1 Fx xp ["row"] (dO P w true tS):=by
 refine oR KH.F nJ (λds R MC=> by obtain⟨n,ps,e,_⟩ := MC;subst e;rfl) λcP A outer s H E hr=>⟨_,(aj (aY (bq (aa (aF af a5 (ab (i:=0)) ag) (aa (jL aG ua B.list jv (aa (aF af a5 (ab (i:=0)) ag) ae)) ae))))),λds R h=>?_⟩
 obtain⟨n,ps,rfl,q⟩:=h;exact⟨_,rfl,trivial,_,rfl,trivial,_,rfl,trivial,_,rfl,.inr ⟨trivial,_,rfl,.inl ⟨jo,trivial,lb,trivial,q⟩⟩⟩
end
end jB
namespace L2.Q
open PySem OR
section
variable {ps:List NN}(hp:∀p∈ps,p.1<p.2)(hs:ps.Pairwise λp q=>p.1<q.1\/(p.1=q.1/\p.2<q.2))
include hs in
theorem HY {i:Nat}:(gV ps i).Pairwise (· < ·):=by
 unfold gV;rw[Y7];refine(hs.filter _).imp_of_mem λ{a b} ha hb h=>?_;have h1:=of_decide_eq_true (X3.mp ha).2;have h2:=of_decide_eq_true (X3.mp hb).2;lia
include hs in
theorem Cn {i j k:Nat}(h1:(i,k)∈ps)(yT:i<k)(h2:k<j)(h3:1+mX ps (i+1) k+mX ps (k+1) j=mX ps i j):∃k0,bE ps w1 i j=some k0/\k0<=k:=by
 have hm:k∈(gV ps i).filter λk=>decide (k<j)&&decide (w1 (i,k)+tW ps w1 (k-i-1) (i+1)+tW ps w1 (j-k-1) (k+1)=tW ps w1 (j-i) i):=by
  refine X3.mpr ⟨cY.mpr h1,?_⟩;rw[decide_eq_true h2,Bool.true_and,decide_eq_true_eq];rw[show k-i-1=k-(i+1) by lia,show j-k-1=j-(k+1) by lia]
  exact h3
 have Dp:=(HY hs (i:=i)).filter λk=>decide (k<j)&&decide (w1 (i,k)+tW ps w1 (k-i-1) (i+1)+tW ps w1 (j-k-1) (k+1)=tW ps w1 (j-i) i);have eb:eP ps w1 (tW ps w1) i j=((gV ps i).filter λk=>decide (k<j)&&decide (w1 (i,k)+tW ps w1 (k-i-1) (i+1)+tW ps w1 (j-k-1) (k+1)=tW ps w1 (j-i) i)).map some++(if tW ps w1 (j-i-1) (i+1)=tW ps w1 (j-i) i then [none] else []):=rfl
 generalize (gV ps i).filter (λk=>decide (k<j)&&decide (w1 (i,k)+tW ps w1 (k-i-1) (i+1)+tW ps w1 (j-k-1) (k+1)=tW ps w1 (j-i) i))=l at hm Dp eb;unfold bE;rw[eb];cases l with
 |nil=>cases hm
 |cons k0 r =>
  refine⟨k0,rfl,?_⟩;rcases Xy.mp hm with z|z
  ·lia
  ·have:=(Yt.mp Dp).1 k z;lia
include hp hs in
theorem yV:∀(l i j:Nat) (S:List NN),j-i<=l->C8 ps i j S->(S.length:Int)=mX ps i j->gY (S.map tI) ((bu ps w1 i j).map tI)=false:=by
 intro l
 induction l with
 |zero=>intro i j S h s _;rw[iV hp (by lia) s,bJ (by lia)];rfl
 |succ l ih =>
  intro i j S h s hS
  by_cases aJ:i<j
  ·rw[dG hp aJ];rcases (gz hp aJ).mp s with s1|⟨k,A,B,h1,h2,rfl,sa,sb⟩
   ·have b1:=qd hp _ _ _ _ (Xx _) s1;have b2:=gJ hp aJ;cases hc:bE ps w1 i j with
    |none=>exact ih _ _ _ (by lia) s1 (by lia)
    |some k =>
     have hm:=cE (bY (w:=w1) hp aJ);rw[hc]at hm;obtain⟨g1,g2,g3⟩:=hm;cases S with
     |nil =>
      have:=f9 hp g1 g2;have:=sN hp (i:=i+1) (j:=k);have:=sN hp (i:=k+1) (j:=j);rw[aag]at hS;lia
     |cons q T =>
      have hq:=(s1.of q XN).2.1;show gY (tI q::T.map tI) (tI (i,k)::_)=false;rw[cn,if_neg λz=>by have:=congrArg Prod.fst (qc z);dsimp only at this;lia]
      show (if (q.1:Int)=(i:Int) then _ else decide ((q.1:Int)<(i:Int)))=false
      rw[if_neg (by lia)]
      exact decide_eq_false (by lia)
   ·have yT:=hp _ h1;dsimp only at yT;have b1:=qd hp _ _ _ _ (Xx _) sa;have b2:=qd hp _ _ _ _ (Xx _) sb;have b3:=f9 hp h1 h2;rw[XJ,Yb]at hS;obtain⟨k0,e0,zI⟩:=Cn hs h1 yT h2 (by lia)
    rw[e0]
    by_cases e:k0=k
    ·subst e;show gY (tI (i,k0)::(A++B).map tI) (tI (i,k0)::(bu ps w1 (i+1) k0++bu ps w1 (k0+1) j).map tI)=false;rw[cn,if_pos rfl,XX,XX,wZ (by
      have:=gP hp (i:=i+1) (j:=k0);rw[Xu,Xu];lia)]
     split
     ·exact ih _ _ _ (by lia) sb (by lia)
     ·exact ih _ _ _ (by lia) sa (by lia)
    ·show gY (tI (i,k)::(A++B).map tI) (tI (i,k0)::_)=false;rw[cn,if_neg λz=>e (congrArg Prod.snd (qc z)).symm];exact IM (by lia)
  ·rw[iV hp aJ s,bJ aJ];rfl
end
section
variable {ps:List NN}{n:Nat}(hp:∀p∈ps,p.1<p.2/\p.2<n)(hs:ps.Pairwise λp q=>p.1<q.1\/(p.1=q.1/\p.2<q.2))
theorem mn {ks:List (List Int)}:ks∈ic ps↔∃S∈eV ps,S.map tI=ks:=by
 unfold ic;rw[(jF _).mem_iff,X7]
include hp hs in
theorem Cj:(bu ps w1 0 n).map tI∈ic ps:=mn.mpr ⟨_,(qU hp hs).mpr (Fp (λp h=>(hp p h).1) _ _ _ (Xx _)),rfl⟩
include hp hs in
theorem FY:fA ((ic ps).map λks=>(ks.length:Int))=some (mX ps 0 n):=by
 have kZ:=λp h=>(hp p h).1;refine wY (X7.mpr ⟨_,Cj hp hs,by rw[Xu];exact gP kZ⟩) λx hx=>?_
 obtain⟨ks,hk,rfl⟩:=X7.mp hx;obtain⟨S,hS,rfl⟩:=mn.mp hk;rw[Xu];exact qd kZ _ _ _ _ (Xx _) ((qU hp hs).mp hS)
include hp hs in
theorem zu:((ic ps).filter λks=>decide ((ks.length:Int)=mX ps 0 n))[0]?=some ((bu ps w1 0 n).map tI):=by
 have kZ:=λp h=>(hp p h).1;have yS:(bu ps w1 0 n).map tI∈(ic ps).filter λks=>decide ((ks.length:Int)=mX ps 0 n):=X3.mpr ⟨Cj hp hs,decide_eq_true (by rw[Xu];exact gP kZ)⟩
 have Dp:=(oE ((eV ps).map λS=>S.map tI)).filter λks=>decide ((ks.length:Int)=mX ps 0 n);have Nf:∀x∈(ic ps).filter λks=>decide ((ks.length:Int)=mX ps 0 n),gY x ((bu ps w1 0 n).map tI)=false:=λx hx=>by
  obtain⟨h1,h2⟩:=X3.mp hx;obtain⟨S,hS,rfl⟩:=mn.mp h1;have h2:=of_decide_eq_true h2;rw[Xu]at h2;exact yV kZ hs _ _ _ _ (Xx _) ((qU hp hs).mp hS) h2
 change ((ic ps).filter λks=>decide ((ks.length:Int)=mX ps 0 n)).Pairwise _ at Dp
 generalize (ic ps).filter (λks=>decide ((ks.length:Int)=mX ps 0 n))=l at yS Dp Nf ⊢
 cases l with
 |nil=>cases yS
 |cons x r =>
  show some x=_
  congr 1
  rcases Xy.mp yS with z|z
  ·exact z.symm
  ·exact jQ (Nf x XN) ((Yt.mp Dp).1 _ z)
include hp hs in
end
end L2.Q
namespace jB
open PySem L2 L2.Q
section
variable {P:Xz}{w:XT}{K:PySem.W.Frag}{mg:Str->Option Xv}{base:Heap}
theorem HG {ps:List (Nat×Nat)}(h:uh (ps.map tI))(nd:ps.Nodup):ps.Pairwise λp q=>p.1<q.1\/(p.1=q.1/\p.2<q.2):=by
 have h1:=Y7.mp h;refine(h1.and nd).imp λ{p q} hh=>?_;obtain⟨z,ne⟩:=hh;have z:(if (q.1:Int)=p.1 then (if (q.2:Int)=p.2 then HT.lexLt [] [] else decide ((q.2:Int)<p.2)) else decide ((q.1:Int)<p.1))=false:=z
 by_cases e1:(q.1:Int)=p.1
 ·rw[if_pos e1]at z
  by_cases e2:(q.2:Int)=p.2
  ·exact absurd (Prod.ext (by lia) (by lia)) ne
  ·rw[if_neg e2]at z;have:=of_decide_eq_false z;lia
 ·rw[if_neg e1]at z;have:=of_decide_eq_false z;lia
theorem dP:aL ["script","cell","hand","row","table","due","every","most","handed","again","found"] ["script"] (aw lX):=⟨rfl,rfl,rfl,by decide +kernel,rfl,by decide +kernel,by decide +kernel⟩
def Au (K:PySem.W.Frag):Sp:=λvs H Q _=>∃(a:Addr) (ns:List Int),vs=[.ref a]/\c6 K H a (ns.map V.int)/\ns.length<=63/\∀H',Q (.bl true) H'
def JL (β:Q.a7):Prop:=∃y0 y1 y2 y3 y4 y5 y6 y7 y8 y9 KS:Option Q.B,β=[y0,y1,y2,y3,y4,y5,y6,y7,y8,y9,KS]
theorem Ir {f:Addr} {fd:Yr} (F:Dx K "law" "law" lX f fd) (B:zC mg) {Fv xn} (KG:Uw K mg Fv xn) {yY pK} (GZ:SI K mg yY pK) {tJ kL} (Ds:O1 K mg tJ kL) {nY hV} (xB:D8 K mg nY hV) {jq eM} (pO:D5 K mg jq eM) {k6 fL} (xx:D4 K mg k6 fL) {k7 fM} (xA:D7 K mg k7 fM) {fR cR} (lA:D6 K mg fR cR) {nX hG} (uy:D9 K mg nX hG) {tK kM} (Dt:O0 K mg tK kM) {nZ hX} (zL:N7 K mg nZ hX) {nV hE} (zK:N8 K mg nV hE) {Wh RZ} (dH:WU K mg Wh RZ) {JS vI} (dT:D1 K mg JS vI) {GU tH} (dA:D0 K mg GU tH) {Kz yX} (dI:D2 K mg Kz yX) {OL Ft} (dR:D3 K mg OL Ft) {JT vJ} (dM:SG K mg JT vJ) {Fu xm} (KC:Uv K mg Fu xm) {Fw xo} (zc:Uu K mg Fw xo) {Fx xp} (KH:Us K mg Fx xp) {Fy xq} (KI:Ut K mg Fy xq) {yZ pL} (G0:SH K mg yZ pL) {tL kO} (Du:OZ K mg tL kO):aN P w K mg base bU 45 f fd ["script"] (Au K):=by
 have GH:aN P w K mg base bU 1 _ _ _ (dO P w true tP):=JM (EE dH.F ⟨B.max,B.min,B.int⟩);have GR:aN P w K mg base bU 4 _ _ _ (kU P w jA true Cq):=Ip dR dT dA dI B.toBs;have WE:aN P w K mg base bU 1 _ _ _ (dO P w true tN):=EA KC B;have WS:aN P w K mg base bU 3 _ _ _ (dO P w false tV):=EJ KI G0 Du B;have WQ:aN P w K mg base bU 1 _ _ _ (dO P w true tS):=yy KH B.toBs;have OY:aN P w K mg base bU 41 _ _ _ (dO P w true (kP 40)):=EG zc B.toBs2 40;have WI:aN P w K mg base bU 6 _ _ _ (dO P w true tO):=ED KG GZ Ds xB pO xx xA lA uy Dt zL zK B;have GM:aN P w K mg base bU 4 _ _ _ (dO P w true (iC 3)):=EC dM B.toBs2 3;refine F.ok dP (λvs H Q E h=>?_) (λcP A outer s H vs Qk E hr h=>?_)
 ·obtain⟨a,ns,rfl,_⟩:=h;rfl
 ·obtain⟨a,ns,rfl,hS,hlen,k⟩:=h;have Rr:∀b:Addr,¬ (λ_=>False) b:=λb z=>z;obtain⟨ψ,hb,hψ⟩:∃ψ,Q.uB (n_ bU P w K mg base _ "law" (aw lX) f cP A outer s H E).Gh ⟨H,λ_=>False,true,λ_=>False⟩ (match (eO lX)with | .For _ _ b _ _::_=>b|_=>[]) ψ /\
    ∀(c:Int) (x0 x2 x3 x4 x5 x6 x7 x8 x9 iM:Option Q.B),ψ {nx:=JL,rt:=λd _=>d=.bl true,bk:=JL,ct:=JL} [x0,some (.val true (.int c)),x2,x3,x4,x5,x6,x7,x8,x9,iM]:=by
   refine⟨_,(ah (Em (i:=2) jA Rr (λ_=>(aT tP.mono GH (hr.mono (by decide)) dH.m dH.F.kp dH.b (aa (ab (i:=1)) ae))) dP.nd)
    (ah (a6 (i:=3) (bO (ih:=2) Cq.mono GR (hr.mono (by decide)) dR.m dR.F.kp dR.b ae) dP.nd)
    (ah (a6 (i:=4) (aT tN.mono WE (hr.mono (by decide)) KC.m KC.F.kp KC.b (aa (ab (i:=3)) ae)) dP.nd)
    (ah (a6 (i:=5) (bq (aa (aF af a5 (aF af a5 (aF af a5 (ab (i:=4)) ag) (aF af a5 (ab (i:=3)) ag)) ag) (aa (aT kP.mono OY (hr.mono (by decide)) zc.m zc.F.kp zc.b (aa (ab (i:=3)) (aa (ab (i:=4)) (aa ag (aa (aF af a5 (ab (i:=3)) ag) ae))))) ae))) dP.nd)
    (eF (bC (aI af (bK.m dq) (bf af (bG.m fg) B.len nk (aa (aF af a5 (ab (i:=3)) ag) ae)) ag) (ah (a6 (i:=6) (aT tV.mono WS (hr.mono (by decide)) KI.m KI.F.kp KI.b (aa (ab (i:=3)) ae)) dP.nd)
    (ah (a6 (i:=7) (bf af (bG.m (j8 rfl)) B.max nj (aa (Ma ["some"] [none] (by rfl) (by decide:(["some"]:List Str).Nodup) rfl (bh (ab (i:=6))) (λ_ _ _ _ _ _=>(ak (i:=0) (by decide:(["some"]:List Str).Nodup))) (λ_ _ _ _ _ _=>eR) (λ_ _ _ _ _ _=>(bf af (bG.m fg) B.len nk (aa (ab (i:=0)) ae)))) ae)) dP.nd)
    (aj (bC (aI af (bK.m (me hr.units)) (ab (i:=5)) (bq (aa (ab (i:=7)) (aa (aF af a5 (Vs 0 ["some","most"] [none,some 7] (by rfl) (by decide:(["some","most"]:List Str).Nodup) rfl (bh (ab (i:=6))) (λ_ _ _ _ _ _=>(ib (aI af (bK.m (bW hr.units)) (bf af (bG.m fg) B.len nk (aa (ab (i:=0)) ae)) (ab (i:=1)))))) ag) ae)))) (aj (aY wH)) aP)))) aP)
    (ah (a6 (i:=8) (aT tS.mono WQ (hr.mono (by decide)) KH.m KH.F.kp KH.b (aa (ab (i:=3)) ae)) dP.nd)
    (aj (cB YD rfl (bw B.range (aa ag ae)) (ak (i:=9) dP.nd) (ah (cX (i:=10) (λ_=>(aT tO.mono WI (hr.mono (by decide)) KG.m KG.F.kp KG.b (aa (ab (i:=8)) ae))) dP.nd)
    (ah (bC (xN.t (u6 (lh (gG (aT iC.mono GM (hr.mono (by decide)) dM.m dM.F.kp dM.b (aa (ab (i:=10)) (aa (ab (i:=5)) ae))))) (qp (aI af (bK.m (me hr.units)) (ab (i:=8)) (ab (i:=3)))))) (aj (aY wH)) aP)
    (aj (eG (i:=10) false (λ_=>(bq (aa ag (aa ag ae)))) (λ_=>ag))))))))))))),λc x0 x2 x3 x4 x5 x6 x7 x8 x9 iM=>?_⟩
   refine⟨_,rfl,trivial,c,rfl,λns hk=>⟨trivial,(by show 2<11;decide),ns,rfl,hk,?_⟩⟩
   refine⟨rfl,rfl,trivial,rfl,λn ts n0 n1 dr=>?_⟩;obtain⟨hl,tr,sr,nd⟩:=dr;obtain⟨m,ps,ok,en,Wl,er⟩:=DZ n0 (by lia) (by lia) tr nd
   rw[er];rw[Wl]at sr;have hs:=HG sr ok.nd;have hm:m<=40:=by lia
   have hp:∀p∈ps,p.1<p.2:=λp hp=>(ok.lt p hp).1;have qJ:pP (cq m (q_ ps)) (.int (0:Nat))=some (.lst ((XD (m+1)).map λy=>q_ ps 0 y)):=fK rfl (a_ (by lia))
   obtain⟨F,hF⟩:∃F,F=bu ps w1 0 m:=⟨_,rfl⟩;have eX:mX ps 0 m=(F.length:Int):=by rw[hF];exact(gP hp).symm
   have Xp:F.length<=40:=by rw[hF];have:=jn (w:=w1) hp (m-0) 0 m (Xx _);lia
   have NC:By ps 0 m=fy F.length F:=by
    show D.tup [.int (mX ps 0 m),fP (bu ps w1 0 m)]=_;rw[eX,<- hF];rfl
   have GN:pP (.lst ((XD (m+1)).map λy=>q_ ps 0 y)) (.int (m:Int))=some (.tup [.int (F.length:Int),.int (cL ps 0 m:Int)]):=by
    rw[<- eX];exact fK rfl (by rw[a_ (by lia)];rfl)
   refine⟨_,rfl,trivial,m,ps,rfl,ok,hm,?_⟩;refine⟨_,rfl,trivial,_,qJ,.inr ⟨trivial,_,rfl,trivial,_,rfl,_,GN,trivial,_,rfl,trivial,_,rfl,trivial,_,rfl,trivial,trivial,_,rfl,trivial,_,rfl,trivial,m,ps,0,m,rfl,ok,hm,hs,Xx _,by lia,trivial,lb,?_⟩⟩
   rw[<- hF];refine⟨λβ=>∃x6 x7:Option Q.B,β=[x0,some (.val true (.int c)),some (.hand jA),some (.val true (fy m ps)),some (.val true (cq m (q_ ps))),some (.val true (fy F.length F)),x6,x7,x8,x9,iM],?_,?_⟩
   ·refine⟨_,rfl,trivial,_,rfl,.inr ⟨trivial,_,rfl,trivial,_,rfl,_,rfl,jX (λd9=>?_) (λ_=>⟨_,_,rfl⟩)⟩⟩;have TX:ps.length<=8:=by
     rw[Xu]at d9;lia
    have hA:(ic ps).length<=256:=by
     unfold ic;rw[(jF _).length_eq,Xu];exact Ym mH (Ym (Zz (by decide) TX) (by decide))
    have hlen:∀ks:List (List Int),NP [lD ks]=some (.int (ks.length:Int)):=λks=>by show some (D.int (((ks.map kD).length:Nat):Int))=_;rw[Xu]
    refine⟨_,rfl,trivial,m,ps,rfl,TX,?_⟩;refine⟨_,rfl,_,rfl,trivial,?_⟩;refine gb (λ_=>true) (λks=>.int (ks.length:Int)) trivial (eY (by lia)) (λks hk y0 o J ho h1 _=>?_) ?_
    ·exact⟨_,rfl,trivial,_,hlen ks,trivial,ho,h1 rfl _⟩
    rw[cG];have em:c0 fA [.lst ((ic ps).map λks=>D.int (ks.length:Int))]=some (.int (mX ps 0 m)):=by
     have:=oW (FY ok.lt hs);rw[YB]at this;exact this
    refine⟨trivial,_,em,?_⟩;refine⟨_,rfl,trivial,_,rfl,trivial,_,rfl,_,rfl,rfl,?_⟩;refine IK (λks=>decide ((ks.length:Int)=mX ps 0 m)) trivial (eY (by lia)) (λks hk R hR=>?_) ?_
    ·exact⟨_,rfl,trivial,_,hlen ks,trivial,_,rfl,_,bS _ _,_,rfl,hR⟩
    have Nj:pP (.lst (((ic ps).filter λks=>decide ((ks.length:Int)=mX ps 0 m)).map lD)) (.int (0:Nat))=some (fP F):=fK (i:=0) rfl (by rw[XM,zu ok.lt hs,hF,Ab];rfl)
    have B9:KD (fy F.length F) (.tup [.int (mX ps 0 m),fP F])=some (.bl false):=by
     rw[eX];exact ff (rK _ _)
    exact⟨trivial,_,Nj,.inr ⟨trivial,lb,.inr ⟨_,B9,_,rfl,jm rfl ⟨_,_,rfl⟩⟩⟩⟩
   ·rintro β ⟨x6,x7,rfl⟩;refine⟨_,rfl,trivial,m,ps,rfl,?_⟩;refine⟨trivial,2,rfl,by decide,by decide,trivial,?_⟩
    refine⟨λ_ β=>∃x9 iM:Option Q.B,β=[x0,some (.val true (.int c)),some (.hand jA),some (.val true (fy m ps)),some (.val true (cq m (q_ ps))),some (.val true (fy F.length F)),x6,x7,some (.val true (fy m ps)),x9,iM],⟨_,_,rfl⟩,?_,?_⟩
    ·rintro j d β hd ⟨x9,iM,rfl⟩;obtain⟨_,rfl⟩:=ck hd;refine⟨_,rfl,trivial,m,ps,rfl,ok,?_⟩;rw[NC];refine⟨trivial,_,rfl,trivial,_,rfl,trivial,fy F.length F,rfl,JY (by lia),_,rfl,jm rfl ⟨_,rfl,trivial,_,rfl,_,ff (rK m ps),_,rfl,jm rfl ?_⟩⟩
     exact⟨⟨_,rfl⟩,[.int F.length,fP F],1,1,_,rfl,rfl,yM (i:=1) rfl (by show 1<2;decide),rfl,trivial,trivial,lb,trivial,rfl,by rw[Xu];exact iU (by lia),_,_,rfl⟩
    ·rintro β ⟨x9,iM,rfl⟩;exact⟨_,_,_,_,_,_,_,_,_,_,_,rfl⟩
  refine⟨_,dU (AW YD rfl (wM (c8 Bm (va (bo (c8 qv bc bc) dk)) (sd wq (pv 0) wJ (wI bc)))) (Q.ak (C:=⟨H,λ_=>False,true,λ_=>False⟩) (i:=1) dP.nd).pg hb.ps) (iY (jK Gb)),?_⟩;obtain⟨ms,em,hm⟩:=zd ns none (some 6);refine⟨_,_,rfl,rfl,A9,(by show 1<=XO;decide),λp1 Nb=>⟨_,rfl,_,rfl,a,_,rfl,(au.new Nb).seq hS,λp2 OA=>?_⟩⟩
  have Vo:p1≠p2:=cC ar OA;refine⟨p1,p2,_,_,rfl,rfl,(by rw[ao Vo];exact ar),ar,(by rw[em,Xu,YA,ZU];lia),λl hl=>⟨l,rfl,⟨_,c6.of ar⟩,?_⟩⟩
  rw[em];rw[em]at hl;have sm:au H (upd (upd (upd H p1 (.lst [V.int (10 ^ (18:Int).toNat)])) p2 (.lst (ms.map V.int))) l (.lst ([V.int (10 ^ (18:Int).toNat)]++ms.map V.int))):=((au.new Nb).trans (au.new (by rw[em]at *;exact OA))).trans (au.new hl)
  have pB:(upd (upd (upd H p1 (.lst [V.int (10 ^ (18:Int).toNat)])) p2 (.lst (ms.map V.int))) l (.lst ([V.int (10 ^ (18:Int).toNat)]++ms.map V.int))) l=some (.lst (((10 ^ (18:Int).toNat)::ms).map V.int)):=ar;generalize (upd (upd (upd H p1 (.lst [V.int (10 ^ (18:Int).toNat)])) p2 (.lst (ms.map V.int))) l (.lst ([V.int (10 ^ (18:Int).toNat)]++ms.map V.int)))=H1 at sm pB ⊢
  generalize ((10 ^ (18:Int).toNat)::ms)=cs at pB;let X:Cx:=(n_ bU P w K mg base ["script","cell","hand","row","table","due","every","most","handed","again","found"] "law" (aw lX) f cP A outer s H E).Gh
  let C:Q.Cfg:=⟨H,λ_=>False,true,λ_=>False⟩
  have it:xQ X (λ_=>False) (OX K l) (cs.map D.int) H1:=sX pB (λz=>z) (b9 cs);have Gu:=it (λb=>(λ_=>False) b\/H1 b=none) λb z=>z;have s':Q.b5 P w C.z (L2.start ["script","cell","hand","row","table","due","every","most","handed","again","found"] [.ref a]) H1 (Yl 11 none) (λ_=>[]):=DP (by rfl) sm
  generalize V2:cs.map D.int=ds at Gu;have hint:∀d∈ds,∃c:Int,d=.int c:=λd hd=>by
   rw[<- V2]at hd;obtain⟨c,_,rfl⟩:=X7.mp hd;exact⟨c,rfl⟩
  refine⟨λi m σ H'=>i<=ds.length/\m=ds.length-i/\∃β,Q.SB X C (H1,Q.Wn λ_=>[]) σ H' β/\JL β,⟨_,XG _,rfl,_,⟨_,s',Sn.refl⟩,⟨_,_,_,_,_,_,_,_,_,_,_,rfl⟩⟩,?_⟩;rintro i m σ2 H2 ⟨hi,rfl,β2,⟨a8,s2,n2⟩,⟨y0,y1,y2,y3,y4,y5,y6,y7,y8,y9,KS,rfl⟩⟩;obtain⟨cj,nM⟩:=Gu i H2 (n2.k.mono λb z=>z.imp (λMB=> by obtain⟨_,q⟩ := MB;exact(nomatch q)) id)
  by_cases d9:i<ds.length
  ·right
   have hd:ds[i]?=some ds[i]:=XH d9;obtain⟨go,yl⟩:=cj _ hd;obtain⟨c,hc⟩:=hint ds[i] (ZG d9);refine⟨go,λσ' H'=>∃β,Q.SB X C (H1,Q.Wn λ_=>[]) σ' H' β/\JL β,λσ' H' MA=> by obtain⟨β',uX,vC⟩ := MA;exact⟨_,by lia,d9,rfl,β',uX,vC⟩,λx H3 y=>?_⟩
   obtain⟨s3,r3⟩:=yl x H3 y;rw[hc]at r3;refine⟨a8,_,.int c,.own,s2.same s3,ay.flat rfl r3,λσ4 sg s4 w4 _=>?_⟩;exact⟨(H1,Q.Wn λ_=>[]),{nx:=JL,rt:=λd _=>d=.bl true,bk:=JL,ct:=JL},_,⟨sg,s4,Q.iW (n2.same s3) w4⟩,hψ c y0 y2 y3 y4 y5 y6 y7 y8 y9 KS,⟨λσ5 H5 β5 yg q5=>⟨β5,yg,q5⟩,λσ5 H5 β5 d5 v5 yg r5 q5=>by
    subst q5;cases (show v5=V.bl true from Li r5)
    exact k _,λσ5 H5 β5 yg q5=>k _,λσ5 H5 β5 yg q5=>⟨β5,yg,q5⟩⟩⟩
  ·left
   have e:i=ds.length:=by lia
   subst e;exact⟨nM (Xx _),k _⟩
end
theorem ir {α:Type}{P:List α->Prop}(h:∀a,P [a]):∀us:List α,us.length=1->P us:=λus e=>by
 obtain⟨a,rfl⟩:=List.length_eq_one_iff.mp e;exact h a
theorem sU {α:Type}{P:List α->Prop}(h:∀a b,P [a,b]):∀us:List α,us.length=2->P us:=λus e=>by
 cases us with
 |nil=>cases e
 |cons a us=>exact ir (P:=λus=>P (a::us)) (h a) us (Nat.succ.inj e)
theorem IQ {α:Type}{P:List α->Prop}(h:∀a b c,P [a,b,c]):∀us:List α,us.length=3->P us:=λus e=>by
 cases us with
 |nil=>cases e
 |cons a us=>exact sU (P:=λus=>P (a::us)) (h a) us (Nat.succ.inj e)
theorem L9 {α:Type}{P:List α->Prop}(h:∀a b c d,P [a,b,c,d]):∀us:List α,us.length=4->P us:=λus e=>by
 cases us with
 |nil=>cases e
 |cons a us=>exact IQ (P:=λus=>P (a::us)) (h a) us (Nat.succ.inj e)
theorem EZ {α:Type}{P:List α->Prop}(h:∀a b c d e,P [a,b,c,d,e]):∀us:List α,us.length=5->P us:=λus e=>by
 cases us with
 |nil=>cases e
 |cons a us=>exact L9 (P:=λus=>P (a::us)) (h a) us (Nat.succ.inj e)
abbrev vS (x:Str)(t:Nat):Xv:=.str x t
abbrev kE (P:Params)(x:Str)(t:Nat)(v:Xv):DictEntry:=⟨PyData.keyHash P x,.str x t,v⟩
abbrev kC (n:Str)(t l p r8 Vx U7:Nat)(UC UB UA:Xv)(U6 Vw UO:Nat):Obj:={cls:=.type "code",data:=.fields #[vS n t,vS n (t+1),vS "/claim/cut.py" (t+2),.int l 0,.int p 0,.int 0 0,.int 0 0,.int 3 0,.ref r8,.bool true,.int Vx 0,.ref U7,UC,UB,UA,.ref U6,.int Vw 0,.int l 0,vS "/claim/cut.py" UO]}
abbrev Ov (st:Stmt)(x m:Str)(t c:Nat):Yr:=PySem.W.fnOf x x (lz st) (eO st) (aw st) .none .none .none (vS m t) none (.ref c) .none
abbrev kF (st:Stmt)(x m:Str)(t c:Nat):Obj:={cls:=.type "function",data:=.func (Ov st x m t c)}
theorem Ci {K:PySem.W.Frag}{x m:Str}{st:Stmt}{t c f:Nat}(l:K.lookup f=some (kF st x m t c))(cd:PySem.W.codeIn K (.ref c) x=true)(k:PySem.W.keepIn K (.ref f)=true):Dx K x x st f (Ov st x m t c):=JP l cd k
theorem bR {K:PySem.W.Frag}{h:Heap}{mg:Str->Option Xv}{x m:Str}{st:Stmt}{t c f:Nat}{ps:List Str}(X:K.In h)(G:h.Ns Zy mg)(l:K.lookup f=some (kF st x m t c))(cd:PySem.W.codeIn K (.ref c) x=true)(k:PySem.W.keepIn K (.ref f)=true)
  (a:PySem.W.nsIn K Zy x=some (some (.ref f))) (b:∀us:List Xv,us.length=ps.length->bindArgs (Ov st x m t c) ⟨us,[]⟩=pure (ps.zip us)):Df K mg x st ps f (Ov st x m t c):=⟨Ci l cd k,.all b,PySem.W.mg_of X G a⟩
def KK:Params->PySem.W.Frag:=λP=>[(3,{cls:=.type "dict",data:=.dict #[kE P "__name__" 165 (vS "law_archrow_k06_the_most_ties" 324),kE P "__doc__" 166 .none,kE P "__package__" 167 .none,kE P "__loader__" 168 (.builtin "__main__.__loader__#opaque"),kE P "__spec__" 169 .none,kE P "__annotations__" 170 (.ref 6),kE P "__builtins__" 171 (.ref 4),kE P "__file__" 173 (vS "/claim/cut.py" 172),kE P "__cached__" 174 .none,kE P "ArchError" 206 (.ref 24),kE P "NoStretch" 222 (.ref 37),kE P "stretches_rising" 230 (.ref 44),kE P "partners_of" 236 (.ref 49),kE P "parts_left" 245 (.ref 56),kE P "greatest_table" 251 (.ref 61),kE P "number_with" 262 (.ref 68),kE P "least_number" 268 (.ref 73),kE P "best_choices" 274 (.ref 78),kE P "first_greatest" 291 (.ref 85),kE P "most_ties" 300 (.ref 92),kE P "most_of" 310 (.ref 99),kE P "table_of" 317 (.ref 106),kE P "one_each" 323 (.ref 111),kE P "_law_hand" 332 (.ref 118),kE P "_law_take" 341 (.ref 125),kE P "_law_arcs" 353 (.ref 132),kE P "_law_ties" 359 (.ref 137),kE P "_law_row" 367 (.ref 144),kE P "_law_cross" 379 (.ref 151),kE P "_law_same" 385 (.ref 156),kE P "_law_table" 391 (.ref 161),kE P "_law_first" 405 (.ref 168),kE P "_law_meet" 413 (.ref 175),kE P "_law_all" 419 (.ref 180),kE P "_law_copied" 426 (.ref 187),kE P "law" 432 (.ref 192)] 36}),
 (43,kC "stretches_rising" 225 7 1 40 181 41 .none .none .none 42 228 229),
 (44,kF bH "stretches_rising" "archrow.stretches" 223 43),
 (48,kC "partners_of" 231 9 1 45 181 46 .none .none .none 47 234 235),
 (49,kF cV "partners_of" "archrow.stretches" 223 48),
 (55,kC "parts_left" 237 15 3 50 181 51 .none (.ref 52) (.ref 53) 54 243 244),
 (56,kF dB "parts_left" "archrow.stretches" 223 55),
 (60,kC "greatest_table" 246 19 2 57 181 58 .none .none .none 59 249 250),
 (61,kF b7 "greatest_table" "archrow.stretches" 223 60),
 (67,kC "number_with" 252 26 5 62 181 63 .none (.ref 64) (.ref 65) 66 260 261),
 (68,kF cW "number_with" "archrow.stretches" 223 67),
 (72,kC "least_number" 263 28 5 69 181 70 .none .none .none 71 266 267),
 (73,kF cJ "least_number" "archrow.stretches" 223 72),
 (77,kC "best_choices" 269 31 5 74 181 75 .none .none .none 76 272 273),
 (78,kF cK "best_choices" "archrow.stretches" 223 77),
 (84,kC "first_greatest" 275 37 5 79 181 80 .none (.ref 81) (.ref 82) 83 289 290),
 (85,kF b8 "first_greatest" "archrow.stretches" 223 84),
 (91,kC "most_ties" 294 50 1 86 181 87 .none (.ref 88) (.ref 89) 90 298 299),
 (92,kF d_ "most_ties" "archrow.kept" 292 91),
 (98,kC "most_of" 301 52 3 93 181 94 .none (.ref 95) (.ref 96) 97 308 309),
 (99,kF gA "most_of" "archrow.kept" 292 98),
 (105,kC "table_of" 311 57 1 100 181 101 .none (.ref 102) (.ref 103) 104 315 316),
 (106,kF fq "table_of" "archrow.kept" 292 105),
 (110,kC "one_each" 318 59 1 107 181 108 .none .none .none 109 321 322),
 (111,kF ft "one_each" "archrow.kept" 292 110),
 (117,kC "_law_hand" 326 62 1 112 181 113 .none (.ref 114) (.ref 115) 116 330 331),
 (118,kF dS "_law_hand" "law_archrow_k06_the_most_ties" 324 117),
 (124,kC "_law_take" 333 64 2 119 181 120 .none (.ref 121) (.ref 122) 123 339 340),
 (125,kF dQ "_law_take" "law_archrow_k06_the_most_ties" 324 124),
 (131,kC "_law_arcs" 342 71 2 126 181 127 .none (.ref 128) (.ref 129) 130 351 352),
 (132,kF fx "_law_arcs" "law_archrow_k06_the_most_ties" 324 131),
 (136,kC "_law_ties" 354 81 2 133 181 134 .none .none .none 135 357 358),
 (137,kF fu "_law_ties" "law_archrow_k06_the_most_ties" 324 136),
 (143,kC "_law_row" 360 103 1 138 181 139 .none (.ref 140) (.ref 141) 142 365 366),
 (144,kF gB "_law_row" "law_archrow_k06_the_most_ties" 324 143),
 (150,kC "_law_cross" 368 108 2 145 181 146 .none (.ref 147) (.ref 148) 149 377 378),
 (151,kF eD "_law_cross" "law_archrow_k06_the_most_ties" 324 150),
 (155,kC "_law_same" 380 112 2 152 181 153 .none .none .none 154 383 384),
 (156,kF fv "_law_same" "law_archrow_k06_the_most_ties" 324 155),
 (160,kC "_law_table" 386 124 1 157 181 158 .none .none .none 159 389 390),
 (161,kF eh "_law_table" "law_archrow_k06_the_most_ties" 324 160),
 (167,kC "_law_first" 392 141 4 162 181 163 .none (.ref 164) (.ref 165) 166 403 404),
 (168,kF eC "_law_first" "law_archrow_k06_the_most_ties" 324 167),
 (174,kC "_law_meet" 406 151 2 169 181 170 .none (.ref 171) (.ref 172) 173 411 412),
 (175,kF fw "_law_meet" "law_archrow_k06_the_most_ties" 324 174),
 (179,kC "_law_all" 414 153 1 176 181 177 .none .none .none 178 417 418),
 (180,kF gC "_law_all" "law_archrow_k06_the_most_ties" 324 179),
 (186,kC "_law_copied" 420 162 1 181 181 182 .none (.ref 183) (.ref 184) 185 424 425),
 (187,kF dC "_law_copied" "law_archrow_k06_the_most_ties" 324 186),
 (191,kC "law" 427 164 1 188 181 189 .none .none .none 190 430 431),
 (192,kF lX "law" "law_archrow_k06_the_most_ties" 324 191)]
abbrev HK:PySem.W.Hook:=PySem.W.kHook KK [3,43,44,48,49,55,56,60,61,67,68,72,73,77,78,84,85,91,92,98,99,105,106,110,111,117,118,124,125,131,132,136,137,143,144,150,151,155,156,160,161,167,168,174,175,179,180,186,187,191,192] (λ_=>by kernel_rfl)
def view:Xz:={PySem.Challenge.pw_archrow_k06_the_most_ties with main:={PySem.Challenge.pw_archrow_k06_the_most_ties.main with body:=[top 1,top 2,top 4,top 5,top 6,top 7,top 8,top 9,top 10,top 11,top 13,top 14,top 15,top 16,top 18,top 19,top 20,top 21,top 22,top 23,top 24,top 25,top 26,top 27,top 28,top 29,top 30]}}
theorem left:PySem.W.LeftO PySem.Challenge.pw_archrow_k06_the_most_ties view [] (λs=>PySem.W.xlAt view [] s&&PySem.W.recOk (PySem.W.RowW.records PySem.Challenge.rw_archrow_k06_the_most_ties.row.toRowW) s) HK.obs HK.val 2460:=λw=>by kernel_rfl
theorem all_mk {l:PySem.W.OpenLaw} (w:XT) (mg:Str->Option Xv) (fa:Addr) (h:Heap) (X:(KK w.params).In h) (G:h.Ns Zy mg) (V1:mg "law" = some (.ref fa))   :∃fd:Yr,(∀(s:Xw) (v:Xv),BindsTo s fd ⟨[v],[]⟩ [("script",v)])/\∀base:Heap,(KK w.params).In base->base.Ns Zy mg->aN l.prog w (KK w.params) mg base bU 45 fa fd ["script"] (Au (KK w.params)):=by
 have e:=V1.symm.trans (PySem.W.mg_of X G (v:=.ref 192) (by kernel_rfl))
 cases e;have L0:=PySem.W.mg_none_of X G (n:="max") (by kernel_rfl)
 have LZ:=PySem.W.mg_none_of X G (n:="min") (by kernel_rfl)
 have L3:=PySem.W.mg_none_of X G (n:="int") (by kernel_rfl)
 have EV:=PySem.W.mg_none_of X G (n:="range") (by kernel_rfl)
 have Bx:=PySem.W.mg_none_of X G (n:="sorted") (by kernel_rfl)
 have LY:=PySem.W.mg_none_of X G (n:="set") (by kernel_rfl)
 have L1:=PySem.W.mg_none_of X G (n:="len") (by kernel_rfl)
 have IC:=PySem.W.mg_none_of X G (n:="list") (by kernel_rfl)
 have qE:=PySem.W.mg_none_of X G (n:="isinstance") (by kernel_rfl)
 have EU:=PySem.W.mg_none_of X G (n:="tuple") (by kernel_rfl)
 have LX:=PySem.W.mg_none_of X G (n:="str") (by kernel_rfl)
 have ID:=PySem.W.mg_none_of X G (n:="bool") (by kernel_rfl)
 have LV:=PySem.W.mg_none_of X G (n:="zip") (by kernel_rfl)
 have sA:=PySem.W.mg_none_of X G (n:="enumerate") (by kernel_rfl)
 have LW:=PySem.W.mg_none_of X G (n:="sum") (by kernel_rfl)
 have B:=(⟨⟨⟨L0,LZ,L3,EV,Bx,LY,L1,IC⟩,qE,EU,LX,ID,LV,sA⟩,LW⟩:zC mg);exact⟨_,λs v=>.of_eq rfl,λbase _ _=>Ir (Ci (x:="law") (m:="law_archrow_k06_the_most_ties") (st:=lX) (t:=324) (c:=191) (f:=192) (by kernel_rfl) (by kernel_rfl) (by kernel_rfl)) B (bR X G (x:="most_ties") (m:="archrow.kept") (st:=d_) (t:=292) (c:=91) (f:=92) (ps:=["row"]) (by kernel_rfl) (by kernel_rfl) (by kernel_rfl) (by kernel_rfl) (ir λ_=>rfl))
  (bR X G (x:="most_of") (m:="archrow.kept") (st:=gA) (t:=292) (c:=98) (f:=99) (ps:=["row","i","j"]) (by kernel_rfl) (by kernel_rfl) (by kernel_rfl) (by kernel_rfl) (IQ λ_ _ _=>rfl))
  (bR X G (x:="table_of") (m:="archrow.kept") (st:=fq) (t:=292) (c:=105) (f:=106) (ps:=["row"]) (by kernel_rfl) (by kernel_rfl) (by kernel_rfl) (by kernel_rfl) (ir λ_=>rfl))
  (bR X G (x:="greatest_table") (m:="archrow.stretches") (st:=b7) (t:=223) (c:=60) (f:=61) (ps:=["row","worth"]) (by kernel_rfl) (by kernel_rfl) (by kernel_rfl) (by kernel_rfl) (sU λ_ _=>rfl))
  (bR X G (x:="partners_of") (m:="archrow.stretches") (st:=cV) (t:=223) (c:=48) (f:=49) (ps:=["row"]) (by kernel_rfl) (by kernel_rfl) (by kernel_rfl) (by kernel_rfl) (ir λ_=>rfl))
  (bR X G (x:="stretches_rising") (m:="archrow.stretches") (st:=bH) (t:=223) (c:=43) (f:=44) (ps:=["many"]) (by kernel_rfl) (by kernel_rfl) (by kernel_rfl) (by kernel_rfl) (ir λ_=>rfl))
  (bR X G (x:="least_number") (m:="archrow.stretches") (st:=cJ) (t:=223) (c:=72) (f:=73) (ps:=["partners","worth","table","i","j"]) (by kernel_rfl) (by kernel_rfl) (by kernel_rfl) (by kernel_rfl) (EZ λ_ _ _ _ _=>rfl))
  (bR X G (x:="number_with") (m:="archrow.stretches") (st:=cW) (t:=223) (c:=67) (f:=68) (ps:=["worth","table","i","k","j"]) (by kernel_rfl) (by kernel_rfl) (by kernel_rfl) (by kernel_rfl) (EZ λ_ _ _ _ _=>rfl))
  (bR X G (x:="one_each") (m:="archrow.kept") (st:=ft) (t:=292) (c:=110) (f:=111) (ps:=["row"]) (by kernel_rfl) (by kernel_rfl) (by kernel_rfl) (by kernel_rfl) (ir λ_=>rfl))
  (bR X G (x:="first_greatest") (m:="archrow.stretches") (st:=b8) (t:=223) (c:=84) (f:=85) (ps:=["row","worth","table","i","j"]) (by kernel_rfl) (by kernel_rfl) (by kernel_rfl) (by kernel_rfl) (EZ λ_ _ _ _ _=>rfl))
  (bR X G (x:="best_choices") (m:="archrow.stretches") (st:=cK) (t:=223) (c:=77) (f:=78) (ps:=["partners","worth","table","i","j"]) (by kernel_rfl) (by kernel_rfl) (by kernel_rfl) (by kernel_rfl) (EZ λ_ _ _ _ _=>rfl))
  (bR X G (x:="parts_left") (m:="archrow.stretches") (st:=dB) (t:=223) (c:=55) (f:=56) (ps:=["i","k","j"]) (by kernel_rfl) (by kernel_rfl) (by kernel_rfl) (by kernel_rfl) (IQ λ_ _ _=>rfl))
  (bR X G (x:="_law_hand") (m:="law_archrow_k06_the_most_ties") (st:=dS) (t:=324) (c:=117) (f:=118) (ps:=["cell"]) (by kernel_rfl) (by kernel_rfl) (by kernel_rfl) (by kernel_rfl) (ir λ_=>rfl))
  (bR X G (x:="_law_take") (m:="law_archrow_k06_the_most_ties") (st:=dQ) (t:=324) (c:=124) (f:=125) (ps:=["hand","many"]) (by kernel_rfl) (by kernel_rfl) (by kernel_rfl) (by kernel_rfl) (sU λ_ _=>rfl))
  (bR X G (x:="_law_arcs") (m:="law_archrow_k06_the_most_ties") (st:=fx) (t:=324) (c:=131) (f:=132) (ps:=["hand","many"]) (by kernel_rfl) (by kernel_rfl) (by kernel_rfl) (by kernel_rfl) (sU λ_ _=>rfl))
  (bR X G (x:="_law_ties") (m:="law_archrow_k06_the_most_ties") (st:=fu) (t:=324) (c:=136) (f:=137) (ps:=["hand","many"]) (by kernel_rfl) (by kernel_rfl) (by kernel_rfl) (by kernel_rfl) (sU λ_ _=>rfl))
  (bR X G (x:="_law_row") (m:="law_archrow_k06_the_most_ties") (st:=gB) (t:=324) (c:=143) (f:=144) (ps:=["hand"]) (by kernel_rfl) (by kernel_rfl) (by kernel_rfl) (by kernel_rfl) (ir λ_=>rfl))
  (bR X G (x:="_law_same") (m:="law_archrow_k06_the_most_ties") (st:=fv) (t:=324) (c:=155) (f:=156) (ps:=["found","due"]) (by kernel_rfl) (by kernel_rfl) (by kernel_rfl) (by kernel_rfl) (sU λ_ _=>rfl))
  (bR X G (x:="_law_table") (m:="law_archrow_k06_the_most_ties") (st:=eh) (t:=324) (c:=160) (f:=161) (ps:=["row"]) (by kernel_rfl) (by kernel_rfl) (by kernel_rfl) (by kernel_rfl) (ir λ_=>rfl))
  (bR X G (x:="_law_first") (m:="law_archrow_k06_the_most_ties") (st:=eC) (t:=324) (c:=167) (f:=168) (ps:=["row","table","begin","end"]) (by kernel_rfl) (by kernel_rfl) (by kernel_rfl) (by kernel_rfl) (L9 λ_ _ _ _=>rfl))
  (bR X G (x:="_law_copied") (m:="law_archrow_k06_the_most_ties") (st:=dC) (t:=324) (c:=186) (f:=187) (ps:=["row"]) (by kernel_rfl) (by kernel_rfl) (by kernel_rfl) (by kernel_rfl) (ir λ_=>rfl))
  (bR X G (x:="_law_all") (m:="law_archrow_k06_the_most_ties") (st:=gC) (t:=324) (c:=179) (f:=180) (ps:=["row"]) (by kernel_rfl) (by kernel_rfl) (by kernel_rfl) (by kernel_rfl) (ir λ_=>rfl))
  (bR X G (x:="_law_meet") (m:="law_archrow_k06_the_most_ties") (st:=fw) (t:=324) (c:=174) (f:=175) (ps:=["one","other"]) (by kernel_rfl) (by kernel_rfl) (by kernel_rfl) (by kernel_rfl) (sU λ_ _=>rfl))
  (bR X G (x:="_law_cross") (m:="law_archrow_k06_the_most_ties") (st:=eD) (t:=324) (c:=150) (f:=151) (ps:=["one","other"]) (by kernel_rfl) (by kernel_rfl) (by kernel_rfl) (by kernel_rfl) (sU λ_ _=>rfl))⟩
end jB
abbrev PySem.W.Fast.tw8315383774251657148:PySem.Program:=PySem.Challenge.pw_archrow_k06_the_most_ties
theorem PySem.W.Fast.te8315383774251657148:PySem.Challenge.pw_archrow_k06_the_most_ties=PySem.W.Fast.tw8315383774251657148:=rfl
open PySem PySem.W PyProof.Rows
set_option maxRecDepth 100000 in
set_option maxHeartbeats 0 in
theorem PySem.Challenge.cw_archrow_k06_the_most_ties_holds : PySem.Challenge.rw_archrow_k06_the_most_ties.Holds := by
 w_on;o_law
 refine holds_open (q:=jB.view) (loose:=[]) (Xt:=λs=>xlAt jB.view [] s&&recOk (RowW.records PySem.Challenge.rw_archrow_k06_the_most_ties.row.toRowW) s) (XP:=XL jB.view []) (Yf:=jB.HK.obs) (Ya:=jB.HK.val) (YP:=λw h=>(jB.KK w.params).In h) (N:=2460) jB.left jB.HK.of jB.HK.keeps (λs e=>xl_of s (Bool.and_eq_true_iff.mp e).1) XL.keeps (by rfl) (by rfl) (by rfl) (λs e=>recFacts_of (Bool.and_eq_true_iff.mp e).2) (by rfl) (by first|assumption|decide +kernel) (by decide +kernel) ⟨rfl,rfl,rfl,rfl,rfl,by decide +kernel⟩ ?hw ?hc
 (case hw=>w_witness2)
 case hc =>
  exact L2.DF (l:=PySem.Challenge.rw_archrow_k06_the_most_ties) (K:=jB.KK) (n:=63) (k:=45) (x:="script") (CX:=λ_=>L2.bU) (sp:=λw=>jB.Au (jB.KK w.params)) rfl (by decide) rfl ⟨rfl,by decide,by decide⟩ (λw h Y=>Y) jB.all_mk (λ_ _ a ns hl _ hS=>⟨a,ns,rfl,hS,hl,λ_=>rfl⟩) λ_ _ _ _ _ z=>z
#print axioms PySem.Challenge.cw_archrow_k06_the_most_ties_holds
