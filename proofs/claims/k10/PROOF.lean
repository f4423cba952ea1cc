import PyProof.Rows.All
import Wide.All
import OpenK.AllK
import Wide.FinOn
import Lean
import PyProof.EqAt
import PyProof.EqKinds
import PyProof.TupleCall
import PyProof.Rows.SortShell
import PyProof.Rows.SortWalk
import PyProof.CompFree
import PyProof.Rows.SortRuns
import PyProof.EqLayable
import PyProof.NeData
import PyProof.P3In
import PyProof.ZipIter
import PyProof.EnumMake
import PyProof.EnumFor
import PyProof.Rows.Range3
import PyProof.AttrMissSeq
import KE.KDictOf
import PyProof.Rows.SeqMore
import PySem.Challenge.RW_archrow_k10_sets_with_the_most
set_option Elab.async false
set_option linter.all false
set_option maxRecDepth 100000
set_option maxHeartbeats 4000000
set_option compiler.extract_closed false
open PySem renaming wpAny_bind->WA,Value->WC,Shared->WE,Program->WI,wpAny_pure->WJ,starEach->WZ,World->W6,sizeLine->W7,wpAny->Xb,wpAny_loadPart'->Xv,FuncData->Xx,Around->XA,bootBuiltins->XC,foldedSetIterable->XI,sizeLine_eq->XO,compareOp->X5,wpAny_holding->Yd,wpAny_call_entry->Ye,wpAny_truthy_bool->Yo,wpAny_setField_rec->Yt,wpAny_seqItems->Yy,wpAny_setState_of->Yz,wpAny_callSpecial?_slot->YA,wpAny_field->YI,backTo->YM,wpAny_newObj_type->YN,mainGlobals->YO,assignEach->YS,binaryOp->YT,sliceBounds->YY,wpAny_rule->YZ,Builtin->Y3,cLine->Y4,wpAny_standAt->Y6,behindInMarks->Y7,attributeBase->Y8,IsPair->Y_,swapsWith->Zl,Comprehension->Zs,codeAny_builtin->Zu,Scope->Zv,codeAny_mono->ZA,wpAny_attempt->ZF,Keyword->ZH,NameKind->ZI,wpAny_passesOwn->ZK,wpAny_mono->ZT,sysModules->ZU,pyNext->ZV,CmpOp->Z1,keywordEach->Z5,codeAny->Z6,wpAny_forIn_list->aac,wpAny_askSetting->aad,tupleKind->aae
open List renaming length_map->WB,mem_cons->WG,range->WK,mem_singleton->WN,mem_cons_self->WO,mem_cons_of_mem->WQ,getElem?_eq_getElem->WR,length_cons->WS,mem_map->WT,getElem?_map->WU,mem_filter->WW,getElem?_eq_some_iff->W3,mem_append->W4,map_cons->W_,size_toArray->Xd,map_congr_left->Xe,nodup_cons->Xg,length_range->Xh,length_append->Xi,length_take->Xj,map_append->Xl,mem_append_right->Xm,filter_cons->Xr,replicate->Xs,getElem?_eq_none->Xw,pairwise_cons->Xy,mem_of_getElem?->XB,map_map->XD,drop_eq_getElem_cons->XE,nodup_append->XF,mem_flatMap->XJ,filter_append->XN,nodup_nil->XR,filterMap_cons->XS,not_mem_nil->XU,pairwise_map->XW,getElem?_append_right->XX,append_nil->XY,mem_append_left->X1,length_filter_le->X2,append_assoc->X4,mem_range->X8,take_add_one->X_,getD_eq_getElem?_getD->Yc,lookup_cons->Yh,getElem?_append_left->Yi,find?_cons->Yl,pairwise_singleton->Ym,sum_cons->Yn,take_of_length_le->Yp,replicate_succ->Yr,take_length->Yv,ext_getElem?->YB,getElem?_range->YD,drop_of_length_le->YG,take_append_drop->YL,flatten_cons->YR,getElem_mem->YV,all_eq_true->YW,zip_cons_cons->Y1,filter_eq_nil_iff->Y2,foldl_cons->Y5,length_singleton->Y9,getElem?_set->Zc,nodup_iff_pairwise_ne->Zh,length_drop->Zm,getElem?_take_of_lt->Zr,getElem?_cons_succ->Zw,set_eq_take_append_cons_drop->Zy,pairwise_flatMap->ZD,pairwise_append->ZJ,of_mem_zip->ZL,length_nil->ZM,perm_ext_iff_of_nodup->ZY,mem_filterMap->ZZ,getElem?_drop->Z0,pairwise_iff_getElem->Z2,extract_eq_take_drop->Z3,zip_nil_left->Z7,reverse_cons->Z8,perm_middle->aah,cons_append->aai
open Nat renaming le_refl->WD,zero_le->WV,ne_of_lt->Xk,lt_of_lt_of_le->Xn,le_trans->Xo,lt_or_ge->X0,zero_add->Yk,pow_le_pow_right->YQ,lt_succ_of_lt->Zb,one_mul->Zg,lt_irrefl->ZG,sub_self->ZR,pow_succ->ZS,mul_le_mul->ZW,mod_lt->ZX,lt_succ_self->aaf,le_add_right->aag
open PySem.Heap renaming get?_push_of_some->WH,lt_size->W5,get?_push_size->Xc,SameBut->Yw,size_push->YX
open PyProof.Rows renaming wpS_bind->WL,Keyed->WX,wpS_pure->WY,pendingOf->Xf,arrOf->Xq,SortSt->XT,wpS_forRange->XZ,setArr->X9,IntsAre->Yq,wpS_mono->Yx,seqObj->YE,callWith_type1->YF,SortKind->YU,wpS_modify->Ze,failedOf->Zz,setPending->ZE,wpS_get->ZP,wpS_lift->aab
open Array renaming length_toList->WM,getElem?_toList->W9,getD_eq_getD_getElem?->Xa,toList_append->Yj,toList_push->YC,getElem?_eq_none->YH,perm_iff_toList_perm->Zj,size_setIfInBounds->aaa,toList_zip->aaj
open Option renaming map_eq_some_iff->W8,bind_eq_some_iff->Xu,bind_some->Yu
open Option.some renaming inj->Xp
open Bool renaming and_eq_true->Xz,false_ne_true->X7,not_eq_true'->ZC,eq_iff_iff->ZO
open Decidable renaming by_contra->XG
open PySem.NameKind renaming free->XH,cell->Zq
open PySem.PassesOwn renaming never->XM
open PySem.Builtin.SmallTypes renaming nextOf->XQ,ownedTupleIsFree->YJ
open PySem.PyData renaming eqv->X3,canLay0->Yb,depthAll->Ys,depth->Y0,canLayAll0->Za,eqvAll->Z9
open Ne renaming symm->X6
open PySem.SeqAt renaming canLay_of_shaped->Yg
open True renaming intro->YK
open Int renaming toNat_natCast->Zd
open PySem.Obj renaming mapSeq->Zf
open False renaming elim->Zi
open PySem.Around renaming under_plainId->Zk
open Classical renaming byContradiction->Zn
open PySem.Heap.SameBut renaming update->Zo
open PySem.Builtin.List renaming listTooLong->Zt
open PySem.Builtin.Range renaming rangeSize->Zx
open List.Perm renaming of_eq->ZN
open PySem.Str renaming ofString->ZQ
open PySem.Calls renaming call_function_entry->Z4
open PySem.Code renaming compLoop->Z_
noncomputable section
namespace L2
open PySem PySem.Spec PyProof.Rows
abbrev Key:=Sum Int Str
def oK:Key->WC->Bool
 |.inl k,v=>Value.isInt k v
 |.inr x,v=>Value.isStrOf x v
def PU (w:W6):Key->Int
 |.inl k=>hashInt k
 |.inr x=>hashStr w x
theorem bt:∀{k:Key} {v:WC},oK k v=true->(∃i t,k=Sum.inl i/\v=Value.int i t)\/(∃x t,k=Sum.inr x/\v=Value.str x t)
 |.inl i,v,h=>by
  obtain⟨t,e⟩:=Value.isInt_shape (k:=i) (v:=v) h;exact .inl ⟨i,t,rfl,e⟩
 |.inr x,v,h=>by
  obtain⟨t,e⟩:=Value.isStrOf_shape (x:=x) (v:=v) h;exact .inr ⟨x,t,rfl,e⟩
theorem yn (i:Int)(t:Tok):oK (.inl i) (.int i t)=true:=by simp[oK,Value.isInt]
theorem ym (x:Str)(t:Tok):oK (.inr x) (.str x t)=true:=by simp[oK,Value.isStrOf]
theorem IB (a b:Int):decide ((Sum.inl a:Key)=Sum.inl b)=(a==b):=by
 by_cases e:a=b
 ·subst e;simp
 ·have h:¬ (Sum.inl a:Key)=Sum.inl b:=λq=>e (Sum.inl.inj q);rw[decide_eq_false h];exact(beq_eq_false_iff_ne.mpr e).symm
theorem Iy (a b:Str):decide ((Sum.inr a:Key)=Sum.inr b)=decide (a=b):=by
 by_cases e:a=b
 ·subst e;simp
 ·have h:¬ (Sum.inr a:Key)=Sum.inr b:=λq=>e (Sum.inr.inj q);rw[decide_eq_false h,decide_eq_false e]
theorem IA (a:Int)(b:Str):decide ((Sum.inl a:Key)=Sum.inr b)=false:=decide_eq_false (λq=>nomatch q)
theorem Iz (a:Str)(b:Int):decide ((Sum.inr a:Key)=Sum.inl b)=false:=decide_eq_false (λq=>nomatch q)
def cj (prog:WI)(w:W6):PySem.KeyKind prog w Key where
 is:=oK
 hash:=PU w
 inj:=λv a b ha hb=>by
  rcases bt ha with⟨i,t,rfl,rfl⟩|⟨x,t,rfl,rfl⟩
  ·rcases bt hb with⟨j,u,rfl,e⟩|⟨y,u,rfl,e⟩
   ·injection e with e1 _;rw[e1]
   ·exact nomatch e
  ·rcases bt hb with⟨j,u,rfl,e⟩|⟨y,u,rfl,e⟩
   ·exact nomatch e
   ·injection e with e1 _;rw[e1]
 byValue:=λk v h=>by
  rcases bt h with⟨i,t,rfl,rfl⟩|⟨x,t,rfl,rfl⟩ <;> rfl
 pyHash:=λhv h=>by
  rcases bt hv with⟨i,t,rfl,rfl⟩|⟨x,t,rfl,rfl⟩
  ·exact wpAny_pyHash_int h
  ·exact wpAny_pyHash_str h
 eqBool:=λhu hv h=>by
  rcases bt hu with⟨i,t,rfl,rfl⟩|⟨x,t,rfl,rfl⟩
  ·rcases bt hv with⟨j,u,rfl,rfl⟩|⟨y,u,rfl,rfl⟩
   ·rw[IB]at h;exact wpAny_eqBool_int h
   ·rw[IA]at h;exact SeqAt.EqAt.int_str i t y u _ _ _ _ h
  ·rcases bt hv with⟨j,u,rfl,rfl⟩|⟨y,u,rfl,rfl⟩
   ·rw[Iz]at h;exact SeqAt.EqAt.str_int x t j u _ _ _ _ h
   ·rw[Iy]at h;exact wpAny_eqBool_str h
 «strs»:=λk x t v h=>by
  rcases bt h with⟨i,u,rfl,e⟩|⟨y,u,rfl,e⟩
  ·exact nomatch e
  ·injection e with e1 _
   subst e1;cases v <;> rfl
theorem r9 (prog:WI)(w:W6)(i:Int)(t:Tok):(cj prog w).is (.inl i) (.int i t)=true:=yn i t
theorem rZ (prog:WI)(w:W6)(x:Str)(t:Tok):(cj prog w).is (.inr x) (.str x t)=true:=ym x t
inductive V where
 |bU|bl (b:Bool)|int (i:Int)|str (x:Str)|Fn (b:Array UInt8)|Jt (b:UInt64)|ref (a:Addr)|ty (n:String)
 deriving DecidableEq
def RelV:V->WC->Prop
 |.bU,u=>u=Value.none
 |.bl b,u=>u=Value.bool b
 |.int i,u=>∃t,u=Value.int i t
 |.str x,u=>∃t,u=Value.str x t
 |.Fn b,u=>∃t,u=Value.bytes b t
 |.Jt b,u=>∃t,u=Value.float b t
 |.ref a,u=>u=Value.ref a
 |.ty n,u=>u=Value.type n
abbrev Vals:List V->List WC->Prop:=Paired RelV
theorem Vals.length {xs:List V}{us:List WC}(r:Vals xs us):xs.length=us.length:=Paired.length r
theorem Vals.get:∀{xs:List V} {us:List WC} {i:Nat} {x:V},Vals xs us->xs[i]?=some x->∃u,us[i]?=some u/\RelV x u
 |_,_,_,_,.nil,e=>by simp at e
 |_,_,0,_,.cons r _,e=>by simp at e;subst e;exact⟨_,rfl,r⟩
 |_,_,i+1,x,.cons _ t,e=>by
  obtain⟨u,h1,h2⟩:=Vals.get (i:=i) (x:=x) t (by simpa using e)
  exact⟨u,by simpa using h1,h2⟩
theorem Vals.set {x:V}{u:WC}(r:RelV x u):∀{xs:List V} {us:List WC} (i:Nat),Vals xs us->Vals (xs.set i x) (us.set i u)
 |_,_,_,.nil=>.nil
 |_,_,0,.cons _ t=>.cons r t
 |_,_,i+1,.cons q t=>.cons q (Vals.set r i t)
theorem Vals.append:∀{xs ys:List V} {us ws:List WC},Vals xs us->Vals ys ws->Vals (xs++ys) (us++ws)
 |_,_,_,_,.nil,s=>s
 |_,_,_,_,.cons r t,s=>.cons r (Vals.append t s)
theorem Vals.take:∀{xs:List V} {us:List WC} (n:Nat),Vals xs us->Vals (xs.take n) (us.take n)
 |_,_,0,_=>.nil
 |_,_,_+1,.nil=>.nil
 |_,_,n+1,.cons r t=>.cons r (Vals.take n t)
theorem Vals.drop:∀{xs:List V} {us:List WC} (n:Nat),Vals xs us->Vals (xs.drop n) (us.drop n)
 |_,_,0,r=>r
 |_,_,_+1,.nil=>.nil
 |_,_,n+1,.cons _ t=>Vals.drop n t
theorem Vals.none_of:∀{xs:List V} {us:List WC} {i:Nat},Vals xs us->xs[i]?=none->us[i]?=none:=λ{xs us i} r e=>by
 have h1:=r.length;have h2:xs.length<=i:=List.getElem?_eq_none_iff.mp e;exact List.getElem?_eq_none_iff.mpr (by lia)
def m7:Option V->Option WC->Prop
 |some v,some u=>RelV v u
 |none,none=>True
 |_,_=>False
def KV {κ:Type}:List (κ×V)->List (κ×WC)->Prop:=Paired λ(p:κ×V) (q:κ×WC)=>p.1=q.1/\RelV p.2 q.2
def kV:Key->V
 |.inl i=>.int i
 |.inr x=>.str x
inductive HO where
 /-- a list -/
 |lst (xs:List V)
 /-- a tuple (never changes) -/
 |tup (xs:List V)
 /-- a dict whose keys are ints and texts;one whose keys are tuples of ints and texts (the empty one is both) -/
 |dK (kvs:List (Key×V))|dT (kvs:List (List Key×V))
 /-- a set of ints: its members,its size -/
 |set (S:Int->Bool) (n:Nat)
 /-- an instance of the class at C,its dict at dx,its attributes -/
 |ins (C dx:Addr) (fs:List (Str×V))
 /-- the dict of the instance at x -/
 |own (x:Addr)
 /-- the dict of an exception -/
 |xd (fs:List (Str×V))
 /-- a bound method,f of x -/
 |met (f x:Addr)
 /-- a range object lo,lo+1,.. below hi -/
 |O6 (lo hi:Int)
 /-- a Kq that is known to the object (the O2;a dict while a loop walks it): read,never written while it is so -/
 |uj (o:Obj) (u:HO)
 /-- a code Lk table -/
 |G1 (ps:Array WC)
 /-- any other Kq,by what is true of its one object (a def of Li own: Fy a S n:=HO.ext λh=>..) -/
 |ext (φ:Heap->Prop)
abbrev Hp:=Addr->Option HO
def upd (H:Hp)(a:Addr)(o:HO):Hp:=λb=>if b=a then some o else H b
theorem aw {H:Hp}{a:Addr}{o:HO}:upd H a o a=some o:=by unfold upd;rw[if_pos rfl]
theorem ar {H:Hp}{a b:Addr}{o:HO}(h:b≠a):upd H a o b=H b:=by unfold upd;rw[if_neg h]
theorem FU {H:Hp}{a b:Addr}{o u:HO}(h:H a=some o)(h':H b=some u)(d:o≠u):a≠b:=by
 intro e;subst e;rw[h]at h';exact d (Xp h')
theorem cu {H:Hp}{a b:Addr}{o:HO}(h:H a=some o)(h':H b=none):a≠b:=by
 intro e;subst e;rw[h]at h';cases h'
section
variable (P:WI)(w:W6)
def a6 (H:Hp)(h:Heap)(a:Addr):HO->Prop
 |.lst xs=>xs.length<=W7/\∃(its:List WC) (n:Nat),Vals xs its/\h.get? a=some {cls:=.type "list",data:=.seq its.toArray n}
 |.tup xs=>xs.length<=W7/\∃its:List WC,Vals xs its/\IsTup h a its.toArray
 |.dK kvs=>kvs.length<=W7/\(a==ZU)=false/\∃vs,KV kvs vs/\h.DictOf (cj P w) a vs
 |.dT kvs=>kvs.length<=W7/\(a==ZU)=false/\∃xs:List (List Key×Addr×WC),
   Paired (λ(p:List Key×V) (q:List Key×Addr×WC)=>p.1=q.1/\H q.2.1=some (.tup (p.1.map kV))/\RelV p.2 q.2.2) kvs xs /\
   ∃o es ep,h.get? a=some o/\o.ExactDict/\o.data=.dict es ep/\es.toList=xs.map (entryOfKey (aae (cj P w)))/\(xs.map (·.1)).Nodup
 |.set S n=>h.SetOf (intKind P w) a S n
 |.ins C dx fs=>H dx=some (.own a)/\fs.length<=1000/\dx≠a/\h.get? a=some (PySem.W.instObj C dx) /\
   ∃mA,h.Ns1 dx mA/\(∀f,m7 (fs.lookup f) (mA f))/\PySem.Within mA (fs.map (·.1))
 |.own _=>∃o,h.get? a=some o
 |.xd fs=>∃mA,h.Ns1 a mA/\∀f,m7 (fs.lookup f) (mA f)
 |.O6 lo hi=>∃t u v,h.get? a=some {cls:=.type "range",data:=.fields #[.int lo t,.int hi u,.int 1 v]}
 |.uj o u=>h.get? a=some o/\a6 H h a u
 |.G1 ps=>h.get? a=some {cls:=.none,data:=.fields ps}
 |.met f x=>h.get? a=some (PySem.W.methodObj (.ref f) (.ref x))
 |.ext φ=>φ h/\(∃o,h.get? a=some o)/\∀h1 h2:Heap,φ h1->(∀o,h1.get? a=some o->h2.get? a=some o)->φ h2
def ip (H:Hp)(h:Heap):Prop:=∀a o,H a=some o->a6 P w H h a o
end
section
variable {P:WI}{w:W6}{H H':Hp}{h h':Heap}{a:Addr}{o:HO}
theorem a6.lt (x:a6 P w H h a o):a<h.objs.size:=by
 cases o with
 |lst xs=>obtain⟨_,_,_,_,e⟩:=x;exact W5 e
 |tup xs=>obtain⟨_,_,_,p⟩:=x;exact p.lt
 |dK kvs=>obtain⟨_,_,_,_,o,_,_,e,_⟩:=x;exact W5 e
 |dT kvs=>obtain⟨_,_,_,_,o,_,_,e,_⟩:=x;exact W5 e
 |set S n=>obtain⟨o,_,_,_,e,_⟩:=x;exact W5 e
 |ins C dx fs=>obtain⟨_,_,_,e,_⟩:=x;exact W5 e
 |own y=>obtain⟨_,e⟩:=x;exact W5 e
 |xd fs=>obtain⟨_,⟨_,_,_,e,_⟩,_⟩:=x;exact W5 e
 |O6 lo hi=>obtain⟨_,_,_,e⟩:=x;exact W5 e
 |uj ob u=>obtain⟨e,_⟩:=x;exact W5 e
 |G1 ps=>exact W5 (show h.get? a=some _ from x)
 |met f y=>exact W5 (show h.get? a=some _ from x)
 |ext φ=>obtain⟨_,⟨_,e⟩,_⟩:=x;exact W5 e
theorem Paired.Ig {α β:Type}{F G:α->β->Prop}:∀{l₁:List α} {l₂:List β},Paired F l₁ l₂->(∀a b,F a b->G a b)->Paired G l₁ l₂
 |_,_,.nil,_=>.nil
 |_,_,.cons r t,f=>.cons (f _ _ r) (Paired.Ig t f)
theorem a6.rg (x:a6 P w H h a o)(k:∀b u,(b=a\/H b=some (.own a))->h.get? b=some u->h'.get? b=some u)
  (ho:∀b,H b=some (.own a)->H' b=some (.own a)) (ht:∀b xs,H b=some (.tup xs)->H' b=some (.tup xs)):a6 P w H' h' a o:=by
 induction o with
 |lst xs=>obtain⟨z,its,n,r,e⟩:=x;exact⟨z,its,n,r,k _ _ (.inl rfl) e⟩
 |tup xs=>obtain⟨z,its,r,ob,e,c⟩:=x;exact⟨z,its,r,ob,k _ _ (.inl rfl) e,c⟩
 |dK kvs=>obtain⟨z,y,vs,r,ob,es,ep,e,c⟩:=x;exact⟨z,y,vs,r,ob,es,ep,k _ _ (.inl rfl) e,c⟩
 |dT kvs =>
  obtain⟨z,y,xs,r,ob,es,ep,e,c⟩:=x;exact⟨z,y,xs,Paired.Ig r λp q z=>⟨z.1,ht _ _ z.2.1,z.2.2⟩,ob,es,ep,k _ _ (.inl rfl) e,c⟩
 |set S n=>obtain⟨ob,es,ep,t,e,c⟩:=x;exact⟨ob,es,ep,t,k _ _ (.inl rfl) e,c⟩
 |ins C dx fs =>
  obtain⟨d,z,ne,e,mA,⟨od,es,ep,e2,c⟩,r⟩:=x;exact⟨ho _ d,z,ne,k _ _ (.inl rfl) e,mA,⟨od,es,ep,k _ _ (.inr d) e2,c⟩,r⟩
 |own y=>obtain⟨ob,e⟩:=x;exact⟨ob,k _ _ (.inl rfl) e⟩
 |xd fs=>obtain⟨mA,⟨od,es,ep,e,c⟩,r⟩:=x;exact⟨mA,⟨od,es,ep,k _ _ (.inl rfl) e,c⟩,r⟩
 |O6 lo hi=>obtain⟨t,u,v,e⟩:=x;exact⟨t,u,v,k _ _ (.inl rfl) e⟩
 |uj ob u ih=>obtain⟨e,q⟩:=x;exact⟨k _ _ (.inl rfl) e,ih q⟩
 |G1 ps =>
  have e:h.get? a=some {cls:=.none,data:=.fields ps}:=x;show h'.get? a=some {cls:=.none,data:=.fields ps};exact k a _ (.inl rfl) e
 |met f y =>
  have e:h.get? a=some (PySem.W.methodObj (.ref f) (.ref y)):=x;show h'.get? a=some (PySem.W.methodObj (.ref f) (.ref y));exact k a _ (.inl rfl) e
 |ext φ=>obtain⟨p,⟨o,e⟩,st⟩:=x;exact⟨st _ _ p λo q=>k _ _ (.inl rfl) q,⟨o,k _ _ (.inl rfl) e⟩,st⟩
theorem ip.lt (x:ip P w H h)(e:H a=some o):a<h.objs.size:=(x a o e).lt
theorem ip.fresh (x:ip P w H h)(e:h.objs.size<=a):H a=none:=by
 cases q:H a with
 |none=>rfl
 |some u=>exact absurd (Xn (x.lt q) e) (ZG _)
theorem ip.kept (x:ip P w H h)(k:∀b u,h.get? b=some u->h'.get? b=some u):ip P w H h':=λa o e =>
 (x a o e).rg (λb u _ q=>k b u q) (λ_ q=>q) λ_ _ q=>q
theorem ip.laid (x:ip P w H h)(k:∀b u,h.get? b=some u->h'.get? b=some u)(hp:h.objs.size<=a)(new:a6 P w (upd H a o) h' a o):ip P w (upd H a o) h':=λb u e=>by
 have hn:=x.fresh hp
 by_cases hb:b=a
 ·subst hb;rw[aw]at e;cases e;exact new
 ·rw[ar hb]at e;exact(x b u e).rg (λc v _ q=>k c v q) (λc q=>by rw[ar (cu q hn)];exact q) λc xs q=>by rw[ar (cu q hn)];exact q
end
def Rd (H:Hp)(a:Addr)(u:HO):Prop:=H a=some u\/∃o,H a=some (.uj o u)
theorem Rd.ok {P:WI}{w:W6}{H:Hp}{h:Heap}{a:Addr}{u:HO}(r:Rd H a u)(x:ip P w H h):a6 P w H h a u:=by
 rcases r with r|⟨o,r⟩
 ·exact x a u r
 ·obtain⟨_,q⟩:=x a _ r;exact q
def Nt:Option HO->Prop
 |some (.lst _)=>True
 |some (.dK _)=>True
 |some (.dT _)=>True
 |some (.set _ _)=>True
 |some (.ins _ _ _)=>True
 |some (.ext _)=>True
 |_=>False
section
variable {P:WI}{w:W6}{H:Hp}{h h':Heap}{x e:Addr}{o':HO}
theorem ip.write (ok:ip P w H h)(mu:Nt (H x))(he:e=x\/H e=some (.own x))(k:∀b u,b≠e->h.get? b=some u->h'.get? b=some u)(J8:∃u,h'.get? e=some u)
  (new:a6 P w (upd H x o') h' x o'):ip P w (upd H x o') h':=λb u q=>by
 have Ll:∀c y,H c=some (.own y)->c≠x:=λc y r z=>by subst z;rw[r]at mu;exact mu
 have Pz:∀c xs,H c=some (.tup xs)->c≠x:=λc xs r z=>by subst z;rw[r]at mu;exact mu
 by_cases hb:b=x
 ·subst hb;rw[aw]at q;cases q;exact new
 ·rw[ar hb]at q
  by_cases Jm:b=e
  ·have q':H b=some (.own x):=by
    rcases he with z|z
    ·exact absurd (Jm.trans z) hb
    ·rw[Jm];exact z
   rw[q]at q';cases q';obtain⟨v,hv⟩:=J8;exact⟨v,by rw[Jm];exact hv⟩
  ·refine(ok b u q).rg (λc v hc r=>k c v ?_ r) (λc r=>by rw[ar (Ll c b r)];exact r) λc xs r=>by rw[ar (Pz c xs r)];exact r
   rcases hc with rfl|hc
   ·exact Jm
   ·rintro rfl;rcases he with z|z
    ·exact Ll c b hc z
    ·rw[hc]at z;cases z;exact hb rfl
end
structure Un (fs ex:List Addr)(H H':Hp)(h h':Heap):Prop where
 keep:∀b o,h.get? b=some o->H b=none->b∉fs->b∉ex->h'.get? b=some o
 slot:∀b o,h.get? b=some o->H b=none->b∈fs->b∉ex->∃sl,h'.get? b=some {o with slots:=sl}
 free:∀b o,h.get? b=some o->H b=none->b∉ex->H' b=none
 there:∀b o,h.get? b=some o->b∉ex->∃o',h'.get? b=some o'
 pL:∀b xs,H b=some (.tup xs)->H' b=some (.tup xs)
 nG:∀b o u,H b=some (.uj o u)->H' b=some (.uj o u)
 pN:∀b ps,H b=some (.G1 ps)->∃more,H' b=some (.G1 (ps++more))
section
variable {fs ex:List Addr}{H H1:Hp}{h h1 h':Heap}{a x e:Addr}{o:HO}
theorem Un.any (u:Un fs ex H H1 h h1){b:Addr}{ob:Obj}(q:h.get? b=some ob)(n:H b=none)(hx:b∉ex):∃sl,h1.get? b=some {ob with slots:=sl}:=by
 by_cases hb:b∈fs
 ·exact u.slot b ob q n hb hx
 ·exact⟨ob.slots,u.keep b ob q n hb hx⟩
theorem Un.kept (k:∀b u,h.get? b=some u->h'.get? b=some u):Un fs ex H H h h' :=
 ⟨λb ob q _ _ _=>k b ob q,λb ob q _ _ _=>⟨ob.slots,k b ob q⟩,λ_ _ _ n _=>n,λb ob q _=>⟨ob,k b ob q⟩,λ_ _ q=>q,λ_ _ _ q=>q,λ_ ps q=>⟨#[],by rw[q];simp⟩⟩
theorem Un.refl:Un fs ex H H h h:=Un.kept λ_ _ q=>q
theorem Un.laid (k:∀b u,h.get? b=some u->h'.get? b=some u)(hp:h.objs.size<=a)(hn:H a=none):Un fs ex H (upd H a o) h h' where
 keep:=λb u q _ _ _=>k b u q
 slot:=λb u q _ _ _=>⟨u.slots,k b u q⟩
 free:=λb u q n _=>by rw[ar (Xk (Xn (W5 q) hp))];exact n
 there:=λb u q _=>⟨u,k b u q⟩
 pL:=λb xs q=>by rw[ar (cu q hn)];exact q
 nG:=λb u xs q=>by rw[ar (cu q hn)];exact q
 pN:=λb ps q=>⟨#[],by rw[ar (cu q hn),q];simp⟩
theorem Un.write (mu:Nt (H x))(he:e=x\/H e=some (.own x))(k:∀b u,b≠e->h.get? b=some u->h'.get? b=some u)(J8:∃u,h'.get? e=some u):Un fs ex H (upd H x o) h h':=by
 have hx:∀b,H b=none->b≠x:=λb n z=>by subst z;rw[n]at mu;exact mu
 have hb:∀b,H b=none->b≠e:=λb n z=>by
  subst z;rcases he with r|r
  ·exact hx b n r
  ·rw[n]at r;cases r
 have hm:∀b u,H b=some u->¬ Nt (some u)->b≠x:=λb u q nm z=>by subst z;rw[q]at mu;exact nm mu
 refine⟨λb u q n _ _=>k b u (hb b n) q,λb u q n _ _=>⟨u.slots,k b u (hb b n) q⟩,λb u q n _=>by rw[ar (hx b n)];exact n,λb u q _=>?_,
  λb xs q=>by rw[ar (hm b _ q λz=>z)];exact q,λb u xs q=>by rw[ar (hm b _ q λz=>z)];exact q,λb ps q=>⟨#[],by rw[ar (hm b _ q λz=>z),q];simp⟩⟩
 by_cases Jm:b=e
 ·subst Jm;exact J8
 ·exact⟨u,k b u Jm q⟩
end
def NC (h:Heap)(H:Hp):List Addr:=(WK h.objs.size).filter λa=>(H a).isSome
def qA (h:Heap)(H:Hp):Heap:=PySem.W.hideAll h (NC h H)
theorem yw (h:Heap)(H:Hp):(qA h H).objs.size=h.objs.size:=PySem.W.hideAll_size _ _
theorem BH {h:Heap}{H:Hp}{b:Addr}{o:Obj}(e:h.get? b=some o)(n:H b=none):(qA h H).get? b=some o :=
 PySem.W.hideAll_get _ e λhm=>by
  have q:(H b).isSome=true:=(WW.mp hm).2;rw[n]at q;simp at q
theorem Ea {h:Heap}{H:Hp}{b:Addr}{o:Obj}(e:(qA h H).get? b=some o):h.get? b=some o/\H b=none:=by
 have e':h.get? b=some o:=PySem.W.of_hideAll (NC h H) e;refine⟨e',?_⟩;cases q:H b with
 |none=>rfl
 |some x =>
  have hm:b∈NC h H:=WW.mpr ⟨X8.mpr (W5 e'),by simp[q]⟩
  have z:(qA h H).get? b=none:=PySem.W.hideAll_none (NC h H) hm;rw[z]at e;cases e
structure Mod (K:PySem.W.Frag)(mg:Str->Option WC)(base:Heap):Prop where
 PR:K.In base
 glob:base.Ns YO mg
 blt:∃mb,base.Ns builtinsNs mb/\∀x:Str,x≠"__name__" -> mb x=XC x
 nolimit:base.NoLimit
structure Cx where
 prog:WI
 w:W6
 K:PySem.W.Frag
 mg:Str->Option WC
 base:Heap
 A:XA
 N:List Str
 s₀:WE
 H₀:Hp
 env:Env
 outer:List Env
 stack:List Env
 ex:List Addr
 fn:Str->Bool
 calm:Bool
 pn:List (Addr×Obj)
 xe:WC->WE->Prop
def BN (l:List Env):List Addr:=l.filterMap (·.frame)
abbrev Cx.fs (X:Cx):List Addr:=BN X.outer
def xm (sc:Zv)(x:Str):Prop:=sc.names.lookup x=some .local\/sc.names.lookup x=some .cell\/sc.names.lookup x=some .free
def Loc (sc:Zv)(x:Str):Prop:=sc.names.lookup x=some .local\/sc.names.lookup x=some .cell
def Look (env:Env)(h:Heap)(m:Str->Option WC)(x:Str)(u:WC):Prop :=
 (env.kindOf x=some .local/\m x=some u)\/((env.kindOf x=some .cell\/env.kindOf x=some .free)/\∃c,env.cells.lookup x=some c/\h.IsCell c (some u))
structure Cx.Ok (X:Cx):Prop where
 mod:Mod X.K X.mg X.base
 kind:X.env.scope.kind=.function
 glob:X.env.globals=YO
 blt:X.env.builtins=builtinsNs
 above:X.s₀.heap.objs.size<=X.env.locals
 inj:∀x y c,X.env.cells.lookup x=some c->X.env.cells.lookup y=some c->x=y
 has:∀x,(X.env.kindOf x=some .cell\/X.env.kindOf x=some .free)->∃c,X.env.cells.lookup x=some c
 Nj:∀x c,X.fn x=true->X.env.cells.lookup x=some c->X.s₀.heap.objs.size<=c
 hd:X.calm=true->X.A.handled=none
 frames:X.A.frames=some X.stack
 NM:X.stack=X.outer\/(X.stack=X.env::X.outer/\X.env.frame=some X.env.locals)
 Oi:∀b∈X.ex,b≠X.env.locals/\∀x c,X.env.cells.lookup x=some c->c≠b
 bs:∀b o,X.base.get? b=some o->X.s₀.heap.get? b=some o/\X.H₀ b=none
 Gx:X.base.objs.size<=X.s₀.heap.objs.size
 AS:∀b o,X.base.get? b=some o->b∉X.ex
 BW:∀b∈X.ex,b∉X.fs
 mC:X.s₀.heap.FunFrames X.base X.outer
 Ka:∀b∈X.fs,X.H₀ b=none
structure Inv (X:Cx)(pins:List (Addr×Obj))(σ:List (Option V))(H:Hp)(s:WE):Prop where
 ok:X.Ok
 os:s.os=X.s₀.os
 bare:AllBare s.gens
 base:Un X.fs X.ex X.H₀ H X.s₀.heap s.heap
 loc:∃m,s.heap.Ns X.env.locals m/\∀(i:Nat) (x:Str) (v:V),X.N[i]?=some x->σ[i]?=some (some v)->xm X.env.scope x->∃u,RelV v u/\Look X.env s.heap m x u
 cell:∀x c,X.env.cells.lookup x=some c->∃v,s.heap.IsCell c v
 free:H X.env.locals=none
 gN:∀x c,X.env.cells.lookup x=some c->H c=none
 pin:∀p∈X.pn++pins,s.heap.get? p.1=some p.2/\H p.1=none/\p.1≠X.env.locals/\p.1∉X.fs/\∀v,p.2.data≠.cell v
 bx:ip X.prog X.w H s.heap
 len:σ.length=X.N.length
section
variable {X:Cx}{pins:List (Addr×Obj)}{σ:List (Option V)}{H H':Hp}{s:WE}{h':Heap}
theorem Cx.Ok.H4 (ok:X.Ok){b:Addr}{o:Obj}(e:X.base.get? b=some o):b∉X.fs:=λhb=>by
 have:=(ok.mC.mem hb).1;rw[e]at this;cases this
theorem Inv.bs (I:Inv X pins σ H s):∀b o,X.base.get? b=some o->s.heap.get? b=some o/\H b=none:=λb o e =>
 ⟨I.base.keep b o (I.ok.bs b o e).1 (I.ok.bs b o e).2 (I.ok.H4 e) (I.ok.AS b o e),I.base.free b o (I.ok.bs b o e).1 (I.ok.bs b o e).2 (I.ok.AS b o e)⟩
theorem Inv.bk (I:Inv X pins σ H s):∀b o,X.base.get? b=some o->s.heap.get? b=some o:=λb o e=>(I.bs b o e).1
theorem Inv.mod (I:Inv X pins σ H s):Mod X.K X.mg X.base:=I.ok.mod
theorem Inv.jD (I:Inv X pins σ H s):X.K.In s.heap:=I.ok.mod.PR.keeps I.bk
theorem Inv.lt (I:Inv X pins σ H s):X.env.locals<s.heap.objs.size:=let ⟨_,hn,_⟩:=I.loc;hn.lt
theorem Inv.sz (I:Inv X pins σ H s):X.s₀.heap.objs.size<=s.heap.objs.size:=Xo I.ok.above (Nat.le_of_lt I.lt)
theorem Inv.PC (I:Inv X pins σ H s){a:Addr}(h:s.heap.objs.size<=a):a∉X.fs:=λhb=>by
 obtain⟨_,o,ho,_⟩:=I.ok.mC.mem hb;exact absurd (Xn (W5 ho) (Xo I.sz h)) (ZG _)
theorem Inv.JE (I:Inv X pins σ H s):∀x c,X.env.cells.lookup x=some c->c≠X.env.locals:=λx c e z=>by
 obtain⟨v,o,ho,hd⟩:=I.cell x c e;obtain⟨m,⟨o',es,ep,EG,Ob,_⟩,_⟩:=I.loc;rw[z,EG]at ho;cases ho;rw[Ob]at hd;cases hd
theorem Inv.mC (I:Inv X pins σ H s):s.heap.FunFrames X.base X.outer:=by
 have all:∀(l:List Env),(∀b∈BN l,b∈X.fs)->X.s₀.heap.FunFrames X.base l->s.heap.FunFrames X.base l:=by
  intro l
  induction l with
  |nil=>intro _ _;trivial
  |cons env r ih =>
   intro hs hl;obtain⟨hk,⟨L,o,hf,hn,ho,hd⟩,hr⟩:=hl;have hL:L∈X.fs:=hs L (by unfold BN;rw[XS,hf];exact WO)
   obtain⟨sl,e⟩:=I.base.slot L o ho (I.ok.Ka L hL) hL λz=>I.ok.BW L z hL;exact⟨hk,⟨L,_,hf,hn,e,hd⟩,ih (λb hb=>hs b (by unfold BN;rw[XS,hf];exact WQ _ hb)) hr⟩
 exact all X.outer (λ_ hb=>hb) I.ok.mC
theorem Inv.stack (I:Inv X pins σ H s):s.heap.FunFrames X.base X.stack:=by
 rcases I.ok.NM with e|⟨e,hf⟩
 ·rw[e];exact I.mC
 ·rw[e];obtain⟨m,hn,_⟩:=I.loc;refine .cons (by rw[I.ok.kind];decide) hf hn ?_ I.mC
  exact Heap.get?_none_of_le (Xo I.ok.Gx I.ok.above)
theorem Inv.uF (I:Inv X pins σ H s):∀b∈BN X.stack,b∈X.env.locals::X.fs:=λb hb=>by
 rcases I.ok.NM with e|⟨e,hf⟩
 ·rw[e]at hb;exact WQ _ hb
 ·rw[e]at hb;unfold BN at hb;rw[XS,hf]at hb;exact hb
theorem Inv.vT (I:Inv X pins σ H s):∀b∈BN X.stack,H b=none:=λb hb=>by
 rcases WG.mp (I.uF b hb)with e|hb
 ·rw[e];exact I.free
 ·obtain⟨_,o,ho,_⟩:=I.ok.mC.mem hb;exact I.base.free b o ho (I.ok.Ka b hb) λz=>I.ok.BW b z hb
theorem Inv.step {g':Array GenState}{t':Nat}{d':Drawn}{ch:List Addr}(I:Inv X pins σ H s)
  (sQ:∀b∈ch,(b∈X.ex\/X.s₀.heap.objs.size<=b)/\b≠X.env.locals/\(∀x c,X.env.cells.lookup x=some c->c≠b)/\∀p∈X.pn++pins,p.1≠b)
  (keep:∀b o,b≠X.env.locals->b∉X.fs->b∉ch->s.heap.get? b=some o->H b=none->h'.get? b=some o)
  (slot:∀b o,b≠X.env.locals->b∈X.fs->b∉ch->s.heap.get? b=some o->H b=none->∃sl,h'.get? b=some {o with slots:=sl}) (free:∀b o,b∉ch->s.heap.get? b=some o->H b=none->H' b=none)
  (there:∀b o,b∉ch->s.heap.get? b=some o->∃o',h'.get? b=some o')
  (pL:∀b xs,H b=some (.tup xs)->H' b=some (.tup xs)) (nG:∀b o u,H b=some (.uj o u)->H' b=some (.uj o u)) (pN:∀b ps,H b=some (.G1 ps)->∃more,H' b=some (.G1 (ps++more)))
  (ns:∀m,s.heap.Ns X.env.locals m->h'.Ns X.env.locals m) (bx:ip X.prog X.w H' h') (hg:AllBare g') :
  Inv X pins σ H' {s with heap:=h',gens:=g',drawn:=d',toks:=t'}:=by
 have SG:∀b o,X.s₀.heap.get? b=some o->b≠X.env.locals:=λb o e=>Xk (Xn (W5 e) I.ok.above);have NU:∀b o,X.s₀.heap.get? b=some o->b∉X.ex->b∉ch:=λb o e hx hb=>by
  rcases (sQ b hb).1 with z|z
  ·exact hx z
  ·exact absurd (Xn (W5 e) z) (ZG _)
 have cellK:∀x c,X.env.cells.lookup x=some c->∀v,s.heap.IsCell c v->h'.IsCell c v:=λx c e v vj=>by
  obtain⟨o,ho,hd⟩:=vj;have Lr:c∉ch:=λz=>(sQ c z).2.2.1 x c e rfl
  by_cases hc:c∈X.fs
  ·obtain⟨sl,q⟩:=slot c o (I.JE x c e) hc Lr ho (I.gN x c e);exact⟨_,q,hd⟩
  ·exact⟨o,keep c o (I.JE x c e) hc Lr ho (I.gN x c e),hd⟩
 refine⟨I.ok,I.os,hg,⟨λb o e n hb hx=>?_,λb o e n hb hx=>?_,λb o e n hx=>?_,λb o e hx=>?_,λb xs e=>pL b xs (I.base.pL b xs e),λb o xs e=>nG b o xs (I.base.nG b o xs e),λb ps e=>?_⟩,?_,λx c e=>?_,?_,λx c e=>?_,λp hp=>?_,bx,I.len⟩
 ·exact keep b o (SG b o e) hb (NU b o e hx) (I.base.keep b o e n hb hx) (I.base.free b o e n hx)
 ·obtain⟨sl,e1⟩:=I.base.slot b o e n hb hx;obtain⟨He,e2⟩:=slot b _ (SG b o e) hb (NU b o e hx) e1 (I.base.free b o e n hx);exact⟨He,e2⟩
 ·obtain⟨o',e1⟩:=I.base.there b o e hx;exact free b o' (NU b o e hx) e1 (I.base.free b o e n hx)
 ·obtain⟨o',e1⟩:=I.base.there b o e hx;exact there b o' (NU b o e hx) e1
 ·obtain⟨m1,e1⟩:=I.base.pN b ps e;obtain⟨m2,e2⟩:=pN b _ e1;exact⟨m1++m2,by rw[e2,Array.append_assoc]⟩
 ·obtain⟨m,hn,hl⟩:=I.loc;refine⟨m,ns m hn,λi x v e1 e2 e3=>?_⟩;obtain⟨u,r,l⟩:=hl i x v e1 e2 e3;refine⟨u,r,?_⟩;rcases l with l|⟨k,c,e,z⟩
  ·exact .inl l
  ·exact .inr ⟨k,c,e,cellK x c e _ z⟩
 ·obtain⟨v,z⟩:=I.cell x c e;exact⟨v,cellK x c e v z⟩
 ·obtain⟨m,⟨o,_,_,ho,_⟩,_⟩:=I.loc;exact free _ o (λz=>(sQ _ z).2.1 rfl) ho I.free
 ·obtain⟨v,o,ho,hd⟩:=I.cell x c e;exact free c o (λz=>(sQ c z).2.2.1 x c e rfl) ho (I.gN x c e)
 ·obtain⟨e,n,ne,nf,d⟩:=I.pin p hp;have Lr:p.1∉ch:=λz=>(sQ p.1 z).2.2.2 p hp rfl;exact⟨keep p.1 p.2 ne nf Lr e n,free p.1 p.2 Lr e n,ne,nf,d⟩
theorem Inv.un {t':Nat}(I:Inv X pins σ H s)(u:Un X.fs [] H H' s.heap h')(bx:ip X.prog X.w H' h'):Inv X pins σ H' {s with heap:=h',toks:=t'}:=by
 obtain⟨m,⟨o,es,ep,ho,r⟩,_⟩:=id I.loc;obtain⟨sl,hL⟩:=u.any ho I.free (by simp)
 exact I.step (g':=s.gens) (d':=s.drawn) (ch:=[]) (λ_ z=>nomatch z) (λb o _ hb _ e n=>u.keep b o e n hb (by simp)) (λb o _ hb _ e n=>u.slot b o e n hb (by simp)) (λb o _ e n=>u.free b o e n (by simp)) (λb o _ e=>u.there b o e (by simp)) u.pL u.nG u.pN (λm' hm=>by
  obtain⟨o',eC,qF,EG,r'⟩:=hm;rw[ho]at EG;cases EG;exact⟨_,eC,qF,hL,r'⟩) bx I.bare
theorem Inv.call {g':Array GenState}{t':Nat}{d':Drawn}{ch:List Addr}(I:Inv X pins σ H s)(u:Un (BN X.stack) ch H H' s.heap h')(bx:ip X.prog X.w H' h')(hg:AllBare g')
  (sQ:∀b∈ch,(b∈X.ex\/X.s₀.heap.objs.size<=b)/\b≠X.env.locals/\(∀x c,X.env.cells.lookup x=some c->c≠b)/\∀p∈X.pn++pins,p.1≠b) :
  Inv X pins σ H' {s with heap:=h',gens:=g',drawn:=d',toks:=t'}:=by
 obtain⟨m,⟨o,es,ep,ho,r⟩,_⟩:=id I.loc;obtain⟨sl,hL⟩:=u.any ho I.free λz=>(sQ _ z).2.1 rfl;exact I.step (ch:=ch) sQ (λb o hL hb hc e n=>u.keep b o e n (λz=>(WG.mp (I.uF b z)).elim hL hb) hc) (λb o _ _ hc e n=>u.any e n hc) (λb o hc e n=>u.free b o e n hc) (λb o hc e=>u.there b o e hc) u.pL u.nG u.pN (λm' hm=>by
  obtain⟨o',eC,qF,EG,r'⟩:=hm;rw[ho]at EG;cases EG;exact⟨_,eC,qF,hL,r'⟩) bx hg
theorem Inv.turned {t':Nat}{it:Addr}(I:Inv X pins σ H s)(k:∀b o,b≠it->s.heap.get? b=some o->h'.get? b=some o)(hn:H it=none)(hL:it≠X.env.locals)
  (h1:it∈X.ex\/X.s₀.heap.objs.size<=it) (h2:∀x c,X.env.cells.lookup x=some c->c≠it) (h3:∀p∈X.pn++pins,p.1≠it):Inv X pins σ H {s with heap:=h',toks:=t'}:=by
 have SF:∀b u,H b=some u->b≠it:=λb u e z=>by rw[z,hn]at e;cases e
 refine I.step (g':=s.gens) (d':=s.drawn) (ch:=[it]) (λb hb=>?_) (λb o _ _ hc e _=>k b o (λz=>hc (by simp[z])) e) (λb o _ _ hc e _=>⟨o.slots,k b o (λz=>hc (by simp[z])) e⟩) (λ_ _ _ _ n=>n)
  (λb o hc e=>⟨o,k b o (λz=>hc (by simp[z])) e⟩) (λ_ _ e=>e) (λ_ _ _ e=>e) (λb ps e=>⟨#[],by rw[e];simp⟩) (λm hm=>?_) (λb u e=>?_) I.bare
 ·have e:b=it:=by simpa using hb
  subst e;exact⟨h1,hL,h2,h3⟩
 ·obtain⟨o,es,ep,ho,r⟩:=hm;exact⟨o,es,ep,k _ o (X6 hL) ho,r⟩
 ·refine(I.bx b u e).rg (λc v hc q=>k c v ?_ q) (λ_ q=>q) λ_ _ q=>q;rcases hc with z|z
  ·rw[z];exact SF b u e
  ·exact SF c _ z
theorem Inv.tok (I:Inv X pins σ H s)(t:Nat):Inv X pins σ H {s with toks:=t}:=I.un (h':=s.heap) (t':=t) Un.refl I.bx
theorem Inv.kept {t':Nat}(I:Inv X pins σ H s)(k:∀b u,s.heap.get? b=some u->h'.get? b=some u):Inv X pins σ H {s with heap:=h',toks:=t'}:=I.un (Un.kept k) (I.bx.kept k)
theorem Inv.laid {a:Addr}{o:HO}{t':Nat}(I:Inv X pins σ H s)(k:∀b u,s.heap.get? b=some u->h'.get? b=some u)(hp:s.heap.objs.size<=a)(new:a6 X.prog X.w (upd H a o) h' a o):
  Inv X pins σ (upd H a o) {s with heap:=h',toks:=t'}:=I.un (Un.laid k hp (I.bx.fresh hp)) (I.bx.laid k hp new)
theorem Inv.write {x e:Addr}{o:HO}{t':Nat}(I:Inv X pins σ H s)(mu:Nt (H x))(he:e=x\/H e=some (.own x))(k:∀b u,b≠e->s.heap.get? b=some u->h'.get? b=some u)(J8:∃u,h'.get? e=some u)
  (new:a6 X.prog X.w (upd H x o) h' x o):Inv X pins σ (upd H x o) {s with heap:=h',toks:=t'}:=I.un (Un.write mu he k J8) (I.bx.write mu he k J8 new)
theorem Inv.wo {FK:List (Addr×Obj)}(I:Inv X pins σ H s)(h:∀p∈FK,s.heap.get? p.1=some p.2/\H p.1=none/\p.1≠X.env.locals/\p.1∉X.fs/\∀v,p.2.data≠.cell v):Inv X FK σ H s :=
 ⟨I.ok,I.os,I.bare,I.base,I.loc,I.cell,I.free,I.gN,λp hp=>(W4.mp hp).elim (λz=>I.pin p (X1 _ z)) (h p),I.bx,I.len⟩
theorem rW {N:List Str}(hN:N.Nodup){i j:Nat}{x:Str}(a:N[i]?=some x)(b:N[j]?=some x):i=j:=by
 obtain⟨h1,e1⟩:=W3.mp a;obtain⟨h2,e2⟩:=W3.mp b;exact(List.getElem_inj hN).mp (e1.trans e2.symm)
theorem nX {M:Model}{A:XA}{E:WC->WE->Prop}{i:Nat}{x:Str}{v:V}{u:WC}{Q:Unit->WE->Prop}(I:Inv X pins σ H s)(hN:X.N.Nodup)(hi:X.N[i]?=some x)(hx:Loc X.env.scope x)(r:RelV v u)
  (h:∀s',Inv X pins (σ.set i (some v)) H s'->(∃a,Yw a s.heap s'.heap/\(a=X.env.locals\/X.env.cells.lookup x=some a))->Q () s') (hf:X.fn x=true\/X.env.scope.names.lookup x=some .local:=by first|exact .inl rfl|exact .inr rfl|assumption):Xb M A (storeName X.env x u) Q E s:=by
 obtain⟨m,hn,hl⟩:=id I.loc;have Q8:(X.env.scope.kind==.class || (X.env.scope.kind==.module&&X.env.locals != X.env.globals))=false:=by rw[I.ok.kind];rfl
 have MT:i<σ.length:=by rw[I.len];exact(W3.mp hi).1
 have JE:=I.JE;have tracked:∀{a:Addr} {h':Heap},(∃o,s.heap.get? a=some o/\H a=none)->Yw a s.heap h'->ip X.prog X.w H h':=λ{a h'} ha hs b ob e=>by
  obtain⟨_,_,Gf⟩:=ha;refine(I.bx b ob e).rg (λc w' hc q=>(hs.2 c ?_).trans q) (λ_ q=>q) λ_ _ q=>q;rintro rfl;rcases hc with rfl|hc
  ·rw[Gf]at e;cases e
  ·rw[Gf]at hc;cases hc
 rcases hx with hk|hk
 ·refine wpAny_storeName_local hk hn (λh' EH hs=>?_) Q8;obtain⟨oL,_,_,U3,_⟩:=id hn;refine h _ ⟨I.ok,I.os,I.bare,⟨λb o e n hb hx=>?_,λb o e n hb hx=>?_,I.base.free,λb o e hx=>?_,I.base.pL,I.base.nG,I.base.pN⟩,⟨_,EH,λj y v' e1 e2 e3=>?_⟩,λy c e=>?_,I.free,I.gN,λp hp=>?_,tracked ⟨oL,U3,I.free⟩ hs,by simpa using I.len⟩ ⟨_,hs,.inl rfl⟩
  ·exact(hs.2 b (Xk (Xn (W5 e) I.ok.above))).trans (I.base.keep b o e n hb hx)
  ·obtain⟨sl,e1⟩:=I.base.slot b o e n hb hx;exact⟨sl,(hs.2 b (Xk (Xn (W5 e) I.ok.above))).trans e1⟩
  ·obtain⟨o',e1⟩:=I.base.there b o e hx;exact⟨o',(hs.2 b (Xk (Xn (W5 e) I.ok.above))).trans e1⟩
  ·by_cases hj:j=i
   ·subst hj;rw[hi]at e1;cases e1;rw[List.getElem?_set_self MT]at e2;cases e2;exact⟨u,r,.inl ⟨hk,by simp⟩⟩
   ·rw[List.getElem?_set_ne (X6 hj)]at e2;obtain⟨u',r',q⟩:=hl j y v' e1 e2 e3;refine⟨u',r',?_⟩;rcases q with⟨k,e⟩|⟨k,c,e,z⟩
    ·refine .inl ⟨k,?_⟩;have:y≠x:=λe=>hj (rW hN e1 (e▸hi));simp[this,e]
    ·exact .inr ⟨k,c,e,z.sameBut hs (JE y c e)⟩
  ·obtain⟨w',z⟩:=I.cell y c e;exact⟨w',z.sameBut hs (JE y c e)⟩
  ·obtain⟨e,n,ne,nf,d⟩:=I.pin p hp;exact⟨(hs.2 p.1 ne).trans e,n,ne,nf,d⟩
 ·have Q3:X.fn x=true:=by
   rcases hf with z|z
   ·exact z
   ·rw[z]at hk;cases hk
  obtain⟨c,hc⟩:=I.ok.has x (.inl hk);obtain⟨w',z⟩:=I.cell x c hc;refine wpAny_storeName_cell I.ok.kind hk hc z (λh' oS hs=>?_);obtain⟨oc,Ja,QH⟩:=id z;refine h {s with heap:=h'} ⟨I.ok,I.os,I.bare,⟨λb o e n hb hx=>?_,λb o e n hb hx=>?_,I.base.free,λb o e hx=>?_,I.base.pL,I.base.nG,I.base.pN⟩,⟨m,hn.sameBut hs (X6 (JE x c hc)),λj y v' e1 e2 e3=>?_⟩,λy c' e=>?_,I.free,I.gN,λp hp=>?_,tracked ⟨oc,Ja,I.gN x c hc⟩ hs,by simpa using I.len⟩ ⟨c,hs,.inr hc⟩
  ·exact(hs.2 b (Xk (Xn (W5 e) (I.ok.Nj x c Q3 hc)))).trans (I.base.keep b o e n hb hx)
  ·obtain⟨sl,e1⟩:=I.base.slot b o e n hb hx;exact⟨sl,(hs.2 b (Xk (Xn (W5 e) (I.ok.Nj x c Q3 hc)))).trans e1⟩
  ·obtain⟨o',e1⟩:=I.base.there b o e hx;exact⟨o',(hs.2 b (Xk (Xn (W5 e) (I.ok.Nj x c Q3 hc)))).trans e1⟩
  ·by_cases hj:j=i
   ·subst hj;rw[hi]at e1;cases e1;rw[List.getElem?_set_self MT]at e2;cases e2;exact⟨u,r,.inr ⟨.inl hk,c,hc,oS⟩⟩
   ·rw[List.getElem?_set_ne (X6 hj)]at e2;obtain⟨u',r',q⟩:=hl j y v' e1 e2 e3;refine⟨u',r',?_⟩;rcases q with q|⟨k,c',e,z'⟩
    ·exact .inl q
    ·refine .inr ⟨k,c',e,z'.sameBut hs ?_⟩;rintro rfl;exact hj (rW hN e1 (I.ok.inj _ _ _ e hc▸hi))
  ·by_cases Gg:c'=c
   ·subst Gg;exact⟨_,oS⟩
   ·obtain⟨w2,z2⟩:=I.cell y c' e;exact⟨w2,z2.sameBut hs Gg⟩
  ·obtain⟨e,n,ne,nf,d⟩:=I.pin p hp;refine⟨(hs.2 p.1 ?_).trans e,n,ne,nf,d⟩;intro q;rw[q,Ja]at e;have q':oc=p.2:=Xp e;exact d w' (by rw[<- q'];exact QH)
theorem q_ {M:Model}{A:XA}{E:WC->WE->Prop}{i:Nat}{x:Str}{v:V}{u:WC}{Q:Unit->WE->Prop}(I:Inv X pins σ H s)(hN:X.N.Nodup)(hi:X.N[i]?=some x)(hx:Loc X.env.scope x)(r:RelV v u)
  (h:∀s',Inv X pins (σ.set i (some v)) H s'->Q () s') (hf:X.fn x=true\/X.env.scope.names.lookup x=some .local:=by first|exact .inl rfl|exact .inr rfl|assumption):Xb M A (storeName X.env x u) Q E s :=
 nX I hN hi hx r (λs' I' _=>h s' I') hf
theorem Inv.Ni {s':WE}{ch:List Addr}(I:Inv X pins σ H s)(ho:s'.os=s.os)(u:Un (BN X.stack) ch H H' s.heap s'.heap)(bx:ip X.prog X.w H' s'.heap)(hg:AllBare s'.gens)
  (sQ:∀b∈ch,(b∈X.ex\/X.s₀.heap.objs.size<=b)/\b≠X.env.locals/\(∀x c,X.env.cells.lookup x=some c->c≠b)/\∀p∈X.pn++pins,p.1≠b):Inv X pins σ H' s':=by
 obtain⟨h',g',d',t',o'⟩:=s';have e:o'=s.os:=ho;subst e;exact I.call (g':=g') (t':=t') (d':=d') u bx hg sQ
end
abbrev XK:=WC->Option Addr->Hp->Prop
abbrev St:=List (Option V)
abbrev VK:=V->Hp->Prop
abbrev TE:=St->Hp->VK->Prop
abbrev TT:=St->Hp->(Bool->Hp->Prop)->Prop
abbrev TA:=St->Hp->(List V->Hp->Prop)->Prop
structure Ends where
 nx:St->Hp->Prop
 rt:VK
 bk:St->Hp->Prop:=λ_ _=>False
 ct:St->Hp->Prop:=λ_ _=>False
abbrev TS:=Ends->St->Hp->Prop
def EP (X:Cx)(pins:List (Addr×Obj))(σ:St)(Q:VK)(u:WC)(s':WE):Prop:=∃v H',Inv X pins σ H' s'/\RelV v u/\Q v H'
def TP (X:Cx)(pins:List (Addr×Obj))(σ:St)(Q:Bool->Hp->Prop)(b:Bool)(s':WE):Prop:=∃H',Inv X pins σ H' s'/\Q b H'
def AP (X:Cx)(pins:List (Addr×Obj))(σ:St)(Q:List V->Hp->Prop)(us:List WC)(s':WE):Prop:=∃vs H',Inv X pins σ H' s'/\Vals vs us/\Q vs H'
def SP (X:Cx)(pins:List (Addr×Obj))(D:Ends)(f:Flow)(s':WE):Prop :=
 match f with
 |.next=>∃σ' H',Inv X pins σ' H' s'/\D.nx σ' H'
 |.brk=>∃σ' H',Inv X pins σ' H' s'/\D.bk σ' H'
 |.cont=>∃σ' H',Inv X pins σ' H' s'/\D.ct σ' H'
 |.ret u=>∃v σ' H',Inv X pins σ' H' s'/\RelV v u/\D.rt v H'
def PE (X:Cx)(e:Expr)(t:TE):Prop :=
 ∀(pins:List (Addr×Obj)) (s:WE) (σ:St) (H:Hp) (Q:VK),Inv X pins σ H s->t σ H Q->Xb (model X.prog X.w) X.A (eval e X.env) (EP X pins σ Q) X.xe s
def PT (X:Cx)(e:Expr)(t:TT):Prop :=
 ∀(pins:List (Addr×Obj)) (s:WE) (σ:St) (H:Hp) (Q:Bool->Hp->Prop),Inv X pins σ H s->t σ H Q->Xb (model X.prog X.w) X.A (isTrue e X.env (eval e X.env)) (TP X pins σ Q) X.xe s
def PW (X:Cx)(e:Expr)(t:TT):Prop :=
 ∀(whole:Sem WC) (pins:List (Addr×Obj)) (s:WE) (σ:St) (H:Hp) (Q:Bool->Hp->Prop),Inv X pins σ H s->t σ H Q->Xb (model X.prog X.w) X.A (isTrue e X.env whole) (TP X pins σ Q) X.xe s
theorem PW.pt {X:Cx}{e:Expr}{t:TT}(h:PW X e t):PT X e t:=h _
def PA (X:Cx)(es:List Expr)(t:TA):Prop :=
 ∀(pos:Pos) (pins:List (Addr×Obj)) (s:WE) (σ:St) (H:Hp) (Q:List V->Hp->Prop),Inv X pins σ H s->t σ H Q->Xb (model X.prog X.w) X.A (spliced (YM pos (WZ es X.env))) (AP X pins σ Q) X.xe s
def PS (X:Cx)(st:Stmt)(t:TS):Prop :=
 ∀(pins:List (Addr×Obj)) (s:WE) (σ:St) (H:Hp) (D:Ends),Inv X pins σ H s->t D σ H->Xb (model X.prog X.w) X.A (exec st X.env) (SP X pins D) X.xe s
def uo (X:Cx)(st:List Stmt)(t:TS):Prop :=
 ∀(pins:List (Addr×Obj)) (s:WE) (σ:St) (H:Hp) (D:Ends),Inv X pins σ H s->t D σ H->Xb (model X.prog X.w) X.A (execs st X.env) (SP X pins D) X.xe s
theorem bJ {α:Type}{t:Sem α}{Q Q':α->WE->Prop}{M:Model}{A:XA}{E:WC->WE->Prop}{s:WE}(h:Xb M A t Q E s)(hQ:∀a s,Q a s->Q' a s):Xb M A t Q' E s:=ZT h hQ λ_ _ x=>x
section
variable {X:Cx}
def Ks (i:Nat):TE:=λσ H Q=>∃v,σ[i]?=some (some v)/\Q v H
def tC (v:V):TE:=λ_ H Q=>Q v H
theorem dG {i:Nat} {x:Str} {pos:Pos} (hN:X.N[i]?=some x) (hv:xm X.env.scope x) (hd:(x==("__debug__" : Str))=false:=by decide) (ir:(x==("__classdict__" : Str))=false:=by decide):PE X (.Name x pos) (Ks i):=by
 intro pins s σ H Q I h;obtain⟨v,e,h⟩:=h;obtain⟨m,hn,hl⟩:=I.loc;obtain⟨u,r,l⟩:=hl i x v hN e hv;have fin:EP X pins σ Q u s:=⟨v,H,I,r,h⟩;rcases l with⟨hk,hm⟩|⟨hk,c,hc,oR⟩
 ·exact wpAny_Name (wpAny_loadName_local I.ok.kind hk hn hm fin) hd
 ·rcases hk with hk|hk
  ·exact wpAny_Name (wpAny_loadName_cell I.ok.kind hk hc oR fin) hd
  ·exact wpAny_Name (wpAny_loadName_free I.ok.kind hk hc oR fin ir) hd
theorem a8 {i j pos}:PE X (.Constant (.int i) j pos) (tC (.int i)):=λ_ _ _ H _ I h=>wpAny_Constant_int ⟨.int i,H,I.tok _,⟨_,rfl⟩,h⟩
theorem FN {b j pos}:PE X (.Constant (.bool b) j pos) (tC (.bl b)):=λ_ _ _ H _ I h=>Constant_bool ⟨.bl b,H,I,rfl,h⟩
theorem HC {j pos}:PE X (.Constant .none j pos) (tC .bU):=λ_ _ _ H _ I h=>Constant_none ⟨.bU,H,I,rfl,h⟩
def Gl (X:Cx)(x:Str):Prop:=X.env.kindOf x=some .globalImplicit
theorem Ep {E:WC->WE->Prop}{pins:List (Addr×Obj)}{s:WE}{σ:St}{H:Hp}{x:Str}{u:WC}{pos:Pos}{Q:WC->WE->Prop}(I:Inv X pins σ H s)(hg:Gl X x)(hm:X.mg x=some u)(h:Q u s)
  (hd:(x==("__debug__" : Str))=false:=by decide):Xb (model X.prog X.w) X.A (eval (.Name x pos) X.env) Q E s :=
 Calls.Name_function_global I.ok.kind hg (Calls.loadGlobal_global (by rw[I.ok.glob];exact I.mod.glob.keeps I.bk) hm h) hd
theorem h7 {E:WC->WE->Prop}{pins:List (Addr×Obj)}{s:WE}{σ:St}{H:Hp}{x:Str}{u:WC}{pos:Pos}{Q:WC->WE->Prop}(I:Inv X pins σ H s)(hg:Gl X x)(hm:X.mg x=none)(hv:XC x=some u)(h:Q u s)
  (hn:x≠"__name__" := by decide) (hd:(x==("__debug__" : Str))=false:=by decide):Xb (model X.prog X.w) X.A (eval (.Name x pos) X.env) Q E s:=by
 obtain⟨mb,h1,h2⟩:=I.mod.blt;exact Calls.Name_function_global I.ok.kind hg (Calls.loadGlobal_builtin (by rw[I.ok.glob];exact I.mod.glob.keeps I.bk) hm (by rw[I.ok.blt];exact h1.keeps I.bk) ((h2 x hn).trans hv) h) hd
theorem qb {x:Str} {v:V} {u:WC} {pos:Pos} (hg:Gl X x) (hm:X.mg x=none) (hv:XC x=some u) (r:RelV v u) (hn:x≠"__name__" := by decide) (hd:(x==("__debug__" : Str))=false:=by decide):PE X (.Name x pos) (tC v) :=
 λ_ _ _ H _ I h=>h7 I hg hm hv ⟨v,H,I,r,h⟩ hn hd
variable {a b:Expr}{ta tb:TE}{pos:Pos}
theorem rX (b:Expr){op:Z1}(h:op≠.In)(h2:op≠.NotIn):Y7 op b=false:=by
 have e1:(op==CmpOp.In)=false:=by cases op <;> first|rfl|exact absurd rfl h
 have e2:(op==CmpOp.NotIn)=false:=by cases op <;> first|rfl|exact absurd rfl h2
 cases b <;> simp[Y7,e1,e2]
def tB (t:TE):TT:=λσ H Q=>t σ H λx H1=>∃c,x=.bl c/\Q c H1
theorem Ho {e:Expr}{t:TE}(h:PE X e t)(he:∀whole,isTrue e X.env whole=(do let v <- whole;standAt e.pos;holding [v] (truthy v)):=by intro _;rfl):PT X e (tB t):=by
 intro pins s σ H Q I hw;refine isTrue_plain (bJ (h pins s σ H _ I hw) λv s1 ⟨x,H1,I1,r1,q1⟩=>?_) (he _);obtain⟨d,rfl,q⟩:=q1;cases r1;exact Yo ⟨H1,I1,q⟩
variable {tA NK:TT}{rest:List Expr}
def OT (t u:TT):TT:=λσ H Q=>t σ H λc H1=>if c=true then u σ H1 Q else Q false H1
def T3 (t u:TT):TT:=λσ H Q=>t σ H λc H1=>if c=true then Q true H1 else u σ H1 Q
def ON (t:TT):TT:=λσ H Q=>t σ H λc H1=>Q (!c) H1
theorem pw_and1 (ha:PT X a tA):PW X (.BoolOp .And [a] pos) tA:=by
 intro wh pins s σ H Q I h;refine isTrue_and (bJ (ha pins s σ H Q I h) λc s1 e=>?_);cases c with
 |true=>exact isTrue_and_nil e
 |false=>exact e
theorem pw_or1 (ha:PT X a tA):PW X (.BoolOp .Or [a] pos) tA:=by
 intro wh pins s σ H Q I h;refine isTrue_or (bJ (ha pins s σ H Q I h) λc s1 e=>?_);cases c with
 |false=>exact isTrue_or_nil e
 |true=>exact e
theorem pw_and (ha:PT X a tA)(hb:PW X (.BoolOp .And (b::rest) pos) NK):PW X (.BoolOp .And (a::b::rest) pos) (OT tA NK):=by
 intro wh pins s σ H Q I h;refine isTrue_and (bJ (ha pins s σ H _ I h) λc s1 ⟨H1,I1,q1⟩=>?_);cases c with
 |true=>exact hb wh pins s1 σ H1 Q I1 q1
 |false=>exact⟨H1,I1,q1⟩
theorem pw_or (ha:PT X a tA)(hb:PW X (.BoolOp .Or (b::rest) pos) NK):PW X (.BoolOp .Or (a::b::rest) pos) (T3 tA NK):=by
 intro wh pins s σ H Q I h;refine isTrue_or (bJ (ha pins s σ H _ I h) λc s1 ⟨H1,I1,q1⟩=>?_);cases c with
 |true=>exact⟨H1,I1,q1⟩
 |false=>exact hb wh pins s1 σ H1 Q I1 q1
theorem Hq (ha:PT X a tA):PT X (.UnaryOp .Not a pos) (ON tA):=by
 intro pins s σ H Q I h;exact isTrue_not (ha pins s σ H (λc H1=>Q (!c) H1) I h)
def KH (ta tb:TE):TE:=λσ H Q=>ta σ H λx H1=>∃c,x=.bl c/\if c=true then tb σ H1 Q else Q (.bl false) H1
def OM (ta tb:TE):TE:=λσ H Q=>ta σ H λx H1=>∃c,x=.bl c/\if c=true then Q (.bl true) H1 else tb σ H1 Q
def Kx (ta:TE):TE:=λσ H Q=>ta σ H λx H1=>∃c,x=.bl c/\Q (.bl (!c)) H1
theorem HA {op}{t:TE}(h:PE X a t):PE X (.BoolOp op [a] pos) t:=λpins s σ H Q I hw=>BoolOp_one (h pins s σ H Q I hw)
theorem HE (ha:PE X a ta)(hb:PE X (.BoolOp .And (b::rest) pos) tb):PE X (.BoolOp .And (a::b::rest) pos) (KH ta tb):=by
 intro pins s σ H Q I h;refine BoolOp_and (bJ (ha pins s σ H _ I h) λv s1 ⟨x,H1,I1,r1,q1⟩=>?_);obtain⟨c,rfl,q1⟩:=q1;cases r1;refine Yo ?_;cases c with
 |true=>exact hb pins s1 σ H1 Q I1 q1
 |false=>exact⟨.bl false,H1,I1,rfl,q1⟩
theorem K_ (ha:PE X a ta)(hb:PE X (.BoolOp .Or (b::rest) pos) tb):PE X (.BoolOp .Or (a::b::rest) pos) (OM ta tb):=by
 intro pins s σ H Q I h;refine BoolOp_or (bJ (ha pins s σ H _ I h) λv s1 ⟨x,H1,I1,r1,q1⟩=>?_);obtain⟨c,rfl,q1⟩:=q1;cases r1;refine Yo ?_;cases c with
 |false=>exact hb pins s1 σ H1 Q I1 q1
 |true=>exact⟨.bl true,H1,I1,rfl,q1⟩
theorem HB (ha:PE X a ta):PE X (.UnaryOp .Not a pos) (Kx ta):=by
 intro pins s σ H Q I h;refine UnaryOp_ (bJ (ha pins s σ H _ I h) λv s1 ⟨x,H1,I1,r1,q1⟩=>?_);obtain⟨c,rfl,q1⟩:=q1;cases r1;exact not_of (Yo ⟨.bl (!c),H1,I1,rfl,q1⟩)
end
def c0 (K:PySem.W.Frag)(H:Hp)(a:Addr)(xs:List V):Prop :=
 Rd H a (.lst xs) \/
  ∃(o:Obj) (its:Array WC) (n:Nat),K.lookup a=some o/\o.cls=.type "list" /\ o.dict=none/\o.data=.seq its n/\its.size<=W7/\Vals xs its.toList
def t9 (K:PySem.W.Frag)(H:Hp)(a:Addr)(xs:List V):Prop :=
 Rd H a (.tup xs) \/
  ∃(o:Obj) (its:Array WC) (n:Nat),K.lookup a=some o/\o.cls=.type "tuple" /\ o.data=.seq its n/\its.size<=W7/\Vals xs its.toList
def RJ:WC->Option V
 |.none=>some .bU
 |.bool b=>some (.bl b)
 |.int i _=>some (.int i)
 |.str x _=>some (.str x)
 |.bytes b _=>some (.Fn b)
 |.float b _=>some (.Jt b)
 |.ref a=>some (.ref a)
 |.type n=>some (.ty n)
 |_=>none
theorem RelV.abs {x:V}{u:WC}(r:RelV x u):RJ u=some x:=by
 cases x with
 |bU=>cases r;rfl
 |bl _=>cases r;rfl
 |int _=>obtain⟨t,rfl⟩:=r;rfl
 |str _=>obtain⟨t,rfl⟩:=r;rfl
 |Fn _=>obtain⟨t,rfl⟩:=r;rfl
 |Jt _=>obtain⟨t,rfl⟩:=r;rfl
 |ref _=>cases r;rfl
 |ty _=>cases r;rfl
theorem RelV.inj {x y:V}{u:WC}(r:RelV x u)(q:RelV y u):x=y:=Xp (r.abs.symm.trans q.abs)
theorem Vals.inj:∀{xs ys:List V} {us:List WC},Vals xs us->Vals ys us->xs=ys
 |_,_,_,.nil,.nil=>rfl
 |_,_,_,.cons r t,.cons r' t'=>by rw[r.inj r',Vals.inj t t']
section
variable {X:Cx}{pins:List (Addr×Obj)}{σ:St}{H:Hp}{s:WE}{a:Addr}{xs ys:List V}
theorem c0.of {K:PySem.W.Frag}(h:H a=some (.lst xs)):c0 K H a xs:=.inl (.inl h)
theorem t9.of {K:PySem.W.Frag}(h:H a=some (.tup xs)):t9 K H a xs:=.inl (.inl h)
theorem Inv.list (I:Inv X pins σ H s)(h:c0 X.K H a xs):∃its:List WC,Vals xs its/\PlainL s.heap a its.toArray/\xs.length<=W7:=by
 rcases h with h|⟨o,its,n,hk,hc,hd,hs,hz,r⟩
 ·obtain⟨z,its,n,r,e⟩:=h.ok I.bx;exact⟨its,r,⟨_,n,e,rfl,rfl,rfl⟩,z⟩
 ·refine⟨its.toList,r,⟨o,n,I.jD a o hk,hc,hd,by simpa using hs⟩,?_⟩
  have e:=r.length;simp only[WM]at e;lia
theorem Inv.tuple (I:Inv X pins σ H s)(h:t9 X.K H a xs):∃its:List WC,Vals xs its/\IsTup s.heap a its.toArray/\xs.length<=W7:=by
 rcases h with h|⟨o,its,n,hk,hc,hs,hz,r⟩
 ·obtain⟨z,its,r,p⟩:=h.ok I.bx;exact⟨its,r,p,z⟩
 ·refine⟨its.toList,r,⟨o,I.jD a o hk,hc,n,by simpa using hs⟩,?_⟩
  have e:=r.length;simp only[WM]at e;lia
theorem Inv.Bc (I:Inv X pins σ H s)(h:c0 X.K H a xs)(h':c0 X.K H a ys):xs=ys:=by
 obtain⟨its,r,⟨o,n,e,_,_,d⟩,_⟩:=I.list h;obtain⟨its',r',⟨o',n',e',_,_,d'⟩,_⟩:=I.list h';rw[e]at e';cases e';rw[d]at d';injection d' with d1 _
 have:its=its':=by simpa using congrArg Array.toList d1
 subst this;exact r.inj r'
end
abbrev Cx.nh (X:Cx)(E:WC->WE->Prop):Cx:={X with xe:=E}
abbrev Cx.FR (X:Cx):Cx:=X.nh λ_ _=>False
theorem Cx.Ok.nh {X:Cx}(ok:X.Ok)(E:WC->WE->Prop):(X.nh E).Ok :=
 ⟨ok.mod,ok.kind,ok.glob,ok.blt,ok.above,ok.inj,ok.has,ok.Nj,ok.hd,ok.frames,ok.NM,ok.Oi,ok.bs,ok.Gx,ok.AS,ok.BW,ok.mC,ok.Ka⟩
theorem Cx.Ok.fG {X:Cx}{E:WC->WE->Prop}(ok:(X.nh E).Ok):X.Ok :=
 ⟨ok.mod,ok.kind,ok.glob,ok.blt,ok.above,ok.inj,ok.has,ok.Nj,ok.hd,ok.frames,ok.NM,ok.Oi,ok.bs,ok.Gx,ok.AS,ok.BW,ok.mC,ok.Ka⟩
section
variable {X:Cx}{pins:List (Addr×Obj)}{σ:St}{H:Hp}{s:WE}{E:WC->WE->Prop}
theorem Inv.nh (I:Inv X pins σ H s)(E:WC->WE->Prop):Inv (X.nh E) pins σ H s:=⟨I.ok.nh E,I.os,I.bare,I.base,I.loc,I.cell,I.free,I.gN,I.pin,I.bx,I.len⟩
theorem Inv.fG (I:Inv (X.nh E) pins σ H s):Inv X pins σ H s:=⟨I.ok.fG,I.os,I.bare,I.base,I.loc,I.cell,I.free,I.gN,I.pin,I.bx,I.len⟩
theorem SP.fG {D:Ends}{f:Flow}{s':WE}(h:SP (X.nh E) pins D f s'):SP X pins D f s':=by
 cases f with
 |next=>obtain⟨σ',H',I,q⟩:=h;exact⟨σ',H',I.fG,q⟩
 |brk=>obtain⟨σ',H',I,q⟩:=h;exact⟨σ',H',I.fG,q⟩
 |cont=>obtain⟨σ',H',I,q⟩:=h;exact⟨σ',H',I.fG,q⟩
 |ret u=>obtain⟨v,σ',H',I,r,q⟩:=h;exact⟨v,σ',H',I.fG,r,q⟩
theorem uo.FR {st:List Stmt}{t:TS}(h:uo X.FR st t):uo X st t:=λpins s σ H D I hw =>
 ZT (h pins s σ H D (I.nh _) hw) (λ_ _ q=>q.fG) λ_ _ z=>Zi z
end
section
variable {X:Cx}{st:Stmt}{rest:List Stmt}{t u:TS}{e:Expr}{te:TE}{pos:Pos}
def Kz:TS:=λD σ H=>D.nx σ H
def OK (t u:TS):TS:=λD σ H=>t {D with nx:=u D} σ H
theorem v9:uo X [] Kz:=λ_ _ σ H _ I h=>wpAny_execs_nil ⟨σ,H,I,h⟩
theorem dF (h1:PS X st t)(h2:uo X rest u):uo X (st::rest) (OK t u):=by
 intro pins s σ H D I h;refine wpAny_execs_cons (bJ (h1 pins s σ H {D with nx:=u D} I h) λf s1 q=>?_)
 cases f with
 |next =>
  obtain⟨σ',H',I',q⟩:=q;exact h2 pins s1 σ' H' D I' q
 |ret v=>exact q
 |brk=>exact q
 |cont=>exact q
theorem iH (h1:PS X st t):uo X [st] t:=by
 intro pins s σ H D I h;refine wpAny_execs_cons (bJ (h1 pins s σ H D I h) λf s1 q=>?_);cases f with
 |next=>exact wpAny_execs_nil q
 |ret v=>exact q
 |brk=>exact q
 |cont=>exact q
theorem Inv.quiet {pins:List (Addr×Obj)}{σ:St}{H:Hp}{s:WE}(I:Inv X pins σ H s):interactive X.env=false:=by simp[interactive,I.ok.kind]
def KC (te:TE):TS:=λD σ H=>te σ H λ_ H1=>D.nx σ H1
theorem pX (he:PE X e te)(hs:Zl e none pos.line X.env=pure false:=by rfl):PS X (.Expr e pos) (KC te):=by
 intro pins s σ H D I h;exact wpAny_Expr_any (bJ (he pins s σ H _ I h) λv s1 By=>by obtain⟨x,H1,I1,r1,q1⟩:=By;exact⟨σ,H1,I1,q1⟩) I.quiet hs
def OL (te:TE):TS:=λD σ H=>te σ H D.rt
theorem jw (he:PE X e te):PS X (.Return (some e) pos) (OL te):=by
 intro pins s σ H D I h;exact wpAny_Return_some (bJ (he pins s σ H _ I h) λv s1 Bx=>by obtain⟨x,H1,I1,r1,q1⟩:=Bx;exact⟨x,σ,H1,I1,r1,q1⟩)
def OP (c:TT)(t u:TS):TS:=λD σ H=>c σ H λb H1=>if b=true then t D σ H1 else u D σ H1
theorem FJ {c:Expr}{a b:List Stmt}{tc:TT}(hc:PT X c tc)(ha:uo X a t)(hb:uo X b u):PS X (.If c a b pos) (OP tc t u):=by
 intro pins s σ H D I h;refine wpAny_If (bJ (hc pins s σ H _ I h) λd s1 ⟨H1,I1,q1⟩=>?_);cases d with
 |true=>exact ha pins s1 σ H1 D I1 q1
 |false=>exact hb pins s1 σ H1 D I1 q1
end
abbrev TG:=V->St->Hp->(St->Hp->Prop)->Prop
abbrev Gy:=List V->St->Hp->(St->Hp->Prop)->Prop
def PG (X:Cx)(target:Expr)(t:TG):Prop :=
 ∀(pins:List (Addr×Obj)) (s:WE) (σ:St) (H:Hp) (v:V) (u:WC) (Q:St->Hp->Prop),Inv X pins σ H s->RelV v u->t v σ H Q ->
  Xb (model X.prog X.w) X.A (assign target X.env u) (λ_ s'=>∃σ' H',Inv X pins σ' H' s'/\Q σ' H') X.xe s
def GC (X:Cx)(ts:List Expr)(t:Gy):Prop :=
 ∀(pins:List (Addr×Obj)) (s:WE) (σ:St) (H:Hp) (vs:List V) (us:List WC) (Q:St->Hp->Prop),Inv X pins σ H s->Vals vs us->t vs σ H Q ->
  Xb (model X.prog X.w) X.A (assignInOrder ((YS ts X.env).map (·.2)) us) (λ_ s'=>∃σ' H',Inv X pins σ' H' s'/\Q σ' H') X.xe s
abbrev JP:=V->V->V->Hp->(Hp->Prop)->Prop
def Nq (X:Cx)(t:JP):Prop :=
 ∀(pins:List (Addr×Obj)) (s:WE) (σ:St) (H:Hp) (o i v:V) (ov iv u:WC) (Q:Hp->Prop),Inv X pins σ H s->RelV o ov->RelV i iv->RelV v u->t o i v H Q ->
  Xb (model X.prog X.w) X.A (setItem ov iv u) (λ_ s'=>∃H',Inv X pins σ H' s'/\Q H') X.xe s
section
variable {X:Cx}{pos:Pos}
def Gj (i:Nat):TG:=λv σ H Q=>Q (σ.set i (some v)) H
theorem DI {i:Nat}{x:Str}(hN:X.N.Nodup)(hi:X.N[i]?=some x)(hx:Loc X.env.scope x)(hf:X.fn x=true\/X.env.scope.names.lookup x=some .local:=by first|exact .inl rfl|exact .inr rfl|assumption):PG X (.Name x pos) (Gj i):=by
 intro pins s σ H v u Q I r h;exact wpAny_assign_Name (q_ I hN hi hx r (λs' I'=>⟨_,H,I',h⟩) hf)
def Jq:Gy:=λvs σ H Q=>vs=[]/\Q σ H
def BL (t:TG)(u:Gy):Gy:=λvs σ H Q=>∃v r,vs=v::r/\t v σ H λσ' H'=>u r σ' H' Q
theorem DH:GC X [] Jq:=by
 intro pins s σ H vs us Q I r h;obtain⟨e,h⟩:=h;subst e;cases r;exact assignInOrder_nil ⟨σ,H,I,h⟩
theorem Aw {e:Expr}{es:List Expr}{t:TG}{u:Gy}(h1:PG X e t)(h2:GC X es u)
  (hs:(YS (e::es) X.env).map (·.2)=assign e X.env::(YS es X.env).map (·.2):=by rfl):GC X (e::es) (BL t u):=by
 intro pins s σ H vs us Q I r h;obtain⟨v,vr,e1,h⟩:=h;subst e1;cases r with
 |cons r rr =>
  rw[hs];refine assignInOrder_cons (bJ (h1 pins s σ H _ _ _ I r h) λ_ s1 ⟨σ1,H1,I1,q1⟩=>?_);exact h2 pins s1 σ1 H1 _ _ Q I1 rr q1
def Rj (K:PySem.W.Frag)(n:Nat)(t:Gy):TG:=λv σ H Q=>∃a xs,v=.ref a/\t9 K H a xs/\xs.length=n/\t xs σ H Q
theorem Hz {es:List Expr}{k:Nat}{t:Gy}{n:Nat}(hc:X.calm=true)(h:GC X es t)
  (hn:(YS es X.env).length=n:=by rfl) (L4:(YS es X.env).findIdx? (·.1)=none:=by rfl):PG X (.Tuple es k pos) (Rj X.K n t):=by
 intro pins s σ H v u Q I r hw;obtain⟨a,xs,e1,hq,hl,hw⟩:=hw;subst e1;cases r;obtain⟨its,rv,ht,hz⟩:=I.tuple hq;refine assign_Tuple_tuple (I.ok.hd hc) ht (by simp[hn,<- hl,rv.length]) L4 λh' hx=>?_
 have I1:Inv X pins σ H {s with heap:=h'}:=I.kept (t':=s.toks) λb o e=>hx b o (Xk (W5 e)) e
 exact h pins _ σ H xs _ Q I1 (by simpa using rv) hw
def Rk (to ti:TE)(t:JP):TG:=λv σ H Q=>to σ H λo H1=>ti σ H1 λi H2=>t o i v H2 λH3=>Q σ H3
theorem uV {o i:Expr}{to ti:TE}{t:JP}(ho:PE X o to)(hi:PE X i ti)(hs:Nq X t)
  (ha:∀v,assign (.Subscript o i pos) X.env v=(do
   let ov <- holding [v] (eval o X.env)
   let iv <- holding [v,ov] (eval i X.env)
   standAt pos
   holding [v,ov,iv] (setItem ov iv v)
   release [v,ov,iv] []):=by intro _;rfl):PG X (.Subscript o i pos) (Rk to ti t):=by
 intro pins s σ H v u Q I r h;rw[ha];refine WA (Yd (bJ (ho pins s σ H _ I h) λov s1 ⟨x,H1,I1,r1,q1⟩=>?_));refine WA (Yd (bJ (hi pins s1 σ H1 _ I1 q1) λiv s2 ⟨y,H2,I2,r2,q2⟩=>?_));refine WA (Y6 (WA (Yd (bJ (hs pins s2 σ H2 x y v ov iv u _ I2 r1 r2 r q2) λ_ s3 ⟨H3,I3,q3⟩=>?_))));exact wpAny_release ⟨σ,H3,I3,q3⟩
def KG (te:TE)(g:TG):TS:=λD σ H=>te σ H λx H1=>g x σ H1 D.nx
theorem pY {tg e:Expr}{te:TE}{g:TG}(he:PE X e te)(hg:PG X tg g)(hs:swapsWithSole [tg] e pos.line X.env=pure false:=by rfl)(hw:swappedStores [tg] e X.env=pure none:=by rfl)
  (h1:(YS [tg] X.env).map (·.2)=[assign tg X.env]:=by rfl):PS X (.Assign [tg] e pos) (KG te g):=by
 intro pins s σ H D I h;refine wpAny_Assign_stores (bJ (he pins s σ H _ I h) λv s1 ⟨x,H1,I1,r1,q1⟩=>?_) hs hw;rw[h1];exact bJ (hg pins s1 σ H1 x v _ I1 r1 q1) λ_ s2 q=>q
theorem uR {i:Nat}{x:Str}{e:Expr}{te:TE}{pos':Pos}(hN:X.N.Nodup)(hi:X.N[i]?=some x)(hx:Loc X.env.scope x)(he:PE X e te)(hs:Zl e (some (.Name x pos')) pos.line X.env=pure false:=by rfl)(hf:X.fn x=true\/X.env.scope.names.lookup x=some .local:=by first|exact .inl rfl|exact .inr rfl|assumption):
  PS X (.Assign [.Name x pos'] e pos) (KG te (Gj i)):=by
 intro pins s σ H D I h;refine wpAny_Assign_Name (bJ (he pins s σ H _ I h) λv s1 ⟨y,H1,I1,r1,q1⟩=>?_) hs;exact q_ I1 hN hi hx r1 (λs2 I2=>⟨_,H1,I2,q1⟩) hf
end
section
end
structure It where
 go:Nat->Hp->Prop
 Ko:Nat->Hp->V->Hp->Prop
 stop:Nat->Hp->Prop
def f6 (X:Cx)(pins:List (Addr×Obj))(H:Hp)(b:Addr):Prop :=
 H b=none/\b≠X.env.locals/\b∉X.fs/\(b∈X.ex\/X.s₀.heap.objs.size<=b)/\(∀x c,X.env.cells.lookup x=some c->c≠b)/\∀p∈X.pn++pins,p.1≠b
theorem Inv.BO {X:Cx}{pins:List (Addr×Obj)}{σ:St}{H H':Hp}{s:WE}{b:Addr}(I:Inv X pins σ H s)(hb:s.heap.objs.size<=b)(hn:H' b=none):f6 X pins H' b:=by
 refine⟨hn,Nat.ne_of_gt (Xn I.lt hb),I.PC hb,.inr (Xo I.sz hb),λx c e z=>?_,λp hp z=>?_⟩
 ·obtain⟨v,q⟩:=I.cell x c e;exact absurd (Xn q.lt (by rw[z];exact hb)) (ZG _)
 ·exact absurd (Xn (W5 (I.pin p hp).1) (by rw[z];exact hb)) (ZG _)
structure Turn (P:WI)(w:W6)(K:PySem.W.Frag)(tg:Expr)(J:It)(fp:List Addr)(it:Addr)(tn:Nat->Heap->Prop):Prop where
 mem:it∈fp
 obj:∀i h,tn i h->∀b∈fp,∃o,h.get? b=some o/\∀v,o.data≠.cell v
 keep:∀i h h',tn i h->(∀b∈fp,∀o,h.get? b=some o->h'.get? b=some o)->tn i h'
 item:∀(X:Cx),X.prog=P->X.w=w->X.K=K->X.calm=true->∀(i:Nat) (pins:List (Addr×Obj)) (s:WE) (σ:St) (H:Hp) (E:WC->WE->Prop),Inv X pins σ H s->(∀b∈fp,f6 X pins H b)->tn i s.heap->J.go i H ->
  Xb (model P w) X.A (ZV (.ref it)) (λr s1=>∃u,r=some u /\
   Xb (model P w) X.A (letOwnedTupleGo tg (.ref it) u) (λ_ s2=>∃x H',Inv X pins σ H' s2/\RelV x u/\J.Ko i H x H'/\tn (i+1) s2.heap/\∀b∈fp,H' b=none) E s1) E s
 done:∀(X:Cx),X.prog=P->X.w=w->X.K=K->X.calm=true->∀(i:Nat) (pins:List (Addr×Obj)) (s:WE) (σ:St) (H:Hp) (E:WC->WE->Prop),Inv X pins σ H s->(∀b∈fp,f6 X pins H b)->tn i s.heap->J.stop i H ->
  Xb (model P w) X.A (ZV (.ref it)) (λr s1=>r=none/\Inv X pins σ H s1) E s
 self:∀(A:XA) (i:Nat) (s:WE) (Q:WC->WE->Prop) (E:WC->WE->Prop),tn i s.heap->Q (.ref it) s->Xb (model P w) A (pyIter (.ref it)) Q E s
abbrev TI:=St->Hp->(It->Hp->Prop)->Prop
def Kn (X:Cx)(pins:List (Addr×Obj))(σ:St)(tg:Expr)(R:It->Hp->Prop)(F1:WC)(s2:WE):Prop :=
 ∃(it:Addr) (fp:List Addr) (tn:Nat->Heap->Prop) (J:It) (H':Hp),F1=.ref it/\Inv X pins σ H' s2/\Turn X.prog X.w X.K tg J fp it tn/\tn 0 s2.heap/\(∀b∈fp,f6 X pins H' b)/\R J H'
def PI (X:Cx)(tg iter:Expr)(wi:TI):Prop :=
 ∀(pins:List (Addr×Obj)) (s:WE) (σ:St) (H:Hp) (R:It->Hp->Prop),Inv X pins σ H s->wi σ H R ->
  Xb (model X.prog X.w) X.A (eval iter X.env) (λv s1=>Xb (model X.prog X.w) X.A (pyIter v) (Kn X pins σ tg R) X.xe s1) X.xe s
theorem BK {M:Model}{A:XA}{E:WC->WE->Prop}{s:WE}{tg:Expr}{it:Addr}{u:WC}{o:Obj}{n:String}{vs:Array WC}{Q:Unit->WE->Prop}(ho:s.heap.get? it=some o)(hc:o.cls=.type n)(hd:o.data=.fields vs)
  (hn:["enumerate","zip","dict_itemiterator","dict_reverseitemiterator","odict_iterator","itertools.zip_longest","itertools.pairwise"].contains n=false) (hQ:Q () s):Xb M A (letOwnedTupleGo tg (.ref it) u) Q E s:=by
 unfold letOwnedTupleGo;cases tg <;> first
  |exact WJ hQ
  | (cases u <;> first
    |exact WJ hQ
    | (refine WA (wpAny_load ho ?_)
       rw[hc,hd];show Xb M A (if (["enumerate","zip","dict_itemiterator","dict_reverseitemiterator","odict_iterator","itertools.zip_longest","itertools.pairwise"].contains n&&vs[0]?==some (rawInt _))=true then _ else _) Q E s
       rw[if_neg (by intro h;rw[hn,Bool.false_and]at h;cases h)]
       exact WJ hQ))
def OA (K:PySem.W.Frag)(a:Addr):It :=
 ⟨λi H=>∃xs x,c0 K H a xs/\xs[i]?=some x,λi H x H'=>H'=H/\∀xs,c0 K H a xs->xs[i]?=some x,λi H=>∃xs,c0 K H a xs/\xs.length<=i⟩
def Nv (lo:Int)(n:Nat):It:=⟨λi _=>i<n,λi H x H'=>H'=H/\x=.int (lo+i),λi _=>n<=i⟩
theorem xu {P:WI}{w:W6}{K:PySem.W.Frag}{tg:Expr}(a it:Addr):Turn P w K tg (OA K a) [it] it (λi h=>h.IsListIter it a i) where
 mem:=by simp
 obj:=λi h st b hb=>by
  have e:b=it:=by simpa using hb
  subst e;obtain⟨o,e,c,d⟩:=st;exact⟨o,e,λv z=>by rw[d]at z;cases z⟩
 keep:=λi h h' st k=>st.at λo e=>k it (by simp) o e
 item:=by
  intro X hP hw hK hc i pins s σ H E I hf st hg;subst hP hw hK;obtain⟨xs,x,hq,hx⟩:=hg;obtain⟨its,rv,p,hz⟩:=I.list hq;obtain⟨u,hu,ru⟩:=rv.get hx;obtain⟨f0,f1,f2,f3,f4,f5⟩:=hf it (by simp)
  refine wpAny_pyNext_list_item st p.isList (x:=u) (by simpa using hu) λh' aA sb=>?_
  have I1:Inv X pins σ H {s with heap:=h'}:=I.turned (t':=s.toks) (λb o hb e=>(sb.2 b hb).trans e) f0 f1 f3 f4 f5
  obtain⟨o,e,c,d⟩:=id aA;exact⟨u,rfl,BK (s:={s with heap:=h'}) e c d (by decide) ⟨x,H,I1,ru,⟨rfl,λys hy=>by rw[I.Bc hy hq];exact hx⟩,aA,λb hb=>(hf b hb).1⟩⟩
 done:=by
  intro X hP hw hK hc i pins s σ H E I hf st hg;subst hP hw hK;obtain⟨xs,hq,hx⟩:=hg;obtain⟨its,rv,p,hz⟩:=I.list hq;obtain⟨f0,f1,f2,f3,f4,f5⟩:=hf it (by simp)
  have hl:=rv.length;exact wpAny_pyNext_list_end (I.ok.hd hc) st p.isList (by simp;lia) λh' eb=>⟨rfl,I.turned (t':=s.toks) (λb o hb e=>eb b o hb e) f0 f1 f3 f4 f5⟩
 self:=λ_ _ _ _ _ st h=>wpAny_pyIter_listiter st h
theorem uD {P:WI}{w:W6}{K:PySem.W.Frag}{tg:Expr}(it:Addr)(lo:Int)(n:Nat):Turn P w K tg (Nv lo n) [it] it (λi h=>IsRangeIter h it (lo+(i:Nat)*1) ((n:Int)-(i:Nat)) 1) where
 mem:=by simp
 obj:=λi h st b hb=>by
  have e:b=it:=by simpa using hb
  subst e;exact⟨_,st,λv z=>by
   have z':Data.fields _=Data.cell v:=z;cases z'⟩
 keep:=λi h h' st k=>k it (by simp) _ st
 item:=by
  intro X hP hw hK hc i pins s σ H E I hf st hg;subst hP hw hK;obtain⟨f0,f1,f2,f3,f4,f5⟩:=hf it (by simp)
  have W:=Walks.range (prog:=X.prog) (w:=X.w) (I.ok.hd hc) it lo 1 n;refine W.item i s _ _ hg st λv h' tk hv aA kk=>?_;obtain⟨t,rfl⟩:=hv;have I1:Inv X pins σ H {s with heap:=h',toks:=tk}:=I.turned (λb o hb e=>kk b o (by simpa using hb) e) f0 f1 f3 f4 f5
  refine⟨_,rfl,BK (s:={s with heap:=h',toks:=tk}) (n:="range_iterator") aA rfl rfl (by decide) ⟨.int (lo+i),H,I1,⟨t,?_⟩,⟨rfl,rfl⟩,aA,λb hb=>(hf b hb).1⟩⟩
  rw[Int.mul_one]
 done:=by
  intro X hP hw hK hc i pins s σ H E I hf st hg;subst hP hw hK;obtain⟨f0,f1,f2,f3,f4,f5⟩:=hf it (by simp)
  exact wpAny_pyNext_range_end (I.ok.hd hc) st (by have:n<=i:=hg;lia) λh' eb=>⟨rfl,I.turned (t':=s.toks) (λb o hb e=>eb b o hb e) f0 f1 f3 f4 f5⟩
 self:=λ_ _ _ _ _ st h=>wpAny_pyIter_rangeiter st h
section
variable {X:Cx}{tg:Expr}
def LS (K:PySem.W.Frag)(tl:TE):TI:=λσ H R=>tl σ H λx H1=>∃a,x=.ref a/\(∃xs,c0 K H1 a xs)/\R (OA K a) H1
theorem wt {l:Expr}{tl:TE}(hl:PE X l tl):PI X tg l (LS X.K tl):=by
 intro pins s σ H R I h;refine bJ (hl pins s σ H _ I h) λv s1 ⟨x,H1,I1,r1,q1⟩=>?_;obtain⟨a,e,⟨xs,hq⟩,q⟩:=q1;subst e;cases r1;obtain⟨its,rv,p,hz⟩:=I1.list hq;refine wpAny_pyIter_list p.isList ?_;refine⟨s1.heap.objs.size,[s1.heap.objs.size],_,_,H1,rfl,I1.kept (t':=s1.toks) λb o e=>WH _ e,xu a _,⟨_,Xc _ rfl,rfl,rfl⟩,λb hb=>?_,q⟩;have e:b=s1.heap.objs.size:=by simpa using hb
 subst e;exact I1.BO (WD _) (I1.bx.fresh (WD _))
theorem rH {pins:List (Addr×Obj)}{σ:St}{H:Hp}{s:WE}{R:It->Hp->Prop}{E:WC->WE->Prop}{lo hi:Int}{t u v:Tok}{tk:Nat}(I:Inv X pins σ H s)(h1:-(2 ^ 62)<=lo)(h2:lo<2 ^ 62)(h3:-(2 ^ 62)<=hi)(h4:hi<2 ^ 62)
  (q:R (Nv lo (hi-lo).toNat) H):Xb (model X.prog X.w) X.A (pyIter (.ref s.heap.objs.size)) (Kn X pins σ tg R) E {s with heap:=s.heap.push {cls:=.type "range",data:=.fields #[.int lo t,.int hi u,.int 1 v]},toks:=tk}:=by
 refine wpAny_pyIter_range (IsRange.new ..) (small_one h1 h2 h3 h4) ?_;have I1:Inv X pins σ H {s with heap:=s.heap.push {cls:=.type "range",data:=.fields #[.int lo t,.int hi u,.int 1 v]},toks:=tk}:=I.kept λb o e=>WH _ e
 refine⟨(s.heap.push {cls:=.type "range",data:=.fields #[.int lo t,.int hi u,.int 1 v]}).objs.size,[(s.heap.push {cls:=.type "range",data:=.fields #[.int lo t,.int hi u,.int 1 v]}).objs.size],_,_,H,rfl,
  I1.kept (t':=tk) λb o e=>WH _ e,uD _ lo (hi-lo).toNat,?_,λb hb=>?_,q⟩
 ·have e1:lo+((0:Nat):Int)*1=lo:=by simp
  have e2:(((hi-lo).toNat:Nat):Int)-((0:Nat):Int)=Zx lo hi 1:=by rw[rangeSize_one];split <;> lia
  show IsRangeIter _ _ (lo+((0:Nat):Int)*1) ((((hi-lo).toNat:Nat):Int)-((0:Nat):Int)) 1;rw[e1,e2];exact Xc _ rfl
 ·have e:b=(s.heap.push {cls:=.type "range",data:=.fields #[.int lo t,.int hi u,.int 1 v]}).objs.size:=by simpa using hb
  subst e;exact I1.BO (WD _) (I1.bx.fresh (WD _))
def LR (ta:TA):TI:=λσ H R=>ta σ H λvs H1=>∃j:Int,vs=[.int j]/\-(2 ^ 62)<=j/\j<2 ^ 62/\R (Nv 0 j.toNat) H1
def LQ (ta:TA):TI:=λσ H R=>ta σ H λvs H1=>∃i j:Int,vs=[.int i,.int j]/\(-(2 ^ 62)<=i/\i<2 ^ 62/\-(2 ^ 62)<=j/\j<2 ^ 62)/\R (Nv i (j-i).toNat) H1
theorem xW {a:Expr} {ta:TA} {p pos:Pos} (hg:Gl X "range") (hm:X.mg "range" = none) (ha:PA X [a] ta) (hs:WZ [a] X.env=[(false,eval a X.env)]:=by rfl):PI X tg (.Call (.Name "range" p) [a] [] pos) (LR ta):=by
 intro pins s σ H R I h;refine Call_ (h7 I hg hm boot_range (YF (bJ (ha pos pins s σ H _ I h) λus s1 ⟨vs,H1,I1,r1,q1⟩=>?_) hs rfl));obtain⟨j,e,q1,q2,q⟩:=q1;subst e;cases r1 with
 |cons r rr =>
  cases rr;obtain⟨t,rfl⟩:=r;exact call_range_1 (rH I1 (by lia) (by lia) q1 q2 (by simpa using q))
theorem oh {a b:Expr} {ta:TA} {p pos:Pos} (hg:Gl X "range") (hm:X.mg "range" = none) (ha:PA X [a,b] ta) (hs:WZ [a,b] X.env=[(false,eval a X.env),(false,eval b X.env)]:=by rfl) (uh:WZ [b] X.env=[(false,eval b X.env)]:=by rfl) :
  PI X tg (.Call (.Name "range" p) [a,b] [] pos) (LQ ta):=by
 intro pins s σ H R I h;refine Call_ (h7 I hg hm boot_range (YF (bJ (ha pos pins s σ H _ I h) λus s1 ⟨vs,H1,I1,r1,q1⟩=>?_) (by rw[hs,uh]) (by rw[uh];rfl)))
 obtain⟨i,j,e,⟨q1,q2,q3,q4⟩,q⟩:=q1;subst e;cases r1 with
 |cons r rr =>
  cases rr with
  |cons r' rr =>
   cases rr;obtain⟨t,rfl⟩:=r;obtain⟨t',rfl⟩:=r';exact call_range_2 (rH I1 q1 q2 q3 q4 q)
def OQ (wi:TI)(g:TG)(tb:TS):TS:=λD σ H=>wi σ H λJ H1=>∃W:Nat->Nat->St->Hp->Prop,(∃m,W 0 m σ H1)/\∀i m σ H,W i m σ H ->
 (J.stop i H/\D.nx σ H)\/(J.go i H/\∃N:St->Hp->Prop,(∀σ' H',N σ' H'->∃m',m'<m/\W (i+1) m' σ' H')/\∀x H',J.Ko i H x H'->g x σ H' λσ2 H2=>tb {D with nx:=N,ct:=N,bk:=D.nx} σ2 H2)
def lO (fp:List Addr)(h:Heap):List (Addr×Obj):=fp.filterMap λb=>(h.get? b).map λo=>(b,o)
theorem fk {fp:List Addr}{h:Heap}{b:Addr}{o:Obj}(hb:b∈fp)(e:h.get? b=some o):(b,o)∈lO fp h:=ZZ.mpr ⟨b,hb,by rw[e];rfl⟩
theorem x_ {fp:List Addr}{h:Heap}{p:Addr×Obj}(hp:p∈lO fp h):p.1∈fp/\h.get? p.1=some p.2:=by
 obtain⟨b,hb,e⟩:=ZZ.mp hp;cases q:h.get? b with
 |none=>rw[q]at e;cases e
 |some o =>
  rw[q]at e;have e':(b,o)=p:=Xp e;subst e';exact⟨hb,q⟩
theorem Inv.pinned {pins:List (Addr×Obj)}{σ:St}{H:Hp}{s:WE}{fp:List Addr}(I:Inv X pins σ H s)(hf:∀b∈fp,f6 X pins H b)(ho:∀b∈fp,∃o,s.heap.get? b=some o/\∀v,o.data≠.cell v):Inv X (pins++lO fp s.heap) σ H s :=
 I.wo λp hp=>(W4.mp hp).elim (λz=>I.pin p (Xm _ z)) λz=>by
  obtain⟨hb,e⟩:=x_ z;obtain⟨f0,f1,f2,_⟩:=hf p.1 hb;obtain⟨o,e',d⟩:=ho p.1 hb;rw[e]at e';cases e';exact⟨e,f0,f1,f2,d⟩
theorem Inv.iC {pins pl:List (Addr×Obj)}{σ:St}{H:Hp}{s:WE}(I:Inv X (pins++pl) σ H s):Inv X pins σ H s:=I.wo λp hp=>I.pin p (Xm _ (X1 _ hp))
theorem Ai {iter:Expr}{body:List Stmt}{wi:TI}{g:TG}{tb:TS}{pos:Pos}(hp:PassesOwn (model X.prog X.w) X.A X.env X.xe)(hc:X.calm=true)(hi:PI X tg iter wi)(hg:PG X tg g)(hb:uo X body tb)
  (hs:∀x,XI iter X.env x=pure x:=by intro _;rfl):PS X (.For tg iter body [] pos) (OQ wi g tb):=by
 intro pins s σ H D I h;refine wpAny_For (bJ (hi pins s σ H _ I h) λv s1 h1=>bJ h1 λF1 s2 h2=>?_) hs;obtain⟨it,fp,tn,J,H2,e,I2,T,fy,f2,W,⟨m0,w0⟩,turn⟩:=h2;subst e;have uG:∀{H':Hp},(∀b∈fp,H' b=none)->∀b∈fp,f6 X pins H' b:=λhn b hb=>⟨hn b hb,(f2 b hb).2⟩;refine codeAny_forLoop_any (λn s'=>∃i σ' H',Inv X pins σ' H' s'/\tn i s'.heap/\(∀b∈fp,H' b=none)/\W i n σ' H') ?_ m0 ⟨0,σ,H2,I2,fy,λb hb=>(f2 b hb).1,w0⟩;rintro n s3 ⟨i,σ3,H3,I3,ly,M3,w3⟩;rcases turn i n σ3 H3 w3 with⟨stop,qn⟩|⟨go,N,hN,step⟩
 ·refine ZK hp (bJ (T.done X rfl rfl rfl hc i pins s3 σ3 H3 X.xe I3 (uG M3) ly stop) λr s4 ⟨hr,I4⟩=>?_);subst hr;exact wpAny_execs_nil ⟨σ3,H3,I4,qn⟩
 ·refine ZK hp (bJ (T.item X rfl rfl rfl hc i pins s3 σ3 H3 X.xe I3 (uG M3) ly go) λr s4 ⟨u,hr,h4⟩=>?_);subst hr;refine ZK hp (bJ h4 λ_ s5 ⟨x,H5,I5,r5,y5,G7,Rm⟩=>?_);have RP:=I5.pinned (uG Rm) (T.obj _ _ G7);refine ZK hp (bJ (hg _ s5 σ3 H5 x u _ RP r5 (step x H5 y5)) λ_ s6 ⟨σ6,H6,I6,q6⟩=>?_);refine ZK hp (bJ (hb _ s6 σ6 H6 _ I6 q6) λf s7 q7=>?_);have again:∀{σ7:St} {H7:Hp},Inv X (pins++lO fp s5.heap) σ7 H7 s7->N σ7 H7->∃m,m<n/\∃i σ' H',Inv X pins σ' H' s7/\tn i s7.heap/\(∀b∈fp,H' b=none)/\W i m σ' H':=λ{σ7 H7} I7 n7=>by
   obtain⟨m',hm,w7⟩:=hN σ7 H7 n7;refine⟨m',hm,i+1,σ7,H7,I7.iC,T.keep _ _ _ G7 λb hb o e=>(I7.pin (b,o) (Xm _ (Xm _ (fk hb e)))).1,λb hb=>?_,w7⟩;obtain⟨o,e,d⟩:=T.obj _ _ G7 b hb;exact(I7.pin (b,o) (Xm _ (Xm _ (fk hb e)))).2.1
  cases f with
  |next=>obtain⟨σ7,H7,I7,n7⟩:=q7;exact again I7 n7
  |cont=>obtain⟨σ7,H7,I7,n7⟩:=q7;exact again I7 n7
  |brk=>obtain⟨σ7,H7,I7,q7⟩:=q7;exact⟨σ7,H7,I7.iC,q7⟩
  |ret v=>obtain⟨x7,σ7,H7,I7,r7,q7⟩:=q7;exact⟨x7,σ7,H7,I7.iC,r7,q7⟩
end
abbrev R2:=V->V->Hp->VK->Prop
def jj (X:Cx)(f:WC->WC->Sem WC)(r:R2):Prop :=
 ∀(pins:List (Addr×Obj)) (s:WE) (σ:St) (H:Hp) (x y:V) (v u:WC) (Q:VK),Inv X pins σ H s->RelV x v->RelV y u->r x y H Q ->
  Xb (model X.prog X.w) X.A (f v u) (EP X pins σ Q) X.xe s
def Nm (X:Cx)(f:WC->Sem WC)(r:V->Hp->VK->Prop):Prop :=
 ∀(pins:List (Addr×Obj)) (s:WE) (σ:St) (H:Hp) (x:V) (v:WC) (Q:VK),Inv X pins σ H s->RelV x v->r x H Q ->
  Xb (model X.prog X.w) X.A (f v) (EP X pins σ Q) X.xe s
def eU (X:Cx)(f:WC)(r:List V->Hp->VK->Prop):Prop :=
 ∀(pins:List (Addr×Obj)) (s:WE) (σ:St) (H:Hp) (xs:List V) (us:List WC) (Q:VK),Inv X pins σ H s->Vals xs us->r xs H Q ->
  Xb (model X.prog X.w) X.A (call f us) (EP X pins σ Q) X.xe s
def Kw (r:R2)(ta tb:TE):TE:=λσ H Q=>ta σ H λx H1=>tb σ H1 λy H2=>r x y H2 Q
def TY (r:V->Hp->VK->Prop)(ta:TE):TE:=λσ H Q=>ta σ H λx H1=>r x H1 Q
def rI (C:Int->Int->Prop)(g:Int->Int->V):R2:=λx y H Q=>∃i j,x=.int i/\y=.int j/\C i j/\Q (g i j) H
def Dx (g:Int->Int->V):R2:=λx y H Q=>∃i j,x=.int i/\y=.int j/\Q (g i j) H
def rU (g:Int->V):V->Hp->VK->Prop:=λx H Q=>∃i,x=.int i/\Q (g i) H
section
variable {X:Cx}{a b:Expr}{ta tb:TE}{pos:Pos}
theorem JN (ha:PE X a ta)(hb:PE X b tb){pins:List (Addr×Obj)}{s:WE}{σ:St}{H:Hp}{R:V->V->Hp->Prop}(I:Inv X pins σ H s)
  (h:ta σ H λx H1=>tb σ H1 λy H2=>R x y H2) {Q:WC->WE->Prop} {f:WC->WC->Sem WC}
  (hf:∀v u s2 x y H2,Inv X pins σ H2 s2->RelV x v->RelV y u->R x y H2->Xb (model X.prog X.w) X.A (f v u) Q X.xe s2) :
  Xb (model X.prog X.w) X.A (eval a X.env) (λv s₁=>Xb (model X.prog X.w) X.A (eval b X.env) (λu s₂=>Xb (model X.prog X.w) X.A (f v u) Q X.xe s₂) X.xe s₁) X.xe s:=by
 refine bJ (ha pins s σ H _ I h) λv s1 ⟨x,H1,I1,r1,q1⟩=>?_;refine bJ (hb pins s1 σ H1 _ I1 q1) λu s2 ⟨y,H2,I2,r2,q2⟩=>?_;exact hf v u s2 x y H2 I2 r1 r2 q2
theorem cW {op:Operator}{r:R2}(ho:jj X (YT op) r)(ha:PE X a ta)(hb:PE X b tb):PE X (.BinOp a op b pos) (Kw r ta tb):=by
 intro pins s σ H Q I h;exact wpAny_BinOp (JN ha hb I h λv u s2 x y H2 I2 rx ry q=>ho pins s2 σ H2 x y v u Q I2 rx ry q)
theorem FL {op:UnaryOp}{r:V->Hp->VK->Prop}(ho:Nm X (unaryOp op) r)(ha:PE X a ta):PE X (.UnaryOp op a pos) (TY r ta):=by
 intro pins s σ H Q I h;exact UnaryOp_ (bJ (ha pins s σ H _ I h) λv s1 Qn=>by obtain⟨x,H1,I1,r1,q1⟩:=Qn;exact ho pins s1 σ H1 x v Q I1 r1 q1)
theorem NR {f:WC->WC->Sem WC}{C:Int->Int->Prop}{g:Int->Int->Int}
  (rule:∀(i j:Int) (t u:Tok) (s:WE) (Q:WC->WE->Prop) (E:WC->WE->Prop),C i j->Q (.int (g i j) s.toks) {s with toks:=s.toks+1}->Xb (model X.prog X.w) X.A (f (.int i t) (.int j u)) Q E s) :
  jj X f (rI C λi j=>.int (g i j)):=by
 intro pins s σ H x y v u Q I rx ry h;obtain⟨i,j,rfl,rfl,hc,q⟩:=h;obtain⟨t,rfl⟩:=rx;obtain⟨t',rfl⟩:=ry;exact rule i j t t' s _ _ hc ⟨.int (g i j),H,I.tok _,⟨_,rfl⟩,q⟩
theorem Lh {f:WC->WC->Sem WC}{g:Int->Int->Int}
  (rule:∀(i j:Int) (t u:Tok) (s:WE) (Q:WC->WE->Prop) (E:WC->WE->Prop),Q (.int (g i j) s.toks) {s with toks:=s.toks+1}->Xb (model X.prog X.w) X.A (f (.int i t) (.int j u)) Q E s) :
  jj X f (Dx λi j=>.int (g i j)):=by
 intro pins s σ H x y v u Q I rx ry h;obtain⟨i,j,rfl,rfl,q⟩:=h;obtain⟨t,rfl⟩:=rx;obtain⟨t',rfl⟩:=ry;exact rule i j t t' s _ _ ⟨.int (g i j),H,I.tok _,⟨_,rfl⟩,q⟩
theorem HM {f:WC->WC->Sem WC}{g:Int->Int->Bool}
  (rule:∀(i j:Int) (t u:Tok) (s:WE) (Q:WC->WE->Prop) (E:WC->WE->Prop),Q (.bool (g i j)) s->Xb (model X.prog X.w) X.A (f (.int i t) (.int j u)) Q E s) :
  jj X f (Dx λi j=>.bl (g i j)):=by
 intro pins s σ H x y v u Q I rx ry h;obtain⟨i,j,rfl,rfl,q⟩:=h;obtain⟨t,rfl⟩:=rx;obtain⟨t',rfl⟩:=ry;exact rule i j t t' s _ _ ⟨.bl (g i j),H,I,rfl,q⟩
def CJ (i j:Int):Prop:=0<=j/\j<=1000000/\i.natAbs<2 ^ 64
def kM (i j:Int):Prop:=(-(2 ^ 64)<i/\i<2 ^ 64)\/(-(2 ^ 64)<j/\j<2 ^ 64)
theorem kM.ok {i j:Int}(h:kM i j):IntMulOk i j:=by
 rcases h with⟨h1,h2⟩|⟨h1,h2⟩
 ·exact .of_left (intBits_le_64 h1 h2)
 ·exact .of_right (intBits_le_64 h1 h2)
theorem uY:jj X (YT .Add) (Dx λi j=>.int (i+j)):=Lh λ_ _ _ _ _ _ _ q=>add_int q
theorem AD:jj X (YT .Sub) (Dx λi j=>.int (i-j)):=Lh λ_ _ _ _ _ _ _ q=>sub_int q
theorem uX:jj X (YT .Mult) (rI kM λi j=>.int (i*j)):=NR λ_ _ _ _ _ _ _ hc q=>mul_int q hc.ok
theorem lS:jj X (YT .Mod) (rI (λ_ j=>0<j) λi j=>.int (i % j)):=NR λi j _ _ _ _ _ hc q=>by
 have h1:(0:Int)<j:=hc;exact mod_int' (by lia) (by rw[Int.fmod_eq_emod_of_nonneg i (by lia)];exact q)
theorem qe:jj X (YT .Pow) (rI CJ λi j=>.int (i ^ j.toNat)):=NR λ_ _ _ _ _ _ _ hc q=>pow_int_small hc.1 hc.2.1 hc.2.2 q
theorem TQ {f:WC->Sem WC}{g:Int->Int}
  (rule:∀(i:Int) (t:Tok) (s:WE) (Q:WC->WE->Prop) (E:WC->WE->Prop),Q (.int (g i) s.toks) {s with toks:=s.toks+1}->Xb (model X.prog X.w) X.A (f (.int i t)) Q E s) :
  Nm X f (rU λi=>.int (g i)):=by
 intro pins s σ H x v Q I rx h;obtain⟨i,rfl,q⟩:=h;obtain⟨t,rfl⟩:=rx;exact rule i t s _ _ ⟨.int (g i),H,I.tok _,⟨_,rfl⟩,q⟩
theorem zr:Nm X (unaryOp .USub) (rU λi=>.int (-i)):=TQ λ_ _ _ _ _ q=>neg_int q
end
def O3:V->V->Bool
 |.bU,.bU=>true | .bU,.int _=>true | .int _,.bU=>true | .bU,.bl _=>true | .bl _,.bU=>true | .bU,.str _=>true | .str _,.bU=>true
 |.int _,.int _=>true | .bl _,.bl _=>true | .str _,.str _=>true | .Fn _,.Fn _=>true
 |.int _,.str _=>true | .str _,.int _=>true | .bl _,.str _=>true | .str _,.bl _=>true
 |_,_=>false
def Uj:R2:=λx y H Q=>O3 x y=true/\Q (.bl (!decide (x=y))) H
theorem E6 {i j:Int}:decide (V.int i=V.int j)=(i==j):=by
 rw[ZO];simp
theorem JA {i j:Bool}:decide (V.bl i=V.bl j)=(i==j):=by
 rw[ZO];simp
theorem E5 {i j:Str}:decide (V.str i=V.str j)=(i==j):=by
 rw[ZO];simp
theorem E7 {i j:Array UInt8}:decide (V.Fn i=V.Fn j)=(i.toList==j.toList):=by
 rw[ZO];cases i;cases j;simp
section
variable {X:Cx}{a b c:Expr}{ta tb:TE}{pos:Pos}
theorem b_ {pins:List (Addr×Obj)}{σ:St}{H:Hp}{s:WE}{Q:VK}{k k':Bool}(I:Inv X pins σ H s)(q:Q (.bl k) H)(e:k=k'):EP X pins σ Q (.bool k') s:=by
 subst e;exact⟨.bl k,H,I,rfl,q⟩
theorem Lc:jj X (X5 .NotEq) Uj:=by
 intro pins s σ H x y v u Q I rx ry h;obtain⟨hs,q⟩:=h;cases x with
 |bU =>
  cases rx;cases y with
  |bU=>cases ry;exact PySem.EqNone.ne_none_none (b_ I q (by simp))
  |bl j=>cases ry;exact PySem.EqNone.ne_none_bool (b_ I q (by simp))
  |int j=>obtain⟨t',rfl⟩:=ry;exact PySem.EqNone.ne_none_int (b_ I q (by simp))
  |str j=>obtain⟨t',rfl⟩:=ry;exact PySem.EqNone.ne_none_str (b_ I q (by simp))
  |_=>exact absurd (show false=true from hs) X7
 |bl i =>
  cases rx;cases y with
  |bU=>cases ry;exact PySem.EqNone.ne_bool_none (b_ I q (by simp))
  |bl j=>cases ry;exact ne_bool (b_ I q (congrArg not JA))
  |str j=>obtain⟨t',rfl⟩:=ry;exact PySem.EqMixed.ne_bool_str (b_ I q (by simp))
  |_=>exact absurd (show false=true from hs) X7
 |int i =>
  obtain⟨t,rfl⟩:=rx;cases y with
  |bU=>cases ry;exact PySem.EqNone.ne_int_none (b_ I q (by simp))
  |int j=>obtain⟨t',rfl⟩:=ry;exact ne_int (b_ I q (congrArg not E6))
  |str j=>obtain⟨t',rfl⟩:=ry;exact PySem.EqMixed.ne_int_str (b_ I q (by simp))
  |_=>exact absurd (show false=true from hs) X7
 |str i =>
  obtain⟨t,rfl⟩:=rx;cases y with
  |bU=>cases ry;exact PySem.EqNone.ne_str_none (b_ I q (by simp))
  |bl j=>cases ry;exact PySem.EqMixed.ne_str_bool (b_ I q (by simp))
  |int j=>obtain⟨t',rfl⟩:=ry;exact PySem.EqMixed.ne_str_int (b_ I q (by simp))
  |str j=>obtain⟨t',rfl⟩:=ry;exact ne_str (b_ I q (congrArg not E5))
  |_=>exact absurd (show false=true from hs) X7
 |Fn i =>
  obtain⟨t,rfl⟩:=rx;cases y with
  |Fn j=>obtain⟨t',rfl⟩:=ry;exact PySem.W.ne_bytes (b_ I q (congrArg not E7))
  |_=>exact absurd (show false=true from hs) X7
 |_=>cases y <;> exact absurd (show false=true from hs) X7
theorem Lf:jj X (X5 .Lt) (Dx λi j=>.bl (decide (i<j))):=HM λ_ _ _ _ _ _ _ q=>lt_int q
theorem FP:jj X (X5 .Gt) (Dx λi j=>.bl (decide (j<i))):=HM λ_ _ _ _ _ _ _ q=>gt_int q
theorem Lg:jj X (X5 .GtE) (Dx λi j=>.bl (decide (j<=i))):=HM λ_ _ _ _ _ _ _ q=>ge_int q
theorem HJ:jj X (X5 .Is) (λx y H Q=>y=.bU/\Q (.bl (decide (x=.bU))) H):=by
 intro pins s σ H x y v u Q I rx ry h;obtain⟨rfl,q⟩:=h;cases ry;refine is_none_gen (b_ I q ?_);cases x <;> first
  | (cases rx;rfl)
  | (obtain⟨t,rfl⟩:=rx;rfl)
theorem AR (b:Expr){op:Z1}(h:op≠.In:=by decide)(h2:op≠.NotIn:=by decide):Y7 op b=false:=by
 have e1:(op==CmpOp.In)=false:=by cases op <;> first|rfl|exact absurd rfl h
 have e2:(op==CmpOp.NotIn)=false:=by cases op <;> first|rfl|exact absurd rfl h2
 cases b <;> simp[Y7,e1,e2]
theorem wu {op:Z1}{r:R2}(ho:jj X (X5 op) r)(ha:PE X a ta)(hb:PE X b tb)(hm:Y7 op b=false):PE X (.Compare a [op] [b] pos) (Kw r ta tb):=by
 intro pins s σ H Q I h;exact wpAny_Compare1 (JN ha hb I h λv u s2 x y H2 I2 rx ry q=>ho pins s2 σ H2 x y v u Q I2 rx ry q) hm
def Ku (t:TE):TT:=λσ H Q=>t σ H λx H'=>∃k,x=.bl k/\Q k H'
theorem v8 {op:Z1}{r:R2}(ho:jj X (X5 op) r)(ha:PE X a ta)(hb:PE X b tb)(hm:Y7 op b=false):PT X (.Compare a [op] [b] pos) (Ku (Kw r ta tb)):=by
 intro pins s σ H Q I h;refine wpAny_isTrue_Compare1 (bJ (ha pins s σ H _ I h) λv s1 ⟨x,H1,I1,r1,q1⟩=>bJ (hb pins s1 σ H1 _ I1 q1) λu s2 ⟨y,H2,I2,r2,q2⟩ =>
  bJ (ho pins s2 σ H2 x y v u _ I2 r1 r2 q2) λc s3 ⟨z,H3,I3,r3,k,e,q3⟩=>?_) hm
 subst e;cases r3;exact Yo ⟨H3,I3,q3⟩
theorem qm:(W7:Nat)<2 ^ 63:=by rw[XO];decide
theorem vals1 {x:V}{us:List WC}(r:Vals [x] us):∃u,us=[u]/\RelV x u:=by
 cases r with
 |cons r1 r2=>cases r2;exact⟨_,rfl,r1⟩
theorem vals2 {x y:V}{us:List WC}(r:Vals [x,y] us):∃u w',us=[u,w']/\RelV x u/\RelV y w':=by
 cases r with
 |cons r1 r2 =>
  cases r2 with
  |cons r3 r4=>cases r4;exact⟨_,_,rfl,r1,r3⟩
theorem pz (hc:X.calm=true):eU X (.builtin "max") (λxs H Q=>∃i j,xs=[.int i,.int j]/\Q (.int (if j>i then j else i)) H):=by
 intro pins s σ H xs us Q I r h;obtain⟨i,j,rfl,q⟩:=h;obtain⟨u,w',rfl,⟨t,rfl⟩,⟨t',rfl⟩⟩:=vals2 r;refine max_two_ints (I.ok.hd hc) λh' tk k=>⟨_,H,I.kept k,?_,q⟩
 by_cases hj:j>i
 ·rw[if_pos hj,if_pos hj];exact⟨_,rfl⟩
 ·rw[if_neg hj,if_neg hj];exact⟨_,rfl⟩
theorem yJ (hc:X.calm=true):eU X (.builtin "min") (λxs H Q=>∃i j,xs=[.int i,.int j]/\Q (.int (if j<i then j else i)) H):=by
 intro pins s σ H xs us Q I r h;obtain⟨i,j,rfl,q⟩:=h;obtain⟨u,w',rfl,⟨t,rfl⟩,⟨t',rfl⟩⟩:=vals2 r;refine min_two_ints (I.ok.hd hc) λh' tk k=>⟨_,H,I.kept k,?_,q⟩
 by_cases hj:j<i
 ·rw[if_pos hj,if_pos hj];exact⟨_,rfl⟩
 ·rw[if_neg hj,if_neg hj];exact⟨_,rfl⟩
theorem jL:eU X (.type "int") (λxs H Q=>(∃i,xs=[.int i]/\Q (.int i) H)\/∃k,xs=[.bl k]/\Q (.int (if k then 1 else 0)) H):=by
 intro pins s σ H xs us Q I r h;rcases h with⟨i,rfl,q⟩|⟨k,rfl,q⟩
 ·obtain⟨u,rfl,t,rfl⟩:=vals1 r;exact call_int_int ⟨.int i,H,I,⟨_,rfl⟩,q⟩
 ·obtain⟨u,rfl,r1⟩:=vals1 r;cases r1;exact call_int_bool ⟨.int (if k then 1 else 0),H,I.tok _,⟨_,rfl⟩,q⟩
end
structure JU (h:Heap)(x dx C:Addr)(mA:Str->Option WC):Prop where
 obj:h.get? x=some (PySem.W.instObj C dx)
 ns:h.Ns1 dx mA
 ne:dx≠x
theorem yh {h:Heap}{dx:Addr}{mA:Str->Option WC}(n:h.Ns1 dx mA):∃od,h.get? dx=some od/\∀name,PySem.W.lookIn name od=some (mA name):=by
 obtain⟨o,es,ep,ho,hd,hk,_,hm⟩:=n;refine⟨o,ho,λname=>?_⟩;have e:=hm name;unfold nsFind findBy at e;rw[<- Array.find?_toList]at e;unfold PySem.W.lookIn;rw[hd];dsimp only
 split
 ·rename_i y q
  rw[q]at e;exact congrArg some e
 ·rename_i q
  rw[q]at e;have a:es.toList.any (·.refKey)=false:=by
   rw[List.any_eq_false];intro y hy;obtain⟨z,t,QU⟩:=hk y (Array.mem_toList_iff.mp hy);simp[DictEntry.refKey,QU]
  have a':¬ es.toList.any (·.refKey)=true:=by rw[a];exact X7
  rw[if_neg a'];exact congrArg some e
theorem JU.look {h:Heap}{x dx C:Addr}{mA:Str->Option WC}(I:JU h x dx C mA):∃od,PySem.W.InstAt h x (PySem.W.instObj C dx) C (some od)/\∀name,PySem.W.lookIn name od=some (mA name) :=
 let ⟨od,ho,hl⟩:=yh I.ns
 ⟨od,⟨I.obj,rfl,rfl,ho⟩,hl⟩
section
end
theorem m7.some_of {v:V}{o:Option WC}(r:m7 (some v) o):∃u,o=some u/\RelV v u:=by
 cases o with
 |none=>exact(show False from r).elim
 |some u=>exact⟨u,rfl,r⟩
section
variable {P:WI}{w:W6}{H:Hp}{h:Heap}{a C dx:Addr}{fs:List (Str×V)}
theorem dw (bx:ip P w H h)(e:H a=some (.ins C dx fs)):∃mA,JU h a dx C mA/\(∀f,m7 (fs.lookup f) (mA f))/\PySem.Within mA (fs.map (·.1))/\fs.length<=1000/\H dx=some (.own a):=by
 obtain⟨d,z,ne,ob,mA,n,r,q⟩:=(show a6 P w H h a (.ins C dx fs) from bx a _ e)
 exact⟨mA,⟨ob,n,ne⟩,r,q,z,d⟩
end
structure R4 (K:PySem.W.Frag)(C:Addr):Prop where
 pg:PySem.W.plainGet K C Str.empty=true
 hd:PySem.W.hasDictIn K C=true
 po:PySem.W.plainOver K C=true
 sa:PySem.W.findIn K (.ref C) "__setattr__" = some (some (.builtin "object.__setattr__"))
theorem R4.get {K:PySem.W.Frag}{C:Addr}(c:R4 K C)(f:Str):PySem.W.plainGet K C f=true:=c.pg
section
end
section
end
section
variable {X:Cx}{pins:List (Addr×Obj)}{σ:St}{H:Hp}{s:WE}{A:XA}{E:WC->WE->Prop}{Q:WC->WE->Prop}{c:WC}{b:Bool}
inductive ik (K:PySem.W.Frag) (H:Hp):V->WC->Prop where
 |bU:ik K H .bU (.type "NoneType")
 |bl (x:Bool):ik K H (.bl x) (.type "bool")
 |int (i:Int):ik K H (.int i) (.type "int")
 |str (x:Str):ik K H (.str x) (.type "str")
 |Jt (x:UInt64):ik K H (.Jt x) (.type "float")
 |lst {a:Addr} {xs:List V} (e:H a=some (.lst xs)):ik K H (.ref a) (.type "list")
 |uj {a:Addr} {o:Obj} {xs:List V} (e:H a=some (.uj o (.lst xs))):ik K H (.ref a) (.type "list")
 |tup {a:Addr} {xs:List V} (e:H a=some (.tup xs)):ik K H (.ref a) (.type "tuple")
 |dK {a:Addr} {kvs:List (Key×V)} (e:H a=some (.dK kvs)):ik K H (.ref a) (.type "dict")
 |dT {a:Addr} {kvs:List (List Key×V)} (e:H a=some (.dT kvs)):ik K H (.ref a) (.type "dict")
 |ins {a C dx:Addr} {fs:List (Str×V)} (e:H a=some (.ins C dx fs)) (cl:R4 K C) (ha:PySem.W.findIn K (.ref C) "__class__" = some (some (.builtin "object.__class__")))
   (hn:PySem.W.specialIn K (.builtin "object.__class__") "__get__" = some (some (.builtin "getset_descriptor.__get__"))) (S3:PySem.W.takesIn K (.builtin "object.__class__")=some true)
   (hm:PySem.W.mroIn K C (.type "object")=some true):ik K H (.ref a) (.ref C)
theorem yp {x:V}{u t:WC}(I:Inv X pins σ H s)(rx:RelV x u)(ty:ik X.K H x t)(e:PySem.W.kitOne X.K t c=some b)(h:∀tk,Q (.bool b) {s with toks:=tk}):
  Xb (model X.prog X.w) A (call (.builtin "isinstance") [u,c]) Q E s:=by
 cases ty with
 |bU=>cases (show u=Value.none from rx);exact PySem.W.kia_one PySem.W.kitx_none I.jD YK e (λz=>nomatch z) h
 |bl y=>cases (show u=Value.bool y from rx);exact PySem.W.kia_one PySem.W.kitx_bool I.jD YK e (λz=>nomatch z) h
 |int i=>obtain⟨t,q⟩:=(show ∃t,u=Value.int i t from rx);cases q;exact PySem.W.kia_one PySem.W.kitx_int I.jD YK e (λz=>nomatch z) h
 |str y=>obtain⟨t,q⟩:=(show ∃t,u=Value.str y t from rx);cases q;exact PySem.W.kia_one PySem.W.kitx_str I.jD YK e (λz=>nomatch z) h
 |Jt y=>obtain⟨t,q⟩:=(show ∃t,u=Value.float y t from rx);cases q;exact PySem.W.kia_one PySem.W.kitx_float I.jD YK e (λz=>nomatch z) h
 | @lst a xs ea =>
  cases (show u=Value.ref a from rx)
  obtain⟨_,_,n,_,h1⟩:=(show a6 X.prog X.w H s.heap a (.lst xs) from I.bx a _ ea)
  exact PySem.W.kia_one PySem.W.kitx_list I.jD ⟨_,h1,rfl⟩ e (λz=>nomatch z) h
 | @uj a ob xs ea =>
  cases (show u=Value.ref a from rx)
  obtain⟨_,_,_,n,_,h1⟩:=(show a6 X.prog X.w H s.heap a (.uj ob (.lst xs)) from I.bx a _ ea)
  exact PySem.W.kia_one PySem.W.kitx_list I.jD ⟨_,h1,rfl⟩ e (λz=>nomatch z) h
 | @tup a xs ea =>
  cases (show u=Value.ref a from rx)
  obtain⟨_,_,_,p⟩:=(show a6 X.prog X.w H s.heap a (.tup xs) from I.bx a _ ea)
  obtain⟨o,h1,h2,_⟩:=p;exact PySem.W.kia_one PySem.W.kitx_tuple I.jD ⟨o,h1,h2⟩ e (λz=>nomatch z) h
 | @dK a kvs ea =>
  cases (show u=Value.ref a from rx)
  obtain⟨_,_,vs,_,p⟩:=(show a6 X.prog X.w H s.heap a (.dK kvs) from I.bx a _ ea)
  obtain⟨o,es,ep,h1,h2,_⟩:=p;exact PySem.W.kia_one PySem.W.kitx_dict I.jD ⟨o,h1,h2.1⟩ e (λz=>nomatch z) h
 | @dT a kvs ea =>
  cases (show u=Value.ref a from rx)
  obtain⟨_,_,xs,_,o,es,ep,h1,h2,_⟩:=(show a6 X.prog X.w H s.heap a (.dT kvs) from I.bx a _ ea)
  exact PySem.W.kia_one PySem.W.kitx_dict I.jD ⟨o,h1,h2.1⟩ e (λz=>nomatch z) h
 | @ins a C dx fs ea cl ha hn S3 hm =>
  cases (show u=Value.ref a from rx)
  obtain⟨mA,O,_⟩:=dw I.bx ea;obtain⟨od,J,_⟩:=O.look;exact PySem.W.kia_one (PySem.W.kitx_own (cl.get _) cl.hd ha hn S3 hm) I.jD J e (λz=>nomatch z) h
end
structure cQ (k:Nat)(A:XA):Prop where
 hd:A.handled=none
 dp:A.depth+3*k+5<recursionLimit
 un:A.units+16*k+200<Y4
theorem cQ.mono {j k:Nat}{A:XA}(r:cQ k A)(h:j<=k):cQ j A:=⟨r.hd,by have:=r.dp;lia,by have:=r.un;lia⟩
theorem cQ.deeper {k:Nat}{A:XA}(r:cQ (k+1) A)(env:Env):cQ k (A.deeper env) :=
 ⟨r.hd,by have:=r.dp;show A.depth+1+3*k+5<_;lia,by have:=r.un;show A.units+3+16*k+200<_;lia⟩
theorem cQ.depth {k:Nat}{A:XA}(r:cQ k A):A.depth<recursionLimit:=by have:=r.dp;lia
theorem cQ.units {k:Nat}{A:XA}(r:cQ k A):A.units+64<Y4:=by have:=r.un;lia
def Ky:TA:=λ_ H Q=>Q [] H
def FG (ta:TE)(tr:TA):TA:=λσ H Q=>ta σ H λx H1=>tr σ H1 λxs H2=>Q (x::xs) H2
section
variable {X:Cx}{e:Expr}{es:List Expr}{te:TE}{t:TA}{pos:Pos}
theorem cN:PA X [] Ky:=λ_ _ _ _ H Q I h=>Calls.spliced_nil ⟨[],H,I,.nil,h⟩
theorem bf (ha:PE X e te)(hr:PA X es t)(hs:WZ (e::es) X.env=(false,eval e X.env)::WZ es X.env:=by rfl):PA X (e::es) (FG te t):=by
 intro pos pins s σ H Q I h;rw[hs];show Xb _ _ (spliced ((false,eval e X.env)::YM pos (WZ es X.env))) _ _ s;refine Calls.spliced_cons (bJ (ha pins s σ H _ I h) λu s1 ⟨x,H1,I1,r1,q1⟩=>?_);exact bJ (hr pos pins s1 σ H1 _ I1 q1) λus s2 ⟨xs,H2,I2,r2,q2⟩=>⟨x::xs,H2,I2,.cons r1 r2,q2⟩
def OJ (t:TA):TE:=λσ H Q=>t σ H λxs H1=>xs.length<=W7/\∀p,H1 p=none->Q (.ref p) (upd H1 p (.tup xs))
def OO (t:TA):TE:=λσ H Q=>t σ H λxs H1=>xs.length<=W7/\∀p,H1 p=none->Q (.ref p) (upd H1 p (.lst xs))
theorem Ay {x1}(h:PA X es t):PE X (.Tuple es x1 pos) (OJ t):=by
 intro pins s σ H Q I hq;refine wpAny_Tuple_spliced (bJ (h pos pins s σ H _ I hq) λus s1 ⟨xs,H1,I1,r,z,q⟩=>⟨by rw[<- r.length];exact z,?_⟩)
 have hf:H1 s1.heap.objs.size=none:=I1.bx.fresh (WD _);refine⟨.ref s1.heap.objs.size,upd H1 s1.heap.objs.size (.tup xs),I1.laid (t':=s1.toks) (λb u e=>WH _ e) (WD _) ?_,rfl,q _ hf⟩;exact⟨z,us,r,⟨_,Xc _ rfl,rfl,_,rfl⟩⟩
theorem uW (h:PA X es t):PE X (.List es pos) (OO t):=by
 intro pins s σ H Q I hq;refine wpAny_List_spliced (bJ (h pos pins s σ H _ I hq) λus s1 ⟨xs,H1,I1,r,z,q⟩=>⟨by rw[<- r.length];exact z,?_⟩)
 have hf:H1 s1.heap.objs.size=none:=I1.bx.fresh (WD _);refine⟨.ref s1.heap.objs.size,upd H1 s1.heap.objs.size (.lst xs),I1.laid (t':=s1.toks) (λb u e=>WH _ e) (WD _) ?_,rfl,q _ hf⟩;exact⟨z,us,0,r,Xc _ rfl⟩
end
abbrev Sp:=List V->Hp->VK->XK->Prop
abbrev CI:=List Env->Hp->WE->XK->WC->WE->Prop
structure FC (P:WI)(w:W6)(K:PySem.W.Frag)(mg:Str->Option WC)(base:Heap)(A:XA)(outer:List Env)(s:WE)(H:Hp):Prop where
 frames:A.frames=some outer
 mod:Mod K mg base
 bs:∀b o,base.get? b=some o->s.heap.get? b=some o/\H b=none
 Gx:base.objs.size<=s.heap.objs.size
 mC:s.heap.FunFrames base outer
 Ka:∀b∈BN outer,H b=none
 bx:ip P w H s.heap
 bare:AllBare s.gens
def CE (outer:List Env)(P:WI)(w:W6)(H:Hp)(s:WE)(Q:VK)(u:WC)(s':WE):Prop :=
 ∃v H',s'.os=s.os/\AllBare s'.gens/\Un (BN outer) [] H H' s.heap s'.heap/\ip P w H' s'.heap/\RelV v u/\Q v H'
def CR (CX:CI)(outer:List Env)(P:WI)(w:W6)(H:Hp)(s:WE)(Q:VK)(E:XK)(r:Result)(s':WE):Prop :=
 match r with
 |.ok (.ret u)=>CE outer P w H s Q u s'
 |.ok _=>False
 |.error e=>CX outer H s E e s'
structure aM (P:WI)(w:W6)(K:PySem.W.Frag)(mg:Str->Option WC)(base:Heap)(CX:CI)(k:Nat)(f:Addr)(fd:Xx)(ps:List Str)(sp:Sp):Prop where
 len:∀vs H Q E,sp vs H Q E->vs.length=ps.length
 run:∀(A:XA) (outer:List Env) (s:WE) (H:Hp) (args:Args) (us:List WC) (vs:List V) (Q:VK) (E:XK),cQ k A->FC P w K mg base A outer s H->BindsTo s fd args (ps.zip us)->Vals vs us->sp vs H Q E ->
  Z6 (model P w) A (.call (.ref f) args) (CR CX outer P w H s Q E) s
theorem aM.imp {P:WI}{w:W6}{K:PySem.W.Frag}{mg:Str->Option WC}{base:Heap}{CX:CI}{k:Nat}{f:Addr}{fd:Xx}{ps:List Str}{sp Se:Sp}(F:aM P w K mg base CX k f fd ps sp)
  (h:∀vs H Q E,Se vs H Q E->sp vs H Q E):aM P w K mg base CX k f fd ps Se :=
 ⟨λvs H Q E q=>F.len vs H Q E (h _ _ _ _ q),λA outer s H args us vs Q E hr he hb hv hs=>F.run A outer s H args us vs Q E hr he hb hv (h _ _ _ _ hs)⟩
section
variable {X:Cx}{pins:List (Addr×Obj)}{σ:St}{H:Hp}{s s':WE}
theorem Inv.Rw (I:Inv X pins σ H s):FC X.prog X.w X.K X.mg X.base X.A X.stack s H :=
 ⟨I.ok.frames,I.ok.mod,I.bs,Xo I.ok.Gx I.sz,I.stack,I.vT,I.bx,I.bare⟩
theorem Inv.after {Q:VK}{u:WC}(I:Inv X pins σ H s)(h:CE X.stack X.prog X.w H s Q u s'):EP X pins σ Q u s':=by
 obtain⟨v,H',os,bare,un,bx,r,q⟩:=h;obtain⟨hh,g,d,t,Px⟩:=s';obtain rfl:Px=s.os:=os;exact⟨v,H',I.call (h':=hh) (g':=g) (d':=d) (t':=t) (ch:=[]) un bx bare (λb z=>absurd z (by simp)),r,q⟩
end
def KD (sp:Sp)(Gn:List V)(E:XK)(t:TA):TE:=λσ H Q=>t σ H λvs H1=>sp (vs++Gn) H1 Q E
def Binds (K:PySem.W.Frag)(fd:Xx)(ps:List Str)(ds:List WC):Prop :=
 ∀(s:WE) (us:List WC),K.In s.heap->(us++ds).length=ps.length->BindsTo s fd ⟨us,[]⟩ (ps.zip (us++ds))
theorem Binds.all {K:PySem.W.Frag}{fd:Xx}{ps:List Str}(h:∀us:List WC,us.length=ps.length->bindArgs fd ⟨us,[]⟩=pure (ps.zip us)):Binds K fd ps []:=λs us _ hl=>by
 rw[XY]at hl ⊢
 exact .of_eq (h us hl)
def Passes (CX:CI)(X:Cx)(E:XK):Prop:=∀(pins:List (Addr×Obj)) (σ:St) (H:Hp) (s:WE) (e:WC) (s':WE),Inv X pins σ H s->CX X.stack H s E e s'->X.xe e s'
section
variable {X:Cx}{CX:CI}{k:Nat}{f:Addr}{fd:Xx}{ps:List Str}{sp:Sp}{Gn:List V}{ds:List WC}{E:XK}{x:Str}{p pos:Pos}{e:Expr}{es:List Expr}{t:TA}
theorem Hj {pins:List (Addr×Obj)}{σ:St}{H:Hp}{s:WE}{Q:VK}{us:List WC}{vs:List V}(F:aM X.prog X.w X.K X.mg X.base CX k f fd ps sp)(hr:cQ k X.A)(hb:Binds X.K fd ps ds)(hd:Vals Gn ds)(hx:Passes CX X E)
  (I:Inv X pins σ H s) (r:Vals vs us) (h:sp (vs++Gn) H Q E):Xb (model X.prog X.w) X.A (call (.ref f) us) (EP X pins σ Q) X.xe s:=by
 have r2:Vals (vs++Gn) (us++ds):=r.append hd;have hl:(us++ds).length=ps.length:=by rw[<- r2.length];exact F.len _ _ _ _ h
 refine wpAny_call (ZA (F.run X.A X.stack s H ⟨us,[]⟩ (us++ds) (vs++Gn) Q E hr I.Rw (hb s us I.jD hl) r2 h) λr s' hq=>?_);cases r with
 |error e=>exact hx pins σ H s e s' I hq
 |ok fl =>
  cases fl with
  |ret u=>exact I.after hq
  |next=>exact Zi hq
  |brk=>exact Zi hq
  |cont=>exact Zi hq
theorem wx (F:aM X.prog X.w X.K X.mg X.base CX k f fd ps sp)(hr:cQ k X.A)(hg:Gl X x)(hm:X.mg x=some (.ref f))(hk:PySem.W.keepIn X.K (.ref f)=true)(hb:Binds X.K fd ps ds)(hd:Vals Gn ds)(hx:Passes CX X E)
  (ha:PA X (e::es) t) (hdb:(x==("__debug__" : Str))=false:=by decide) (he:WZ (e::es) X.env=(false,eval e X.env)::WZ es X.env:=by rfl) (hpl:(YM pos (WZ es X.env)).any (·.1)=false:=by rfl) :
  PE X (.Call (.Name x p) (e::es) [] pos) (KD sp Gn E t):=by
 intro pins s σ H Q I h;refine wpAny_Call_Name_kw (Ep I hg hm ?_ hdb);refine PySem.W.callWith_K (h₀:=X.base) I.ok.mod.PR hk (bJ (ha pos pins s σ H _ I h) λus s1 ⟨vs,H1,I1,r,q⟩=>⟨I1.jD,?_⟩) he hpl;exact Hj F hr hb hd hx I1 r q
end
section
end
structure aK (N P:List Str)(sc:Zv):Prop where
 kind:sc.kind=.function
 co:sc.isCoroutine=false
 gen:sc.isGenerator=false
 nd:N.Nodup
 pre:N.take P.length=P
 par:∀x∈P,sc.names.lookup x=some .local\/sc.names.lookup x=some .cell
 HZ:∀y∈sc.names,y.2≠.free
theorem pB {kindOf:Str->Option ZI}{x:Str}:∀{binds:List (Str×WC)} {m:Str->Option WC},(∀v,(x,v)∉binds)->bindL kindOf binds m x=m x
 |[],_,_=>rfl
 | (n,v)::r,m,h=>by
  unfold bindL;rw[pB λw hw=>h w (WQ _ hw)]
  split
  ·have:x≠n:=by rintro rfl;exact h v WO
   simp[this]
  ·rfl
theorem pD {kindOf:Str->Option ZI}{x:Str}:∀{binds:List (Str×WC)} {m:Str->Option WC},(∀v,(x,v)∉binds)->bindC kindOf binds m x=m x
 |[],_,_=>rfl
 | (n,v)::r,m,h=>by
  unfold bindC;rw[pD λw hw=>h w (WQ _ hw)]
  split
  ·rfl
  ·have:x≠n:=by rintro rfl;exact h v WO
   simp[this]
theorem pC {kindOf:Str->Option ZI}{x:Str}{v:WC}:∀{P:List Str} {vs:List WC} {i:Nat} {m:Str->Option WC},P.Nodup->P[i]?=some x->vs[i]?=some v->kindOf x=some .local ->
  bindL kindOf (P.zip vs) m x=some v
 |[],_,_,_,_,h,_,_=>by simp at h
 |_::_,[],_,_,_,_,h,_=>by simp at h
 |p::P,w::vs,0,m,nd,h1,h2,hk=>by
  simp at h1 h2;subst h1;subst h2;show bindL kindOf ((p,w)::P.zip vs) m p=_;unfold bindL;rw[pB λv hv=>(Xg.mp nd).1 (ZL hv).1,if_pos hk];simp
 |p::P,w::vs,i+1,m,nd,h1,h2,hk=>by
  show bindL kindOf ((p,w)::P.zip vs) m x=_;unfold bindL;exact pC (i:=i) (Xg.mp nd).2 (by simpa using h1) (by simpa using h2) hk
theorem pE {kindOf:Str->Option ZI}{x:Str}{v:WC}:∀{P:List Str} {vs:List WC} {i:Nat} {m:Str->Option WC},P.Nodup->P[i]?=some x->vs[i]?=some v->kindOf x≠some .local ->
  bindC kindOf (P.zip vs) m x=some v
 |[],_,_,_,_,h,_,_=>by simp at h
 |_::_,[],_,_,_,_,h,_=>by simp at h
 |p::P,w::vs,0,m,nd,h1,h2,hk=>by
  simp at h1 h2;subst h1;subst h2;show bindC kindOf ((p,w)::P.zip vs) m p=_;unfold bindC;rw[pD λv hv=>(Xg.mp nd).1 (ZL hv).1,if_neg hk];simp
 |p::P,w::vs,i+1,m,nd,h1,h2,hk=>by
  show bindC kindOf ((p,w)::P.zip vs) m x=_;unfold bindC;exact pE (i:=i) (Xg.mp nd).2 (by simpa using h1) (by simpa using h2) hk
def start (N:List Str)(vs:List V):St:=vs.map some++Xs (N.length-vs.length) none
def nM (CX:CI)(P:WI)(w:W6)(K:PySem.W.Frag)(mg:Str->Option WC)(base:Heap)(N:List Str)(qual:Str)(scope:Zv)(f:Addr)(cd:WC)(A:XA)(outer:List Env)(s:WE)(H:Hp)(E:XK):Cx where
 prog:=P
 w:=w
 K:=K
 mg:=mg
 base:=base
 A:=A.deeper (envOfC qual scope s.heap.objs.size f cd)
 N:=N
 s₀:=s
 H₀:=H
 env:=envOfC qual scope s.heap.objs.size f cd
 outer:=outer
 stack:=envOfC qual scope s.heap.objs.size f cd::outer
 ex:=[]
 calm:=true
 fn:=λ_=>true
 pn:=[]
 xe:=λe s'=>Xb (model P w) (A.deeper (envOfC qual scope s.heap.objs.size f cd)) (leaving (envOfC qual scope s.heap.objs.size f cd) e) (λ_ O4=>CX outer H s E e O4) (λe' O4=>CX outer H s E e' O4) s'
theorem tR {sc:Zv}{n:Nat}{x:Str}(h:sc.names.lookup x=some .cell):∃c,(cellsFrom n sc.names []).lookup x=some c:=by
 have q:=PySem.W.cellsFrom_some sc.names n [] (.inl h);exact Option.isSome_iff_exists.mp q
theorem yr {CX:CI}{P:WI}{w:W6}{K:PySem.W.Frag}{mg:Str->Option WC}{base:Heap}{N ps:List Str}{qual:Str}{scope:Zv}{f:Addr}{cd:WC}{A:XA}{outer:List Env}{s s1:WE}{H:Hp}{E:XK}{us:List WC}{vs:List V}
  (S:aK N ps scope) (hd:A.handled=none) (e0:FC P w K mg base A outer s H) (hl:vs.length=ps.length) (r:Vals vs us)
  (x:InCallC s s.heap.objs.size (bindL (envOfC qual scope s.heap.objs.size f cd).kindOf (ps.zip us) λ_=>none) (cellsFrom (s.heap.objs.size+1) scope.names []) (bindC (envOfC qual scope s.heap.objs.size f cd).kindOf (ps.zip us) λ_=>none) s1) :
  Inv (nM CX P w K mg base N qual scope f cd A outer s H E) [] (start N vs) H s1:=by
 have hpl:ps.length<=N.length:=by have:=congrArg List.length S.pre;rw[Xj]at this;lia
 obtain⟨h1,tk,rfl,hk⟩:=x.done;have Lo:∀b:Addr,b∉(nM CX P w K mg base N qual scope f cd A outer s H E).ex:=λb z=>absurd (show b∈([]:List Addr) from z) (by simp)
 refine⟨⟨e0.mod,S.kind,rfl,rfl,WD _,λy z c h1 h2=>?_,λy hy=>?_,λy c _ h=>?_,λ_=>hd,Around.frames_deeper e0.frames,.inr ⟨rfl,rfl⟩,λb z=>absurd z (Lo b),e0.bs,e0.Gx,λb _ _=>Lo b,λb z=>absurd z (Lo b),e0.mC,e0.Ka⟩,
  rfl,e0.bare,Un.kept hk,⟨_,x.toInCall.ns,λi y v h1 h2 h3=>?_⟩,λy c h=>⟨_,x.cell y c h⟩,e0.bx.fresh (WD _),λy c h=>?_,λp hp=>absurd (show p∈([]:List (Addr×Obj)) from hp) (by simp),e0.bx.kept hk,?_⟩
 ·exact name_of_addr x.apart (PySem.mem_of_lookup h1) (PySem.mem_of_lookup h2)
 ·have hy:scope.names.lookup y=some .cell\/scope.names.lookup y=some .free:=hy;rcases hy with hy|hy
  ·exact tR hy
  ·exact absurd rfl (S.HZ _ (PySem.mem_of_lookup hy))
 ·exact Nat.le_of_lt (x.above y c (PySem.mem_of_lookup h))
 ·have hi:i<vs.length:=by
   unfold start at h2
   by_cases hi:i<vs.length
   ·exact hi
   ·rw[XX (by simpa using hi)]at h2
    rw[List.getElem?_replicate]at h2
    split at h2 <;> cases h2
  have ha:vs[i]?=some v:=by
   unfold start at h2;rw[Yi (by simpa using hi),WU]at h2
   cases e:vs[i]? with
   |none=>rw[e]at h2;cases h2
   |some a=>rw[e]at h2;cases h2;rfl
  obtain⟨u,hu,rv⟩:=r.get ha;have hp:ps[i]?=some y:=by
   rw[<- S.pre,Zr (by lia)];exact h1
  have SH:ps.Nodup:=by rw[<- S.pre];exact S.nd.sublist (List.take_sublist _ _)
  refine⟨u,rv,?_⟩;rcases S.par y (XB hp)with k|k
  ·exact .inl ⟨k,pC SH hp hu k⟩
  ·obtain⟨c,e⟩:=tR (n:=s.heap.objs.size+1) k;refine .inr ⟨.inl k,c,e,?_⟩;have q:=x.cell y c e;rw[pE SH hp hu (by show scope.names.lookup y≠_;rw[k];decide)]at q
   exact q
 ·exact e0.bx.fresh (Nat.le_of_lt (x.above y c (PySem.mem_of_lookup h)))
 ·unfold start;show _=N.length;rw[Xi,WB,List.length_replicate];lia
theorem M4 {CX:CI}{P:WI}{w:W6}{K:PySem.W.Frag}{mg:Str->Option WC}{base:Heap}{k:Nat}{f:Addr}{name qual:Str}{params:Arguments}{body:List Stmt}{scope:Zv}{dV kV doc pm cJ ct oc:WC}{an od:Option Addr}
  {HH:Array (Option WC)} {N ps:List Str} {sp:Sp} (lk:K.lookup f=some ⟨oc,od,.func (PySem.W.fnOf name qual params body scope dV kV doc pm an cJ ct),HH⟩) (ir:PySem.W.codeIn K cJ qual=true) (S:aK N ps scope)
  (len:∀vs H Q E,sp vs H Q E->vs.length=ps.length)
  (mB:∀(A:XA) (outer:List Env) (s:WE) (H:Hp) (vs:List V) (Q:VK) (E:XK),cQ k (A.deeper (envOfC qual scope s.heap.objs.size f cJ))->sp vs H Q E ->
   ∃t,uo (nM CX P w K mg base N qual scope f cJ A outer s H E) body t/\t {nx:=λ_ H'=>Q .bU H',rt:=Q} (start N vs) H) :
  aM P w K mg base CX (k+1) f (PySem.W.fnOf name qual params body scope dV kV doc pm an cJ ct) ps sp:=by
 refine⟨len,λA outer s H args us vs Q E hr e0 hb r mw=>?_⟩;have hl:=len _ _ _ _ mw;have KX:K.In s.heap:=e0.mod.PR.keeps λb o e=>(e0.bs b o e).1;have lim:s.heap.NoLimit:=e0.mod.nolimit.keeps λb o e=>(e0.bs b o e).1;have MR:∀y∈ps.zip us,scope.names.lookup y.1=some .local\/(scope.names.lookup y.1=some .cell/\((cellsFrom (s.heap.objs.size+1) scope.names []).lookup y.1).isSome=true):=λQh hy=>by
  obtain⟨n,v⟩:=Qh;rcases S.par n (ZL hy).1 with q|q
  ·exact .inl q
  ·exact .inr ⟨q,PySem.W.cellsFrom_some _ _ _ (.inl q)⟩
 refine codeAny_call_function hr.depth (KX _ _ lk) rfl S.co S.gen rfl (PySem.W.codeRec_of KX ir) (hb _ _ _ _ ?_);refine wpAny_newFunctionEnv_cells S.kind MR λenv he s1 x=>?_;subst he;refine⟨lim.keeps x.toInCall.keep,codeAny_func ?_⟩;obtain⟨t,ht,hq⟩:=mB A outer s H vs Q E (hr.deeper _) mw;have I:Inv (nM CX P w K mg base N qual scope f cJ A outer s H E) [] (start N vs) H s1:=yr S hr.hd e0 hl r x;refine ZT (ht [] s1 (start N vs) H _ I hq) (λfl s' hs=>?_) λe s' hs=>hs;have fin:∀{σ':St} {H':Hp} {v:V} {u:WC},Inv (nM CX P w K mg base N qual scope f cJ A outer s H E) [] σ' H' s'->RelV v u->Q v H'->CE outer P w H s Q u s' :=
  λ{σ' H' v u} J rv q=>⟨v,H',J.os,J.bare,J.base,J.bx,rv,q⟩
 cases fl with
 |ret u =>
  obtain⟨v,σ',H',J,rv,q⟩:=hs;exact fin J rv q
 |next =>
  obtain⟨σ',H',J,q⟩:=hs;exact fin (v:=V.bU) (u:=Value.none) J rfl q
 |brk =>
  obtain⟨_,_,_,q⟩:=hs;exact Zi q
 |cont =>
  obtain⟨_,_,_,q⟩:=hs;exact Zi q
section
variable {X:Cx}{x:Str}{p pos:Pos}{e:Expr}{es:List Expr}{t:TA}{id T:String}{r:List V->Hp->VK->Prop}
def OR (r:List V->Hp->VK->Prop)(t:TA):TE:=λσ H Q=>t σ H λvs H1=>r vs H1 Q
theorem iM (hc:eU X (.builtin id) r) (hg:Gl X x) (hm:X.mg x=none) (hv:XC x=some (.builtin id)) (ha:PA X (e::es) t) (hn:x≠"__name__" := by decide) (hdb:(x==("__debug__" : Str))=false:=by decide)
  (he:WZ (e::es) X.env=(false,eval e X.env)::WZ es X.env:=by rfl) (hpl:(YM pos (WZ es X.env)).any (·.1)=false:=by rfl):PE X (.Call (.Name x p) (e::es) [] pos) (OR r t):=by
 intro pins s σ H Q I h;refine wpAny_Call_Name_kw (h7 I hg hm hv ?_ hn hdb);exact PyProof.Rows.callWith_builtin1 (bJ (ha pos pins s σ H _ I h) λus s1 Qg=>by obtain⟨vs,H1,I1,r1,q1⟩:=Qg;exact hc pins s1 σ H1 vs us Q I1 r1 q1) he hpl
theorem om (hc:eU X (.type T) r) (hg:Gl X x) (hm:X.mg x=none) (hv:XC x=some (.type T)) (ha:PA X (e::es) t) (hn:x≠"__name__" := by decide) (hdb:(x==("__debug__" : Str))=false:=by decide)
  (he:WZ (e::es) X.env=(false,eval e X.env)::WZ es X.env:=by rfl) (hpl:(YM pos (WZ es X.env)).any (·.1)=false:=by rfl):PE X (.Call (.Name x p) (e::es) [] pos) (OR r t):=by
 intro pins s σ H Q I h;refine wpAny_Call_Name_kw (h7 I hg hm hv ?_ hn hdb);exact YF (bJ (ha pos pins s σ H _ I h) λus s1 Qe=>by obtain⟨vs,H1,I1,r1,q1⟩:=Qe;exact hc pins s1 σ H1 vs us Q I1 r1 q1) he hpl
end
end L2
namespace HT
open PySem PyProof.Rows
def lexLt:List Int->List Int->Bool
 |[],[]=>false
 |[],_::_=>true
 |_::_,[]=>false
 |x::xs,y::ys=>if x=y then lexLt xs ys else decide (x<y)
theorem fq (x y:Int)(xs ys:List Int):lexLt (x::xs) (y::ys)=if x=y then lexLt xs ys else decide (x<y):=rfl
theorem ny:lexLt [] []=false:=rfl
theorem l_ (y:Int)(ys:List Int):lexLt [] (y::ys)=true:=rfl
theorem md (x:Int)(xs:List Int):lexLt (x::xs) []=false:=rfl
theorem B0 (A:XA)(s:WE)(a:Int)(t:Tok)(c:Int)(u:Tok):∃e,SeqAt.EqAt A s (.int a t) (.int c u) e/\(e=true↔a=c) :=
 ⟨(a==c),SeqAt.EqAt.int_int a t c u,by simp⟩
theorem Aa (A:XA)(s:WE)(a:Int)(t:Tok)(c:Int)(u:Tok)(prog:WI)(w:W6)(E:WC->WE->Prop)(Q:WC->WE->Prop)(h:Q (.bool (decide (a<c))) s):
  Xb (model prog w) A (richCompare .Lt (.int a t) (.int c u)) Q E s :=
 (PyProof.Rows.lt_int h:Xb (model prog w) A (X5 .Lt (.int a t) (.int c u)) Q E s)
section
open PySem.SeqAt
open PySem.AutoSeq1 (wpAny_loadPart')
open PySem.MeetsSeq PySem.MeetsSeq2 PySem.MeetsSeq3
theorem ni (l b:Addr)(items aD:Array WC)(n n2:Nat)(dd CP:Option Addr)(sl CL:Array (Option WC))(ns ms:List Int)(hi:Yq items.toList ns)(hj:Yq aD.toList ms):
  Meets (Y3.«tuple.__lt__» ⟨[.ref l,.ref b],[]⟩)
   (λ_ R s=>s.heap.get? l=some {cls:=.type "tuple",dict:=dd,data:=.seq items n,slots:=sl}/\s.heap.get? b=some {cls:=.type "tuple",dict:=CP,data:=.seq aD n2,slots:=CL} /\
    R (.ok (.ret (.bool (lexLt ns ms)))) s) :=
 .of_wp λprog w A R s h=>by
  obtain⟨hp,g,d,tk,os⟩:=s;obtain⟨hl,hb,h⟩:=h;have f2:=AutoSeq1.sub_tuple_tuple;have z1:items.size=ns.length:=by rw[<- hi.length];simp
  have z2:aD.size=ms.length:=by rw[<- hj.length];simp
  wp_walk using Xv hl,Xv hb,aac _ (λrest b s'=>b.1=none/\s'=⟨hp,g,d,tk,os⟩/\∃(vs ws:List WC) (ou J1:List Int),rest=vs.zip ws /\
   Yq vs ou/\Yq ws J1/\ou.length+aD.size=J1.length+items.size/\R (.ok (.ret (.bool (lexLt ou J1)))) ⟨hp,g,d,tk,os⟩) _
  case turn =>
   rintro⟨y,x⟩ rest b s' ⟨kL,rfl,vs,ws,ou,J1,hz,Qa,N1,hlen,hR⟩;cases Qa with
   |nil=>rw[Z7]at hz;cases hz
   |cons a t P_ =>
    cases N1 with
    |nil=>rw[List.zip_nil_right]at hz;cases hz
    |cons c u P8 =>
     rw[Y1]at hz;injection hz with US sL
     injection US with hy hx
     subst hy hx;rw[fq]at hR;simp only[WS]at hlen;obtain⟨e,he,MU⟩:=B0 A.in1 ⟨hp,g,d,tk,os⟩ a t c u;refine WA (he prog w _ _ ?_);cases e with
     |true =>
      rw[if_pos (MU.mp rfl)]at hR
      wp_walk
      exact⟨rfl,rfl,_,_,_,_,sL,P_,P8,by lia,hR⟩
     |false =>
      rw[if_neg (λq=>absurd (MU.mpr q) X7)]at hR;have Qd:=Aa A.in1 ⟨hp,g,d,tk,os⟩ a t c u prog w
      wp_walk using Qd
      exact⟨_,rfl,by simpa using hR⟩
  case fin =>
   rintro⟨b1,b2⟩ s' ⟨kL,rfl,vs,ws,ou,J1,hz,Qa,N1,hlen,hR⟩;simp only at kL;subst kL;have hv:lexLt ou J1=decide (items.size<aD.size):=by
    cases Qa with
    |nil =>
     cases N1 with
     |nil =>
      simp only[ZM]at hlen;rw[ny];exact(decide_eq_false (by lia)).symm
     |cons c u hw =>
      simp only[ZM,WS]at hlen;rw[l_];exact(decide_eq_true (by lia)).symm
    |cons a t hv =>
     cases N1 with
     |nil =>
      simp only[ZM,WS]at hlen;rw[md];exact(decide_eq_false (by lia)).symm
     |cons c u hw =>
      rw[Y1]at hz;cases hz
   rw[hv]at hR
   wp_walk
   exact⟨_,rfl,by simpa[Builtin.Tuple.tupleCompareSizes] using hR⟩
  case h =>
   exact⟨rfl,rfl,items.toList,aD.toList,ns,ms,rfl,hi,hj,by lia,h⟩
end
section
variable {prog:WI}{w:W6}{A:XA}{E:WC->WE->Prop}{s:WE}
theorem u9 {l b:Addr}{items aD:Array WC}{ns ms:List Int}{Q:WC->WE->Prop}(hl:IsTup s.heap l items)(hb:IsTup s.heap b aD)(hi:Yq items.toList ns)(hj:Yq aD.toList ms)
  (hu:A.units<Y4) (h:Q (.bool (lexLt ns ms)) s):Xb (model prog w) A (X5 .Lt (.ref l) (.ref b)) Q E s:=by
 obtain⟨⟨cls,dd,data,sl⟩,ho,hc,n,hd⟩:=id hl;obtain⟨⟨RG,CP,data2,CL⟩,F9,nD,n2,hd2⟩:=id hb;simp only at hc hd nD hd2;subst hc hd nD hd2;exact richCompare_meets_room (op:=.Lt) ⟨_,ho,rfl⟩ ⟨_,F9,rfl⟩ PySem.F.slot_tuple_lt PySem.F.entry_tuple_lt (PySem.F.args_tuple_lt_2 _ _) (ni l b items aD n n2 dd CP sl CL ns ms hi hj)
  ⟨ho,F9,show Value.bool (lexLt ns ms)≠Value.notImplemented/\Q (.bool (lexLt ns ms)) s from ⟨(λx=>nomatch x),h⟩⟩ hu
def lI (n d:Nat):Option Int->Nat
 |none=>d
 |some v=>if v<0 then (v+(n:Int)).toNat else min v.toNat n
theorem zZ (n d:Nat):lI n d none=d:=rfl
theorem Dt (n d k:Nat):lI n d (some (k:Int))=min k n:=by
 show (if (k:Int)<0 then ((k:Int)+(n:Int)).toNat else min (k:Int).toNat n)=min k n
 rw[if_neg (by lia),Zd]
end
end HT
namespace L2
open PySem PySem.Spec PyProof.Rows
abbrev TO:=St->Hp->(Option Int->Hp->Prop)->Prop
def PO (X:Cx)(e:Option Expr)(t:TO):Prop :=
 ∀(pins:List (Addr×Obj)) (s:WE) (σ:St) (H:Hp) (Q:Option Int->Hp->Prop),Inv X pins σ H s->t σ H Q ->
  Xb (model X.prog X.w) X.A (evalPart e X.env) (λu s'=>∃o H',Inv X pins σ H' s'/\IsPart u o/\Q o H') X.xe s
def C9:TO:=λ_ H Q=>Q none H
def Kv (t:TE):TO:=λσ H Q=>t σ H λx H1=>∃i,x=.int i/\Q (some i) H1
theorem intsAre_of {ns:List Int}:∀{us:List WC},Vals (ns.map V.int) us->Yq us ns:=by
 induction ns with
 |nil=>intro us r;rw[List.map_nil]at r;cases r;exact .nil
 |cons n ns ih =>
  intro us r;rw[W_]at r;cases r with
  |cons r1 r2 =>
   obtain⟨t,e⟩:=r1;subst e;exact .cons n t (ih r2)
section
variable {X:Cx}{e:Expr}{te:TE}{lo hi:Option Expr}{tl th:TO}{pos p2:Pos}
theorem wm:PO X none C9:=by
 intro pins s σ H Q I h;rw[evalPart_none];exact WJ ⟨none,H,I,.none,h⟩
theorem wj (h:PE X e te):PO X (some e) (Kv te):=by
 intro pins s σ H Q I hw;rw[evalPart_some];refine bJ (h pins s σ H _ I hw) λu s1 ⟨x,H1,I1,r1,q1⟩=>?_;obtain⟨i,rfl,q⟩:=q1;obtain⟨t,rfl⟩:=r1;exact⟨some i,H1,I1,.int i t,q⟩
def RL (X:Cx)(r:V->Option Int->Option Int->Hp->VK->Prop):Prop :=
 ∀(pins:List (Addr×Obj)) (s:WE) (σ:St) (H:Hp) (x:V) (v vl vu:WC) (lo hi:Option Int) (sl:Addr) (Q:VK),Inv X pins σ H s->RelV x v->s.heap.IsSliceOf sl vl vu .none->IsPart vl lo->IsPart vu hi->r x lo hi H Q ->
  ∃T id,typeLookup (.type T) "__getitem__" = pure (some (.builtin id))/\s.TypeIs v T/\Xb (model X.prog X.w) X.A (getItem v (.ref sl)) (EP X pins σ Q) X.xe s
def TZ (r:V->Option Int->Option Int->Hp->VK->Prop)(te:TE)(tl th:TO):TE:=λσ H Q=>te σ H λx H1=>tl σ H1 λl H2=>th σ H2 λu H3=>r x l u H3 Q
theorem rQ {r:V->Option Int->Option Int->Hp->VK->Prop}(hr:RL X r)(he:PE X e te)(hl:PO X lo tl)(hu:PO X hi th):PE X (.Subscript e (.Slice lo hi none p2) pos) (TZ r te tl th):=by
 intro pins s σ H Q I h;refine Subscript_ (bJ (he pins s σ H _ I h) λv s1 ⟨x,H1,I1,r1,q1⟩=>?_);refine wpAny_Slice (bJ (hl pins s1 σ H1 _ I1 q1) λvl s2 ⟨l,H2,I2,pl,q2⟩=>bJ (hu pins s2 σ H2 _ I2 q2) λvu s3 ⟨u,H3,I3,pu,q3⟩=>?_);rw[evalPart_none];refine WJ ?_;have I4:Inv X pins σ H3 {s3 with heap:=s3.heap.push {cls:=.type "slice",data:=.fields #[vl,vu,.none]}}:=I3.kept (t':=s3.toks) λb ob q=>WH _ q
 obtain⟨T,id,hT,ht,hg⟩:=hr pins {s3 with heap:=s3.heap.push {cls:=.type "slice",data:=.fields #[vl,vu,.none]}} σ H3 x v vl vu l u s3.heap.objs.size Q I4 r1 (Heap.IsSliceOf.new ..) pl pu q3
 show Xb (model X.prog X.w) X.A (subscriptTail e (.Slice lo hi none p2) v (.ref s3.heap.objs.size)) (EP X pins σ Q) X.xe {s3 with heap:=s3.heap.push {cls:=.type "slice",data:=.fields #[vl,vu,.none]}}
 exact tail_any (ops:=[.ref s3.heap.objs.size,v]) ht hT hg (by with_unfolding_all rfl)
def tP (xs:List V)(lo hi:Option Int):List V:=(xs.drop (HT.lI xs.length 0 lo)).take (HT.lI xs.length xs.length hi-HT.lI xs.length 0 lo)
theorem tO (xs:List V)(lo hi:Option Int):(tP xs lo hi).length<=xs.length:=by
 unfold tP;rw[Xj,Zm];lia
end
def wN (n:Nat)(i:Int):Option Nat:=if 0<=i then (if i<n then some i.toNat else none) else if -(n:Int)<=i then some (i+n).toNat else none
def nN {α:Type}(xs:List α)(i:Int):Option α:=(wN xs.length i).bind λj=>xs[j]?
theorem wM {n:Nat}{i:Int}{j:Nat}(h:wN n i=some j):seqIndex? i n=some j/\j<n/\-(n:Int)<=i/\i<n:=by
 unfold wN at h
 by_cases h0:0<=i
 ·rw[if_pos h0]at h
  by_cases h1:i<n
  ·rw[if_pos h1]at h;have e:i.toNat=j:=Xp h;exact⟨by rw[seqIndex_of h0 h1,e],by lia,by lia,h1⟩
  ·rw[if_neg h1]at h;cases h
 ·rw[if_neg h0]at h
  by_cases h1:-(n:Int)<=i
  ·rw[if_pos h1]at h;have e:(i+n).toNat=j:=Xp h;exact⟨by rw[seqIndex_neg (by lia) h1,e],by lia,h1,by lia⟩
  ·rw[if_neg h1]at h;cases h
theorem xj {α:Type}{xs:List α}{i:Int}{v:α}(h:nN xs i=some v):∃j,seqIndex? i xs.length=some j/\xs[j]?=some v/\j<xs.length/\-(xs.length:Int)<=i/\i<xs.length:=by
 unfold nN at h;cases e:wN xs.length i with
 |none=>rw[e]at h;cases h
 |some j =>
  rw[e]at h;obtain⟨h1,h2,h3,h4⟩:=wM e;exact⟨j,h1,h,h2,h3,h4⟩
def k9 (b:Expr):Prop:=∀o i,subscripted b false o i=operate [o,i] (getItem o i)
def GF (X:Cx)(r:R2):Prop :=
 ∀(value slice:Expr) (pins:List (Addr×Obj)) (s:WE) (σ:St) (H:Hp) (x y:V) (v u:WC) (Q:VK),Inv X pins σ H s->RelV x v->RelV y u->r x y H Q ->
  subscripted slice false v u=operate [v,u] (getItem v u)->Xb (model X.prog X.w) X.A (subscriptTail value slice v u) (EP X pins σ Q) X.xe s
def RN (X:Cx)(id:String)(r:V->List V->Hp->VK->Prop):Prop :=
 ∀(pins:List (Addr×Obj)) (s:WE) (σ:St) (H:Hp) (x:V) (xs:List V) (v:WC) (us:List WC) (Q:VK),Inv X pins σ H s->RelV x v->Vals xs us->r x xs H Q ->
  Xb (model X.prog X.w) X.A (call (.builtin id) (v::us)) (EP X pins σ Q) X.xe s
section
variable {X:Cx}{a b:Expr}{ta tb:TE}{pos:Pos}
theorem j4 {r:R2}(hr:GF X r)(ha:PE X a ta)(hb:PE X b tb)(hs:k9 b):PE X (.Subscript a b pos) (Kw r ta tb):=by
 intro pins s σ H Q I h;exact Subscript_ (JN ha hb I h λv u s2 x y H2 I2 rx ry q=>hr a b pins s2 σ H2 x y v u Q I2 rx ry q (hs _ _))
def KU (K:PySem.W.Frag):R2:=λx y H Q=>∃p xs i v,x=.ref p/\y=.int i/\c0 K H p xs/\nN xs i=some v/\Q v H
def KS (K:PySem.W.Frag):R2:=λx y H Q=>∃p xs i v,x=.ref p/\y=.int i/\t9 K H p xs/\nN xs i=some v/\Q v H
theorem d9:GF X (KU X.K):=by
 intro value slice pins s σ H x y v u Q I rx ry h hs;obtain⟨p,xs,i,z,rfl,rfl,hq,he,q⟩:=h;cases rx;obtain⟨t,rfl⟩:=ry;obtain⟨its,r,pl,hz⟩:=I.list hq;obtain⟨j,h1,h2,h3,h4,h5⟩:=xj he;obtain⟨w,ew,CM⟩:=r.get h2;have hl:=r.length;have hn:=qm;have fin:EP X pins σ Q w s:=⟨z,H,I,CM,q⟩
 by_cases h0:0<=i
 ·have hj:i.toNat=j:=by
   rw[seqIndex_of h0 h5]at h1;exact Xp h1
  exact item_listR pl.isList h0 (by lia) (by rw[hj];simpa using ew) fin hs
 ·have hj:(i+(its.toArray.size:Int)).toNat=j:=by
   rw[seqIndex_neg (by lia) h4]at h1
   rw[Xd,<- hl];exact Xp h1
  exact subscriptTail_builtinR (x:=w) pl.isList.typeIs slot_list_getitem.lookup
   (wpAny_getItem_list_neg (Q:=λr s'=>r=w/\EP X pins σ Q r s') pl.isList (by lia) (by rw[Xd] <;> lia) (by lia) (by rw[hj];simpa using ew) ⟨rfl,fin⟩) hs
theorem Bl:GF X (KS X.K):=by
 intro value slice pins s σ H x y v u Q I rx ry h hs;obtain⟨p,xs,i,z,rfl,rfl,hq,he,q⟩:=h;cases rx;obtain⟨t,rfl⟩:=ry;obtain⟨its,r,pl,hz⟩:=I.tuple hq;obtain⟨j,h1,h2,h3,h4,h5⟩:=xj he;obtain⟨w,ew,CM⟩:=r.get h2;have hl:=r.length;have hn:=qm;have fin:EP X pins σ Q w s:=⟨z,H,I,CM,q⟩;exact subscriptTail_builtinR (x:=w) pl.typeIs slot_tuple_getitem.lookup
  (getItem_tuple (j:=j) (Q:=λr s'=>r=w/\EP X pins σ Q r s') pl (by lia) (by lia) (by rw[Xd,<- hl];exact h1) (by simpa using ew) ⟨rfl,fin⟩) hs
theorem u6 (its:List WC)(n j:Nat)(u:WC):Zf (·.setIfInBounds j u) {cls:=.type "list",data:=.seq its.toArray n}={cls:=.type "list",data:=.seq (its.set j u).toArray n}:=by
 simp[Zf]
theorem Inv.lst {pins:List (Addr×Obj)}{σ:St}{H:Hp}{s:WE}{p:Addr}{xs:List V}(I:Inv X pins σ H s)(h:H p=some (.lst xs)):
  ∃(its:List WC) (n:Nat),Vals xs its/\s.heap.get? p=some {cls:=.type "list",data:=.seq its.toArray n}/\xs.length<=W7:=by
 obtain⟨z,its,n,r,e⟩:=I.bx p _ h;exact⟨its,n,r,e,z⟩
theorem Inv.Ih {pins:List (Addr×Obj)}{σ:St}{H:Hp}{s:WE}{p:Addr}{xs ys:List V}{its its':List WC}{n n':Nat}{f:Obj->Obj}(I:Inv X pins σ H s)(h:H p=some (.lst xs))
  (ho:s.heap.get? p=some {cls:=.type "list",data:=.seq its.toArray n}) (hf:f {cls:=.type "list",data:=.seq its.toArray n}={cls:=.type "list",data:=.seq its'.toArray n'}) (r:Vals ys its') (hz:ys.length<=W7) (t:Nat) :
  Inv X pins σ (upd H p (.lst ys)) {s with heap:=s.heap.update p f,toks:=t}:=by
 have e:(s.heap.update p f).get? p=some {cls:=.type "list",data:=.seq its'.toArray n'}:=by
  rw[Heap.get?_update_self f ho (by rw[hf] <;> rfl),hf]
 refine I.write (x:=p) (e:=p) (by rw[h];trivial) (.inl rfl) (λb u hb q=>(Heap.get?_update_other _ _ (X6 hb)).trans q) ⟨_,e⟩ ?_
 exact⟨hz,its',n',r,e⟩
def KR:V->V->V->Hp->(Hp->Prop)->Prop:=λo i v H Q=>∃p xs k j,o=.ref p/\i=.int k/\H p=some (.lst xs)/\wN xs.length k=some j/\Q (upd H p (.lst (xs.set j v)))
theorem set_list:Nq X KR:=by
 intro pins s σ H o i v ov iv u Q I ro ri rv h;obtain⟨p,xs,k,j,rfl,rfl,hp,hj,q⟩:=h;cases ro;obtain⟨t,rfl⟩:=ri;obtain⟨its,n,r,ho,hz⟩:=I.lst hp;obtain⟨h1,h2,h3,h4⟩:=wM hj;have hl:=r.length;have hn:=qm;have I':Inv X pins σ (upd H p (.lst (xs.set j v))) {s with heap:=s.heap.update p (Zf (·.setIfInBounds j u))} :=
  I.Ih hp ho (u6 its n j u) (r.set rv j) (by rw[List.length_set];exact hz) s.toks
 by_cases h0:0<=k
 ·have hk:k.toNat=j:=by
   rw[seqIndex_of h0 h4]at h1;exact Xp h1
  exact PySem.W.ki_setAt ho h0 (by lia) (by rw[Xd,<- hl];exact h4) (by rw[hk];exact⟨_,I',q⟩)
 ·have hk:(k+(its.toArray.size:Int)).toNat=j:=by
   rw[seqIndex_neg (by lia) h3]at h1
   rw[Xd,<- hl];exact Xp h1
  exact PySem.W.ki_setBack ho (by lia) (by rw[Xd,<- hl];exact h3) (by lia) (by rw[hk];exact⟨_,I',q⟩)
theorem pS (lo hi:Option Int)(n:Nat):(YY lo hi none n).1=((HT.lI n 0 lo:Nat):Int)/\(YY lo hi none n).2.1=((HT.lI n n hi:Nat):Int)/\(YY lo hi none n).2.2=1:=by
 refine⟨?_,?_,rfl⟩
 ·cases lo with
  |none=>simp[YY,HT.lI]
  |some i =>
   simp only[YY,HT.lI,Option.getD_none,show (1:Int)>0 by decide,if_true]
   by_cases h:i<0
   ·simp only[h,if_true] <;> lia
   ·simp only[h,if_false] <;> lia
 ·cases hi with
  |none=>simp[YY,HT.lI]
  |some i =>
   simp only[YY,HT.lI,Option.getD_none,show (1:Int)>0 by decide,if_true]
   by_cases h:i<0
   ·simp only[h,if_true] <;> lia
   ·simp only[h,if_false] <;> lia
theorem nk (its:List WC)(lo hi:Option Int):slicePick its.toArray lo hi none=((its.drop (HT.lI its.length 0 lo)).take (HT.lI its.length its.length hi-HT.lI its.length 0 lo)).toArray:=by
 obtain⟨h1,h2,h3⟩:=pS lo hi its.toArray.size;unfold slicePick;rw[h1,h2,h3];simp only[sliceRange_one,pick_run,Xd] <;> rfl
def O8 (K:PySem.W.Frag):V->Option Int->Option Int->Hp->VK->Prop:=λx lo hi H Q=>∃a xs,x=.ref a/\c0 K H a xs/\∀p,H p=none->Q (.ref p) (upd H p (.lst (tP xs lo hi)))
theorem vU:RL X (O8 X.K):=by
 intro pins s σ H x v vl vu lo hi sl Q I rx hs pl pu h;obtain⟨a,xs,rfl,hx,q⟩:=h;cases rx;obtain⟨its,r,ht,hz⟩:=I.list hx;have hlen:=r.length;refine⟨"list",_,slot_list_getitem.lookup,ht.isList.typeIs,?_⟩;refine wpAny_getItem_list_slice ht.isList hs pl pu .none (by simp) ?_ (by rw[Xd] <;> lia)
 rw[nk,<- hlen];refine⟨.ref s.heap.objs.size,_,I.laid (t':=s.toks) (o:=.lst (tP xs lo hi)) (λb ob q=>WH _ q) (WD _) ?_,rfl,q _ (I.bx.fresh (WD _))⟩;exact⟨Xo (tO xs lo hi) hz,_,0,(r.drop (HT.lI xs.length 0 lo)).take (HT.lI xs.length xs.length hi-HT.lI xs.length 0 lo),Xc _ rfl⟩
theorem i_:eU X (.builtin "len") (λxs H Q=>∃p ys,xs=[.ref p]/\(c0 X.K H p ys\/t9 X.K H p ys)/\Q (.int ys.length) H):=by
 intro pins s σ H xs us Q I r h;obtain⟨p,ys,rfl,hq,q⟩:=h;obtain⟨u,rfl,rx⟩:=vals1 r;cases rx;have hn:=qm;rcases hq with hq|hq
 ·obtain⟨its,r',pl,hz⟩:=I.list hq;have hlen:=r'.length;exact Calls.call_len_list pl.isList (by simp only[Xd] <;> lia) ⟨.int ys.length,H,I.tok _,⟨s.toks+1,by rw[Xd,hlen]⟩,q⟩
 ·obtain⟨its,r',pl,hz⟩:=I.tuple hq;have hlen:=r'.length;exact len_tuple pl (by simp only[Xd] <;> lia) ⟨.int ys.length,H,I.tok _,⟨s.toks+1,by rw[Xd,hlen]⟩,q⟩
theorem i9:eU X (.type "list") (λxs H Q=>∃p ys,xs=[.ref p]/\(c0 X.K H p ys\/t9 X.K H p ys)/\∀l,H l=none->Q (.ref l) (upd H l (.lst ys))):=by
 intro pins s σ H xs us Q I r h;obtain⟨p,ys,rfl,hq,q⟩:=h;obtain⟨u,rfl,rx⟩:=vals1 r;cases rx;have fin:∀(its:List WC),Vals ys its->ys.length<=W7->∀(h':Heap) (c':Nat),(∀b o',s.heap.get? b=some o'->h'.get? b=some o') ->
   h'.get? s.heap.objs.size=some {cls:=.type "list",dict:=none,data:=.seq its.toArray c',slots:=#[]}->EP X pins σ Q (.ref s.heap.objs.size) {s with heap:=h'}:=λits r' hz h' c' kp e =>
  ⟨.ref s.heap.objs.size,_,I.laid (t':=s.toks) kp (WD _) (show a6 X.prog X.w _ h' _ (.lst ys) from ⟨hz,its,c',r',e⟩),rfl,q _ (I.bx.fresh (WD _))⟩
 rcases hq with hq|hq
 ·obtain⟨its,r',pl,hz⟩:=I.list hq;have hlen:=r'.length;obtain⟨o,ho,hc,n,hd⟩:=pl.isList;exact call_list_seq p (.inl rfl) ho hc hd (λh' c' kp e=>fin its r' hz h' c' kp e) (by simp only[Xd] <;> lia)
 ·obtain⟨its,r',pl,hz⟩:=I.tuple hq;have hlen:=r'.length;obtain⟨o,ho,hc,n,hd⟩:=pl;exact call_list_seq p (.inr rfl) ho hc hd (λh' c' kp e=>fin its r' hz h' c' kp e) (by simp only[Xd] <;> lia)
def NA (K:PySem.W.Frag)(T:String)(x:V)(H:Hp):Prop:=match x with
 |.str _=>T="str"
 |.int _=>T="int"
 |.ref p=>(T="list" /\ ∃xs,c0 K H p xs)\/(T="tuple" /\ ∃o,K.lookup p=some o/\o.cls=.type "tuple" /\ o.dict=none) \/
   (T="dict" /\ ((∃kvs,H p=some (.dK kvs))\/∃kvs,H p=some (.dT kvs)))\/(T="set" /\ ∃S n,H p=some (.set S n))
 |_=>False
theorem zt {pins:List (Addr×Obj)}{σ:St}{H:Hp}{s:WE}{T:String}{x:V}{v:WC}(I:Inv X pins σ H s)(r:RelV x v)(ty:NA X.K T x H):
  s.TypeIs v T/\∀a,v=.ref a->∃ob,s.heap.get? a=some ob/\ob.dict=none:=by
 cases x with
 |str z =>
  obtain⟨t,rfl⟩:=r;cases (show T="str" from ty)
  exact⟨typeIs_str s z t,λ_ e=>nomatch e⟩
 |int i =>
  obtain⟨t,rfl⟩:=r;cases (show T="int" from ty)
  exact⟨typeIs_int s i t,λ_ e=>nomatch e⟩
 |ref p =>
  cases r;rcases ty with⟨rfl,xs,hq⟩|⟨rfl,o,hk,hc,hd⟩|⟨rfl,hk⟩|⟨rfl,S,n,hk⟩
  ·obtain⟨its,_,pl,_⟩:=I.list hq;refine⟨pl.isList.typeIs,λa e=>?_⟩;cases e;obtain⟨o,n,e,c,hd,_⟩:=pl;exact⟨o,e,hd⟩
  ·refine⟨⟨o,I.jD p o hk,hc⟩,λa e=>?_⟩;cases e;exact⟨o,I.jD _ o hk,hd⟩
  ·have z:∃o,s.heap.get? p=some o/\o.ExactDict:=by
    rcases hk with⟨kvs,hk⟩|⟨kvs,hk⟩
    ·obtain⟨_,_,_,_,o,_,_,e,ex,_⟩:=I.bx p _ hk;exact⟨o,e,ex⟩
    ·obtain⟨_,_,_,_,o,_,_,e,ex,_⟩:=I.bx p _ hk;exact⟨o,e,ex⟩
   obtain⟨o,e,ex⟩:=z;refine⟨⟨o,e,ex.1⟩,λa e2=>?_⟩;cases e2;exact⟨o,e,ex.2.1⟩
  ·obtain⟨o,_,_,_,e,ex,_⟩:=I.bx p _ hk;refine⟨⟨o,e,ex.1⟩,λa e2=>?_⟩;cases e2;exact⟨o,e,ex.2.1⟩
 |_=>exact Zi ty
def OS (K:PySem.W.Frag)(T:String)(r:V->List V->Hp->VK->Prop)(to:TE):TE:=λσ H Q=>to σ H λx H1=>NA K T x H1/\r x [] H1 Q
def T4 (K:PySem.W.Frag)(T:String)(r:V->List V->Hp->VK->Prop)(to:TE)(t:TA):TE:=λσ H Q=>to σ H λx H1=>NA K T x H1/\t σ H1 λxs H2=>r x xs H2 Q
variable {o e:Expr}{es:List Expr}{to:TE}{t:TA}{name:Str}{apos cpos:Pos}{T id:String}{r:V->List V->Hp->VK->Prop}
theorem HD (pa:PlainAttrs T) (slot:Slot T name id) (LZ:typeOf (.builtin id)=pure (.type "method_descriptor")) (hm:RN X id r) (ho:PE X o to)
  (dO:Y8 o name X.env (eval o X.env)=eval o X.env:=by rfl) (dN:(apos.endLine==cpos.line)=true:=by rfl):PE X (.Call (.Attribute o name apos) [] [] cpos) (OS X.K T r to):=by
 intro pins s σ H Q I h;refine wpAny_Call_method0_late dO dN (bJ (ho pins s σ H _ I h) λv s1 ⟨x,H1,I1,r1,ty,q1⟩=>?_);obtain⟨h1,h2⟩:=zt I1 r1 ty;exact⟨T,id,pa,slot,LZ,h1,h2,Calls.callWith_builtin rfl (PySem.evalArgs_none (hm pins s1 σ H1 x [] v [] Q I1 r1 .nil q1))⟩
theorem wy (pa:PlainAttrs T) (slot:Slot T name id) (LZ:typeOf (.builtin id)=pure (.type "method_descriptor")) (hm:RN X id r) (ho:PE X o to) (ha:PA X (e::es) t)
  (dO:Y8 o name X.env (eval o X.env)=eval o X.env:=by rfl)
  (my:((YM cpos (WZ (e::es) X.env)).all (λx=>!x.1)&&(backToKw cpos (Z5 [] X.env)).all (λx=>x.1.isSome)
   && decide ((e::es).length+([]:List ZH).length+(if ([]:List ZH).isEmpty then 0 else 1)<30))=true:=by rfl)
  (dN:(apos.endLine==cpos.line)=true:=by rfl) (hs:WZ (e::es) X.env=(false,eval e X.env)::WZ es X.env:=by rfl) (dJ:(YM cpos (WZ es X.env)).any (·.1)=false:=by rfl) :
  PE X (.Call (.Attribute o name apos) (e::es) [] cpos) (T4 X.K T r to t):=by
 intro pins s σ H Q I h;refine wpAny_Call_method_late dO my dN rfl (bJ (ho pins s σ H _ I h) λv s1 ⟨x,H1,I1,r1,ty,q1⟩=>?_);obtain⟨h1,h2⟩:=zt I1 r1 ty;refine⟨T,id,pa,slot,LZ,h1,h2,?_⟩;have hA:=ha cpos pins s1 σ H1 _ I1 q1;rw[hs]at hA ⊢
 refine Calls.callWith_builtin (by show (false || (YM cpos (WZ es X.env)).any (·.1))=false;rw[dJ] <;> rfl) (Calls.evalArgs_plain ?_)
 exact bJ hA λus s2 ⟨vs,H2,I2,r2,q2⟩=>hm pins s2 σ H2 x vs v us Q I2 r1 r2 q2
end
def RO (X:Cx)(id:String)(r:V->List V->Hp->VK->Prop):Prop :=
 ∀(pins:List (Addr×Obj)) (s:WE) (σ:St) (H:Hp) (x:V) (xs:List V) (v:WC) (us:List WC) (Q:VK),Inv X pins σ H s->RelV x v->Vals xs us->r x xs H Q ->
  Xb (model X.prog X.w) X.A (call (.builtin id) (v::us)) (EP X pins σ Q) X.xe s
theorem Vals.one:∀{x:V} {us:List WC},Vals [x] us->∃u,us=[u]/\RelV x u
 |_,_,.cons r .nil=>⟨_,rfl,r⟩
theorem Vals.zero:∀{us:List WC},Vals [] us->us=[]
 |_,.nil=>rfl
theorem Vals.dropLast {xs:List V}{us:List WC}(h:Vals xs us):Vals xs.dropLast us.dropLast:=by
 induction h with
 |nil=>exact .nil
 |cons r t ih =>
  cases t with
  |nil=>exact .nil
  |cons q t'=>exact .cons r ih
theorem Vals.rep {xs:List V}{us:List WC}(h:Vals xs us):∀k:Nat,Vals (Xs k xs).flatten (Xs k us).flatten
 |0=>.nil
 |k+1=>by
  rw[Yr,Yr,YR,YR];exact Vals.append h (Vals.rep h k)
theorem vx {α:Type}(l:List α):l.eraseIdx (l.length-1)=l.dropLast:=by
 induction l with
 |nil=>rfl
 |cons a r ih =>
  cases r with
  |nil=>rfl
  |cons b r =>
   have e:(a::b::r).length-1=((b::r).length-1)+1:=by
    have h1:(a::b::r).length=r.length+2:=rfl;have h2:(b::r).length=r.length+1:=rfl;lia
   rw[e,List.eraseIdx_cons_succ,ih]
   all_goals rfl
theorem foldl_rep (its:List WC):∀(k:Nat) (acc:List WC),
  List.foldl (λx1 x2=>x1++x2) acc.toArray (Xs k its.toArray)=(acc++(Xs k its).flatten).toArray
 |0,acc=>by simp
 |k+1,acc=>by
  have e:acc.toArray++its.toArray=(acc++its).toArray:=by simp
  have e2:(acc++its)++(Xs k its).flatten=acc++(Xs (k+1) its).flatten:=by
   rw[Yr,YR,X4]
  rw[<- e2,<- foldl_rep its k (acc++its),<- e,Yr,Y5]
section
variable {X:Cx}{pins:List (Addr×Obj)}{σ:St}{H:Hp}{s:WE}{l:Addr}{xs ys:List V}
theorem Inv.Ij {its its':List WC}{n:Nat}{f:Array WC->Array WC}{t':Nat}(I:Inv X pins σ H s)(hH:H l=some (.lst xs))
  (e:s.heap.get? l=some {cls:=.type "list",data:=.seq its.toArray n}) (hf:f its.toArray=its'.toArray) (hv:Vals ys its') (hz:ys.length<=W7) :
  Inv X pins σ (upd H l (.lst ys)) {s with heap:=s.heap.update l (Zf f),toks:=t'}:=by
 have q:=PySem.IsL.update e f;rw[hf]at q;refine I.write (x:=l) (e:=l) (by rw[hH];exact trivial) (.inl rfl) (λb' u hb hu=>(Heap.get?_update_other s.heap (Zf f) (X6 hb)).trans hu) ⟨_,q⟩ ?_
 exact⟨hz,its',_,hv,q⟩
theorem Inv.Il {its:List WC}{t':Nat}(I:Inv X pins σ H s)(hv:Vals ys its)(hz:ys.length<=W7):
  Inv X pins σ (upd H s.heap.objs.size (.lst ys)) {s with heap:=s.heap.push {cls:=.type "list",data:=.seq its.toArray},toks:=t'} :=
 I.laid (λ_ _ q=>WH _ q) (WD _) ⟨hz,its,0,hv,Xc _ rfl⟩
theorem Inv.fresh (I:Inv X pins σ H s):H s.heap.objs.size=none:=I.bx.fresh (WD _)
theorem Inv.u_ (I:Inv X pins σ H s)(hH:H l=some (.lst xs)):xs.length<=W7/\∃(its:List WC) (n:Nat),Vals xs its/\xs.length=its.length/\s.heap.get? l=some {cls:=.type "list",data:=.seq its.toArray n}:=by
 obtain⟨z,its,n,r,e⟩:=I.bx l _ hH;exact⟨z,its,n,r,r.length,e⟩
theorem rV {n:Nat}(h:n<=W7):Zt n=false:=by
 unfold Zt;exact decide_eq_false (by lia)
end
section
variable {X:Cx}
def vZ:V->List V->Hp->VK->Prop:=λx vs H Q=>∃l xs y,x=.ref l/\vs=[y]/\H l=some (.lst xs)/\xs.length<W7/\Q .bU (upd H l (.lst (xs++[y])))
theorem jz:RO X "list.append" vZ:=by
 intro pins s σ H x vs v us Q I rx rv h;obtain⟨l,xs,y,rfl,rfl,hH,hz,q⟩:=h;cases rx;obtain⟨u,rfl,ru⟩:=rv.one;obtain⟨z,its,n,r,hl,e⟩:=I.u_ hH;refine call_meets F.slot_list_append ⟨_,e,rfl⟩ F.entry_list_append (F.args_list_append_2 _ _) (PySem.list_append l its.toArray n u (by rw[Xd];lia)) ⟨e,?_⟩
 refine⟨.bU,_,I.Ij (its':=its++[u]) hH e (by simp) (r.append (.cons ru .nil)) ?_,rfl,q⟩
 rw[Xi,Y9];lia
def Dy:V->List V->Hp->VK->Prop:=λx vs H Q=>∃l b xs zs,x=.ref l/\vs=[.ref b]/\H l=some (.lst xs)/\H b=some (.lst zs)/\xs.length+zs.length<=W7/\Q .bU (upd H l (.lst (xs++zs)))
theorem yc:RO X "list.extend" Dy:=by
 intro pins s σ H x vs v us Q I rx rv h;obtain⟨l,b,xs,zs,rfl,rfl,hH,hB,hz,q⟩:=h;cases rx;obtain⟨u,rfl,ru⟩:=rv.one;cases ru;obtain⟨z,its,n,r,hl,e⟩:=I.u_ hH;obtain⟨z2,nz,n2,r2,Vb,e2⟩:=I.u_ hB;have hsz:its.toArray.size+nz.toArray.size<=W7:=by rw[Xd,Xd];lia
 have BE:¬ (!its.toArray.isEmpty&&Zt (its.toArray.size+nz.toArray.size))=true:=by
  rw[rV hsz,Bool.and_false];exact X7
 refine call_meets F.slot_list_extend ⟨_,e,rfl⟩ F.entry_list_extend (F.args_list_extend_2 _ _)
  (AutoSeq1.list_extend_list_list_0 l its.toArray n b nz.toArray n2 BE (by rw[Xd];lia) (by lia)) ⟨e,e2,?_⟩
 refine⟨.bU,_,I.Ij (its':=its++nz) hH e (by simp) (r.append r2) ?_,rfl,q⟩
 rw[Xi];lia
def O_:V->List V->Hp->VK->Prop:=λx vs H Q=>∃l xs y,x=.ref l/\vs=[]/\H l=some (.lst xs)/\xs[xs.length-1]?=some y/\Q y (upd H l (.lst xs.dropLast))
theorem Ie:RO X "list.pop" O_:=by
 intro pins s σ H x vs v us Q I rx rv h;obtain⟨l,xs,y,rfl,rfl,hH,hy,q⟩:=h;cases rx;have Bu:=rv.zero;subst Bu;obtain⟨z,its,n,r,hl,e⟩:=I.u_ hH;obtain⟨u,hu,ru⟩:=r.get hy;have P6:its.toArray[its.toArray.size-1]?=some u:=by
  show its.toArray[its.length-1]?=some u;rw[<- W9,<- hl];exact hu
 refine call_meets F.slot_list_pop ⟨_,e,rfl⟩ F.entry_list_pop (F.args_list_pop_1 _) (MeetsSeq.list_pop_last l its.toArray n u P6 (by rw[Xd];lia)) ⟨e,?_⟩
 refine⟨y,_,I.Ij (its':=its.dropLast) hH e ?_ r.dropLast ?_,ru,q⟩
 ·show its.toArray.eraseIdxIfInBounds (its.toArray.size-1)=its.dropLast.toArray;rw[Xd,List.eraseIdxIfInBounds_toArray,vx]
 ·rw[List.length_dropLast];lia
def Pc:R2:=λx y H Q=>∃l b xs zs,x=.ref l/\y=.ref b/\H l=some (.lst xs)/\H b=some (.lst zs)/\xs.length+zs.length<=W7/\∀p,H p=none->Q (.ref p) (upd H p (.lst (xs++zs)))
theorem AI:jj X (YT .Add) Pc:=by
 intro pins s σ H x y v u Q I rx ry h;obtain⟨l,b,xs,zs,rfl,rfl,hH,hB,hz,q⟩:=h;cases rx;cases ry;obtain⟨z,its,n,r,hl,e⟩:=I.u_ hH;obtain⟨z2,nz,n2,r2,Vb,e2⟩:=I.u_ hB;refine PySem.P.add_list e e2 ?_ (by rw[Xd,Xd];lia)
 have ea:its.toArray++nz.toArray=(its++nz).toArray:=by simp
 rw[ea];exact⟨.ref _,_,I.Il (t':=s.toks) (r.append r2) (by rw[Xi];lia),rfl,q _ I.fresh⟩
def O9:R2:=λx y H Q=>∃l k xs,x=.ref l/\y=.int k/\H l=some (.lst xs)/\-(2 ^ 63)<=k/\k<2 ^ 63/\xs.length*k.toNat<=W7 /\
 ∀p,H p=none->Q (.ref p) (upd H p (.lst (Xs k.toNat xs).flatten))
theorem len_rep {α:Type}(xs:List α)(k:Nat):(Xs k xs).flatten.length=k*xs.length:=by
 induction k with
 |zero=>simp
 |succ k ih=>rw[Yr,YR,Xi,ih,Nat.succ_mul,Nat.add_comm]
theorem HI:jj X (YT .Mult) O9:=by
 intro pins s σ H x y v u Q I rx ry h;obtain⟨l,k,xs,rfl,rfl,hH,h1,h2,hz,q⟩:=h;cases rx;obtain⟨t,rfl⟩:=ry;obtain⟨z,its,n,r,hl,e⟩:=I.u_ hH;have hlen:its.toArray.size*k.toNat<=W7:=by rw[Xd,<- hl];exact hz
 have Q9:¬ its.toArray.size*k.toNat>(2 ^ 63-1) / 8:=by
  have:(W7:Nat)<=(2 ^ 63-1) / 8:=by decide
  lia
 have Q4:¬ (!Builtin.List.listFitsIndex k)=true:=by
  rw[fitsIndex_both h1 h2];exact X7
 have BE:¬ Zt (its.toArray.size*k.toNat)=true:=by
  rw[rV hlen];exact X7
 have Jd:List.foldl (λx1 x2=>x1++x2) #[] (Xs (if its.toArray.isEmpty=true then 0 else k.toNat) its.toArray)=(Xs k.toNat its).flatten.toArray:=by
  have f0:∀m:Nat,List.foldl (λx1 x2=>x1++x2) #[] (Xs m its.toArray)=(Xs m its).flatten.toArray:=λm=>by
   have:=foldl_rep its m [];rw[List.nil_append]at this;exact this
  rw[f0];cases its with
  |nil=>simp
  |cons a r'=>rw[if_neg (by simp)]
 refine wpAny_binaryOp_repeat_ref (T:="list") (U:="int") (by decide) ⟨_,e,rfl⟩ (λs'=>typeIs_int s' k t) noFill_list_mul F.fills_int_mul F.slot_int_rmul repeat_list F.slot_int_index.lookup
  (call_meets F.slot_int_rmul (typeIs_int s k t) F.entry_int_rmul (F.args_int_rmul_2 _ _) (int___rmul___int_list k t l its.toArray n)
   ⟨e,rfl,⟨_,e,rfl⟩,call_meets F.slot_list_mul ⟨_,e,rfl⟩ F.entry_list_mul (F.args_list_mul_2 _ _) (AutoListH.list___mul___list_int_3 l its.toArray n k t Q4 Q9 BE) ⟨e,?_⟩⟩)
 rw[Jd];exact⟨.ref _,_,I.Il (t':=s.toks) (r.rep k.toNat) (by rw[len_rep,Nat.mul_comm];exact hz),rfl,q _ I.fresh⟩
end
section
end
section
end
end L2
namespace TF
open PySem PySem.W PySem.Calls PyProof.Rows
theorem kK {P:Params}{h:Heap}:∀(ns:List Int) (vs:List WC),WellAll P h vs (ns.map WData.int)->Yq vs ns:=by
 intro ns
 induction ns with
 |nil =>
  intro vs w;rw[List.map_nil]at w;cases w;exact .nil
 |cons n ns ih =>
  intro vs w;rw[W_]at w;cases w with
  |cons a b =>
   cases a;exact .cons _ _ (ih _ b)
theorem xM {l:OpenLaw}{n:Nat}(hn:l.most=some n){P:Params}{h:Heap}{args:List WData}{vals:List WC}
  (EF:l.row.toRowW.claim.pre args=true) (P7:WellAll P h vals args) :
  ∃a vs ns,vals=[Value.ref a]/\args=[WData.list (ns.map WData.int)]/\h.get? a=some {cls:=.type "list",data:=.seq vs.toArray}/\Yq vs ns/\ns.length<=n:=by
 have UU:WShape.hasAll [] args [.list .int]=true:=(pre_splitW EF).1;have hc:l.pre.holds [] {args:=args}=true:=(pre_splitW EF).2;obtain⟨d,r,rfl,h1,h2⟩:=hasAllW_cons UU;obtain rfl:=hasAllW_nil h2;obtain⟨xs,rfl,h3⟩:=hasW_list h1;obtain⟨ns,rfl⟩:=items_int h3;have hlen:ns.length<=n:=by
  unfold OpenLaw.pre at hc;have h4:(WTm.not (.lt (.lit (.int (n:Int))) (.len (.arg 0)))).holds [] {args:=[.list (ns.map .int)]}=true:=by
   have h4:=(holds_andW hc).1;rw[hn]at h4;exact h4
  have h5:=condW_of h4 (w_not (w_lt w_lit (w_len_list (w_arg rfl))));rw[WB]at h5;refine Nat.le_of_not_lt λq=>?_;have q':(n:Int)<((ns.length:Nat):Int):=by lia
  first
   | (rw[decide_eq_true q']at h5;exact absurd h5 (by decide))
   | (simp at h5;lia)
 cases P7 with
 |cons w1 w2 =>
  cases w2;cases w1 with
  |list ho jH=>exact⟨_,_,ns,rfl,rfl,ho,kK ns _ jH,hlen⟩
theorem xT (l:OpenLaw)(args:List WData):l.row.toRowW.claim.post args (.bool true) args=true :=
 postW_of (r:=l.row.toRowW) (X:=(true==true))
  (show WShape.has [] (.bool true) .bool=true by first|rfl|decide|simp[WShape.has,WShape.arms,WShape.armsAll])
  (show (WTm.eq .res (.lit (.bool true))).value [] {args:=args,res:=some (.bool true),after:=args}=some (.bool (true==true)) from w_eq_bool (w_res rfl) w_lit) rfl
theorem tY {l:OpenLaw}{n:Nat}{q:WI}{loose:List Str}{XP:(Str->Option WC)->Heap->Prop}{YP:W6->Heap->Prop}{d:DefRec}
  (hn:l.most=some n) (Oa:d.params.defaults=[])
  (call:∀(w:W6) (s₀ s₁:WE) (mg mb:Str->Option WC) (fa:Addr) (o:Obj) (pm cd doc:WC) (a:Addr) (vs:List WC) (ns:List Int),
   Ground q loose [] XP w s₀ mg mb s₁.heap->YP w s₁.heap ->
   s₁.heap.get? fa=some o->o.data=.func (docDef d.name d.params d.body d.scope pm cd doc)->s₁.heap.CodeRec cd d.name->mg d.name=some (.ref fa) ->
   s₁.heap.get? a=some {cls:=.type "list",data:=.seq vs.toArray}->Yq vs ns->ns.length<=n->s₁.gens=#[] ->
   Z6 (model l.prog w) callerA (.call (.ref fa) ⟨[.ref a],[]⟩) (λr s'=>r=.ok (.ret (.bool true))/\OldK s₁.heap s'.heap/\s'.os=s₁.os/\AllBare s'.gens) s₁) :
  WalkO q loose XP YP l.row.toRowW d [] (λf vs=>PySem.call f vs):=by
 intro w s₀ s₁ mg mb G Y fa o pm cd doc dV kV ho hd ir hD EI hg args vals as EF Va Wi P7 N7;obtain rfl:dV=.none:=Dflts.none hD Oa;obtain rfl:kV=.none:=Dflts.noKw hD;obtain⟨a,vs,ns,rfl,rfl,Jb,hints,hlen⟩:=xM hn EF P7;refine enter_call (ZA (call w s₀ s₁ mg mb fa o pm cd doc a vs ns G Y ho (fd_plain hd) ir EI Jb hints hlen hg) λr s' hq=>?_);obtain⟨rfl,h2,h3,h4⟩:=hq;exact⟨.inl ⟨.bool true,.bool true,[],rfl,λ_=>rfl,.bool true,xT l _,λ_=>⟨List.Pairwise.nil,λ_ hm=>(nomatch hm)⟩⟩,h2,h3,h4⟩
section
end
end TF
namespace L2
open PySem PySem.Spec PyProof.Rows
theorem nS:∀{vs:List WC} {ns:List Int},Yq vs ns->Vals (ns.map V.int) vs
 |_,_,.nil=>.nil
 |_,_,.cons n t h=>.cons ⟨t,rfl⟩ (nS h)
def JT (H:Hp):Prop:=∀b,H b=none\/∃o xs,H b=some (.uj o (.lst xs))
theorem Be {P:WI}{w:W6}{K:PySem.W.Frag}{mg mb:Str->Option WC}{CX:CI}{k:Nat}{fa a:Addr}{fd:Xx}{x:Str}{sp:Sp}{s₁:WE}{vs:List WC}{ns:List Int}
  (KX:K.In s₁.heap) (N4:s₁.heap.Ns YO mg) (hb:s₁.heap.Ns builtinsNs mb) (Vj:∀x:Str,x≠"__name__" -> mb x=XC x) (QR:s₁.heap.NoLimit) (hg:s₁.gens=#[])
  (ha:s₁.heap.get? a=some {cls:=.type "list",data:=.seq vs.toArray}) (hi:Yq vs ns) (hl:ns.length<=W7) (hr:cQ k callerA)
  (F:∀base:Heap,K.In base->base.Ns YO mg->aM P w K mg base CX k fa fd [x] sp) (MX:∀(s:WE) (u:WC),BindsTo s fd ⟨[u],[]⟩ [(x,u)])
  (mw:∀H:Hp,JT H->c0 K H a (ns.map V.int)->sp [.ref a] H (λv _=>v=.bl true) λ_ _ _=>False)
  (Rh:∀H e s',CX [] H s₁ (λ_ _ _=>False) e s'->False) :
  Z6 (model P w) callerA (.call (.ref fa) ⟨[.ref a],[]⟩) (λr s'=>r=.ok (.ret (.bool true))/\OldK s₁.heap s'.heap/\s'.os=s₁.os/\AllBare s'.gens) s₁:=by
 have rv:=nS hi;have PK:=hi.length;have core:∀H:Hp,JT H->c0 K H a (ns.map V.int)->ip P w H s₁.heap->(∀b,H b≠none->b=a)->(H a≠none->K.lookup a=none) ->
   Z6 (model P w) callerA (.call (.ref fa) ⟨[.ref a],[]⟩) (λr s'=>r=.ok (.ret (.bool true))/\OldK s₁.heap s'.heap/\s'.os=s₁.os/\AllBare s'.gens) s₁:=by
  intro H hO hS bx hA hK;have xi:∀{b:Addr} {o:Obj},s₁.heap.get? b=some o->H b=none->(qA s₁.heap H).get? b=some o:=λe n=>BH e n;have Lo:∀{b:Addr} {o:Obj} {es:Array DictEntry} {ep:Nat},s₁.heap.get? b=some o->o.data=.dict es ep->H b=none:=λ{b o es ep} e d=>by
   cases q:H b with
   |none=>rfl
   |some u =>
    have e':b=a:=hA b (by rw[q];simp)
    subst e';rw[ha]at e;cases e;have d':Data.seq vs.toArray _=Data.dict es ep:=d;cases d'
  have NS:∀{b:Addr} {m:Str->Option WC},s₁.heap.Ns b m->(qA s₁.heap H).Ns b m:=λ{b m} ⟨o,es,ep,e,d,r⟩=>⟨o,es,ep,xi e (Lo e d),d,r⟩;have Tn:K.In (qA s₁.heap H):=λb o e=>xi (KX b o e) (by
   cases q:H b with
   |none=>rfl
   |some u =>
    have e':b=a:=hA b (by rw[q];simp)
    subst e';rw[hK (by rw[q];simp)]at e;cases e)
  have hM:Mod K mg (qA s₁.heap H):=⟨Tn,NS N4,⟨mb,NS hb,Vj⟩,let ⟨mc,h1,h2⟩:=QR;⟨mc,NS h1,h2⟩⟩
  have e0:FC P w K mg (qA s₁.heap H) callerA [] s₁ H:=⟨rfl,hM,λb o e=>Ea e,Nat.le_of_eq (yw _ _),trivial,λb hb=>absurd (show b∈([]:List Addr) from hb) (by simp),bx,.of_eq hg⟩
  refine ZA ((F _ Tn (NS N4)).run callerA [] s₁ H ⟨[.ref a],[]⟩ [.ref a] [.ref a] _ _ hr e0 (MX s₁ (.ref a)) (.cons rfl .nil) (mw H hO hS)) λr s' h=>?_;cases r with
  |error e=>exact(Rh H e s' h).elim
  |ok fl =>
   cases fl with
   |next=>exact Zi h
   |brk=>exact Zi h
   |cont=>exact Zi h
   |ret u =>
    obtain⟨v,H',os,bare,un,QG,r',q⟩:=h;have q':v=.bl true:=q;subst q';obtain rfl:u=Value.bool true:=r';refine⟨rfl,OldK.of_keep λb o e=>?_,os,bare⟩;cases q:H b with
    |none=>exact un.keep b o e q (by intro z;exact absurd (show b∈([]:List Addr) from z) (by simp)) (by simp)
    |some u =>
     rcases hO b with z|⟨ob,xs,z⟩
     ·rw[q]at z;cases z
     ·have z2:=un.nG b ob _ z;obtain⟨e1,_⟩:=bx b _ z;obtain⟨e2,_⟩:=QG b _ z2;rw[e]at e1;cases e1;exact e2
 cases hk:K.lookup a with
 |some o =>
  have e:=KX a o hk;rw[ha]at e;cases e;refine core (λ_=>none) (λ_=>.inl rfl) (.inr ⟨_,vs.toArray,_,hk,rfl,rfl,rfl,by rw[Xd,PK];exact hl,by simpa using rv⟩) (λb u z=>by have z':(none:Option HO)=some u:=z;cases z') (λb z=>absurd rfl z) λz=>absurd rfl z
 |none =>
  refine core (λb=>if b=a then some (.uj {cls:=.type "list",data:=.seq vs.toArray} (.lst (ns.map V.int))) else none) (λb=>?_) (.inl (.inr ⟨{cls:=.type "list",data:=.seq vs.toArray},if_pos rfl⟩)) (λb u z=>?_) (λb z=>?_) λ_=>hk
  ·by_cases hb:b=a
   ·exact .inr ⟨_,_,if_pos hb⟩
   ·exact .inl (if_neg hb)
  ·by_cases hb:b=a
   ·have z':=(if_pos hb).symm.trans z;cases z';subst hb;exact⟨ha,by rw[WB];exact hl,vs,_,rv,ha⟩
   ·have z':=(if_neg hb).symm.trans z;cases z'
  ·by_cases hb:b=a
   ·exact hb
   ·exact absurd (if_neg hb) z
theorem C6 {l:PySem.W.OpenLaw}{n k:Nat}{q:WI}{loose:List Str}{XP:(Str->Option WC)->Heap->Prop}{YP:W6->Heap->Prop}{d:DefRec}{K:Params->PySem.W.Frag}{CX:W6->CI}{sp:W6->Sp}{x:Str}
  (hn:l.most=some n) (J6:n<=W7) (Oa:d.params.defaults=[]) (hr:cQ k callerA)
  (hY:∀(w:W6) (h:Heap),YP w h->(K w.params).In h)
  (F:∀(w:W6) (mg:Str->Option WC) (fa:Addr) (h:Heap),(K w.params).In h->h.Ns YO mg->mg d.name=some (.ref fa) ->
   ∃fd:Xx,(∀(s:WE) (u:WC),BindsTo s fd ⟨[u],[]⟩ [(x,u)]) /\
    ∀base:Heap,(K w.params).In base->base.Ns YO mg->aM l.prog w (K w.params) mg base (CX w) k fa fd [x] (sp w))
  (mw:∀(w:W6) (H:Hp) (a:Addr) (ns:List Int),ns.length<=n->JT H->c0 (K w.params) H a (ns.map V.int)->sp w [.ref a] H (λv _=>v=.bl true) λ_ _ _=>False)
  (Rh:∀(w:W6) (H:Hp) (s:WE) (e:WC) (s':WE),CX w [] H s (λ_ _ _=>False) e s'->False) :
  PySem.W.WalkO q loose XP YP l.row.toRowW d [] (λf vs=>PySem.call f vs):=by
 refine TF.tY hn Oa λw s₀ s₁ mg mb fa o pm cd doc a vs ns G Y ho hd ir EI Jb hints hlen hg=>?_;have KX:=hY w _ Y;obtain⟨fd,hb,hF⟩:=F w mg fa _ KX G.T.g EI;exact Be KX G.T.g G.T.b G.T.builtins G.T.nolimit hg Jb hints (Xo hlen J6) hr hF hb (λH hO hS=>mw w H a ns hlen hO hS) λH e s'=>Rh w H s₁ e s'
def k7 (s:Stmt):Arguments:=match s with
 |.FunctionDef _ a _ _ _ _ _ _ _ _=>a
 |_=>{posonlyargs:=[],args:=[],vararg:=none,kwonlyargs:=[],kw_defaults:=[],kwarg:=none,defaults:=[]}
def eD (s:Stmt):List Stmt:=match s with
 |.FunctionDef _ _ b _ _ _ _ _ _ _=>b
 |_=>[]
def ay (s:Stmt):Zv:=match s with
 |.FunctionDef _ _ _ _ _ _ sc _ _ _=>sc
 |_=>{kind:=.function,names:=[],isGenerator:=false,isCoroutine:=false}
abbrev bZ:CI:=λ_ _ _ _ _ _=>False
abbrev E0:XK:=λ_ _ _=>False
theorem FO {X:Cx}:Passes bZ X E0:=λ_ _ _ _ _ _ _ h=>h.elim
structure CW (K:PySem.W.Frag)(x qual:Str)(st:Stmt)(f:Addr)(fd:Xx):Prop where
 ex:∃(oc:WC) (od:Option Addr) (kV doc pm:WC) (an:Option Addr) (cJ ct:WC) (HH:Array (Option WC)),
  fd=PySem.W.fnOf x qual (k7 st) (eD st) (ay st) .none kV doc pm an cJ ct/\K.lookup f=some ⟨oc,od,.func fd,HH⟩/\PySem.W.codeIn K cJ qual=true
 kp:PySem.W.keepIn K (.ref f)=true
section
variable {P:WI}{w:W6}{K:PySem.W.Frag}{mg:Str->Option WC}{base:Heap}
theorem CW.ok {x qual:Str}{st:Stmt}{f:Addr}{fd:Xx}{N ps:List Str}{k:Nat}{sp:Sp}(F:CW K x qual st f fd)(S:aK N ps (ay st))(len:∀vs H Q E,sp vs H Q E->vs.length=ps.length)
  (mB:∀(cJ:WC) (A:XA) (outer:List Env) (s:WE) (H:Hp) (vs:List V) (Q:VK) (E:XK),cQ k (A.deeper (envOfC qual (ay st) s.heap.objs.size f cJ))->sp vs H Q E ->
   ∃t,uo (nM bZ P w K mg base N qual (ay st) f cJ A outer s H E).FR (eD st) t/\t {nx:=λ_ H'=>Q .bU H',rt:=Q} (start N vs) H):aM P w K mg base bZ (k+1) f fd ps sp:=by
 obtain⟨oc,od,kV,doc,pm,an,cJ,ct,HH,rfl,lk,ir⟩:=F.ex;refine M4 lk ir S len λA outer s H vs Q E hr mw=>?_;obtain⟨t,h,q⟩:=mB cJ A outer s H vs Q E hr mw;exact⟨t,h.FR,q⟩
theorem Jr {x qual:Str}{st:Stmt}{f:Addr}{oc:WC}{od an:Option Addr}{HH:Array (Option WC)}{kV doc pm cJ ct:WC}(l:K.lookup f=some ⟨oc,od,.func (PySem.W.fnOf x qual (k7 st) (eD st) (ay st) .none kV doc pm an cJ ct),HH⟩)
  (c:PySem.W.codeIn K cJ qual=true) (k:PySem.W.keepIn K (.ref f)=true):CW K x qual st f (PySem.W.fnOf x qual (k7 st) (eD st) (ay st) .none kV doc pm an cJ ct):=⟨⟨oc,od,kV,doc,pm,an,cJ,ct,HH,rfl,l,c⟩,k⟩
end
section
variable {X:Cx}
theorem pv (i:Nat){x:Str}{pos:Pos}(hN:X.N[i]?=some x:=by rfl)(hv:xm X.env.scope x:=by first|exact Or.inl rfl|exact Or.inr (Or.inl rfl)|exact Or.inr (Or.inr rfl))(hd:(x==("__debug__" : Str))=false:=by decide)
  (ir:(x==("__classdict__" : Str))=false:=by decide):PE X (.Name x pos) (Ks i):=dG hN hv hd ir
end
def au (H H':Hp):Prop:=∀b o,H b=some o->H' b=some o
theorem au.refl (H:Hp):au H H:=λ_ _ h=>h
theorem au.trans {H H1 H2:Hp}(a:au H H1)(b:au H1 H2):au H H2:=λc o h=>b c o (a c o h)
theorem au.free {H H':Hp}(e:au H H'){l:Addr}(h:H' l=Option.none):H l=Option.none:=by
 cases q:H l with
 |none=>rfl
 |some o =>
  rw[e l o q]at h;cases h
theorem au.seq {K:PySem.W.Frag}{H H':Hp}{a:Addr}{xs:List V}(e:au H H')(h:c0 K H a xs):c0 K H' a xs:=by
 rcases h with (h|⟨o,h⟩)|h
 ·exact .inl (.inl (e _ _ h))
 ·exact .inl (.inr ⟨o,e _ _ h⟩)
 ·exact .inr h
section
variable {X:Cx}{a b c:Expr}{ta tb:TE}{pos:Pos}
def ug (i j:Int):Prop:=0<j/\j.natAbs.log2<9000
theorem ug.of {i j:Int}(h0:0<j)(h:j<2 ^ 200):ug i j:=by
 refine⟨h0,?_⟩;have h2:j.natAbs<2 ^ 200:=by lia
 have:=(Nat.log2_lt (n:=j.natAbs) (k:=200) (by lia)).mpr h2
 lia
theorem rT:jj X (YT .FloorDiv) (rI ug λi j=>.int (i / j)):=NR λi j _ _ _ _ _ hc q=>by
 have h1:(0:Int)<j:=hc.1;exact floordiv_int (by lia) (by rw[Int.fdiv_eq_ediv_of_nonneg i (by lia)];exact q) (.inl (PyProof.noPylong_of_log2 hc.2))
def GD (X:Cx)(ops:List Z1)(rs:List Expr)(t:V->TE):Prop :=
 ∀(pos:Pos) (pins:List (Addr×Obj)) (s:WE) (σ:St) (H:Hp) (x:V) (v:WC) (Q:VK),Inv X pins σ H s->RelV x v->t x σ H Q ->
  Xb (model X.prog X.w) X.A (compareChain pos v ops (evalEach rs X.env)) (EP X pins σ Q) X.xe s
def vG (X:Cx)(ops:List Z1)(rs:List Expr)(t:V->TT):Prop :=
 ∀(pos:Pos) (pins:List (Addr×Obj)) (s:WE) (σ:St) (H:Hp) (x:V) (v:WC) (Q:Bool->Hp->Prop),Inv X pins σ H s->RelV x v->t x σ H Q ->
  Xb (model X.prog X.w) X.A (testChain pos v ops (evalEach rs X.env)) (TP X pins σ Q) X.xe s
variable {op HN:Z1}{ops:List Z1}{rs:List Expr}{r:R2}{t:V->TE}{tt:V->TT}
theorem JG (ho:jj X (X5 op) r)(hb:PE X b tb):GD X [op] [b] (λx σ H Q=>tb σ H λy H2=>r x y H2 Q):=by
 intro pos pins s σ H x v Q I rx h;exact chain_last (bJ (hb pins s σ H _ I h) λu s1 vj=>by obtain⟨y,H1,I1,r1,q1⟩:=vj;exact ho pins s1 σ H1 x y v u Q I1 rx r1 q1)
theorem Fl (ho:jj X (X5 op) r)(hb:PE X b tb)(hc:GD X (HN::ops) (c::rs) t):
  GD X (op::HN::ops) (b::c::rs) (λx σ H Q=>tb σ H λy H2=>r x y H2 λz H3=>∃k,z=.bl k/\(if k=true then t y σ H3 Q else Q (.bl false) H3)):=by
 intro pos pins s σ H x v Q I rx h;refine chain_link (bJ (hb pins s σ H _ I h) λu s1 ⟨y,H1,I1,r1,q1⟩=>bJ (ho pins s1 σ H1 x y v u _ I1 rx r1 q1) λd s3 ⟨z,H3,I3,r3,k,e,q3⟩=>?_);subst e;cases r3;refine Yo ?_;cases k with
 |false=>exact ite_ff ⟨.bl false,H3,I3,rfl,q3⟩
 |true=>exact ite_tt (hc pos pins s3 σ H3 y u Q I3 r1 q3)
theorem xX {lQ lP:Z1}(ha:PE X a ta)(hc:GD X (lQ::lP::ops) (b::c::rs) t)(hm:lastMarks (lQ::lP::ops) (b::c::rs)=false:=by with_unfolding_all rfl):
  PE X (.Compare a (lQ::lP::ops) (b::c::rs) pos) (λσ H Q=>ta σ H λx H1=>t x σ H1 Q):=by
 intro pins s σ H Q I h;exact Compare_chain (bJ (ha pins s σ H _ I h) λv s1 IP=>by obtain⟨x,H1,I1,r1,q1⟩:=IP;exact hc pos pins s1 σ H1 x v Q I1 r1 q1) hm
theorem Fj (ho:jj X (X5 op) r)(hb:PE X b tb):vG X [op] [b] (λx σ H Q=>tb σ H λy H2=>r x y H2 λz H3=>∃k,z=.bl k/\Q k H3):=by
 intro pos pins s σ H x v Q I rx h;refine test_last (bJ (hb pins s σ H _ I h) λu s1 ⟨y,H1,I1,r1,q1⟩=>bJ (ho pins s1 σ H1 x y v u _ I1 rx r1 q1) λd s3 ⟨z,H3,I3,r3,k,e,q3⟩=>?_);subst e;cases r3;exact Yo ⟨H3,I3,q3⟩
theorem Ck (ho:jj X (X5 op) r)(hb:PE X b tb)(hc:vG X (HN::ops) (c::rs) tt):
  vG X (op::HN::ops) (b::c::rs) (λx σ H Q=>tb σ H λy H2=>r x y H2 λz H3=>∃k,z=.bl k/\(if k=true then tt y σ H3 Q else Q false H3)):=by
 intro pos pins s σ H x v Q I rx h;refine test_link (bJ (hb pins s σ H _ I h) λu s1 ⟨y,H1,I1,r1,q1⟩=>bJ (ho pins s1 σ H1 x y v u _ I1 rx r1 q1) λd s3 ⟨z,H3,I3,r3,k,e,q3⟩=>?_);subst e;cases r3;refine Yo ?_;cases k with
 |false=>exact ite_ff ⟨H3,I3,q3⟩
 |true=>exact ite_tt (hc pos pins s3 σ H3 y u Q I3 r1 q3)
theorem Co:eU X (.builtin "isinstance") (λxs H Q=>∃x n t k,xs=[x,.ty n]/\ik X.K H x t/\PySem.W.kitOne X.K t (.type n)=some k/\Q (.bl k) H):=by
 intro pins s σ H xs us Q I r h;obtain⟨x,n,t,k,rfl,ty,e,q⟩:=h;obtain⟨u,w',rfl,r1,r2⟩:=vals2 r;cases r2;exact yp I r1 ty e λtk=>⟨.bl k,H,I.tok _,rfl,q⟩
end
theorem mY:XC "max" = some (.builtin "max"):=by decide +kernel
theorem vC:XC "min" = some (.builtin "min"):=by decide +kernel
theorem vD:XC "int" = some (.type "int"):=by decide +kernel
theorem Fp:XC "bool" = some (.type "bool"):=by decide +kernel
theorem tU:XC "tuple" = some (.type "tuple"):=by decide +kernel
theorem jf:XC "list" = some (.type "list"):=by decide +kernel
theorem jN:XC "sorted" = some (.builtin "sorted"):=by decide +kernel
theorem Cs:XC "isinstance" = some (.builtin "isinstance"):=by decide +kernel
theorem qM:XC "len" = some (.builtin "len"):=by decide +kernel
theorem LK {c A B:Prop}[Decidable c](hc:c)(h:A):if decide c=true then A else B:=by
 rw[if_pos (decide_eq_true hc)];exact h
theorem LM {c A B:Prop}[Decidable c](hc:¬ c)(h:B):if decide c=true then A else B:=by
 rw[if_neg (by simp[hc])]
 exact h
theorem PZ {c A B:Prop}[Decidable c](h1:c->A)(h2:¬ c->B):if decide c=true then A else B:=by
 by_cases h:c
 ·exact LK h (h1 h)
 ·exact LM h (h2 h)
def Fm (h:Addr)(H H':Hp):Prop:=∀b o,H b=some o->b≠h->H' b=some o
theorem Fm.upd {h:Addr}{H:Hp}{o:HO}:Fm h H (upd H h o):=λb u e n=>by rw[ar n];exact e
theorem au.new {H:Hp}{p:Addr}{o:HO}(n:H p=none):au H (L2.upd H p o):=λb u e=>by rw[ar (cu e n)];exact e
def Hand (H:Hp)(h:Addr):Prop:=∃x y:Int,H h=some (.lst [.int x,.int y])/\0<=x/\0<=y/\y<2147483647
def zO:Sp:=λvs H Q _=>∃c:Int,vs=[.int c]/\∀p H',H p=none->Hand H' p->au H H'->Q (.ref p) H'
def zM:Sp:=λvs H Q _=>∃(h:Addr) (n:Int),vs=[.ref h,.int n]/\Hand H h/\0<n/\n<2 ^ 200 /\
 ∀(r:Int) (H':Hp),0<=r->r<n->Hand H' h->Fm h H H'->Q (.int r) H'
structure V6 (mg:Str->Option WC):Prop where
 max:mg "max" = none
 min:mg "min" = none
 int:mg "int" = none
section
end
theorem Av:CJ 10 18:=⟨by decide,by decide,by decide⟩
section
theorem kU {a:Int}{b:Int}(h:0<b):0<=a % b/\a % b<b:=⟨Int.emod_nonneg a (by lia),Int.emod_lt_of_pos a h⟩
end
def aB (X:Cx)(scope:Zv)(N':List Str)(cl:List (Str×Addr))(C:Addr)(s:WE)(H:Hp)(ex:List Addr):Cx :=
 {X with N:=N',s₀:=s,H₀:=H,env:=compEnvC scope cl C X.env,outer:=X.stack,stack:=X.stack,ex:=ex,fn:=λ_=>false,pn:=[],xe:=λ_ _=>False}
theorem ie {env:Env}:∀(names:List (Str×ZI)) (cs:List (Str×Addr)),(∀x,(x,XH)∈names->∃c,env.cells.lookup x=some c) ->
  (∀x c,cs.lookup x=some c->env.cells.lookup x=some c) ->
  ∃cl,(forIn names cs λ(p:Str×ZI) (cs:List (Str×Addr))=>do
   if p.2==.free then do
    let a <- cellOf env p.1
    pure (ForInStep.yield ((p.1,a)::cs))
   else pure (ForInStep.yield cs):Sem (List (Str×Addr)))=pure cl /\
   (∀x,((x,XH)∈names\/(∃c,cs.lookup x=some c))->∃c,cl.lookup x=some c)/\∀x c,cl.lookup x=some c->env.cells.lookup x=some c
 |[],cs,_,Oc=>⟨cs,rfl,λx h=>h.elim (λz=>nomatch z) id,Oc⟩
 | (n,k)::names,cs,hf,Oc=>by
  by_cases hk:k=.free
  ·subst hk;obtain⟨c,hc⟩:=hf n (WO ..);obtain⟨cl,e,h1,h2⟩:=ie names ((n,c)::cs) (λx hx=>hf x (WQ _ hx)) (λx c' hx=>by
    rw[Yh]at hx;cases q:x==n with
    |true=>rw[q]at hx;cases hx;rw[eq_of_beq q];exact hc
    |false=>rw[q]at hx;exact Oc x c' hx)
   refine⟨cl,?_,λx hx=>h1 x ?_,h2⟩
   ·rw[List.forIn_cons];have ec:cellOf env n=pure c:=by unfold cellOf;rw[hc]
    simp only[beq_self_eq_true,if_true,ec];exact e
   ·rcases hx with hx|⟨c',hx⟩
    ·rcases WG.mp hx with z|z
     ·cases z;exact .inr ⟨c,by simp⟩
     ·exact .inl z
    ·right
     rw[Yh];cases q:x==n with
     |true=>exact⟨c,rfl⟩
     |false=>exact⟨c',hx⟩
  ·obtain⟨cl,e,h1,h2⟩:=ie names cs (λx hx=>hf x (WQ _ hx)) Oc;refine⟨cl,?_,λx hx=>h1 x ?_,h2⟩
   ·rw[List.forIn_cons];have hb:(k==XH)=false:=by simpa using hk
    simp only[hb,Bool.false_eq_true,if_false];exact e
   ·rcases hx with hx|hx
    ·rcases WG.mp hx with z|z
     ·cases z;exact absurd rfl hk
     ·exact .inl z
    ·exact .inr hx
theorem gS {env:Env}{scope:Zv}(h:∀x,(x,XH)∈scope.names->∃c,env.cells.lookup x=some c):
  ∃cl,closureFor scope env=pure cl/\(∀x,(x,XH)∈scope.names->∃c,cl.lookup x=some c)/\∀x c,cl.lookup x=some c->env.cells.lookup x=some c:=by
 obtain⟨cl,e,h1,h2⟩:=ie scope.names [] h (λx c z=>by simp at z)
 refine⟨cl,?_,λx hx=>h1 x (.inl hx),h2⟩;unfold closureFor;refine Eq.trans ?_ (congrArg (· >>= pure) e);rfl
structure Links (X:Cx)(scope:Zv)(N':List Str)(lk:List (Option Nat)):Prop where
 kind:scope.kind=.function
 uZ:∀x∈scope.names,x.2≠.cell
 names:∀x∈scope.names,x.2=.local->scope.names.lookup x.1=some .local
 free:∀x,(x,XH)∈scope.names->X.env.kindOf x=some .cell\/X.env.kindOf x=some .free
 len:lk.length=N'.length
 link:∀(i j:Nat),lk[i]?=some (some j)->∃x,N'[i]?=some x/\X.N[j]?=some x/\(x,XH)∈scope.names/\scope.names.lookup x=some .free
def hV (outer:List (Str×ZI))(N:List Str)(scope:Zv)(N':List Str)(lk:List (Option Nat)):Bool :=
 (scope.kind==.function)&&scope.names.all (λx=>x.2 != .cell&&(x.2 != .local || scope.names.lookup x.1==some .local)&&(x.2 != .free || outer.lookup x.1==some .cell || outer.lookup x.1==some .free)) &&
 lk.length==N'.length&&(WK lk.length).all λi=>match lk[i]? with
  |some (some j)=>match N'[i]? with
   |some x=>N[j]?==some x&&scope.names.contains (x,.free)&&scope.names.lookup x==some .free
   |none=>false
  |_=>true
theorem Links.of {X:Cx}{scope:Zv}{N':List Str}{lk:List (Option Nat)}(h:hV X.env.scope.names X.N scope N' lk=true):Links X scope N' lk:=by
 simp only[hV,Xz]at h;obtain⟨⟨⟨h1,h2⟩,h3⟩,h4⟩:=h;rw[YW]at h2 h4;refine⟨by simpa using h1,λx hx=>?_,λx hx hl=>?_,λx hx=>?_,by simpa using h3,λi j aF=>?_⟩
 ·have:=h2 x hx;simp only[Xz]at this;simpa using this.1.1
 ·have:=h2 x hx;simp only[Xz]at this;have q:=this.1.2;rw[hl]at q;simpa using q
 ·have:=h2 _ hx;simp only[Xz]at this;have q:=this.2;simp only[Bool.or_eq_true]at q;rcases q with (q|q)|q
  ·simp at q
  ·exact .inl (show X.env.scope.names.lookup x=some .cell by simpa using q)
  ·exact .inr (show X.env.scope.names.lookup x=some .free by simpa using q)
 ·have hi:i<lk.length:=(W3.mp aF).1;have q:=h4 i (X8.mpr hi);rw[aF]at q;simp only at q;cases e:N'[i]? with
  |none=>rw[e]at q;simp at q
  |some x =>
   rw[e]at q;simp only[Xz]at q;obtain⟨⟨q1,q2⟩,q3⟩:=q;exact⟨x,rfl,by simpa using q1,by simpa using q2,by simpa using q3⟩
def dZ (lk:List (Option Nat))(σ:St):St:=lk.map λl=>match l with|some j=>(match σ[j]? with|some v=>v|none=>none)|none=>none
theorem dg {env:Env}:∀{names:List (Str×ZI)} {x:Str},names.lookup x=some .free ->
  (names.map λ(n,k)=>if (k==XH&&env.scope.kind==.function&&env.kindOf n==some .cell) then (n,Zq) else (n,k)).lookup x=some .cell \/
  (names.map λ(n,k)=>if (k==XH&&env.scope.kind==.function&&env.kindOf n==some .cell) then (n,Zq) else (n,k)).lookup x=some .free
 |[],_,h=>by simp at h
 | (n,k)::r,x,h=>by
  have ih:=@dg env r x;show List.lookup x ((if (k==XH&&env.scope.kind==.function&&env.kindOf n==some .cell)=true then (n,Zq) else (n,k))::_)=_ \/
   List.lookup x ((if (k==XH&&env.scope.kind==.function&&env.kindOf n==some .cell)=true then (n,Zq) else (n,k))::_)=_
  cases hx:x==n with
  |true =>
   simp only[Yh,hx]at h;cases h
   by_cases hc:(XH==XH&&env.scope.kind==.function&&env.kindOf n==some .cell)=true
   ·rw[if_pos hc];left;simp[Yh,hx]
   ·rw[if_neg hc];right;simp[Yh,hx]
  |false =>
   simp only[Yh,hx]at h
   by_cases hc:(k==XH&&env.scope.kind==.function&&env.kindOf n==some .cell)=true
   ·rw[if_pos hc];simp only[Yh,hx];exact ih h
   ·rw[if_neg hc];simp only[Yh,hx];exact ih h
theorem da {env:Env}:∀{names:List (Str×ZI)} {x:Str} {k:ZI},(k=.cell\/k=.free)->(∀y∈names,y.2≠.cell) ->
  (names.map λ(n,k)=>if (k==XH&&env.scope.kind==.function&&env.kindOf n==some .cell) then (n,Zq) else (n,k)).lookup x=some k->(x,XH)∈names
 |[],_,_,_,_,h=>by simp at h
 | (n,k')::r,x,k,hk,hc,h=>by
  have ih:=@da env r x k hk (λy hy=>hc y (WQ _ hy));have h':List.lookup x ((if (k'==XH&&env.scope.kind==.function&&env.kindOf n==some .cell)=true then (n,Zq) else (n,k'))::(r.map λ(n,k)=>if (k==XH&&env.scope.kind==.function&&env.kindOf n==some .cell) then (n,Zq) else (n,k)))=some k:=h
  have Ga:=hc (n,k') (WO ..)
  by_cases EL:(k'==XH&&env.scope.kind==.function&&env.kindOf n==some .cell)=true
  ·rw[if_pos EL]at h';simp only[Xz,beq_iff_eq]at EL;cases hx:x==n with
   |true=>rw[eq_of_beq hx,EL.1.1];exact WO ..
   |false=>rw[Yh,hx]at h';exact WQ _ (ih h')
  ·rw[if_neg EL]at h';cases hx:x==n with
   |true =>
    rw[Yh,hx]at h';have e:k'=k:=by simpa using h'
    subst e;rcases hk with hk|hk
    ·exact absurd hk Ga
    ·rw[eq_of_beq hx,hk];exact WO ..
   |false=>rw[Yh,hx]at h';exact WQ _ (ih h')
section
variable {X:Cx}{pins:List (Addr×Obj)}{σ:St}{H:Hp}{s:WE}{scope:Zv}{N':List Str}{lk:List (Option Nat)}{cl:List (Str×Addr)}{ex:List Addr}
theorem Bq {h':Heap}{t':Nat}(I:Inv X pins σ H s)(L:Links X scope N' lk)(hex:∀b∈ex,f6 X pins H b)(QI:∀b∈ex,∃o,s.heap.get? b=some o)
  (nE:∀x,(x,XH)∈scope.names->∃c,cl.lookup x=some c) (nD:∀x c,cl.lookup x=some c->X.env.cells.lookup x=some c)
  (hn:h'.Ns s.heap.objs.size (λ_=>none)) (hk:∀b o,s.heap.get? b=some o->h'.get? b=some o) :
  Inv (aB X scope N' cl s.heap.objs.size s H ex) [] (dZ lk σ) H {s with heap:=h',toks:=t'}:=by
 obtain⟨m,hm,hl⟩:=I.loc;have Vy:∀b∈ex,b≠s.heap.objs.size:=λb hb=>by
  obtain⟨o,e⟩:=QI b hb;exact Xk (W5 e)
 refine⟨⟨I.ok.mod,L.kind,I.ok.glob,I.ok.blt,WD _,λx y c h1 h2=>I.ok.inj x y c (nD _ _ h1) (nD _ _ h2),λx hx=>?_,λx c z=>(nomatch z),I.ok.hd,I.ok.frames,.inl rfl,
  λb hb=>⟨Vy b hb,λx c e=>(hex b hb).2.2.2.2.1 x c (nD _ _ e)⟩,I.bs,Xo I.ok.Gx I.sz,λb o e z=>?_,λb hb z=>?_,I.stack,I.vT⟩,
  rfl,I.bare,Un.kept hk,⟨_,hn,λi x v h1 h2 h3=>?_⟩,λx c e=>?_,I.bx.fresh (WD _),λx c e=>I.gN x c (nD _ _ e),λp hp=>absurd (show p∈([]:List (Addr×Obj)) from hp) (by simp),I.bx.kept hk,?_⟩
 ·have F6:(relabel scope X.env).names.lookup x=some .cell\/(relabel scope X.env).names.lookup x=some .free:=hx;rcases F6 with q|q
  ·exact nE x (da (.inl rfl) L.uZ q)
  ·exact nE x (da (.inr rfl) L.uZ q)
 ·obtain⟨f0,f1,f2,f3,_⟩:=hex b z;rcases f3 with q|q
  ·exact I.ok.AS b o e q
  ·have h1:=W5 e;have h2:=I.ok.Gx;exact absurd (Xn h1 (Xo h2 q)) (ZG _)
 ·obtain⟨f0,f1,f2,f3,_⟩:=hex b hb;rcases WG.mp (I.uF b z)with q|q
  ·exact f1 q
  ·exact f2 q
 ·have hi:∃j,lk[i]?=some (some j)/\σ[j]?=some (some v):=by
   have BJ:(dZ lk σ)[i]?=some (some v):=h2;unfold dZ at BJ;rw[WU]at BJ;cases e:lk[i]? with
   |none=>rw[e]at BJ;cases BJ
   |some l =>
    cases l with
    |none=>rw[e]at BJ;cases BJ
    |some j =>
     rw[e]at BJ;cases e2:σ[j]? with
     |none=>simp[e2]at BJ
     |some w' =>
      simp only[Option.map_some,e2,Option.some.injEq]at BJ;subst BJ;exact⟨j,rfl,e2⟩
  obtain⟨j,hj,hσ⟩:=hi;obtain⟨y,e1,e2,e3,e4⟩:=L.link i j hj;have Vx:x=y:=by
   have ER:N'[i]?=some x:=h1;rw[e1]at ER;exact(Xp ER).symm
  subst Vx;have P9:xm X.env.scope x:=by
   rcases L.free x e3 with q|q
   ·exact .inr (.inl q)
   ·exact .inr (.inr q)
  obtain⟨u,ru,lu⟩:=hl j x v e2 hσ P9;refine⟨u,ru,.inr ⟨?_,?_⟩⟩
  ·exact dg e4
  ·rcases lu with⟨k,_⟩|⟨_,c,hc,z⟩
   ·rcases L.free x e3 with q|q <;> (rw[k]at q;cases q)
   ·obtain⟨c',oS⟩:=nE x e3;have:=nD x c' oS;rw[hc]at this;cases this;obtain⟨o,ho,hd⟩:=z;exact⟨c,oS,o,hk _ _ ho,hd⟩
 ·obtain⟨v,o,ho,hd⟩:=I.cell x c (nD _ _ e);exact⟨v,o,hk _ _ ho,hd⟩
 ·show (dZ lk σ).length=N'.length;unfold dZ;rw[WB,L.len]
theorem Br {s':WE}{σ':St}{H':Hp}{pl:List (Addr×Obj)}{C:Addr}{h'':Heap}(I:Inv X pins σ H s)(hex:∀b∈ex,f6 X pins H b)
  (J:Inv (aB X scope N' cl s.heap.objs.size s H ex) pl σ' H' s') (hs:Yw s.heap.objs.size s'.heap h''):Inv X pins σ H' {s' with heap:=h''}:=by
 have hC:H' s.heap.objs.size=none:=J.free;have u:=J.base;refine I.Ni (ch:=ex) (s':={s' with heap:=h''}) J.os ?_ ?_ J.bare (λb hb=>?_)
 ·have kk:∀b o,b≠s.heap.objs.size->s'.heap.get? b=some o->h''.get? b=some o:=λb o hb e=>(hs.2 b hb).trans e;have ne:∀b o,s.heap.get? b=some o->b≠s.heap.objs.size:=λb o e=>Xk (W5 e);refine⟨λb o e n hb hx=>kk b _ (ne b o e) (u.keep b o e n hb hx),λb o e n hb hx=>?_,u.free,λb o e hx=>?_,u.pL,u.nG,u.pN⟩
  ·obtain⟨sl,q⟩:=u.slot b o e n hb hx;exact⟨sl,kk b _ (ne b o e) q⟩
  ·obtain⟨o',q⟩:=u.there b o e hx;exact⟨o',kk b _ (ne b o e) q⟩
 ·intro b o e;have hb:b≠s.heap.objs.size:=λz=>by rw[z]at e;rw[hC]at e;cases e
  refine(J.bx b o e).rg (λc v hc q=>(hs.2 c ?_).trans q) (λ_ q=>q) λ_ _ q=>q;rcases hc with z|z
  ·rw[z];exact hb
  ·intro z';rw[z']at z;rw[hC]at z;cases z
 ·obtain⟨f0,f1,f2,f3,f4,f5⟩:=hex b hb;exact⟨f3,f1,f4,f5⟩
end
def ll (g:Zs)(after:Sem Fin->Sem Fin)(e:Expr)(d:Nat)(it acc:WC)(env:Env):Sem Fin:=do
 standAt g.iter.pos
 match <- ZV it with
 |none=>pure (.done .next)
 |some v =>
  letOwnedTupleGo g.target it v
  assign g.target env v
  let mut ok:=true
  for c in g.ifs do
   if ok then ok <- isTrue c env (eval c env)
  if ok then after (again (.compLoop e d it acc env)) else again (.compLoop e d it acc env)
def qi (e:Expr)(d:Nat)(g':Zs)(acc:WC)(env:Env)(k:Sem Fin):Sem Fin:=do
 let x <- eval g'.iter env
 standAt g'.iter.pos
 let x <- XI g'.iter env x
 let _ <- runOwn (.compStart e (d+1) (<- holding [x] (pyIter x)) acc env) env
 k
def lr (t:Sem Unit)(k:Sem Fin):Sem Fin:=do
 t
 k
def w6 (elt:Expr)(acc:WC)(env:Env):Sem Unit:=do let _ <- call (.builtin "list.append") [acc,<- eval elt env]
def B5 (k v:Expr)(acc:WC)(env:Env):Sem Unit:=do
    let kv <- eval k env
    let vv <- holding [kv] (eval v env)
    match acc with
    |.ref d=>do
     standAt {k.pos with endLine:=v.pos.endLine,endCol:=v.pos.endCol}
     holding [kv,vv] (dictSet d kv vv)
    |_=>unsupported "internal:dictcomp"
structure gU (e:Expr)(d:Nat)(g:Zs)(acc:WC)(env:Env)(after:Sem Fin->Sem Fin):Prop where
 turn:∀it,compTurn e d it acc env=ll g after e d it acc env
 cl:(clausesOf e)[d]?=some g
 sync:g.is_async=0
 quiet:∀it,(Z_ e d it acc env).quiet=true
 under:∀(A:XA) it,A.under (Z_ e d it acc env)=A
 GW:∀(A:XA) it,A.under (Code.compStart e d it acc env)=A
 H4:∀it,(Z_ e d it acc env).isFrame=false
 Ln:∀it,(Code.compStart e d it acc env).isFrame=false
section
variable {elt tg zw cy qt k v:Expr}{ifs nB:List Expr}{sc:Zv}{pos:Pos}{acc:WC}{env:Env}
theorem Cn:gU (.ListComp elt [⟨tg,cy,ifs,0⟩] sc pos) 0 ⟨tg,cy,ifs,0⟩ acc env (lr (w6 elt acc env)) :=
 ⟨λ_=>rfl,rfl,rfl,λ_=>rfl,λ_ _=>rfl,λ_ _=>rfl,λ_=>rfl,λ_=>rfl⟩
theorem Ng:gU (.DictComp k v [⟨tg,cy,ifs,0⟩] sc pos) 0 ⟨tg,cy,ifs,0⟩ acc env (lr (B5 k v acc env)) :=
 ⟨λ_=>rfl,rfl,rfl,λ_=>rfl,λ_ _=>rfl,λ_ _=>rfl,λ_=>rfl,λ_=>rfl⟩
theorem JI:gU (.ListComp elt [⟨tg,cy,ifs,0⟩,⟨zw,qt,nB,0⟩] sc pos) 0 ⟨tg,cy,ifs,0⟩ acc env (qi (.ListComp elt [⟨tg,cy,ifs,0⟩,⟨zw,qt,nB,0⟩] sc pos) 0 ⟨zw,qt,nB,0⟩ acc env) :=
 ⟨λ_=>rfl,rfl,rfl,λ_=>rfl,λ_ _=>rfl,λ_ _=>rfl,λ_=>rfl,λ_=>rfl⟩
theorem JH:gU (.ListComp elt [⟨tg,cy,ifs,0⟩,⟨zw,qt,nB,0⟩] sc pos) 1 ⟨zw,qt,nB,0⟩ acc env (lr (w6 elt acc env)) :=
 ⟨λ_=>rfl,rfl,rfl,λ_=>rfl,λ_ _=>rfl,λ_ _=>rfl,λ_=>rfl,λ_=>rfl⟩
end
def Kt:TT:=λ_ H Q=>Q true H
def ub (X:Cx)(ifs:List Expr)(t:TT):Prop :=
 ∀(pins:List (Addr×Obj)) (s:WE) (σ:St) (H:Hp) (Q:Bool->Hp->Prop),Inv X pins σ H s->t σ H Q ->
  Xb (model X.prog X.w) X.A (forIn ifs true λc r=>if r=true then do let ok <- isTrue c X.env (eval c X.env);pure (ForInStep.yield ok) else pure (ForInStep.yield r)) (TP X pins σ Q) X.xe s
theorem DD {X:Cx}:ub X [] Kt:=λ_ _ _ H _ I h=>wpAny_tests_nil ⟨H,I,h⟩
theorem DC {X:Cx}{c:Expr}{t:TT}(h:PT X c t):ub X [c] t:=λpins s σ H Q I q=>wpAny_tests_one (h pins s σ H Q I q)
abbrev m6:=(St->Hp->Prop)->St->Hp->Prop
def qO (X:Cx)(after:Sem Fin->Sem Fin)(t:m6):Prop :=
 ∀(pins:List (Addr×Obj)) (s:WE) (σ:St) (H:Hp) (N:St->Hp->Prop) (k:Sem Fin) (Q:Fin->WE->Prop) (E:WC->WE->Prop),Inv X pins σ H s->t N σ H ->
  (∀σ' H' s',Inv X pins σ' H' s'->N σ' H'->Xb (model X.prog X.w) X.A k Q E s')->Xb (model X.prog X.w) X.A (after k) Q E s
theorem d8 {X:Cx}(hx:X.xe=λ_ _=>False){α:Type}{t:Sem α}{Q:α->WE->Prop}{E:WC->WE->Prop}{s:WE}(h:Xb (model X.prog X.w) X.A t Q X.xe s):Xb (model X.prog X.w) X.A t Q E s :=
 ZT h (λ_ _ q=>q) λe s q=>by rw[hx]at q;exact q.elim
def fH (J:It)(g:TG)(tt:TT)(ta:m6)(End:St->Hp->Prop):St->Hp->Prop:=λσ H =>
 ∃W:Nat->Nat->St->Hp->Prop,(∃m,W 0 m σ H)/\∀i m σ H,W i m σ H->(J.stop i H/\End σ H) \/
  (J.go i H/\∃N:St->Hp->Prop,(∀σ' H',N σ' H'->∃m',m'<m/\W (i+1) m' σ' H')/\∀x H',J.Ko i H x H'->g x σ H' λσ2 H2=>tt σ2 H2 λb H3=>if b=true then ta N σ2 H3 else N σ2 H3)
section
variable {X:Cx}{e:Expr}{d:Nat}{g:Zs}{acc:WC}{after:Sem Fin->Sem Fin}{tg:TG}{tt:TT}{ta:m6}
theorem yG (hx:X.xe=λ_ _=>False)(hc:X.calm=true)(F:gU e d g acc X.env after)(hg:PG X g.target tg)(ht:ub X g.ifs tt)(ha:qO X after ta)
  {it:Addr} {fp:List Addr} {tn:Nat->Heap->Prop} {J:It} (T:Turn X.prog X.w X.K g.target J fp it tn) {pins:List (Addr×Obj)} {σ:St} {H:Hp} {s:WE} {End:St->Hp->Prop}
  (I:Inv X pins σ H s) (st:tn 0 s.heap) (hf:∀b∈fp,f6 X pins H b) (h:fH J tg tt ta End σ H) :
  Z6 (model X.prog X.w) X.A (.compLoop e d (.ref it) acc X.env) (λr s'=>r=.ok .next/\∃σ' H',Inv X pins σ' H' s'/\End σ' H') s:=by
 obtain⟨W,⟨m0,w0⟩,turn⟩:=h;have uG:∀{H':Hp},(∀b∈fp,H' b=none)->∀b∈fp,f6 X pins H' b:=λhn b hb=>⟨hn b hb,(hf b hb).2⟩;refine codeAny_loop (F.quiet _) (λn s'=>∃i σ' H',Inv X pins σ' H' s'/\tn i s'.heap/\(∀b∈fp,H' b=none)/\W i n σ' H') (λn s3 hI=>?_) m0 ⟨0,σ,H,I,st,λb hb=>(hf b hb).1,w0⟩;obtain⟨i,σ3,H3,I3,ly,M3,w3⟩:=hI;rw[F.under];have Jl:(model X.prog X.w).den (.compLoop e d (.ref it) acc X.env)=(ll g after e d (.ref it) acc X.env).onRaise (λx=>do noteFrame x X.env;theTreesLotGoes x):=by
  rw[<- F.turn];show (if (Z_ e d (.ref it) acc X.env).isFrame then _ else _)=_
  rw[F.H4];rfl
 rw[Jl];refine wpAny_noted ?_;unfold ll;rcases turn i n σ3 H3 w3 with⟨stop,qn⟩|⟨go,N,hN,step⟩
 ·refine WA (Y6 (WA (bJ (T.done X rfl rfl rfl hc i pins s3 σ3 H3 _ I3 (uG M3) ly stop) λr s4 ⟨hr,I4⟩=>?_)));subst hr;exact WJ ⟨rfl,σ3,H3,I4,qn⟩
 ·refine WA (Y6 (WA (bJ (T.item X rfl rfl rfl hc i pins s3 σ3 H3 _ I3 (uG M3) ly go) λr s4 ⟨u,hr,h4⟩=>?_)));subst hr;refine WA (bJ h4 λ_ s5 ⟨x,H5,I5,r5,y5,G7,Rm⟩=>?_);have RP:=I5.pinned (uG Rm) (T.obj _ _ G7);refine WA (bJ (d8 hx (hg _ s5 σ3 H5 x u _ RP r5 (step x H5 y5))) λ_ s6 ⟨σ6,H6,I6,q6⟩=>?_);refine WA (bJ (d8 hx (ht _ s6 σ6 H6 _ I6 q6)) λok s7 ⟨H7,I7,q7⟩=>?_);have CA:∀{σ8:St} {H8:Hp} {s8:WE},Inv X (pins++lO fp s5.heap) σ8 H8 s8->N σ8 H8->∃m,m<n/\∃i σ' H',Inv X pins σ' H' s8/\tn i s8.heap/\(∀b∈fp,H' b=none)/\W i m σ' H':=λ{σ8 H8 s8} I8 n8=>by
   obtain⟨m',hm,w8⟩:=hN σ8 H8 n8;refine⟨m',hm,i+1,σ8,H8,I8.iC,T.keep _ _ _ G7 λb hb o e=>(I8.pin (b,o) (Xm _ (Xm _ (fk hb e)))).1,λb hb=>?_,w8⟩;obtain⟨o,e,d⟩:=T.obj _ _ G7 b hb;exact(I8.pin (b,o) (Xm _ (Xm _ (fk hb e)))).2.1
  cases ok with
  |false=>exact WJ ⟨rfl,CA I7 (by simpa using q7)⟩
  |true =>
   exact ha _ s7 σ6 H7 N _ _ _ I7 (by simpa using q7) λσ8 H8 s8 I8 n8=>WJ ⟨rfl,CA I8 n8⟩
theorem mU (hx:X.xe=λ_ _=>False)(hc:X.calm=true)(F:gU e d g acc X.env after)(hg:PG X g.target tg)(ht:ub X g.ifs tt)(ha:qO X after ta)
  {it:Addr} {fp:List Addr} {tn:Nat->Heap->Prop} {J:It} (T:Turn X.prog X.w X.K g.target J fp it tn) {pins:List (Addr×Obj)} {σ:St} {H:Hp} {s:WE} {End:St->Hp->Prop}
  (I:Inv X pins σ H s) (st:tn 0 s.heap) (hf:∀b∈fp,f6 X pins H b) (h:fH J tg tt ta End σ H) :
  Z6 (model X.prog X.w) X.A (.compStart e d (.ref it) acc X.env) (λr s'=>r=.ok .next/\∃σ' H',Inv X pins σ' H' s'/\End σ' H') s:=by
 have lp:=yG hx hc F hg ht ha T I st hf h;refine codeAny_of_tree ?_;rw[F.GW];have Jl:(model X.prog X.w).den (.compStart e d (.ref it) acc X.env)=(compStart e d (.ref it) acc X.env).onRaise (λx=>do noteFrame x X.env;standAt theWindowsPlace):=by
  show (if (Code.compStart e d (.ref it) acc X.env).isFrame then _ else _)=_
  rw[F.Ln];rfl
 rw[Jl];refine wpAny_notedAt ?_;unfold compStart;rw[F.cl];simp only[Option.elim_some,F.sync];show Xb _ _ (ask >>= _) _ _ s;refine WA (aad (wpAny_ite ?_))
 split
 ·first
   |exact WA (WJ (WJ (And.intro (F.quiet _) lp)))
   |exact WJ (And.intro (F.quiet _) lp)
 ·have h2:∀(E:WC->WE->Prop),Xb (model X.prog X.w) X.A (pyIter (.ref it)) (λNY s'=>(Z_ e d NY acc X.env).quiet=true/\Z6 (model X.prog X.w) X.A (.compLoop e d NY acc X.env) (λr s'=>r=.ok .next/\∃σ' H',Inv X pins σ' H' s'/\End σ' H') s') E s :=
   λE=>T.self X.A 0 s _ E st ⟨F.quiet _,lp⟩
  first
   |exact WA (YZ (WA (Y6 (WA (ZT (h2 _) (λNY s' h'=>WJ h') λ_ _ x=>x)))))
   | (refine WA (YZ ?_);exact WA (Y6 (WA (ZT (h2 _) (λNY s' h'=>WJ h') λ_ _ x=>x))))
theorem DM {g':Zs}{wi:TI}(hx:X.xe=λ_ _=>False)(hc:X.calm=true)(F:gU e (d+1) g' acc X.env after)(hi:PI X g'.target g'.iter wi)(hg:PG X g'.target tg)(ht:ub X g'.ifs tt)(ha:qO X after ta)
  (hs:∀x,XI g'.iter X.env x=pure x:=by intro _;rfl) :
  qO X (qi e d g' acc X.env) (λN σ H=>wi σ H λJ H1=>fH J tg tt ta N σ H1):=by
 intro pins s σ H N k Q E I h hk;unfold qi;refine WA (bJ (d8 hx (hi pins s σ H _ I h)) λx s1 h1=>?_);refine WA (Y6 (WA (wpAny_of_eq (hs x) ?_)));refine WA (Yd (bJ (d8 hx h1) λF1 s2 h2=>?_));obtain⟨it,fp,tn,J,H2,e1,I2,T,fy,f2,hl⟩:=h2;subst e1;refine WA (wpAny_runOwn (ZA (mU hx hc F hg ht ha T I2 fy f2 hl) λr s' hr=>?_));obtain⟨rfl,σ',H',I',q⟩:=hr;exact hk σ' H' s' I' q
theorem iN {elt:Expr}{te:TE}{a:Addr}(hx:X.xe=λ_ _=>False)(he:PE X elt te):
  qO X (lr (w6 elt (.ref a) X.env)) (λN σ H=>te σ H λv H1=>∃xs,H1 a=some (.lst xs)/\xs.length<W7/\N σ (upd H1 a (.lst (xs++[v])))):=by
 intro pins s σ H N k Q E I h hk;unfold lr w6;refine WA (WA (bJ (d8 hx (he pins s σ H _ I h)) λu s1 ⟨v,H1,I1,r1,xs,hH,hz,q⟩=>?_));refine WA (bJ (d8 hx <| jz (X:=X) pins s1 σ H1 (.ref a) [v] (.ref a) [u] (λw' H'=>N σ H') I1 rfl (.cons r1 .nil) ⟨a,xs,v,rfl,rfl,hH,hz,q⟩) λ_ s2 ⟨_,H2,I2,_,q2⟩=>?_)
 exact WJ (hk σ H2 s2 I2 q2)
end
section
variable {X:Cx}{e:Expr}
structure m8 (X:Cx)(eI:Sem WC)(o:HO):Prop where
 ok:∀(pins:List (Addr×Obj)) (s:WE) (σ:St) (H:Hp) (Q:WC->WE->Prop) (E:WC->WE->Prop),Inv X pins σ H s ->
  (∀a s',s.heap.objs.size<=a->H a=none->(∀b o,s.heap.get? b=some o->s'.heap.get? b=some o)->Inv X pins σ (upd H a o) s'->Q (.ref a) s')->Xb (model X.prog X.w) X.A eI Q E s
theorem iQ:m8 X (newList []) (.lst []) :=
 ⟨λpins s σ H Q E I h=>YN (h _ _ (WD _) I.fresh (λb o e=>WH _ e) (I.Il (its:=[]) (t':=s.toks) .nil (WV _)))⟩
theorem Inv.sameBut {pins:List (Addr×Obj)}{σ:St}{H:Hp}{s:WE}{C:Addr}{h':Heap}(I:Inv X pins σ H s)(f:f6 X pins H C)(hs:Yw C s.heap h'):Inv X pins σ H {s with heap:=h'}:=by
 obtain⟨f0,f1,f2,f3,f4,f5⟩:=f;exact I.turned (t':=s.toks) (λb o hb e=>(hs.2 b hb).trans e) f0 f1 f3 f4 f5
end
end L2
namespace ST
open PySem PySem.SetTable
def it:Nat->Nat->Nat
 |0,x=>x
 |n+1,x=>5*it n x+1
theorem ve (a:Nat):∀(b x:Nat),it (a+b) x=it b (it a x)
 |0,x=>rfl
 |b+1,x=>by
  show 5*it (a+b) x+1=5*it b (it a x)+1;rw[ve a b x]
theorem Bm:∀j:Nat,∃a b:Nat,∀x,it (2 ^ j) x=(1+4*2 ^ j*a)*x+2 ^ j*(1+2*b)
 |0=>⟨1,0,λx=>by show 5*x+1=_;simp⟩
 |j+1=>by
  obtain⟨a,b,h⟩:=Bm j;refine⟨a+2*2 ^ j*a*a,b+2 ^ j*a*(1+2*b),λx=>?_⟩;rw[show 2 ^ (j+1)=2 ^ j+2 ^ j by rw[ZS];lia,ve,h,h]
  generalize 2 ^ j=P
  grind
theorem lift:∀(j x t:Nat),∃k,k<2 ^ j/\it k x % 2 ^ j=t % 2 ^ j
 |0,x,t=>⟨0,by decide,by rw[Nat.pow_zero,Nat.mod_one,Nat.mod_one]⟩
 |j+1,x,t=>by
  obtain⟨k,hk,e⟩:=lift j x t;obtain⟨a,b,h⟩:=Bm j;have hP:0<2 ^ j:=Nat.pow_pos (by decide)
  rw[ZS]
  by_cases q:it k x % (2 ^ j*2)=t % (2 ^ j*2)
  ·exact⟨k,by lia,q⟩
  ·refine⟨k+2 ^ j,by lia,?_⟩
   rw[ve,h];generalize it k x=y at *
   generalize 2 ^ j=P at *
   have e1:((1+4*P*a)*y+P*(1+2*b))=(y+P)+(P*2)*(2*a*y+b):=by grind
   rw[e1,Nat.add_mul_mod_self_left,Nat.mod_mul,Nat.mod_mul];rw[Nat.mod_mul,Nat.mod_mul,e]at q;rw[Nat.add_mod_right,Nat.add_div_right _ hP,e];have u1:y / P % 2<2:=ZX _ (by decide)
   have u2:t / P % 2<2:=ZX _ (by decide)
   have u3:y / P % 2≠t / P % 2:=λz=>q (by rw[z])
   have u4:(y / P).succ % 2=t / P % 2:=by lia
   rw[u4]
def c6 (m:Nat)(p:Probe):Probe:=advance {mask:=m,place:=#[],dummies:=#[],finger:=0,led:=true,moves:=0,plain:=true} p
def OV (m:Nat)(h:Int):Probe:=probeStart {mask:=m,place:=#[],dummies:=#[],finger:=0,led:=true,moves:=0,plain:=true} h
theorem G6 (t:SetTable)(h:Int):probeStart t h=OV t.mask h:=rfl
def fE (m:Nat)(h:Int):Nat->Probe
 |0=>OV m h
 |n+1=>c6 m (fE m h n)
def cw (m:Nat)(h:Int)(n:Nat):Nat:=(fE m h n).j
def lp (m:Nat)(h:Int):Nat->Nat×Nat
 |0=>(bits h % (m+1),bits h)
 |k+1=>leap m (lp m h k).1 (lp m h k).2
def Ki (m:Nat)(x:Nat×Nat):Probe:={j:=x.1,more:=runEnd m x.1-x.1,i:=x.1,perturb:=x.2,dummy:=none}
theorem Hi (m i:Nat):runEnd m i-i<=9:=by
 unfold runEnd
 split <;> lia
theorem vg (m:Nat)(h:Int)(x:Nat×Nat)(n:Nat)(e:fE m h n=Ki m x):∀d,d<=runEnd m x.1-x.1->fE m h (n+d)={Ki m x with j:=x.1+d,more:=runEnd m x.1-x.1-d}
 |0,_=>by rw[Nat.add_zero,e];rfl
 |d+1,hd=>by
  show c6 m (fE m h (n+d))=_;rw[vg m h x n e d (by lia)]
  unfold c6 advance;rw[if_pos (by show runEnd m x.1-x.1-d>0;lia)]
  rfl
theorem tV (m:Nat)(h:Int)(x:Nat×Nat)(n:Nat)(e:fE m h n=Ki m x):fE m h (n+(runEnd m x.1-x.1)+1)=Ki m (leap m x.1 x.2):=by
 show c6 m (fE m h (n+(runEnd m x.1-x.1)))=_;rw[vg m h x n e _ (WD _)];unfold c6 advance;rw[if_neg (by show ¬ runEnd m x.1-x.1-(runEnd m x.1-x.1)>0;lia)]
 rfl
theorem Cu (m:Nat)(h:Int):∀k,∃n,n<=10*k/\fE m h n=Ki m (lp m h k)
 |0=>⟨0,WD _,rfl⟩
 |k+1=>by
  obtain⟨n,h1,h2⟩:=Cu m h k;refine⟨n+(runEnd m (lp m h k).1-(lp m h k).1)+1,?_,tV m h _ n h2⟩;have:=Hi m (lp m h k).1;lia
theorem A_ (m:Nat)(h:Int):∀k,(lp m h k).2=bits h / 32 ^ k
 |0=>by rw[Nat.pow_zero,Nat.div_one];rfl
 |k+1=>by
  show (lp m h k).2 / 32=_;rw[A_ m h k,Nat.div_div_eq_div_mul,ZS]
theorem Fq (h:Int):bits h<2 ^ 64:=by
 unfold bits;have h1:=Int.emod_lt_of_pos h (show (0:Int)<2 ^ 64 by decide)
 have h2:=Int.emod_nonneg h (show (2 ^ 64:Int)≠0 by decide)
 lia
theorem En (m:Nat)(h:Int){k:Nat}(hk:13<=k):(lp m h k).2=0:=by
 rw[A_];refine Nat.div_eq_of_lt (Xn (Fq h) ?_);have:32 ^ 13<=32 ^ k:=YQ (by decide) hk
 exact Xo (by decide) this
theorem FW {j:Nat}(h:Int):∀d,(lp (2 ^ j-1) h (13+d)).1=it d (lp (2 ^ j-1) h 13).1 % 2 ^ j:=by
 have hP:2 ^ j-1+1=2 ^ j:=by have:0<2 ^ j:=Nat.pow_pos (by decide);lia
 have lt:∀k,(lp (2 ^ j-1) h k).1<2 ^ j:=λk=>by
  cases k with
  |zero=>show bits h % (2 ^ j-1+1)<_;rw[hP];exact ZX _ (by lia)
  |succ k=>show (_*5+1+_ / 32) % (2 ^ j-1+1)<_;rw[hP];exact ZX _ (by lia)
 intro d
 induction d with
 |zero=>exact(Nat.mod_eq_of_lt (lt 13)).symm
 |succ d ih =>
  show ((lp (2 ^ j-1) h (13+d)).1*5+1+(lp (2 ^ j-1) h (13+d)).2 / 32) % (2 ^ j-1+1)=(5*it d _+1) % 2 ^ j;rw[hP,En _ h (by lia),ih,Nat.zero_div,Nat.add_zero,Nat.mul_comm]
  conv=>rhs;rw[Nat.add_mod,Nat.mul_mod]
  rw[Nat.add_mod,Nat.mul_mod,Nat.mod_mod]
theorem VI (j:Nat)(h:Int){t:Nat}(ht:t<2 ^ j):∃n,n<10*turns (2 ^ j-1)/\cw (2 ^ j-1) h n=t:=by
 obtain⟨k,hk,e⟩:=lift j (lp (2 ^ j-1) h 13).1 t;obtain⟨n,h1,h2⟩:=Cu (2 ^ j-1) h (13+k);refine⟨n,by unfold turns;lia,?_⟩
 unfold cw;rw[h2];show (lp (2 ^ j-1) h (13+k)).1=t;rw[FW,e,Nat.mod_eq_of_lt ht]
abbrev g (xs:Array Nat)(i:Nat):Nat:=xs.getD i 0
theorem vo {xs:Array Nat}{i:Nat}(h:i<xs.size):xs[i]?=some (g xs i):=by
 rw[getElem?_pos xs i h,g,Xa,getElem?_pos xs i h];rfl
def GB (xs:Array Nat):Prop:=∀i j,i<j->j<xs.size->g xs i<g xs j
theorem GB.inj {xs:Array Nat}(r:GB xs){i j:Nat}(hi:i<xs.size)(hj:j<xs.size)(e:g xs i=g xs j):i=j:=by
 rcases Nat.lt_trichotomy i j with h|h|h
 ·have:=r i j h hj;lia
 ·exact h
 ·have:=r j i h hi;lia
theorem mZ {xs:Array Nat}{j:Nat}(r:GB xs):∀(f lo hi:Nat),hi<=xs.size->lo<=hi->hi-lo<=f->(∀k,k<lo->g xs k<j)->(∀k,hi<=k->k<xs.size->j<=g xs k) ->
  below.go xs j f lo hi<=xs.size/\(∀k,k<below.go xs j f lo hi->g xs k<j)/\(∀k,below.go xs j f lo hi<=k->k<xs.size->j<=g xs k)
 |0,lo,hi,h1,h2,h3,h4,h5=>by
  obtain rfl:lo=hi:=by lia
  exact⟨h1,h4,h5⟩
 |f+1,lo,hi,h1,h2,h3,h4,h5=>by
  unfold below.go
  by_cases hl:lo<hi
  ·rw[if_pos hl];dsimp only;have hm:(lo+hi) / 2<xs.size:=by lia
   have e:xs.getD ((lo+hi) / 2) j=g xs ((lo+hi) / 2):=by
    rw[g,Xa,Xa,getElem?_pos xs _ hm];rfl
   rw[e]
   by_cases hc:g xs ((lo+hi) / 2)<j
   ·rw[if_pos hc];refine mZ r f _ _ h1 (by lia) (by lia) (λk hk=>?_) h5
    by_cases sO:k=(lo+hi) / 2
    ·rw[sO];exact hc
    ·have:=r k ((lo+hi) / 2) (by lia) hm;lia
   ·rw[if_neg hc];refine mZ r f _ _ (by lia) (by lia) (by lia) h4 (λk hk Ga=>?_)
    by_cases sO:k=(lo+hi) / 2
    ·rw[sO];lia
    ·have:=r ((lo+hi) / 2) k (by lia) Ga;lia
  ·rw[if_neg hl];obtain rfl:lo=hi:=by lia
   exact⟨h1,h4,h5⟩
theorem fw {xs:Array Nat}(r:GB xs)(j:Nat):below xs j<=xs.size/\(∀k,k<below xs j->g xs k<j)/\(∀k,below xs j<=k->k<xs.size->j<=g xs k) :=
 mZ r xs.size 0 xs.size (WD _) (WV _) (WD _) (λk hk=>by lia) (λk h1 h2=>by lia)
theorem below_at {xs:Array Nat}(r:GB xs){i:Nat}(hi:i<xs.size):below xs (g xs i)=i:=by
 obtain⟨h1,h2,h3⟩:=fw r (g xs i);rcases Nat.lt_trichotomy (below xs (g xs i)) i with h|h|h
 ·have:=h3 (below xs (g xs i)) (WD _) (by lia)
  have:=r _ _ h hi;lia
 ·exact h
 ·have:=h2 i h;lia
def qP (t:SetTable)(x:Nat):Prop:=∃i,i<t.place.size/\g t.place i=x
theorem n9 {t:SetTable}(r:GB t.place){i:Nat}(hi:i<t.place.size):t.slot (g t.place i)=.live i:=by
 unfold slot;dsimp only;rw[below_at r hi,if_pos (by rw[vo hi];exact beq_self_eq_true _)]
theorem xI {t:SetTable}(r:GB t.place)(d:t.dummies=#[]){x:Nat}(h:¬ qP t x):t.slot x=.empty:=by
 unfold slot;dsimp only;rw[if_neg ?_,if_neg ?_]
 ·rw[d];unfold has;simp
 ·intro q;have q:=eq_of_beq q;have hl:below t.place x<t.place.size:=by
   rcases X0 (below t.place x) t.place.size with z|z
   ·exact z
   ·rw[YH z]at q;cases q
  rw[vo hl]at q;exact h ⟨_,hl,Xp q⟩
structure WF (t:SetTable)(hs:List Int):Prop where
 Kc:t.dummies=#[]
 sz:t.place.size=hs.length
 xQ:GB t.place
 Tt:∀i,i<t.place.size->g t.place i<=t.mask
 FV:∃j,3<=j/\t.mask=2 ^ j-1
 room:t.place.size<=t.mask
 Sh:∀i h,hs[i]?=some h->∃n,cw t.mask h n=g t.place i/\∀k,k<n->qP t (cw t.mask h k)
theorem least {p:Nat->Prop}[DecidablePred p]:∀n,p n->∃m,m<=n/\p m/\∀k,k<m->¬ p k:=by
 intro n
 induction n using Nat.strongRecOn with
 |_ n ih =>
  intro hn
  by_cases h:∃k,k<n/\p k
  ·obtain⟨k,hk,hp⟩:=h;obtain⟨m,h1,h2,h3⟩:=ih k hk hp;exact⟨m,by lia,h2,h3⟩
  ·exact⟨n,WD _,hn,λk hk hp=>h ⟨k,hk,hp⟩⟩
instance (t:SetTable):DecidablePred (qP t):=λx=>decidable_of_iff (∃i,i<t.place.size/\g t.place i=x) Iff.rfl
theorem WF.hole {t:SetTable}{hs:List Int}(w:WF t hs):∃x,x<=t.mask/\¬ qP t x:=by
 refine Zn λQJ=>?_;have all:∀x,x<=t.mask->qP t x:=λx hx=>Zn λq=>QJ ⟨x,hx,q⟩;have up:∀x,x<=t.mask->∃i,i<t.place.size/\g t.place i=x/\x<=i:=by
  intro x
  induction x with
  |zero =>
   intro hx;obtain⟨i,h1,h2⟩:=all 0 hx;exact⟨i,h1,h2,WV _⟩
  |succ x ih =>
   intro hx;obtain⟨i,h1,h2,h3⟩:=ih (by lia)
   obtain⟨i',h4,h5⟩:=all (x+1) hx;refine⟨i',h4,h5,?_⟩;rcases X0 i i' with q|q
   ·lia
   ·rcases X0 i' i with q2|q2
    ·have:=w.xQ i' i q2 h1;lia
    ·obtain rfl:i=i':=by lia
     lia
 obtain⟨i,h1,h2,h3⟩:=up t.mask (WD _);have:=w.room;lia
theorem WF.first {t:SetTable}{hs:List Int}(w:WF t hs)(h:Int):∃n,n<10*turns t.mask/\¬ qP t (cw t.mask h n)/\∀k,k<n->qP t (cw t.mask h k):=by
 obtain⟨x,hx,hf⟩:=w.hole;obtain⟨j,_,hj⟩:=w.FV;have F6:x<2 ^ j:=by have:0<2 ^ j:=Nat.pow_pos (by decide);lia
 obtain⟨n,h1,h2⟩:=VI j h F6;rw[<- hj]at h1 h2;obtain⟨m,g1,g2,g3⟩:=least (p:=λn=>¬ qP t (cw t.mask h n)) n (by rw[h2];exact hf)
 exact⟨m,by lia,g2,λk hk=>Zn λq=>g3 k hk q⟩
theorem jv (m:Nat)(h:Int):∀n,(fE m h n).dummy=none
 |0=>rfl
 |n+1=>by
  show (c6 m (fE m h n)).dummy=none;unfold c6 advance
  split
  ·exact jv m h n
  ·exact jv m h n
theorem rL {t:SetTable}{hs:List Int}(w:WF t hs)(ha:Nat->Int)(h:Int){N:Nat}(hN:¬ qP t (cw t.mask h N))(hO:∀k,k<N->qP t (cw t.mask h k)):∀(d n f:Nat),n+d=N->d<f ->
  (probe.go t ha h f (fE t.mask h n)=some (.empty (cw t.mask h N) none)/\∀k,n<=k->k<N->∀i,i<t.place.size->g t.place i=cw t.mask h k->ha i≠h) \/
  ∃m i,n<=m/\m<N/\i<t.place.size/\g t.place i=cw t.mask h m/\ha i=h/\probe.go t ha h f (fE t.mask h n)=some (.candidate (cw t.mask h m) i (fE t.mask h (m+1)))/\∀k,n<=k->k<m->∀i,i<t.place.size->g t.place i=cw t.mask h k->ha i≠h
 |0,n,f,e,hf=>by
  obtain rfl:n=N:=by lia
  obtain⟨f,rfl⟩:∃f',f=f'+1:=⟨f-1,by lia⟩
  refine .inl ⟨?_,λk h1 h2=>by lia⟩
  unfold probe.go;rw[show t.slot (fE t.mask h n).j=.empty from xI w.xQ w.Kc hN]
  dsimp only;rw[jv];rfl
 |d+1,n,f,e,hf=>by
  obtain⟨f,rfl⟩:∃f',f=f'+1:=⟨f-1,by lia⟩
  obtain⟨i,hi,hg⟩:=hO n (by lia)
  have J3:t.slot (fE t.mask h n).j=.live i:=by
   show t.slot (cw t.mask h n)=.live i;rw[<- hg];exact n9 w.xQ hi
  by_cases hh:ha i=h
  ·refine .inr ⟨n,i,WD _,by lia,hi,hg,hh,?_,λk h1 h2=>by lia⟩
   unfold probe.go;rw[J3];dsimp only;rw[if_pos (by rw[hh];exact beq_self_eq_true _)]
   rfl
  ·have st:probe.go t ha h (f+1) (fE t.mask h n)=probe.go t ha h f (fE t.mask h (n+1)):=by
    conv=>lhs;unfold probe.go
    rw[J3];dsimp only;rw[if_neg (by simpa using hh)]
    rfl
   rw[st];have here:∀i',i'<t.place.size->g t.place i'=cw t.mask h n->ha i'≠h:=λi' h1 h2=>by
    rw[w.xQ.inj h1 hi (h2.trans hg.symm)];exact hh
   rcases rL w ha h hN hO d (n+1) f (by lia) (by lia)with⟨q1,q2⟩|⟨m,i',q1,q2,q3,q4,q5,q6,q7⟩
   ·refine .inl ⟨q1,λk h1 h2=>?_⟩
    by_cases hk:k=n
    ·subst hk;exact here
    ·exact q2 k (by lia) h2
   ·refine .inr ⟨m,i',by lia,q2,q3,q4,q5,q6,λk h1 h2=>?_⟩
    by_cases hk:k=n
    ·subst hk;exact here
    ·exact q7 k (by lia) h2
theorem mq {α:Type}(xs:Array α)(p:Nat)(x:α):(insertAt xs p x).toList=xs.toList.take p++x::xs.toList.drop p:=by
 unfold insertAt;rw[Yj,YC,Array.toList_extract,Array.toList_extract,Z3,Z3,X4];simp[Yp]
theorem Bt {α:Type}{xs:Array α}{p:Nat}{x:α}(h:p<=xs.size):(insertAt xs p x).size=xs.size+1:=by
 rw[<- WM,mq,Xi,WS,Xj,Zm,WM];lia
theorem dw {xs:Array Nat}{p x:Nat}(h:p<=xs.size)(k:Nat):g (insertAt xs p x) k=if k<p then g xs k else if k=p then x else g xs (k-1):=by
 have e:∀(ys:Array Nat) (k:Nat),g ys k=(ys.toList[k]?).getD 0:=λys k=>by rw[g,Xa,W9]
 rw[e,e,e,mq]
 by_cases h1:k<p
 ·rw[if_pos h1,Yi (by rw[Xj,WM];lia),Zr h1]
 ·rw[if_neg h1,XX (by rw[Xj];lia),Xj,WM,show min p xs.size=p by lia]
  by_cases h2:k=p
  ·rw[if_pos h2,h2,ZR];rfl
  ·rw[if_neg h2,show k-p=k-p-1+1 by lia,Zw,Z0,show p+(k-p-1)=k-1 by lia]
theorem WF.put {t:SetTable}{hs:List Int}(w:WF t hs){h:Int}{N:Nat}(hb:cw t.mask h N<=t.mask)(hN:¬ qP t (cw t.mask h N))(hO:∀k,k<N->qP t (cw t.mask h k))(hr:t.place.size+1<=t.mask):
  WF (t.put (cw t.mask h N)).1 (hs.take (t.put (cw t.mask h N)).2++h::hs.drop (t.put (cw t.mask h N)).2)/\(t.put (cw t.mask h N)).2<=t.place.size:=by
 obtain⟨b1,b2,b3⟩:=fw w.xQ (cw t.mask h N);have hp:(t.put (cw t.mask h N)).2=below t.place (cw t.mask h N):=rfl;rw[hp];generalize hx:cw t.mask h N=x at *
 generalize hq:below t.place x=p at *
 have e:(t.put x).1={t with place:=insertAt t.place p x}:=by
  unfold SetTable.put;dsimp only;rw[w.Kc,hq];unfold has;simp
 have ne:∀k,p<=k->k<t.place.size->x<g t.place k:=λk h1 h2=>by
  have:=b3 k h1 h2;rcases X0 x (g t.place k)with q|q
  ·exact q
  ·exact absurd ⟨k,h2,by lia⟩ hN
 have OU:(insertAt t.place p x).size=t.place.size+1:=Bt b1;have Sz:∀y,qP t y->qP {t with place:=insertAt t.place p x} y:=by
  rintro y ⟨i,h1,h2⟩
  by_cases hi:i<p
  ·exact⟨i,by show i<(insertAt t.place p x).size;lia,by show g (insertAt t.place p x) i=y;rw[dw b1,if_pos hi];exact h2⟩
  ·exact⟨i+1,by show i+1<(insertAt t.place p x).size;lia,by show g (insertAt t.place p x) (i+1)=y;rw[dw b1,if_neg (by lia),if_neg (by lia)];exact h2⟩
 rw[e];refine⟨⟨w.Kc,?_,?_,?_,w.FV,?_,?_⟩,b1⟩
 ·show (insertAt t.place p x).size=_;rw[OU,Xi,WS,Xj,Zm,<- w.sz];lia
 ·intro i j aF hj;have hj:j<t.place.size+1:=by rw[<- OU];exact hj
  show g (insertAt t.place p x) i<g (insertAt t.place p x) j;rw[dw b1,dw b1]
  by_cases h1:i<p
  ·rw[if_pos h1]
   by_cases h2:j<p
   ·rw[if_pos h2];exact w.xQ i j aF (by lia)
   ·rw[if_neg h2]
    by_cases h3:j=p
    ·rw[if_pos h3];exact b2 i h1
    ·rw[if_neg h3];exact w.xQ i (j-1) (by lia) (by lia)
  ·rw[if_neg h1,if_neg (show ¬ j<p by lia)]
   by_cases h3:i=p
   ·rw[if_pos h3,if_neg (show ¬ j=p by lia)];exact ne _ (by lia) (by lia)
   ·rw[if_neg h3,if_neg (show ¬ j=p by lia)];exact w.xQ (i-1) (j-1) (by lia) (by lia)
 ·intro i hi;have hi:i<t.place.size+1:=by rw[<- OU];exact hi
  show g (insertAt t.place p x) i<=t.mask;rw[dw b1]
  split
  ·exact w.Tt i (by lia)
  ·split
   ·exact hb
   ·exact w.Tt _ (by lia)
 ·show (insertAt t.place p x).size<=t.mask;lia
 ·intro i h' fF;show ∃n,cw t.mask h' n=g (insertAt t.place p x) i/\_;have old:∀i h',hs[i]?=some h'->∃n,cw t.mask h' n=g t.place i/\∀k,k<n->qP {t with place:=insertAt t.place p x} (cw t.mask h' k):=λi h' q=>by
   obtain⟨n,h1,h2⟩:=w.Sh i h' q;exact⟨n,h1,λk hk=>Sz _ (h2 k hk)⟩
  have hpl:p<=hs.length:=by rw[<- w.sz];exact b1
  by_cases h1:i<p
  ·rw[Yi (by rw[Xj];lia),Zr h1]at fF
   rw[dw b1,if_pos h1];exact old i h' fF
  ·rw[XX (by rw[Xj];lia),Xj,show min p hs.length=p by lia]at fF
   rw[dw b1,if_neg h1]
   by_cases h2:i=p
   ·rw[h2,ZR]at fF;rw[if_pos h2];obtain rfl:h=h':=Xp fF;exact⟨N,hx,λk hk=>Sz _ (hO k hk)⟩
   ·rw[show i-p=i-p-1+1 by lia,Zw,Z0,show p+(i-p-1)=i-1 by lia]at fF
    rw[if_neg h2];exact old (i-1) h' fF
theorem gk {m i:Nat}(h:i<=m):i<=runEnd m i/\runEnd m i<=m:=by
 unfold runEnd
 split <;> lia
theorem Ah (m:Nat)(h:Int):∀n,(fE m h n).j+(fE m h n).more<=m
 |0=>by
  show bits h % (m+1)+(runEnd m (bits h % (m+1))-bits h % (m+1))<=m;have hl:bits h % (m+1)<=m:=Nat.le_of_lt_succ (ZX _ (Nat.succ_pos _));have:=gk hl;lia
 |n+1=>by
  have ih:=Ah m h n;show (c6 m (fE m h n)).j+(c6 m (fE m h n)).more<=m;unfold c6 advance
  split
  ·show (fE m h n).j+1+((fE m h n).more-1)<=m;lia
  ·show (leap m (fE m h n).i (fE m h n).perturb).1+(runEnd m (leap m (fE m h n).i (fE m h n).perturb).1-(leap m (fE m h n).i (fE m h n).perturb).1)<=m;have hl:(leap m (fE m h n).i (fE m h n).perturb).1<=m:=Nat.le_of_lt_succ (ZX _ (Nat.succ_pos _));have:=gk hl;lia
theorem kO (m:Nat)(h:Int)(n:Nat):cw m h n<=m:=by
 have:=Ah m h n;unfold cw;lia
abbrev Ow:=Array (Option Nat)
def fA (o:Ow)(j:Nat):Bool:=(o.getD j (some 0)).isNone
theorem oV {m:Nat}{o:Ow}(h:Int):∀(f b n:Nat) (j:Nat),fE m h n=Ki m (lp m h b)->layClean.free m o f (lp m h b).1 (lp m h b).2=some j->∃N,n<=N/\cw m h N=j/\fA o j=true/\∀k,n<=k->k<N->fA o (cw m h k)=false
 |0,b,n,j,_,e=>by cases e
 |f+1,b,n,j,hb,e=>by
  unfold layClean.free at e;have P0:∀d,d<=runEnd m (lp m h b).1-(lp m h b).1->cw m h (n+d)=(lp m h b).1+d:=λd hd=>by
   unfold cw;rw[vg m h _ n hb d hd]
  have hl:(lp m h b).1<=m:=by
   have:=kO m h n;unfold cw at this;rw[hb]at this;exact this
  have hr:=gk hl;cases hf:(WK (runEnd m (lp m h b).1+1-(lp m h b).1)).find? (λk=>(o.getD ((lp m h b).1+k) (some 0)).isNone)with
  |some k =>
   rw[hf]at e;dsimp only at e;obtain⟨h1,h2,h3⟩:=List.find?_range_eq_some.mp hf;have h2:=X8.mp h2;refine⟨n+k,by lia,?_,?_,λx g1 g2=>?_⟩
   ·rw[P0 k (by lia)]
    exact Xp e
   ·rw[<- Xp e];exact h1
   ·have:=h3 (x-n) (by lia)
    rw[show x=n+(x-n) by lia,P0 (x-n) (by lia)]
    unfold fA;simpa using this
  |none =>
   rw[hf]at e;dsimp only at e;have h3:=List.find?_range_eq_none.mp hf;obtain⟨N,q1,q2,q3,q4⟩:=oV h f (b+1) (n+(runEnd m (lp m h b).1-(lp m h b).1)+1) j (tV m h _ n hb) e;refine⟨N,by lia,q2,q3,λx g1 g2=>?_⟩
   by_cases hx:n+(runEnd m (lp m h b).1-(lp m h b).1)+1<=x
   ·exact q4 x hx g2
   ·have:=h3 (x-n) (by lia)
    rw[show x=n+(x-n) by lia,P0 (x-n) (by lia)]
    unfold fA;simpa using this
theorem oW {m:Nat}{o:Ow}(h:Int):∀(f b:Nat),layClean.free m o f (lp m h b).1 (lp m h b).2=none->∀d,d<f->(lp m h (b+d)).1<=m->fA o (lp m h (b+d)).1=false
 |0,b,_,d,hd,_=>by lia
 |f+1,b,e,d,hd,hl=>by
  unfold layClean.free at e;cases hf:(WK (runEnd m (lp m h b).1+1-(lp m h b).1)).find? (λk=>(o.getD ((lp m h b).1+k) (some 0)).isNone)with
  |some k =>
   rw[hf]at e;cases e
  |none =>
   rw[hf]at e;dsimp only at e;cases d with
   |zero =>
    have:=List.find?_range_eq_none.mp hf 0 (by have:=gk hl;rw[Nat.add_zero]at this;lia)
    unfold fA;simpa using this
   |succ d =>
    have:=oW h f (b+1) e d (by lia) (by rw[show b+1+d=b+(d+1) by lia];exact hl)
    rw[show b+1+d=b+(d+1) by lia]at this
    exact this
theorem Ik (j:Nat)(h:Int){t:Nat}(ht:t<2 ^ j):∃k,k<turns (2 ^ j-1)/\(lp (2 ^ j-1) h k).1=t:=by
 obtain⟨k,hk,e⟩:=lift j (lp (2 ^ j-1) h 13).1 t;refine⟨13+k,by unfold turns;lia,?_⟩
 rw[FW,e,Nat.mod_eq_of_lt ht]
def ow (o:Ow)(j:Nat):Option Nat:=o.getD j none
theorem dQ {α:Type}{f f':Nat->Option α}:∀(l:List Nat),(∀k∈l,f' k=f k)->l.filterMap f'=l.filterMap f
 |[],_=>rfl
 |x::l,h=>by
  rw[XS,XS,h x WO,dQ l λk hk=>h k (WQ _ hk)]
theorem sZ {α:Type}{f f':Nat->Option α}(l:List Nat)(h:∀k∈l,f' k=f k):l.filterMap f'=l.filterMap f:=dQ l h
theorem sX {α:Type}(f f':Nat->Option α)(j:Nat)(v:α)(h1:f j=none)(h2:f' j=some v)(h3:∀k,k≠j->f' k=f k):∀N,j<N->((WK N).filterMap f').Perm (v::(WK N).filterMap f)
 |0,h=>by lia
 |N+1,h=>by
  rw[List.range_succ,List.filterMap_append,List.filterMap_append]
  by_cases e:j=N
  ·subst e;have e1:(WK j).filterMap f'=(WK j).filterMap f:=by
    exact dQ _ λk hk=>h3 k (Xk (X8.mp hk))
   rw[e1,XS,h2,XS,h1,List.filterMap_nil,List.filterMap_nil];show ((WK j).filterMap f++[v]).Perm (v::((WK j).filterMap f++[]));rw[XY];exact List.perm_append_comm
  ·have ih:=sX f f' j v h1 h2 h3 N (by lia)
   have e2:[N].filterMap f'=[N].filterMap f:=dQ _ λk hk=>by
    rw[WN.mp hk];exact h3 N (λz=>e z.symm)
   rw[e2];exact ih.append_right _
theorem s9 {α:Type}(f:Nat->Option α):∀N,(∀k,k<N->(f k).isSome=true)->((WK N).filterMap f).length=N
 |0,_=>rfl
 |N+1,h=>by
  rw[List.range_succ,List.filterMap_append,Xi,s9 f N λk hk=>h k (by lia)]
  have:=h N (by lia)
  cases e:f N with
  |none=>rw[e]at this;cases this
  |some x=>rw[XS,e];rfl
structure Ld (m:Nat)(hs:Array Int)(o:Ow)(k:Nat):Prop where
 sz:o.size=m+1
 Pq:((WK (m+1)).filterMap (ow o)).Perm (WK k)
 way:∀j a,ow o j=some a->a<k/\∃n,cw m (hs.getD a 0) n=j/\∀x,x<n->fA o (cw m (hs.getD a 0) x)=false
theorem lR {o:Ow}{j:Nat}(h:j<o.size):fA o j=true↔ow o j=none:=by
 unfold fA ow;rw[Xa,Xa,getElem?_pos o j h];show (o[j]).isNone=true↔o[j]=none;exact Option.isNone_iff_eq_none
theorem Ld.next {j0:Nat}{hs:Array Int}{o:Ow}{k:Nat}(L:Ld (2 ^ j0-1) hs o k)(hk:k<=2 ^ j0-1)(h:Int)(hh:hs.getD k 0=h):
  ∃j,layClean.free (2 ^ j0-1) o (turns (2 ^ j0-1)) (bits h % (2 ^ j0-1+1)) (bits h)=some j/\Ld (2 ^ j0-1) hs (o.setIfInBounds j (some k)) (k+1):=by
 have hP:0<2 ^ j0:=Nat.pow_pos (by decide)
 generalize hm:2 ^ j0-1=m at *
 obtain⟨x,hx,U1⟩:∃x,x<=m/\ow o x=none:=by
  refine Zn λQJ=>?_;have:=s9 (ow o) (m+1) λx hx=>by
   cases e:ow o x with
   |none=>exact absurd ⟨x,by lia,e⟩ QJ
   |some _=>rfl
  rw[L.Pq.length_eq,Xh]at this;lia
 cases hf:layClean.free m o (turns m) (bits h % (m+1)) (bits h)with
 |none =>
  exfalso
  obtain⟨c,hc,he⟩:=Ik j0 h (t:=x) (by lia)
  rw[hm]at hc he;have:=oW (m:=m) (o:=o) h (turns m) 0 hf c hc (by rw[Yk,he];exact hx)
  rw[Yk,he]at this;have q:=(lR (o:=o) (j:=x) (by rw[L.sz];lia)).mpr U1
  rw[q]at this;cases this
 |some j =>
  refine⟨j,rfl,?_⟩;obtain⟨N,_,q2,q3,q4⟩:=oV (m:=m) (o:=o) h (turns m) 0 0 j rfl hf;have hj:j<=m:=by rw[<- q2];exact kO m h N
  have QV:j<o.size:=by rw[L.sz];lia
  have MM:ow o j=none:=(lR QV).mp q3;have same:∀i,i≠j->ow (o.setIfInBounds j (some k)) i=ow o i:=λi hi=>by
   unfold ow;rw[Xa,Xa,Array.getElem?_setIfInBounds_ne (λz=>hi z.symm)]
  have here:ow (o.setIfInBounds j (some k)) j=some k:=by
   unfold ow;rw[Xa,Array.getElem?_setIfInBounds_self_of_lt QV];rfl
  have KN:∀i,fA o i=false->fA (o.setIfInBounds j (some k)) i=false:=λi hi=>by
   unfold fA at *
   rw[Xa]at *
   by_cases e:i=j
   ·subst e;rw[Array.getElem?_setIfInBounds_self_of_lt QV];rfl
   ·rw[Array.getElem?_setIfInBounds_ne (λz=>e z.symm)];exact hi
  refine⟨by rw[aaa];exact L.sz,?_,λi a N9=>?_⟩
  ·refine(sX (ow o) _ j k MM here same (m+1) (by lia)).trans ?_
   refine(L.Pq.cons k).trans ?_;rw[List.range_succ];exact(List.perm_append_singleton k _).symm
  ·by_cases e:i=j
   ·subst e;rw[here]at N9;obtain rfl:=Xp N9;refine⟨aaf _,N,by rw[hh];exact q2,λx hx=>KN _ ?_⟩
    rw[hh];exact q4 x (WV _) hx
   ·rw[same i e]at N9;obtain⟨g1,n,g2,g3⟩:=L.way i a N9;exact⟨by lia,n,g2,λx hx=>KN _ (g3 x hx)⟩
theorem mW {j0:Nat}{hs:Array Int}(hk:hs.size<=2 ^ j0-1):∀(l:List Int) (k:Nat) (o:Ow),hs.toList.drop k=l->k+l.length=hs.size->Ld (2 ^ j0-1) hs o k ->
  ∃o',(l.foldl (λ(acc:Option (Ow×Nat)) h=>do
   let (owner,k) <- acc
   let j <- layClean.free (2 ^ j0-1) owner (turns (2 ^ j0-1)) (bits h % (2 ^ j0-1+1)) (bits h)
   pure (owner.setIfInBounds j (some k),k+1)) (some (o,k)))=some (o',hs.size)/\Ld (2 ^ j0-1) hs o' hs.size
 |[],k,o,e,z,L=>by
  obtain rfl:k=hs.size:=z;exact⟨o,rfl,L⟩
 |h::l,k,o,e,z,L=>by
  rw[WS]at z;have eV:k<hs.toList.length:=by rw[WM];lia
  rw[XE eV]at e;injection e with e1 e2
  have hh:hs.getD k 0=h:=by
   rw[Xa,<- W9,WR eV,e1];rfl
  obtain⟨j,q1,q2⟩:=L.next (by lia) h hh
  rw[Y5];show ∃o',(l.foldl _ (do
   let j <- layClean.free (2 ^ j0-1) o (turns (2 ^ j0-1)) (bits h % (2 ^ j0-1+1)) (bits h)
   pure (o.setIfInBounds j (some k),k+1)))=_/\_
  rw[q1];exact mW hk l (k+1) _ e2 (by lia) q2
theorem Ld.start (m:Nat)(hs:Array Int):Ld m hs (Array.replicate (m+1) none) 0:=by
 have e:∀j,ow (Array.replicate (m+1) none) j=none:=λj=>by
  unfold ow;rw[Xa,Array.getElem?_replicate]
  split <;> rfl
 refine⟨Array.size_replicate,?_,λj a h=>by rw[e]at h;cases h⟩
 rw[dQ (f:=λ_=>(none:Option Nat)) _ λk _=>e k];have:∀l:List Nat,l.filterMap (λ_=>(none:Option Nat))=[]:=λl=>by
  induction l with
  |nil=>rfl
  |cons x l ih=>rw[XS];exact ih
 rw[this];exact .refl _
theorem Er {j0:Nat}{hs:Array Int}(h3:3<=j0)(hk:hs.size<=2 ^ j0-1)(finger moves:Nat)(led plain:Bool):
  ∃t order,laid (2 ^ j0-1) finger moves led plain hs=some (t,order)/\t.mask=2 ^ j0-1/\t.led=led/\t.plain=plain/\t.moves=moves/\order.toList.Perm (WK hs.size)/\WF t (order.toList.map λa=>hs.getD a 0)/\t.place.size=hs.size:=by
 obtain⟨o,e1,L⟩:=mW hk hs.toList 0 _ rfl (by rw[Yk,WM]) (Ld.start _ hs)
 have e2:layClean (2 ^ j0-1) hs=some o:=by
  unfold layClean;rw[<- Array.foldl_toList];exact congrArg (Option.map (·.1)) e1
 generalize hm:2 ^ j0-1=m at *
 have LC:∀(l:List Nat),((l.filterMap λj=>(o.getD j none).map (j,·)).map (·.2))=l.filterMap (ow o):=λl=>by
  rw[List.map_filterMap];refine sZ l λj _=>?_;rw[Option.map_map];show ((o.getD j none).map λa=>a)=_;rw[Option.map_id'];rfl
 generalize MQ:((WK (m+1)).filterMap λj=>(o.getD j none).map (j,·))=live at *
 have pw:live.Pairwise (λx y=>x.1<y.1):=by
  rw[<- MQ,List.pairwise_filterMap];refine List.pairwise_lt_range.imp λ{a b} Jo x hx y hy=>?_;obtain⟨_,_,rfl⟩:=W8.mp hx;obtain⟨_,_,rfl⟩:=W8.mp hy;exact Jo
 have mem:∀x∈live,x.1<m+1/\ow o x.1=some x.2:=λx hx=>by
  rw[<- MQ]at hx;obtain⟨j,hj,e⟩:=ZZ.mp hx;obtain⟨a,ha,rfl⟩:=W8.mp e;exact⟨X8.mp hj,ha⟩
 have ord:(live.map (·.2)).Perm (WK hs.size):=by
  rw[<- MQ,LC];exact L.Pq
 have len:live.length=hs.size:=by
  have:=ord.length_eq;rw[WB,Xh]at this;exact this
 have gp:∀i (hi:i<live.length),g (live.map (·.1)).toArray i=(live[i]).1:=λi hi=>by
  rw[g,Xa,List.getElem?_toArray,WU,WR hi];rfl
 refine⟨{mask:=m,place:=(live.map (·.1)).toArray,dummies:=#[],finger,led,moves,plain},(live.map (·.2)).toArray,?_,rfl,rfl,rfl,rfl,ord,?_,?_⟩
 ·unfold laid;rw[e2,<- MQ];rfl
 ·have Po:(live.map (·.1)).toArray.size=live.length:=by rw[Xd,WB]
  refine⟨rfl,?_,?_,?_,⟨j0,h3,hm.symm⟩,?_,?_⟩
  ·show (live.map (·.1)).toArray.size=_;rw[Po,WB,WB]
  ·intro i j aF hj;have hj:j<live.length:=by rw[<- Po];exact hj
   show g (live.map (·.1)).toArray i<g (live.map (·.1)).toArray j;rw[gp i (by lia),gp j hj]
   exact Z2.mp pw i j (by lia) hj aF
  ·intro i hi;have hi:i<live.length:=by rw[<- Po];exact hi
   show g (live.map (·.1)).toArray i<=m;rw[gp i hi];have:=(mem _ (YV hi)).1;lia
  ·show (live.map (·.1)).toArray.size<=m;lia
  ·intro i h hi;show ∃n,cw m h n=g (live.map (·.1)).toArray i/\_;rw[WU,WU]at hi;have Gb:i<live.length:=by
    rcases X0 i live.length with q|q
    ·exact q
    ·rw[Xw q]at hi;cases hi
   rw[WR Gb]at hi;have hi:hs.getD (live[i]).2 0=h:=Xp hi;obtain⟨_,n,g2,g3⟩:=L.way _ _ (mem _ (YV Gb)).2;rw[hi]at g2 g3;refine⟨n,by rw[gp i Gb];exact g2,λk hk=>?_⟩
   have hv:=kO m h k;have UX:cw m h k<o.size:=by rw[L.sz];lia
   have:=g3 k hk;cases eo:ow o (cw m h k)with
   |none =>
    rw[(lR UX).mpr eo]at this;cases this
   |some a =>
    have BD:(cw m h k,a)∈live:=by
     rw[<- MQ];exact ZZ.mpr ⟨cw m h k,X8.mpr (by lia),by show (ow o (cw m h k)).map _=_;rw[eo];rfl⟩
    obtain⟨i',fF,e'⟩:=List.getElem_of_mem BD;exact⟨i',by show i'<(live.map (·.1)).toArray.size;lia,by show g (live.map (·.1)).toArray i'=_;rw[gp i' fF,e']⟩
 ·show (live.map (·.1)).toArray.size=hs.size;rw[Xd,WB];exact len
end ST
namespace TS
open PySem PyProof.Rows
def d_:Bool->WX->Array WX->Nat->Nat->Nat->StateT XT Sem (Option Nat):=sortPriv% PySem.Builtin.gallop
def lX:Array WX->Array WX->StateT XT Sem (Array WX):=sortPriv% PySem.Builtin.mergeLo
def lY:Array WX->Array WX->StateT XT Sem (Array WX):=sortPriv% PySem.Builtin.mergeHi
abbrev lE (st:XT)(g:Nat):XT:=SortSt.mk' (kindOf st) (Xq st) (Xf st) g (Zz st)
theorem vn (left:Bool)(key:WX)(arr:Array WX)(base n hint:Nat):d_ left key arr base n hint=(do
  let ask:=λ(at_:Nat)=>(do
   let z <- elem' arr (base+at_)
   if left then lt' z key else return (<- lt' key z).map (!·):StateT XT Sem (Option Bool))
  let mut before:=0
  let mut step:=1
  let mut u:=0
  let mut v:=0
  let some up <- ask hint|return none
  if up then
   let room:=n-hint
   for _ in [0:n] do
    if step >= room then break
    let some on <- ask (hint+step)|return none
    if !on then break
    before:=step
    step:=2*step+1
   u:=hint+before+1
   v:=hint+min step room
  else
   let room:=hint+1
   for _ in [0:n] do
    if step >= room then break
    let some hit <- ask (hint-step)|return none
    if hit then break
    before:=step
    step:=2*step+1
   u:=hint+1-min step room
   v:=hint-before
  for _ in [0:n] do
   if u >= v then break
   let mid:=u+(v-u) / 2
   let some on <- ask mid|return none
   if on then u:=mid+1 else v:=mid
  return some v):=rfl
theorem sd (p q:Array WX):lX p q=(do
  rule "list.sort.merge-lo"
  let all:=p.size+q.size
  let rest:=λ(to:Array WX) (i j:Nat)=>to++p.extract i p.size++q.extract j q.size
  let tail:=λ(to:Array WX) (i j:Nat)=>to++q.extract j q.size++p.extract i p.size
  let mut to:Array WX:=#[<- elem' q 0]
  let mut i:=0
  let mut j:=1
  if j==q.size then return rest to i j
  if i+1==p.size then return tail to i j
  let mut mg:=gallopOf (<- get)
  for _ in [0:all] do
   let mut m:=0
   let mut n:=0
   for _ in [0:all] do
    let some OH <- lt' (<- elem' q j) (<- elem' p i)|return rest to i j
    if OH then
     to:=to.push (<- elem' q j);j:=j+1;n:=n+1;m:=0
     if j==q.size then return rest to i j
     if n >= mg then break
    else
     to:=to.push (<- elem' p i);i:=i+1;m:=m+1;n:=0
     if i+1==p.size then return tail to i j
     if m >= mg then break
   rule "list.sort.gallop"
   mg:=mg+1
   for _ in [0:all] do
    if mg>1 then mg:=mg-1
    modify λst=>lE st mg
    let some k <- d_ false (<- elem' q j) p i (p.size-i) 0|return rest to i j
    m:=k
    if k>0 then
     to:=to++p.extract i (i+k);i:=i+k
     if i+1==p.size then return tail to i j
     if i==p.size then return rest to i j
    to:=to.push (<- elem' q j);j:=j+1
    if j==q.size then return rest to i j
    let some k <- d_ true (<- elem' p i) q j (q.size-j) 0|return rest to i j
    n:=k
    if k>0 then
     to:=to++q.extract j (j+k);j:=j+k
     if j==q.size then return rest to i j
    to:=to.push (<- elem' p i);i:=i+1
    if i+1==p.size then return tail to i j
    if m<7&&n<7 then break
   mg:=mg+1
   modify λst=>lE st mg
  unsupported "internal:list.sort.merge-bound"):=rfl
theorem sf (p q:Array WX):lY p q=(do
  rule "list.sort.merge-hi"
  let all:=p.size+q.size
  let rest:=λ(to:Array WX) (i j:Nat)=>p.extract 0 i++q.extract 0 j++to.reverse
  let tail:=λ(to:Array WX) (i j:Nat)=>q.extract 0 j++p.extract 0 i++to.reverse
  let mut i:=p.size-1
  let mut j:=q.size
  let mut to:Array WX:=#[<- elem' p i]
  if i==0 then return rest to i j
  if j==1 then return tail to i j
  let mut mg:=gallopOf (<- get)
  for _ in [0:all] do
   let mut m:=0
   let mut n:=0
   for _ in [0:all] do
    let some OH <- lt' (<- elem' q (j-1)) (<- elem' p (i-1))|return rest to i j
    if OH then
     i:=i-1;to:=to.push (<- elem' p i);m:=m+1;n:=0
     if i==0 then return rest to i j
     if m >= mg then break
    else
     j:=j-1;to:=to.push (<- elem' q j);n:=n+1;m:=0
     if j==1 then return tail to i j
     if n >= mg then break
   rule "list.sort.gallop"
   mg:=mg+1
   for _ in [0:all] do
    if mg>1 then mg:=mg-1
    modify λst=>lE st mg
    let some h <- d_ false (<- elem' q (j-1)) p 0 i (i-1)|return rest to i j
    let k:=i-h
    m:=k
    if k>0 then
     to:=to++(p.extract h i).reverse;i:=h
     if i==0 then return rest to i j
    j:=j-1;to:=to.push (<- elem' q j)
    if j==1 then return tail to i j
    let some h <- d_ true (<- elem' p (i-1)) q 0 j (j-1)|return rest to i j
    let k:=j-h
    n:=k
    if k>0 then
     to:=to++(q.extract h j).reverse;j:=h
     if j==1 then return tail to i j
     if j==0 then return rest to i j
    i:=i-1;to:=to.push (<- elem' p i)
    if i==0 then return rest to i j
    if m<7&&n<7 then break
   mg:=mg+1
   modify λst=>lE st mg
  unsupported "internal:list.sort.merge-bound"):=rfl
theorem sg (i:Nat):mergeAt' i=(do
  let st <- get
  let (some (sa,na,pw),some (sb,nb,_)):=((Xf st)[i]?,(Xf st)[i+1]?)|unsupported "internal:list.sort.pending"
  set (ZE st (((Xf st).setIfInBounds i (sa,na+nb,pw)).eraseIdxIfInBounds (i+1)))
  let some k <- d_ false (<- elem' (Xq st) sb) (Xq st) sa na 0|return false
  let (sa,na):=(sa+k,na-k)
  if na==0 then return true
  let some nb <- d_ true (<- elem' (Xq st) (sa+na-1)) (Xq st) sb nb (nb-1)|return false
  if nb==0 then return true
  let x:=(Xq st).extract sa sb
  let y:=(Xq st).extract sb (sb+nb)
  let got <- if na<=nb then lX x y else lY x y
  modify λs2=>X9 s2 (got.toList.zipIdx.foldl (λa (p,j)=>a.setIfInBounds (sa+j) p) (Xq s2))
  return (Zz (<- get)).isNone):=rfl
structure cR (c:WX->WX->Bool):Prop where
 Nk:∀x y,c x y=true->c y x=false
 SD:∀x y z,c x z=true->c x y=true\/c y z=true
def le (c:WX->WX->Bool)(x y:WX):Prop:=c y x=false
section
variable {c:WX->WX->Bool}
theorem cR.refl (O:cR c)(x:WX):le c x x:=by
 cases h:c x x
 ·exact h
 ·exact O.Nk _ _ h
theorem cR.trans (O:cR c){x y z:WX}(h1:le c x y)(h2:le c y z):le c x z:=by
 cases h:c z x
 ·exact h
 ·rcases O.SD _ y _ h with q|q
  ·exact absurd (q.symm.trans h2) (by simp)
  ·exact absurd (q.symm.trans h1) (by simp)
theorem cR.of_lt (O:cR c){x y:WX}(h:c x y=true):le c x y:=O.Nk _ _ h
def el (a:Array WX)(i:Nat):WX:=a.getD i (Value.none,Value.none)
theorem i3 {a:Array WX}{i:Nat}(h:i<a.size):a[i]?=some (el a i):=by
 rw[getElem?_pos a i h,el,Xa,getElem?_pos a i h];rfl
theorem w9 {a:Array WX}{i:Nat}{x:WX}(h:a[i]?=some x):el a i=x:=by
 rw[el,Xa,h];rfl
theorem dS {a b:Array WX}{i j:Nat}(h:a[i]?=b[j]?):el a i=el b j:=by
 rw[el,el,Xa,Xa,h]
def SR (c:WX->WX->Bool)(a:Array WX)(lo hi:Nat):Prop:=∀i j,lo<=i->i<=j->j<hi->le c (el a i) (el a j)
def il (prog:WI)(w:W6)(A:XA)(E:WC->WE->Prop)(s:WE)(κ:YU)(c:WX->WX->Bool)(S:WX->Prop):Prop :=
 ∀(x y:WX) (st:XT) (Q:Option Bool->XT->Prop),S x->S y->kindOf st=κ->Q (some (c x y)) st->wpS (model prog w) A E s (lt' x y) Q st
end
section
variable {prog:WI}{w:W6}{A:XA}{E:WC->WE->Prop}{s:WE}{κ:YU}{c:WX->WX->Bool}{S:WX->Prop}
theorem aN {a:Array WX}{i:Nat}{Q:WX->XT->Prop}{st:XT}(h:i<a.size)(q:Q (el a i) st):wpS (model prog w) A E s (elem' a i) Q st:=by
 rw[elem'_eq,i3 h];exact WY q
def dW (c:WX->WX->Bool)(left:Bool)(key:WX)(a:Array WX)(base i:Nat):Bool:=if left=true then c (el a (base+i)) key else !c key (el a (base+i))
theorem Fo (O:cR c){left:Bool}{key:WX}{a:Array WX}{base n i j:Nat}(hs:SR c a base (base+n))(aF:i<=j)(hj:j<n)(h:dW c left key a base j=true):dW c left key a base i=true:=by
 have hl:=hs (base+i) (base+j) (by lia) (by lia) (by lia)
 unfold dW at *
 cases left with
 |true =>
  rw[if_pos rfl]at *
  rcases O.SD _ (el a (base+i)) _ h with q|q
  ·exact absurd (q.symm.trans hl) (by simp)
  ·exact q
 |false =>
  rw[if_neg (by simp)]at *
  rw[ZC]at *
  exact O.trans hl h
theorem iB (L:il prog w A E s κ c S){left:Bool}{key:WX}{a:Array WX}{base n i:Nat}{Q:Option Bool->XT->Prop}{st:XT}(hk:kindOf st=κ)(hK:S key)(hA:∀i,i<n->S (el a (base+i)))(hn:base+n<=a.size)(hi:i<n)
  (h:Q (some (dW c left key a base i)) st):wpS (model prog w) A E s (do
   let z <- elem' a (base+i)
   if left then lt' z key else return (<- lt' key z).map (!·):StateT XT Sem (Option Bool)) Q st:=by
 refine WL (aN (by lia) ?_)
 unfold dW at h;cases left with
 |true =>
  rw[if_pos rfl]at *
  exact L _ _ st Q (hA i hi) hK hk h
 |false =>
  rw[if_neg (by simp)]at *
  exact WL (L _ _ st _ hK (hA i hi) hk (WY h))
theorem dz (O:cR c)(L:il prog w A E s κ c S){left:Bool}{key:WX}{a:Array WX}{base n hint:Nat}{Q:Option Nat->XT->Prop}{st:XT}(hk:kindOf st=κ)(hK:S key)(hA:∀i,i<n->S (el a (base+i)))(hn:base+n<=a.size)
  (hs:SR c a base (base+n)) (hh:hint<n) (h:∀k,k<=n->(∀i,i<k->dW c left key a base i=true)->(∀i,k<=i->i<n->dW c left key a base i=false)->Q (some k) st) :
  wpS (model prog w) A E s (d_ left key a base n hint) Q st:=by
 rw[vn];dsimp only;have up:∀{i j},i<=j->j<n->dW c left key a base j=true->dW c left key a base i=true:=λh1 h2 h3=>Fo O hs h1 h2 h3;refine WL (iB L hk hK hA hn hh ?_);dsimp only;have dn:∀{i j},i<=j->j<n->dW c left key a base i=false->dW c left key a base j=false:=λ{i j} h1 h2 h3=>by
  cases q:dW c left key a base j
  ·rfl
  ·rw[up h1 h2 q]at h3;exact absurd h3 (by simp)
 cases J9:dW c left key a base hint with
 |true =>
  rw[if_pos rfl];refine WL (Yx (XZ (I:=λx r aA=>aA=st/\∃be c6,r=(none,be,c6)/\hint+be<n/\be<c6/\x+1<=c6/\dW c left key a base (hint+be)=true)
   (Q:=λr aA=>aA=st/\∃be c6,r=(none,be,c6)/\hint+be<n/\be<c6/\dW c left key a base (hint+be)=true/\(n-hint<=c6\/(hint+c6<n/\dW c left key a base (hint+c6)=false))) ?_ ?_ ?_) ?_)
  ·rintro x r aA _ hx ⟨rfl,be,c6,rfl,h1,h2,h3,h4⟩;dsimp only
   by_cases hr:c6 >= n-hint
   ·rw[if_pos hr];exact WY ⟨rfl,be,c6,rfl,h1,h2,h4,.inl hr⟩
   ·rw[if_neg hr];refine WL (iB L hk hK hA hn (by lia) ?_)
    dsimp only;cases hb:dW c left key a base (hint+c6)with
    |true =>
     rw[if_neg (by simp)]
     exact WY ⟨rfl,c6,_,rfl,by lia,by lia,by lia,hb⟩
    |false =>
     rw[if_pos (by simp)]
     exact WY ⟨rfl,be,c6,rfl,h1,h2,h4,.inr ⟨by lia,hb⟩⟩
  ·rintro r aA ⟨rfl,be,c6,rfl,h1,h2,h3,h4⟩;exact⟨rfl,be,c6,rfl,h1,h2,h4,.inl (by lia)⟩
  ·exact⟨rfl,0,1,rfl,by lia,by lia,by lia,J9⟩
  rintro r aA ⟨e0,be,c6,rfl,h1,h2,h4,h5⟩;rw[e0];dsimp only;have g1:∀i,i<hint+be+1->dW c left key a base i=true:=λi hi=>up (j:=hint+be) (by lia) h1 h4
  have g2:∀i,hint+min c6 (n-hint)<=i->i<n->dW c left key a base i=false:=λi hi fF=>by
   rcases h5 with q|⟨q1,q2⟩
   ·lia
   ·exact dn (i:=hint+c6) (by lia) fF q2
  refine WL (Yx (XZ (I:=λx r aA=>aA=st/\∃u v,r=(none,u,v)/\u<=v/\v<=n/\v-u<=n-x/\(∀i,i<u->dW c left key a base i=true)/\(∀i,v<=i->i<n->dW c left key a base i=false))
   (Q:=λr aA=>aA=st/\∃v,r=(none,v,v)/\v<=n/\(∀i,i<v->dW c left key a base i=true)/\(∀i,v<=i->i<n->dW c left key a base i=false)) ?_ ?_ ?_) ?_)
  ·rintro x r aA _ hx ⟨rfl,u,v,rfl,h1,h2,h3,h4,h5⟩;dsimp only
   by_cases LY:u >= v
   ·rw[if_pos LY];obtain rfl:u=v:=by lia
    exact WY ⟨rfl,u,rfl,h2,h4,h5⟩
   ·rw[if_neg LY];refine WL (iB L hk hK hA hn (by lia) ?_)
    dsimp only;cases hb:dW c left key a base (u+(v-u) / 2)with
    |true =>
     rw[if_pos rfl];exact WY ⟨rfl,_,v,rfl,by lia,h2,by lia,λi hi=>up (j:=u+(v-u) / 2) (by lia) (by lia) hb,h5⟩
    |false =>
     rw[if_neg (by simp)]
     exact WY ⟨rfl,u,_,rfl,by lia,by lia,by lia,h4,λi hi fF=>dn (i:=u+(v-u) / 2) (by lia) (by lia) hb⟩
  ·rintro r aA ⟨rfl,u,v,rfl,h1,h2,h3,h4,h5⟩;obtain rfl:u=v:=by lia
   exact⟨rfl,u,rfl,h2,h4,h5⟩
  ·exact⟨rfl,_,_,rfl,by lia,by lia,by lia,by assumption,by assumption⟩
  ·rintro r aA ⟨rfl,v,rfl,h2,h4,h5⟩;exact WY (h v h2 h4 h5)
 |false =>
  rw[if_neg (by simp)]
  refine WL (Yx (XZ (I:=λx r aA=>aA=st/\∃be c6,r=(none,be,c6)/\be<=hint/\be<c6/\x+1<=c6/\dW c left key a base (hint-be)=false)
   (Q:=λr aA=>aA=st/\∃be c6,r=(none,be,c6)/\be<=hint/\be<c6/\dW c left key a base (hint-be)=false/\(hint+1<=c6\/(c6<=hint/\dW c left key a base (hint-c6)=true))) ?_ ?_ ?_) ?_)
  ·rintro x r aA _ hx ⟨rfl,be,c6,rfl,h1,h2,h3,h4⟩;dsimp only
   by_cases hr:c6 >= hint+1
   ·rw[if_pos hr];exact WY ⟨rfl,be,c6,rfl,h1,h2,h4,.inl hr⟩
   ·rw[if_neg hr];refine WL (iB L hk hK hA hn (by lia) ?_)
    dsimp only;cases hb:dW c left key a base (hint-c6)with
    |true =>
     rw[if_pos rfl];exact WY ⟨rfl,be,c6,rfl,h1,h2,h4,.inr ⟨by lia,hb⟩⟩
    |false =>
     rw[if_neg (by simp)]
     exact WY ⟨rfl,c6,_,rfl,by lia,by lia,by lia,hb⟩
  ·rintro r aA ⟨rfl,be,c6,rfl,h1,h2,h3,h4⟩;exact⟨rfl,be,c6,rfl,h1,h2,h4,.inl (by lia)⟩
  ·exact⟨rfl,0,1,rfl,by lia,by lia,by lia,J9⟩
  rintro r aA ⟨e0,be,c6,rfl,h1,h2,h4,h5⟩;rw[e0];dsimp only;have g1:∀i,i<hint+1-min c6 (hint+1)->dW c left key a base i=true:=λi hi=>by
   rcases h5 with q|⟨q1,q2⟩
   ·lia
   ·exact up (j:=hint-c6) (by lia) (by lia) q2
  have g2:∀i,hint-be<=i->i<n->dW c left key a base i=false:=λi hi fF=>dn (i:=hint-be) hi fF h4;refine WL (Yx (XZ (I:=λx r aA=>aA=st/\∃u v,r=(none,u,v)/\u<=v/\v<=n/\v-u<=n-x/\(∀i,i<u->dW c left key a base i=true)/\(∀i,v<=i->i<n->dW c left key a base i=false))
   (Q:=λr aA=>aA=st/\∃v,r=(none,v,v)/\v<=n/\(∀i,i<v->dW c left key a base i=true)/\(∀i,v<=i->i<n->dW c left key a base i=false)) ?_ ?_ ?_) ?_)
  ·rintro x r aA _ hx ⟨rfl,u,v,rfl,h1,h2,h3,h4,h5⟩;dsimp only
   by_cases LY:u >= v
   ·rw[if_pos LY];obtain rfl:u=v:=by lia
    exact WY ⟨rfl,u,rfl,h2,h4,h5⟩
   ·rw[if_neg LY];refine WL (iB L hk hK hA hn (by lia) ?_)
    dsimp only;cases hb:dW c left key a base (u+(v-u) / 2)with
    |true =>
     rw[if_pos rfl];exact WY ⟨rfl,_,v,rfl,by lia,h2,by lia,λi hi=>up (j:=u+(v-u) / 2) (by lia) (by lia) hb,h5⟩
    |false =>
     rw[if_neg (by simp)]
     exact WY ⟨rfl,u,_,rfl,by lia,by lia,by lia,h4,λi hi fF=>dn (i:=u+(v-u) / 2) (by lia) (by lia) hb⟩
  ·rintro r aA ⟨rfl,u,v,rfl,h1,h2,h3,h4,h5⟩;obtain rfl:u=v:=by lia
   exact⟨rfl,u,rfl,h2,h4,h5⟩
  ·exact⟨rfl,_,_,rfl,by lia,by lia,by lia,by assumption,by assumption⟩
  ·rintro r aA ⟨rfl,v,rfl,h2,h4,h5⟩;exact WY (h v h2 h4 h5)
end
section
variable {c:WX->WX->Bool}{p q:Array WX}{t:List WX}{i j:Nat}
theorem vN {a:Array WX}{i:Nat}(h:i<a.size):a.toList.take (i+1)=a.toList.take i++[el a i]:=by
 have e:a.toList[i]?=some (el a i):=by rw[W9];exact i3 h
 rw[List.take_succ,e];rfl
theorem w_ {a:Array WX}{i:Nat}(h:i<a.size):a.toList.drop i=el a i::a.toList.drop (i+1):=by
 have hl:i<a.toList.length:=by rw[WM];exact h
 have e:a.toList[i]=el a i:=by
  have h1:=WR hl;rw[W9,i3 h]at h1;exact(Xp h1).symm
 rw[XE hl,e]
structure Mg (c:WX->WX->Bool)(p q:Array WX)(t:List WX)(i j:Nat):Prop where
 hi:i<=p.size
 hj:j<=q.size
 perm:t.Perm (p.toList.take i++q.toList.take j)
 gI:t.Pairwise (le c)
 ap:∀x∈t,∀k,i<=k->k<p.size->le c x (el p k)
 aq:∀x∈t,∀k,j<=k->k<q.size->le c x (el q k)
def Gd (c:WX->WX->Bool)(p q:Array WX)(t:List WX):Prop:=t.Perm (p.toList++q.toList)/\t.Pairwise (le c)
theorem rl {x:WX}(h:t.Pairwise (le c))(hx:∀y∈t,le c y x):(t++[x]).Pairwise (le c):=by
 rw[ZJ];exact⟨h,Ym _ _,λy hy z hz=>by rw[WN.mp hz];exact hx y hy⟩
theorem Mg.jX (m:Mg c p q t i j)(hj:j<q.size)(sq:SR c q 0 q.size)(hle:∀k,i<=k->k<p.size->le c (el q j) (el p k)):Mg c p q (t++[el q j]) i (j+1) where
 hi:=m.hi
 hj:=hj
 perm:=by
  rw[vN hj,<- X4];exact m.perm.append_right _
 gI:=rl m.gI λy hy=>m.aq y hy j (WD _) hj
 ap:=λx hx k h1 h2=>by
  rcases W4.mp hx with h|h
  ·exact m.ap x h k h1 h2
  ·rw[WN.mp h];exact hle k h1 h2
 aq:=λx hx k h1 h2=>by
  rcases W4.mp hx with h|h
  ·exact m.aq x h k (by lia) h2
  ·rw[WN.mp h];exact sq j k (by lia) (by lia) h2
theorem Mg.jY (m:Mg c p q t i j)(hi:i<p.size)(sp:SR c p 0 p.size)(hle:∀k,j<=k->k<q.size->le c (el p i) (el q k)):Mg c p q (t++[el p i]) (i+1) j where
 hi:=hi
 hj:=m.hj
 perm:=by
  rw[vN hi];refine(m.perm.append_right _).trans ?_;rw[X4,X4];exact List.Perm.append_left _ List.perm_append_comm
 gI:=rl m.gI λy hy=>m.ap y hy i (WD _) hi
 ap:=λx hx k h1 h2=>by
  rcases W4.mp hx with h|h
  ·exact m.ap x h k (by lia) h2
  ·rw[WN.mp h];exact sp i k (by lia) (by lia) h2
 aq:=λx hx k h1 h2=>by
  rcases W4.mp hx with h|h
  ·exact m.aq x h k h1 h2
  ·rw[WN.mp h];exact hle k h1 h2
theorem fV {a:Array WX}{i k:Nat}(h:i+k<a.size):(a.toList.drop i).take (k+1)=(a.toList.drop i).take k++[el a (i+k)]:=by
 have e:(a.toList.drop i)[k]?=some (el a (i+k)):=by rw[Z0,W9];exact i3 h
 rw[List.take_succ,e];rfl
theorem Mg.iE (m:Mg c p q t i j)(sp:SR c p 0 p.size):∀(k:Nat),i+k<=p.size->(∀x,x<k->∀y,j<=y->y<q.size->le c (el p (i+x)) (el q y))->Mg c p q (t++(p.toList.drop i).take k) (i+k) j
 |0,_,_=>by simpa using m
 |k+1,h,hle=>by
  have m':=Mg.iE m sp k (by lia) λx hx=>hle x (by lia)
  rw[fV (by lia),<- X4,<- Nat.add_assoc]
  exact m'.jY (by lia) sp (hle k (by lia))
theorem Mg.iD (m:Mg c p q t i j)(sq:SR c q 0 q.size):∀(k:Nat),j+k<=q.size->(∀x,x<k->∀y,i<=y->y<p.size->le c (el q (j+x)) (el p y))->Mg c p q (t++(q.toList.drop j).take k) i (j+k)
 |0,_,_=>by simpa using m
 |k+1,h,hle=>by
  have m':=Mg.iD m sq k (by lia) λx hx=>hle x (by lia)
  rw[fV (by lia),<- X4,<- Nat.add_assoc]
  exact m'.jX (by lia) sq (hle k (by lia))
theorem Mg.full (m:Mg c p q t p.size q.size):Gd c p q t:=by
 refine⟨?_,m.gI⟩;have h:=m.perm;rw[Yp (by rw[WM];lia),Yp (by rw[WM];lia)]at h
 exact h
theorem cc (a:Array WX)(i j:Nat):(a.extract i j).toList=(a.toList.drop i).take (j-i):=by
 rw[Array.toList_extract,Z3]
theorem tK {a:Array WX}{i j:Nat}(h:a.size<=i):(a.toList.drop i).take (j-i)=[]:=by
 rw[YG (by rw[WM];exact h)]
 simp
theorem Mg.done {to:Array WX}(m:Mg c p q to.toList i j)(sp:SR c p 0 p.size)(sq:SR c q 0 q.size)(h:i=p.size\/j=q.size):Gd c p q (to++p.extract i p.size++q.extract j q.size).toList:=by
 rw[Yj,Yj,cc,cc];rcases h with rfl|rfl
 ·rw[tK (WD _),XY];have m':=m.iD sq (q.size-j) (by have:=m.hj;lia) λx hx y h1 h2=>by lia
  rw[show j+(q.size-j)=q.size by have:=m.hj;lia]at m'
  exact m'.full
 ·rw[tK (a:=q) (WD _),XY];have m':=m.iE sp (p.size-i) (by have:=m.hi;lia) λx hx y h1 h2=>by lia
  rw[show i+(p.size-i)=p.size by have:=m.hi;lia]at m'
  exact m'.full
theorem Mg.tail {to:Array WX}(O:cR c)(m:Mg c p q to.toList i j)(sp:SR c p 0 p.size)(sq:SR c q 0 q.size)(h:i+1=p.size)(hl:∀y,y<q.size->c (el q y) (el p (p.size-1))=true):Gd c p q (to++q.extract j q.size++p.extract i p.size).toList:=by
 rw[Yj,Yj,cc,cc];have m':=m.iD sq (q.size-j) (by have:=m.hj;lia) λx hx y h1 h2=>by
  rw[show y=p.size-1 by lia]
  exact O.of_lt (hl _ (by lia))
 rw[show j+(q.size-j)=q.size by have:=m.hj;lia]at m'
 have m2:=m'.iE sp (p.size-i) (by have:=m.hi;lia) λx hx y h1 h2=>by lia
 rw[show i+(p.size-i)=p.size by have:=m.hi;lia]at m2
 exact m2.full
theorem xl (to a:Array WX)(i k:Nat):(to++a.extract i (i+k)).toList=to.toList++(a.toList.drop i).take k:=by
 rw[Yj,cc,show i+k-i=k by lia]
theorem Mg.start (O:cR c)(sp:SR c p 0 p.size)(sq:SR c q 0 q.size)(hq:0<q.size)(hp:0<p.size)(h:c (el q 0) (el p 0)=true):Mg c p q [el q 0] 0 1:=by
 have m:Mg c p q [] 0 0:=⟨WV _,WV _,(by simp),.nil,(λx hx=>by cases hx),(λx hx=>by cases hx)⟩
 exact m.jX hq sq λk _ hk=>O.trans (O.of_lt h) (sp 0 k (by lia) (by lia) hk)
end
structure jR (st aA:XT):Prop where
 kind:kindOf aA=kindOf st
 arr:Xq aA=Xq st
 pend:Xf aA=Xf st
 fail:Zz aA=Zz st
theorem jR.refl (st:XT):jR st st:=⟨rfl,rfl,rfl,rfl⟩
theorem jR.Og {st aA:XT}(e:jR st aA)(g:Nat):jR st (lE aA g):=⟨e.kind,e.arr,e.pend,e.fail⟩
section
variable {prog:WI}{w:W6}{A:XA}{E:WC->WE->Prop}{s:WE}{κ:YU}{c:WX->WX->Bool}{S:WX->Prop}{p q:Array WX}
theorem ux (O:cR c)(L:il prog w A E s κ c S){Q:Array WX->XT->Prop}{st:XT}(hk:kindOf st=κ)(Sp:∀i,i<p.size->S (el p i))(Sq:∀i,i<q.size->S (el q i))(sp:SR c p 0 p.size)(sq:SR c q 0 q.size)
  (hp:0<p.size) (hq:0<q.size) (hf:c (el q 0) (el p 0)=true) (hl:∀y,y<q.size->c (el q y) (el p (p.size-1))=true) (h:∀to aA,jR st aA->Gd c p q to.toList->Q to aA) :
  wpS (model prog w) A E s (lX p q) Q st:=by
 rw[sd];refine WL (aab (YZ ⟨rfl,?_⟩));dsimp only;refine WL (aN hq ?_);have m0:Mg c p q (#[el q 0]:Array WX).toList 0 1:=Mg.start O sp sq hq hp hf
 by_cases h1:(1==q.size)=true
 ·rw[if_pos h1];exact WY (h _ st (jR.refl st) (m0.done sp sq (.inr (by simpa using h1))))
 rw[if_neg h1]
 by_cases h2:(0+1==p.size)=true
 ·rw[if_pos h2];exact WY (h _ st (jR.refl st) (m0.tail O sp sq (by simpa using h2) hl))
 rw[if_neg h2];refine WL (ZP ?_);refine WL (Yx (XZ
  (I:=λx r aA=>jR st aA/\∃to i j mg,r=(none,to,i,j,mg)/\Mg c p q to.toList i j/\i+1<p.size/\j<q.size/\x<i+j)
  (Q:=λr aA=>jR st aA/\∃out r',r=(some out,r')/\Gd c p q out.toList) ?_ ?_ ?_) ?_)
 ·rintro x r aA _ hx ⟨e,to,i,j,mg,rfl,m,hi,hj,hb⟩;dsimp only;refine WL (Yx (XZ
   (I:=λy r aA=>jR st aA/\∃to i j m n,r=(none,to,i,j,m,n)/\Mg c p q to.toList i j/\i+1<p.size/\j<q.size/\x+min y 1<i+j)
   (Q:=λr aA=>jR st aA/\((∃out r',r=(some out,r')/\Gd c p q out.toList)\/∃to i j m n,r=(none,to,i,j,m,n)/\Mg c p q to.toList i j/\i+1<p.size/\j<q.size/\x+1<i+j)) ?_ ?_ ?_) ?_)
  ·rintro y r fy _ hy ⟨e2,to,i,j,ma,na,rfl,m,hi,hj,hb⟩;dsimp only;refine WL (aN hj (WL (aN (by lia) (WL (L _ _ fy _ (Sq _ hj) (Sp _ (by lia)) (e2.kind.trans hk) ?_)))))
   dsimp only;cases hc:c (el q j) (el p i)with
   |true =>
    rw[if_pos rfl];refine WL (aN hj ?_);have m1:Mg c p q (to.push (el q j)).toList i (j+1):=by
     rw[YC];exact m.jX hj sq λk h1 h2=>O.trans (O.of_lt hc) (sp i k (by lia) h1 h2)
    by_cases e3:(j+1==q.size)=true
    ·rw[if_pos e3];exact WY ⟨e2,.inl ⟨_,_,rfl,m1.done sp sq (.inr (by simpa using e3))⟩⟩
    rw[if_neg e3];have h3:j+1≠q.size:=by simpa using e3
    split
    ·exact WY ⟨e2,.inr ⟨_,_,_,_,_,rfl,m1,hi,by lia,by lia⟩⟩
    ·exact WY ⟨e2,_,_,_,_,_,rfl,m1,hi,by lia,by lia⟩
   |false =>
    rw[if_neg (by simp)]
    refine WL (aN (by lia) ?_)
    have m1:Mg c p q (to.push (el p i)).toList (i+1) j:=by
     rw[YC];exact m.jY (by lia) sp λk h1 h2=>O.trans (show le c (el p i) (el q j) from hc) (sq j k (by lia) h1 h2)
    by_cases e3:(i+1+1==p.size)=true
    ·rw[if_pos e3];exact WY ⟨e2,.inl ⟨_,_,rfl,m1.tail O sp sq (by simpa using e3) hl⟩⟩
    rw[if_neg e3];have h3:i+1+1≠p.size:=by simpa using e3
    split
    ·exact WY ⟨e2,.inr ⟨_,_,_,_,_,rfl,m1,by lia,hj,by lia⟩⟩
    ·exact WY ⟨e2,_,_,_,_,_,rfl,m1,by lia,hj,by lia⟩
  ·rintro r fy ⟨e2,to,i,j,ma,na,rfl,m,hi,hj,hb⟩;exact⟨e2,.inr ⟨_,_,_,_,_,rfl,m,hi,hj,by lia⟩⟩
  ·exact⟨e,_,_,_,_,_,rfl,m,hi,hj,by lia⟩
  rintro r fy ⟨e2,⟨out,r',rfl,g⟩|⟨to,i,j,ma,na,rfl,m,hi,hj,hb⟩⟩
  ·exact WY ⟨e2,_,_,rfl,g⟩
  dsimp only;refine WL (aab (YZ ⟨rfl,?_⟩));refine WL (Yx (XZ
   (I:=λy r aA=>jR st aA/\∃to i j mg m n,r=(none,to,i,j,mg,m,n)/\Mg c p q to.toList i j/\i+1<p.size/\j<q.size/\x+1<i+j)
   (Q:=λr aA=>jR st aA/\((∃out r',r=(some out,r')/\Gd c p q out.toList)\/∃to i j mg m n,r=(none,to,i,j,mg,m,n)/\Mg c p q to.toList i j/\i+1<p.size/\j<q.size/\x+1<i+j)) ?_ ?_ ?_) ?_)
  ·rintro y r fy _ hy ⟨e2,to,i,j,mg,ma,na,rfl,m,hi,hj,hb⟩;dsimp only;refine(λ(key:∀g:Nat,(?G:Nat->Prop) g)=>?main) ?key
   case main =>
    by_cases EI:mg>1
    ·rw[if_pos EI];generalize mg-1=g;exact key g
    ·rw[if_neg EI];exact key mg
   case key =>
    intro g;refine WL (Ze ?_);have e':=λg=>e2.Og (st:=st) g;refine WL (aN (by lia) ?_)
    refine WL (dz O L ((e' _).kind.trans hk) (Sq _ (by lia)) (λx hx=>Sp _ (by lia)) (by lia) (λa b h1 h2 h3=>sp a b (by lia) h2 (by lia)) (by lia) λk k1 k2 k3=>?_)
    dsimp only;have e':=e' g;have g0:∀x,x<k->le c (el p (i+x)) (el q j):=λx hx=>by
     have:=k2 x hx;unfold dW at this;rw[if_neg (by simp),ZC]at this
     exact this
    have J_:∀y,i+k<=y->y<p.size->le c (el q j) (el p y):=λy h1 h2=>by
     have:=k3 (y-i) (by lia) (by lia)
     unfold dW at this;rw[if_neg (by simp),Bool.not_eq_false',show i+(y-i)=y by lia]at this
     exact O.of_lt this
    have N8:i+k<p.size:=by
     rcases X0 (i+k) p.size with eV|Wq
     ·exact eV
     ·have h1:=g0 (p.size-1-i) (by lia)
      rw[show i+(p.size-1-i)=p.size-1 by lia]at h1
      exact absurd ((hl j hj).symm.trans h1) (by simp)
    refine(λ(qr:∀(t:Array WX) (a:Nat),Mg c p q t.toList a j->a+1<p.size->x+1<a+j->(∀y,a<=y->y<p.size->le c (el q j) (el p y))->(?G2:Array WX->Nat->Prop) t a)=>?A6) ?qr
    case A6 =>
     by_cases MS:k>0
     ·rw[if_pos MS];have m1:Mg c p q (to++p.extract i (i+k)).toList (i+k) j:=by
       rw[xl];exact m.iE sp k (by lia) λx hx y h1 h2=>O.trans (g0 x hx) (sq j y (by lia) h1 h2)
      obtain⟨a,ha⟩:∃a,a=i+k:=⟨_,rfl⟩;rw[<- ha]at m1 J_ N8 ⊢
      generalize to++p.extract i a=t at m1 ⊢
      by_cases e1:(a+1==p.size)=true
      ·rw[if_pos e1];exact WY ⟨e',.inl ⟨_,_,rfl,m1.tail O sp sq (by simpa using e1) hl⟩⟩
      rw[if_neg e1];have ER:a+1≠p.size:=by simpa using e1
      rw[if_neg (by simp;lia)]
      exact qr t a m1 (by lia) (by lia) J_
     ·rw[if_neg MS];exact qr to i m hi hb λy h1 h2=>J_ y (by lia) h2
    case qr =>
     intro t a m1 hi hb g1;refine WL (aN (by lia) ?_)
     have m2:Mg c p q (t.push (el q j)).toList a (j+1):=by
      rw[YC];exact m1.jX hj sq g1
     by_cases e3:(j+1==q.size)=true
     ·rw[if_pos e3];exact WY ⟨e',.inl ⟨_,_,rfl,m2.done sp sq (.inr (by simpa using e3))⟩⟩
     rw[if_neg e3];have h3:j+1≠q.size:=by simpa using e3
     refine WL (aN (by lia) ?_)
     refine WL (dz O L (e'.kind.trans hk) (Sp _ (by lia)) (λx hx=>Sq _ (by lia)) (by lia) (λa b h1 h2 h3=>sq a b (by lia) h2 (by lia)) (by lia) λk2 NX PY PX=>?_)
     dsimp only;have Rl:∀y,j+1+k2<=y->y<q.size->le c (el p a) (el q y):=λy h1 h2=>by
      have:=PX (y-(j+1)) (by lia) (by lia)
      unfold dW at this;rw[if_pos rfl,show j+1+(y-(j+1))=y by lia]at this
      exact this
     refine(λ(qq:∀(t':Array WX) (b:Nat),Mg c p q t'.toList a b->b<q.size->x+1<a+b->(∀y,b<=y->y<q.size->le c (el p a) (el q y))->(?G3:Array WX->Nat->Prop) t' b)=>?A5) ?qq
     case A5 =>
      by_cases BG:k2>0
      ·rw[if_pos BG];have m3:Mg c p q (t.push (el q j)++q.extract (j+1) (j+1+k2)).toList a (j+1+k2):=by
        rw[xl];exact m2.iD sq k2 (by lia) λx hx y h1 h2=>O.trans (O.of_lt (show c (el q (j+1+x)) (el p a)=true from PY x hx)) (sp _ y (by lia) h1 h2)
       obtain⟨b,kL⟩:∃b,b=j+1+k2:=⟨_,rfl⟩;rw[<- kL]at m3 Rl ⊢
       generalize t.push (el q j)++q.extract (j+1) b=t' at m3 ⊢
       by_cases e4:(b==q.size)=true
       ·rw[if_pos e4];exact WY ⟨e',.inl ⟨_,_,rfl,m3.done sp sq (.inr (by simpa using e4))⟩⟩
       rw[if_neg e4];have h4:b≠q.size:=by simpa using e4
       exact qq t' b m3 (by lia) (by lia) Rl
      ·rw[if_neg BG];exact qq _ _ m2 (by lia) (by lia) λy h1 h2=>Rl y (by lia) h2
     case qq =>
      intro t' b m3 hj hb g3;refine WL (aN (by lia) ?_)
      have m4:Mg c p q (t'.push (el p a)).toList (a+1) b:=by
       rw[YC];exact m3.jY (by lia) sp g3
      by_cases e5:(a+1+1==p.size)=true
      ·rw[if_pos e5];exact WY ⟨e',.inl ⟨_,_,rfl,m4.tail O sp sq (by simpa using e5) hl⟩⟩
      rw[if_neg e5];have h5:a+1+1≠p.size:=by simpa using e5
      split
      ·exact WY ⟨e',.inr ⟨_,_,_,_,_,_,rfl,m4,by lia,by lia,by lia⟩⟩
      ·exact WY ⟨e',_,_,_,_,_,_,rfl,m4,by lia,by lia,by lia⟩
  ·rintro r fy ⟨e2,to,i,j,mg,ma,na,rfl,m,hi,hj,hb⟩;exact⟨e2,.inr ⟨_,_,_,_,_,_,rfl,m,hi,hj,hb⟩⟩
  ·exact⟨e2,_,_,_,_,_,_,rfl,m,hi,hj,hb⟩
  rintro r fy ⟨e2,⟨out,r',rfl,g⟩|⟨to,i,j,mg,ma,na,rfl,m,hi,hj,hb⟩⟩
  ·exact WY ⟨e2,_,_,rfl,g⟩
  dsimp only;refine WL (Ze (WY ⟨e2.Og _,_,_,_,_,rfl,m,hi,hj,by lia⟩))
 ·rintro r aA ⟨e,to,i,j,mg,rfl,m,hi,hj,hb⟩
  exfalso
  rw[show max 0 (p.size+q.size)=p.size+q.size by lia]at hb
  lia
 ·exact⟨jR.refl st,_,_,_,_,rfl,m0,by simp at h2;lia,by simp at h1;lia,by lia⟩
 ·rintro r aA ⟨e,out,r',rfl,g⟩;exact WY (h _ aA e g)
end
section
variable {c:WX->WX->Bool}{p q:Array WX}{t:List WX}{i j:Nat}
structure Mh (c:WX->WX->Bool)(p q:Array WX)(t:List WX)(i j:Nat):Prop where
 hi:i<=p.size
 hj:j<=q.size
 perm:t.Perm (p.toList.drop i++q.toList.drop j)
 gI:t.Pairwise (le c)
 ap:∀x∈t,∀k,k<i->le c (el p k) x
 aq:∀x∈t,∀k,k<j->le c (el q k) x
theorem o_ {a:Array WX}{i:Nat}(h0:0<i)(h:i<=a.size):a.toList.drop (i-1)=el a (i-1)::a.toList.drop i:=by
 rw[w_ (by lia),show i-1+1=i by lia]
theorem Mh.jY (m:Mh c p q t i j)(h0:0<i)(sp:SR c p 0 p.size)(hle:∀k,k<j->le c (el q k) (el p (i-1))):Mh c p q (el p (i-1)::t) (i-1) j where
 hi:=by have:=m.hi;lia
 hj:=m.hj
 perm:=by
  rw[o_ h0 m.hi];exact m.perm.cons _
 gI:=Xy.mpr ⟨λx hx=>m.ap x hx _ (by lia),m.gI⟩
 ap:=λx hx k hk=>by
  rcases WG.mp hx with rfl|h
  ·exact sp k (i-1) (by lia) (by lia) (by have:=m.hi;lia)
  ·exact m.ap x h k (by lia)
 aq:=λx hx k hk=>by
  rcases WG.mp hx with rfl|h
  ·exact hle k hk
  ·exact m.aq x h k hk
theorem Mh.jX (m:Mh c p q t i j)(h0:0<j)(sq:SR c q 0 q.size)(hle:∀k,k<i->le c (el p k) (el q (j-1))):Mh c p q (el q (j-1)::t) i (j-1) where
 hi:=m.hi
 hj:=by have:=m.hj;lia
 perm:=by
  rw[o_ h0 m.hj];exact(m.perm.cons _).trans aah.symm
 gI:=Xy.mpr ⟨λx hx=>m.aq x hx _ (by lia),m.gI⟩
 ap:=λx hx k hk=>by
  rcases WG.mp hx with rfl|h
  ·exact hle k hk
  ·exact m.ap x h k hk
 aq:=λx hx k hk=>by
  rcases WG.mp hx with rfl|h
  ·exact sq k (j-1) (by lia) (by lia) (by have:=m.hj;lia)
  ·exact m.aq x h k (by lia)
theorem nU {a:Array WX}{i k:Nat}(h0:k<i)(h:i<=a.size):(a.toList.drop (i-(k+1))).take (k+1)=el a (i-(k+1))::(a.toList.drop (i-k)).take k:=by
 rw[w_ (by lia),show i-(k+1)+1=i-k by lia,List.take_succ_cons]
theorem Mh.zB (m:Mh c p q t i j)(sp:SR c p 0 p.size):∀(k:Nat),k<=i->(∀x,i-k<=x->x<i->∀y,y<j->le c (el q y) (el p x))->Mh c p q ((p.toList.drop (i-k)).take k++t) (i-k) j
 |0,_,_=>by simpa using m
 |k+1,h,hle=>by
  have m':=Mh.zB m sp k (by lia) λx h1 h2=>hle x (by lia) h2
  rw[nU (by lia) m.hi,aai]
  exact m'.jY (by lia) sp λy hy=>hle _ (by lia) (by lia) y hy
theorem Mh.zA (m:Mh c p q t i j)(sq:SR c q 0 q.size):∀(k:Nat),k<=j->(∀x,j-k<=x->x<j->∀y,y<i->le c (el p y) (el q x))->Mh c p q ((q.toList.drop (j-k)).take k++t) i (j-k)
 |0,_,_=>by simpa using m
 |k+1,h,hle=>by
  have m':=Mh.zA m sq k (by lia) λx h1 h2=>hle x (by lia) h2
  rw[nU (by lia) m.hj,aai]
  exact m'.jX (by lia) sq λy hy=>hle _ (by lia) (by lia) y hy
theorem Mh.iE (m:Mh c p q t i j)(sp:SR c p 0 p.size){h:Nat}(hh:h<=i)(hle:∀x,h<=x->x<i->∀y,y<j->le c (el q y) (el p x)):Mh c p q ((p.toList.drop h).take (i-h)++t) h j:=by
 have m':=m.zB sp (i-h) (by lia) λx h1 h2=>hle x (by lia) h2
 rw[show i-(i-h)=h by lia]at m'
 exact m'
theorem Mh.iD (m:Mh c p q t i j)(sq:SR c q 0 q.size){h:Nat}(hh:h<=j)(hle:∀x,h<=x->x<j->∀y,y<i->le c (el p y) (el q x)):Mh c p q ((q.toList.drop h).take (j-h)++t) i h:=by
 have m':=m.zA sq (j-h) (by lia) λx h1 h2=>hle x (by lia) h2
 rw[show j-(j-h)=h by lia]at m'
 exact m'
theorem Mh.full (m:Mh c p q t 0 0):Gd c p q t:=⟨m.perm,m.gI⟩
theorem Lb (a b to:Array WX)(i j:Nat):(a.extract 0 i++b.extract 0 j++to.reverse).toList=(a.toList.drop 0).take (i-0)++((b.toList.drop 0).take (j-0)++to.toList.reverse):=by
 rw[Yj,Yj,cc,cc,Array.toList_reverse,X4]
theorem Mh.done {to:Array WX}(m:Mh c p q to.toList.reverse i j)(sp:SR c p 0 p.size)(sq:SR c q 0 q.size)(h:i=0\/j=0):Gd c p q (p.extract 0 i++q.extract 0 j++to.reverse).toList:=by
 rw[Lb];rcases h with rfl|rfl
 ·have m':=m.iD sq (h:=0) (WV _) λx _ _ y hy=>by lia
  exact(m'.iE sp (h:=0) (WV _) λx _ hx=>by lia).full
 ·have m':=m.iD sq (h:=0) (WV _) λx _ hx=>by lia
  exact(m'.iE sp (h:=0) (WV _) λx _ hx y hy=>by lia).full
theorem Mh.tail {to:Array WX}(O:cR c)(m:Mh c p q to.toList.reverse i j)(sp:SR c p 0 p.size)(sq:SR c q 0 q.size)(h:j=1)(hf:c (el q 0) (el p 0)=true):Gd c p q (q.extract 0 j++p.extract 0 i++to.reverse).toList:=by
 rw[Lb];subst h;have m':=m.iE sp (h:=0) (WV _) λx _ hx y hy=>by
  obtain rfl:y=0:=by lia
  exact O.trans (O.of_lt hf) (sp 0 x (by lia) (by lia) (by have:=m.hi;lia))
 exact(m'.iD sq (h:=0) (WV _) λx _ _ y hy=>by lia).full
theorem iG (to:Array WX)(x:WX):(to.push x).toList.reverse=x::to.toList.reverse:=by
 rw[YC,List.reverse_append];rfl
theorem xk (to a:Array WX)(h i:Nat):(to++(a.extract h i).reverse).toList.reverse=(a.toList.drop h).take (i-h)++to.toList.reverse:=by
 rw[Yj,List.reverse_append,Array.toList_reverse,List.reverse_reverse,cc]
theorem Mh.start (sp:SR c p 0 p.size)(O:cR c)(hp:0<p.size)(hl:∀y,y<q.size->c (el q y) (el p (p.size-1))=true):Mh c p q [el p (p.size-1)] (p.size-1) q.size:=by
 have m:Mh c p q [] p.size q.size:=⟨WD _,WD _,by rw[YG (by simp),YG (by simp)];exact .refl _,.nil,(λx hx=>by cases hx),(λx hx=>by cases hx)⟩
 exact m.jY hp sp λk hk=>O.of_lt (hl k hk)
end
section
variable {prog:WI}{w:W6}{A:XA}{E:WC->WE->Prop}{s:WE}{κ:YU}{c:WX->WX->Bool}{S:WX->Prop}{p q:Array WX}
theorem uy (O:cR c)(L:il prog w A E s κ c S){Q:Array WX->XT->Prop}{st:XT}(hk:kindOf st=κ)(Sp:∀i,i<p.size->S (el p i))(Sq:∀i,i<q.size->S (el q i))(sp:SR c p 0 p.size)(sq:SR c q 0 q.size)
  (hp:0<p.size) (hq:0<q.size) (hf:c (el q 0) (el p 0)=true) (hl:∀y,y<q.size->c (el q y) (el p (p.size-1))=true) (h:∀to aA,jR st aA->Gd c p q to.toList->Q to aA) :
  wpS (model prog w) A E s (lY p q) Q st:=by
 rw[sf];refine WL (aab (YZ ⟨rfl,?_⟩));dsimp only;refine WL (aN (by lia) ?_)
 have m0:Mh c p q (#[el p (p.size-1)]:Array WX).toList.reverse (p.size-1) q.size:=Mh.start sp O hp hl
 by_cases h1:(p.size-1==0)=true
 ·rw[if_pos h1];exact WY (h _ st (jR.refl st) (m0.done sp sq (.inl (by simpa using h1))))
 rw[if_neg h1];have ER:p.size-1≠0:=by simpa using h1
 by_cases h2:(q.size==1)=true
 ·rw[if_pos h2];exact WY (h _ st (jR.refl st) (m0.tail O sp sq (by simpa using h2) hf))
 rw[if_neg h2];have BJ:q.size≠1:=by simpa using h2
 refine WL (ZP ?_);refine WL (Yx (XZ
  (I:=λx r aA=>jR st aA/\∃i j to mg,r=(none,i,j,to,mg)/\Mh c p q to.toList.reverse i j/\0<i/\1<j/\i+j+x<p.size+q.size)
  (Q:=λr aA=>jR st aA/\∃out r',r=(some out,r')/\Gd c p q out.toList) ?_ ?_ ?_) ?_)
 ·rintro x r aA _ hx ⟨e,i,j,to,mg,rfl,m,hi,hj,hb⟩;dsimp only;refine WL (Yx (XZ
   (I:=λy r aA=>jR st aA/\∃i j to m n,r=(none,i,j,to,m,n)/\Mh c p q to.toList.reverse i j/\0<i/\1<j/\i+j+x+min y 1<p.size+q.size)
   (Q:=λr aA=>jR st aA/\((∃out r',r=(some out,r')/\Gd c p q out.toList)\/∃i j to m n,r=(none,i,j,to,m,n)/\Mh c p q to.toList.reverse i j/\0<i/\1<j/\i+j+x+1<p.size+q.size)) ?_ ?_ ?_) ?_)
  ·rintro y r fy _ hy ⟨e2,i,j,to,ma,na,rfl,m,hi,hj,hb⟩;dsimp only;have fF:=m.hi;have CN:=m.hj;refine WL (aN (by lia) (WL (aN (by lia) (WL (L _ _ fy _ (Sq _ (by lia)) (Sp _ (by lia)) (e2.kind.trans hk) ?_)))))
   dsimp only;cases hc:c (el q (j-1)) (el p (i-1))with
   |true =>
    rw[if_pos rfl];refine WL (aN (by lia) ?_)
    have m1:Mh c p q (to.push (el p (i-1))).toList.reverse (i-1) j:=by
     rw[iG];exact m.jY hi sp λk hk=>O.trans (sq k (j-1) (by lia) (by lia) (by lia)) (O.of_lt hc)
    by_cases e3:(i-1==0)=true
    ·rw[if_pos e3];exact WY ⟨e2,.inl ⟨_,_,rfl,m1.done sp sq (.inl (by simpa using e3))⟩⟩
    rw[if_neg e3];have h3:i-1≠0:=by simpa using e3
    split
    ·exact WY ⟨e2,.inr ⟨_,_,_,_,_,rfl,m1,by lia,hj,by lia⟩⟩
    ·exact WY ⟨e2,_,_,_,_,_,rfl,m1,by lia,hj,by lia⟩
   |false =>
    rw[if_neg (by simp)]
    refine WL (aN (by lia) ?_)
    have m1:Mh c p q (to.push (el q (j-1))).toList.reverse i (j-1):=by
     rw[iG];exact m.jX (by lia) sq λk hk=>O.trans (sp k (i-1) (by lia) (by lia) (by lia)) (show le c (el p (i-1)) (el q (j-1)) from hc)
    by_cases e3:(j-1==1)=true
    ·rw[if_pos e3];exact WY ⟨e2,.inl ⟨_,_,rfl,m1.tail O sp sq (by simpa using e3) hf⟩⟩
    rw[if_neg e3];have h3:j-1≠1:=by simpa using e3
    split
    ·exact WY ⟨e2,.inr ⟨_,_,_,_,_,rfl,m1,hi,by lia,by lia⟩⟩
    ·exact WY ⟨e2,_,_,_,_,_,rfl,m1,hi,by lia,by lia⟩
  ·rintro r fy ⟨e2,i,j,to,ma,na,rfl,m,hi,hj,hb⟩;exact⟨e2,.inr ⟨_,_,_,_,_,rfl,m,hi,hj,by lia⟩⟩
  ·exact⟨e,_,_,_,_,_,rfl,m,hi,hj,by lia⟩
  rintro r fy ⟨e2,⟨out,r',rfl,g⟩|⟨i,j,to,ma,na,rfl,m,hi,hj,hb⟩⟩
  ·exact WY ⟨e2,_,_,rfl,g⟩
  dsimp only;refine WL (aab (YZ ⟨rfl,?_⟩));refine WL (Yx (XZ
   (I:=λy r aA=>jR st aA/\∃i j to mg m n,r=(none,i,j,to,mg,m,n)/\Mh c p q to.toList.reverse i j/\0<i/\1<j/\i+j+x+1<p.size+q.size)
   (Q:=λr aA=>jR st aA/\((∃out r',r=(some out,r')/\Gd c p q out.toList)\/∃i j to mg m n,r=(none,i,j,to,mg,m,n)/\Mh c p q to.toList.reverse i j/\0<i/\1<j/\i+j+x+1<p.size+q.size)) ?_ ?_ ?_) ?_)
  ·rintro y r fy _ hy ⟨e2,i,j,to,mg,ma,na,rfl,m,hi,hj,hb⟩;dsimp only;refine(λ(key:∀g:Nat,(?G:Nat->Prop) g)=>?main) ?key
   case main =>
    by_cases EI:mg>1
    ·rw[if_pos EI];generalize mg-1=g;exact key g
    ·rw[if_neg EI];exact key mg
   case key =>
    intro g;refine WL (Ze ?_);have e':=λg=>e2.Og (st:=st) g;refine WL (aN (by have:=m.hj;lia) ?_)
    refine WL (dz O L ((e' _).kind.trans hk) (Sq _ (by have:=m.hj;lia)) (λx hx=>Sp _ (by have:=m.hi;lia)) (by have:=m.hi;lia) (λa b h1 h2 h3=>sp a b (by lia) h2 (by have:=m.hi;lia)) (by lia) λh k1 kx k3=>?_)
    dsimp only;have e':=e' g;have g0:∀x,x<h->le c (el p x) (el q (j-1)):=λx hx=>by
     have:=kx x hx;unfold dW at this;rw[if_neg (by simp),ZC,Yk]at this
     exact this
    have g5:∀x,h<=x->x<i->le c (el q (j-1)) (el p x):=λx h1 h2=>by
     have:=k3 x h1 h2;unfold dW at this;rw[if_neg (by simp),Bool.not_eq_false',Yk]at this
     exact O.of_lt this
    have mi:=m.hi;have mj:=m.hj;generalize hK:i-h=k;refine(λ(qr:∀(t:Array WX) (a:Nat),Mh c p q t.toList.reverse a j->0<a->a<=i->(∀x,x<a->le c (el p x) (el q (j-1)))->(?G2:Array WX->Nat->Prop) t a)=>?A6) ?qr
    case A6 =>
     by_cases MS:k>0
     ·rw[if_pos MS];have m1:Mh c p q (to++(p.extract h i).reverse).toList.reverse h j:=by
       rw[xk];exact m.iE sp k1 λx h1 h2 y hy=>O.trans (sq y (j-1) (by lia) (by lia) (by lia)) (g5 x h1 h2)
      obtain⟨a,ha⟩:∃a,a=h:=⟨_,rfl⟩;obtain⟨t,ht⟩:∃t,t=to++(p.extract h i).reverse:=⟨_,rfl⟩;rw[<- ht]at m1 ⊢
      rw[<- ha]at m1 k1 g0 ⊢
      by_cases e1:(a==0)=true
      ·rw[if_pos e1];exact WY ⟨e',.inl ⟨_,_,rfl,m1.done sp sq (.inl (by simpa using e1))⟩⟩
      rw[if_neg e1];have ER:a≠0:=by simpa using e1
      exact qr t a m1 (by lia) k1 g0
     ·rw[if_neg MS];exact qr to i m hi (WD _) λx hx=>g0 x (by lia)
    case qr =>
     intro t a m1 hi ai g1;refine WL (aN (by lia) ?_)
     have m2:Mh c p q (t.push (el q (j-1))).toList.reverse a (j-1):=by
      rw[iG];exact m1.jX (by lia) sq g1
     by_cases e3:(j-1==1)=true
     ·rw[if_pos e3];exact WY ⟨e',.inl ⟨_,_,rfl,m2.tail O sp sq (by simpa using e3) hf⟩⟩
     rw[if_neg e3];have h3:j-1≠1:=by simpa using e3
     refine WL (aN (by lia) ?_)
     refine WL (dz O L (e'.kind.trans hk) (Sp _ (by lia)) (λx hx=>Sq _ (by lia)) (by lia) (λa b h1 h2 h3=>sq a b (by lia) h2 (by lia)) (by lia) λh2 NX PY PX=>?_)
     dsimp only;have g2:∀x,x<h2->c (el q x) (el p (a-1))=true:=λx hx=>by
      have:=PY x hx;unfold dW at this;rw[if_pos rfl,Yk]at this;exact this
     have g4:∀x,h2<=x->x<j-1->le c (el p (a-1)) (el q x):=λx h1 h2=>by
      have:=PX x h1 h2;unfold dW at this;rw[if_pos rfl,Yk]at this;exact this
     have Vd:0<h2:=by
      rcases Nat.eq_zero_or_pos h2 with z|z
      ·subst z;have h2:=O.trans (sp 0 (a-1) (by lia) (by lia) (by lia)) (g4 0 (WD _) (by lia))
       exact absurd (hf.symm.trans h2) (by simp)
      ·exact z
     generalize Wu:j-1-h2=k2;refine(λ(qq:∀(t':Array WX) (b:Nat),Mh c p q t'.toList.reverse a b->1<b->b<=j-1->(∀k,k<b->le c (el q k) (el p (a-1)))->(?G3:Array WX->Nat->Prop) t' b)=>?A5) ?qq
     case A5 =>
      by_cases BG:k2>0
      ·rw[if_pos BG];have m3:Mh c p q (t.push (el q (j-1))++(q.extract h2 (j-1)).reverse).toList.reverse a h2:=by
        rw[xk];exact m2.iD sq NX λx h1 h2 y hy=>O.trans (sp y (a-1) (by lia) (by lia) (by lia)) (g4 x h1 h2)
       obtain⟨t',N2⟩:∃t',t'=t.push (el q (j-1))++(q.extract h2 (j-1)).reverse:=⟨_,rfl⟩;obtain⟨b,kL⟩:∃b,b=h2:=⟨_,rfl⟩;rw[<- N2]at m3 ⊢
       rw[<- kL]at m3 NX g2 Vd ⊢
       by_cases e4:(b==1)=true
       ·rw[if_pos e4];exact WY ⟨e',.inl ⟨_,_,rfl,m3.tail O sp sq (by simpa using e4) hf⟩⟩
       rw[if_neg e4];have h4:b≠1:=by simpa using e4
       rw[if_neg (by simp;lia)]
       exact qq t' b m3 (by lia) NX λk hk=>O.of_lt (g2 k hk)
      ·rw[if_neg BG];exact qq _ _ m2 (by lia) (WD _) λk hk=>O.of_lt (g2 k (by lia))
     case qq =>
      intro t' b m3 hj bj g3;refine WL (aN (by lia) ?_)
      have m4:Mh c p q (t'.push (el p (a-1))).toList.reverse (a-1) b:=by
       rw[iG];exact m3.jY (by lia) sp g3
      by_cases e5:(a-1==0)=true
      ·rw[if_pos e5];exact WY ⟨e',.inl ⟨_,_,rfl,m4.done sp sq (.inl (by simpa using e5))⟩⟩
      rw[if_neg e5];have h5:a-1≠0:=by simpa using e5
      split
      ·exact WY ⟨e',.inr ⟨_,_,_,_,_,_,rfl,m4,by lia,by lia,by lia⟩⟩
      ·exact WY ⟨e',_,_,_,_,_,_,rfl,m4,by lia,by lia,by lia⟩
  ·rintro r fy ⟨e2,i,j,to,mg,ma,na,rfl,m,hi,hj,hb⟩;exact⟨e2,.inr ⟨_,_,_,_,_,_,rfl,m,hi,hj,hb⟩⟩
  ·exact⟨e2,_,_,_,_,_,_,rfl,m,hi,hj,hb⟩
  rintro r fy ⟨e2,⟨out,r',rfl,g⟩|⟨i,j,to,mg,ma,na,rfl,m,hi,hj,hb⟩⟩
  ·exact WY ⟨e2,_,_,rfl,g⟩
  dsimp only;refine WL (Ze (WY ⟨e2.Og _,_,_,_,_,rfl,m,hi,hj,by lia⟩))
 ·rintro r aA ⟨e,i,j,to,mg,rfl,m,hi,hj,hb⟩
  exfalso
  rw[show max 0 (p.size+q.size)=p.size+q.size by lia]at hb
  lia
 ·exact⟨jR.refl st,_,_,_,_,rfl,m0,by lia,by lia,by lia⟩
 ·rintro r aA ⟨e,out,r',rfl,g⟩;exact WY (h _ aA e g)
end
section
variable {c:WX->WX->Bool}{a b:Array WX}
structure Rg (a b:Array WX)(lo hi:Nat):Prop where
 perm:b.Perm a
 out:∀k,(k<lo\/hi<=k)->el b k=el a k
theorem Rg.refl {lo hi:Nat}:Rg a a lo hi:=⟨Array.Perm.refl _,λ_ _=>rfl⟩
theorem Rg.trans {d:Array WX}{lo hi:Nat}(x:Rg a b lo hi)(y:Rg b d lo hi):Rg a d lo hi:=⟨y.perm.trans x.perm,λk h=>(y.out k h).trans (x.out k h)⟩
theorem Rg.mono {lo hi FX fF:Nat}(x:Rg a b lo hi)(h1:FX<=lo)(h2:hi<=fF):Rg a b FX fF:=⟨x.perm,λk h=>x.out k (by lia)⟩
theorem Rg.size {lo hi:Nat}(x:Rg a b lo hi):b.size=a.size:=x.perm.size_eq
theorem SR.congr {lo hi:Nat}(h:SR c a lo hi)(e:∀k,lo<=k->k<hi->el b k=el a k):SR c b lo hi:=λi j h1 h2 h3=>by
 rw[e i h1 (by lia),e j (by lia) h3]
 exact h i j h1 h2 h3
def NI (c:WX->WX->Bool)(a:Array WX)(lo hi:Nat):Prop:=∀i j,lo<=i->i<=j->j<hi->le c (el a j) (el a i)
theorem b7 {i j:Nat}(hj:j<=a.size)(k:Nat):el (mirror a i j ((j-i) / 2)) k=if i<=k/\k<j then el a (i+j-1-k) else el a k:=by
 have e:=getElem?_mirror_all (i:=i) hj k
 by_cases h:i<=k/\k<j
 ·rw[if_pos h]at e ⊢
  exact dS e
 ·rw[if_neg h]at e ⊢
  exact dS e
theorem eR {i j:Nat}(hj:j<=a.size):Rg a (mirror a i j ((j-i) / 2)) i j:=⟨mirror_perm _ _ _ _,λk h=>by rw[b7 hj,if_neg (by lia)]⟩
theorem oA {i j:Nat}(hj:j<=a.size)(h:NI c a i j):SR c (mirror a i j ((j-i) / 2)) i j:=λx y h1 h2 h3=>by
 rw[b7 hj,b7 hj,if_pos (by lia),if_pos (by lia)]
 exact h _ _ (by lia) (by lia) (by lia)
theorem jA {lo i j:Nat}(N7:lo<=i)(hj:j<=a.size)(h:NI c a lo j)(he:∀x y,i<=x->x<j->i<=y->y<j->le c (el a x) (el a y)):NI c (mirror a i j ((j-i) / 2)) lo j:=λx y h1 h2 h3=>by
 rw[b7 hj,b7 hj]
 by_cases hx:i<=x/\x<j
 ·rw[if_pos hx,if_pos (by lia)]
  exact he _ _ (by lia) (by lia) (by lia) (by lia)
 ·rw[if_neg hx]
  by_cases hy:i<=y/\y<j
  ·rw[if_pos hy];exact h _ _ (by lia) (by lia) (by lia)
  ·rw[if_neg hy];exact h _ _ h1 h2 h3
theorem SR.snoc {lo n:Nat}(O:cR c)(h:SR c a lo (lo+n))(h1:0<n)(hn:le c (el a (lo+n-1)) (el a (lo+n))):SR c a lo (lo+(n+1)):=λi j h2 h3 h4=>by
 by_cases hj:j<lo+n
 ·exact h i j h2 h3 hj
 ·obtain rfl:j=lo+n:=by lia
  by_cases hi:i<lo+n
  ·exact O.trans (h i (lo+n-1) h2 (by lia) (by lia)) hn
  ·obtain rfl:i=lo+n:=by lia
   exact O.refl _
theorem NI.snoc {lo n:Nat}(O:cR c)(h:NI c a lo (lo+n))(h1:0<n)(hn:le c (el a (lo+n)) (el a (lo+n-1))):NI c a lo (lo+(n+1)):=λi j h2 h3 h4=>by
 by_cases hj:j<lo+n
 ·exact h i j h2 h3 hj
 ·obtain rfl:j=lo+n:=by lia
  by_cases hi:i<lo+n
  ·exact O.trans hn (h i (lo+n-1) h2 (by lia) (by lia))
  ·obtain rfl:i=lo+n:=by lia
   exact O.refl _
theorem SR.one {lo:Nat}(O:cR c):SR c a lo (lo+1):=λi j h1 h2 h3=>by
 obtain rfl:i=j:=by lia
 exact O.refl _
end
structure jQ (κ:YU)(a₀:Array WX)(st:XT):Prop where
 kind:kindOf st=κ
 fail:Zz st=none
 perm:(Xq st).Perm a₀
section
variable {prog:WI}{w:W6}{A:XA}{E:WC->WE->Prop}{s:WE}{κ:YU}{c:WX->WX->Bool}{a₀:Array WX}
theorem jQ.size {st:XT}(h:jQ κ a₀ st):(Xq st).size=a₀.size:=h.perm.size_eq
theorem jQ.mem {st:XT}(h:jQ κ a₀ st){i:Nat}(hi:i<a₀.size):el (Xq st) i∈a₀.toList:=by
 have h1:i<(Xq st).size:=by rw[h.size];exact hi
 refine(Zj.mp h.perm).mem_iff.mp ?_;have:=i3 h1;rw[<- W9]at this;exact XB this
theorem jQ.set {st:XT}{b:Array WX}{lo hi:Nat}(h:jQ κ a₀ st)(r:Rg (Xq st) b lo hi):jQ κ a₀ (X9 st b):=⟨h.kind,h.fail,r.perm.trans h.perm⟩
theorem pK (L:il prog w A E s κ c (·∈a₀.toList)){st:XT}{i j:Nat}{Q:Option Bool->XT->Prop}(h:jQ κ a₀ st)(hi:i<a₀.size)(hj:j<a₀.size)(q:Q (some (c (el (Xq st) i) (el (Xq st) j))) st):
  wpS (model prog w) A E s (ltAt' i j) Q st:=by
 rw[ltAt'_eq];refine WL (ZP ?_);exact WL (aN (by rw[h.size];exact hi) (WL (aN (by rw[h.size];exact hj) (L _ _ st Q (h.mem hi) (h.mem hj) h.kind q))))
theorem iA (L:il prog w A E s κ c (·∈a₀.toList)){st:XT}{b:Array WX}{i j lo hi:Nat}{Q:Option Bool->XT->Prop}(h:jQ κ a₀ st)(R:Rg (Xq st) b lo hi)(hi:i<a₀.size)(hj:j<a₀.size)(q:Q (some (c (el b i) (el b j))) (X9 st b)):
  wpS (model prog w) A E s (ltAt' i j) Q (X9 st b):=pK L (h.set R) hi hj q
theorem iy {st:XT}{i j:Nat}{Q:Unit->XT->Prop}(q:Q () (X9 st (mirror (Xq st) i j ((j-i) / 2)))):wpS (model prog w) A E s (reverseSlice' i j) Q st:=by
 rw[reverseSlice'_eq];exact Ze q
theorem zk (O:cR c)(L:il prog w A E s κ c (·∈a₀.toList)){st:XT}{lo eP:Nat}{Q:Option Nat->XT->Prop}(h0:jQ κ a₀ st)(h1:1<=eP)(hn:lo+eP<=a₀.size)
  (h:∀n b,1<=n->n<=eP->Rg (Xq st) b lo (lo+eP)->SR c b lo (lo+n)->Q (some n) (X9 st b)):wpS (model prog w) A E s (countRun' lo eP) Q st:=by
 rw[countRun'_eq];dsimp only;refine WL (Yx (XZ (I:=λx r aA=>aA=st/\∃n,r=(none,n)/\n=x/\SR c (Xq st) lo (lo+n))
  (Q:=λr aA=>aA=st/\∃n,r=(none,n)/\1<=n/\n<=eP/\SR c (Xq st) lo (lo+n)/\(n=eP\/(n<eP/\c (el (Xq st) (lo+n)) (el (Xq st) (lo+n-1))=true))) ?_ ?_ ?_) ?_)
 ·rintro x r aA F5 hx ⟨rfl,n,rfl,rfl,hs⟩;dsimp only;refine WL (pK L h0 (by lia) (by lia) ?_)
  dsimp only;cases hc:c (el (Xq aA) (lo+n)) (el (Xq aA) (lo+n-1))with
  |true =>
   rw[if_pos rfl];exact WY ⟨rfl,n,rfl,F5,by lia,hs,.inr ⟨by lia,hc⟩⟩
  |false =>
   rw[if_neg (by simp)]
   exact WY ⟨rfl,n+1,rfl,rfl,hs.snoc O F5 hc⟩
 ·rintro r aA ⟨rfl,n,rfl,hx,hs⟩;exact⟨rfl,n,rfl,by lia,by lia,hs,.inl (by lia)⟩
 ·exact⟨rfl,1,rfl,rfl,SR.one O⟩
 rintro r aA ⟨e0,n,rfl,S7,J6,hs,hc⟩;rw[e0];dsimp only
 by_cases QK:(n==eP)=true
 ·rw[if_pos QK];exact WY (h n (Xq st) S7 J6 Rg.refl hs)
 rw[if_neg QK];have U4:n≠eP:=by simpa using QK
 have hc:c (el (Xq st) (lo+n)) (el (Xq st) (lo+n-1))=true:=by
  rcases hc with q|q
  ·lia
  ·exact q.2
 refine(λ(key:∀b,Rg (Xq st) b lo (lo+eP)->NI c b lo (lo+(n+1))->wpS (model prog w) A E s ?cont Q (X9 st b))=>?main) ?key
 case main =>
  by_cases h2:n>1
  ·rw[if_pos h2];refine WL (pK L h0 (by lia) (by lia) ?_)
   dsimp only;cases hr:c (el (Xq st) lo) (el (Xq st) (lo+n-1))with
   |true =>
    rw[if_pos rfl];exact WY (h n (Xq st) S7 J6 Rg.refl hs)
   |false =>
    rw[if_neg (by simp)]
    refine WL (iy ?_);have hz:lo+n<=(Xq st).size:=by have:=h0.size;lia
    have R0:Rg (Xq st) (mirror (Xq st) lo (lo+n) ((lo+n-lo) / 2)) lo (lo+eP):=(eR hz).mono (WD _) (by lia)
    have all:∀u v,lo<=u->u<lo+n->lo<=v->v<lo+n->le c (el (Xq st) u) (el (Xq st) v):=λu v h1 h2 h3 h4 =>
     O.trans (hs u (lo+n-1) h1 (by lia) (by lia)) (O.trans hr (hs lo v (WD _) h3 h4))
    have N0:NI c (mirror (Xq st) lo (lo+n) ((lo+n-lo) / 2)) lo (lo+(n+1)):=by
     refine NI.snoc O (jA (WD _) hz (λu v h1 h2 h3=>all v u (by lia) (by lia) h1 (by lia)) λu v h1 h2 h3 h4=>all u v h1 h2 h3 h4) (by lia) ?_
     rw[b7 hz,b7 hz,if_neg (by lia),if_pos (by lia)]
     exact O.trans (O.of_lt hc) (all _ _ (by lia) (by lia) (by lia) (by lia))
    exact key _ R0 N0
  ·rw[if_neg h2];have N0:NI c (Xq st) lo (lo+(n+1)):=NI.snoc O (λu v h1 h2 h3=>by
    obtain rfl:u=v:=by lia
    exact O.refl _) (by lia) (O.of_lt hc)
   show wpS _ _ _ _ _ Q (X9 st (Xq st));exact key _ Rg.refl N0
 case key =>
  intro b0 R0 N0;refine WL (aab (YZ ⟨rfl,?_⟩));refine WL (Yx (XZ (I:=λx r aA=>∃b n j5,aA=X9 st b/\r=(none,n,j5)/\n=x/\Rg (Xq st) b lo (lo+eP)/\NI c b lo (lo+n)/\j5<n/\(∀u v,lo+n-1-j5<=u->u<lo+n->lo+n-1-j5<=v->v<lo+n->le c (el b u) (el b v)))
   (Q:=λr aA=>∃b n j5,aA=X9 st b/\r=(none,n,j5)/\1<=n/\n<=eP/\Rg (Xq st) b lo (lo+eP)/\NI c b lo (lo+n)/\j5<n/\(∀u v,lo+n-1-j5<=u->u<lo+n->lo+n-1-j5<=v->v<lo+n->le c (el b u) (el b v))) ?_ ?_ ?_) ?_)
  ·rintro x r aA F5 hx ⟨b,n',j5,rfl,rfl,rfl,R,N,hq,he⟩;dsimp only;refine WL (iA L h0 R (by lia) (by lia) ?_)
   dsimp only;cases nE:c (el b (lo+n')) (el b (lo+n' - 1))with
   |true =>
    rw[if_pos rfl]
    by_cases BC:j5>0
    ·rw[if_pos BC];refine WL (iy (WY ?_));have hz:lo+n'<=b.size:=by have:=R.size;have:=h0.size;lia
     refine⟨mirror b (lo+n' - (j5+1)) (lo+n') ((lo+n' - (lo+n' - (j5+1))) / 2),n'+1,0,rfl,rfl,rfl,R.trans ((eR hz).mono (by lia) (by lia)),?_,by lia,?_⟩
     ·refine NI.snoc O (jA (by lia) hz N λu v h1 h2 h3 h4=>he u v (by lia) h2 (by lia) h4) (by lia) ?_
      rw[b7 hz,b7 hz,if_neg (by lia),if_pos (by lia)]
      exact O.trans (O.of_lt nE) (he _ _ (by lia) (by lia) (by lia) (by lia))
     ·intro u v h1 h2 h3 h4;obtain rfl:u=v:=by lia
      exact O.refl _
    ·rw[if_neg BC];refine WY ⟨b,n'+1,0,rfl,rfl,rfl,R,N.snoc O (by lia) (O.of_lt nE),by lia,?_⟩
     intro u v h1 h2 h3 h4;obtain rfl:u=v:=by lia
     exact O.refl _
   |false =>
    rw[if_neg (by simp)]
    refine WL (iA L h0 R (by lia) (by lia) ?_)
    dsimp only;cases nD:c (el b (lo+n' - 1)) (el b (lo+n'))with
    |true =>
     rw[if_pos rfl];exact WY ⟨b,n',j5,rfl,rfl,by lia,by lia,R,N,hq,he⟩
    |false =>
     rw[if_neg (by simp)]
     refine WY ⟨b,n'+1,j5+1,rfl,rfl,rfl,R,N.snoc O (by lia) nD,by lia,?_⟩
     have hl:∀u,lo+n' - 1-j5<=u->u<lo+(n'+1)->le c (el b u) (el b (lo+n'))/\le c (el b (lo+n')) (el b u):=λu h1 h2=>by
      by_cases hu:u<lo+n'
      ·exact⟨O.trans (he u (lo+n' - 1) h1 hu (by lia) (by lia)) nE,O.trans nD (he (lo+n' - 1) u (by lia) (by lia) h1 hu)⟩
      ·obtain rfl:u=lo+n':=by lia
       exact⟨O.refl _,O.refl _⟩
     intro u v h1 h2 h3 h4;exact O.trans (hl u (by lia) h2).1 (hl v (by lia) h4).2
  ·rintro r aA ⟨b,n',j5,rfl,rfl,hx,R,N,hq,he⟩;exact⟨b,n',j5,rfl,rfl,by lia,by lia,R,N,hq,he⟩
  ·refine⟨_,n+1,0,rfl,rfl,rfl,R0,N0,by lia,?_⟩
   intro u v h1 h2 h3 h4;obtain rfl:u=v:=by lia
   exact O.refl _
  rintro r aA ⟨b,n',j5,rfl,rfl,U6,U5,RB,NB,hq,he⟩;dsimp only
  by_cases BC:j5>0
  ·rw[if_pos BC];refine WL (iy ?_);have hz:lo+n'<=b.size:=by have:=RB.size;have:=h0.size;lia
   have NB:=jA (c:=c) (i:=lo+n' - (j5+1)) (by lia) hz NB λu v h1 h2 h3 h4=>he u v (by lia) h2 (by lia) h4
   have RB:=RB.trans ((eR (i:=lo+n' - (j5+1)) hz).mono (by lia) (by lia:lo+n'<=lo+eP))
   show wpS _ _ _ _ _ Q (X9 st (mirror b (lo+n' - (j5+1)) (lo+n') ((lo+n' - (lo+n' - (j5+1))) / 2)));generalize mirror b (lo+n' - (j5+1)) (lo+n') ((lo+n' - (lo+n' - (j5+1))) / 2)=b1 at NB RB;refine WL (iy ?_);have R2:Rg (Xq st) (mirror b1 lo (lo+n') ((lo+n' - lo) / 2)) lo (lo+eP):=RB.trans ((eR (by have:=RB.size;have:=h0.size;lia)).mono (WD _) (by lia))
   have S2:SR c (mirror b1 lo (lo+n') ((lo+n' - lo) / 2)) lo (lo+n'):=oA (by have:=RB.size;have:=h0.size;lia) NB
   show wpS _ _ _ _ _ Q (X9 st (mirror b1 lo (lo+n') ((lo+n' - lo) / 2)));generalize mirror b1 lo (lo+n') ((lo+n' - lo) / 2)=b2 at R2 S2;refine WL (Yx (XZ (I:=λx r aA=>aA=X9 st b2/\∃m,r=(none,m)/\m=x/\SR c b2 lo (lo+m))
    (Q:=λr aA=>aA=X9 st b2/\∃m,r=(none,m)/\1<=m/\m<=eP/\SR c b2 lo (lo+m)) ?_ ?_ ?_) ?_)
   ·rintro x r aA F5 hx ⟨rfl,m,rfl,rfl,hs⟩;dsimp only;refine WL (iA L h0 R2 (by lia) (by lia) ?_)
    dsimp only;cases hc:c (el b2 (lo+m)) (el b2 (lo+m-1))with
    |true =>
     rw[if_pos rfl];exact WY ⟨rfl,m,rfl,by lia,by lia,hs⟩
    |false =>
     rw[if_neg (by simp)]
     exact WY ⟨rfl,m+1,rfl,rfl,hs.snoc O (by lia) hc⟩
   ·rintro r aA ⟨rfl,m,rfl,hx,hs⟩;exact⟨rfl,m,rfl,by lia,by lia,hs⟩
   ·exact⟨rfl,n',rfl,rfl,S2⟩
   rintro r aA ⟨rfl,m,rfl,QQ,Jg,hs⟩;exact WY (h m b2 QQ Jg R2 hs)
  ·rw[if_neg BC];refine WL (iy ?_);have R2:Rg (Xq st) (mirror b lo (lo+n') ((lo+n' - lo) / 2)) lo (lo+eP):=RB.trans ((eR (by have:=RB.size;have:=h0.size;lia)).mono (WD _) (by lia))
   have S2:SR c (mirror b lo (lo+n') ((lo+n' - lo) / 2)) lo (lo+n'):=oA (by have:=RB.size;have:=h0.size;lia) NB
   show wpS _ _ _ _ _ Q (X9 st (mirror b lo (lo+n') ((lo+n' - lo) / 2)));generalize mirror b lo (lo+n') ((lo+n' - lo) / 2)=b2 at R2 S2;refine WL (Yx (XZ (I:=λx r aA=>aA=X9 st b2/\∃m,r=(none,m)/\m=x/\SR c b2 lo (lo+m))
    (Q:=λr aA=>aA=X9 st b2/\∃m,r=(none,m)/\1<=m/\m<=eP/\SR c b2 lo (lo+m)) ?_ ?_ ?_) ?_)
   ·rintro x r aA F5 hx ⟨rfl,m,rfl,rfl,hs⟩;dsimp only;refine WL (iA L h0 R2 (by lia) (by lia) ?_)
    dsimp only;cases hc:c (el b2 (lo+m)) (el b2 (lo+m-1))with
    |true =>
     rw[if_pos rfl];exact WY ⟨rfl,m,rfl,by lia,by lia,hs⟩
    |false =>
     rw[if_neg (by simp)]
     exact WY ⟨rfl,m+1,rfl,rfl,hs.snoc O (by lia) hc⟩
   ·rintro r aA ⟨rfl,m,rfl,hx,hs⟩;exact⟨rfl,m,rfl,by lia,by lia,hs⟩
   ·exact⟨rfl,n',rfl,rfl,S2⟩
   rintro r aA ⟨rfl,m,rfl,QQ,Jg,hs⟩;exact WY (h m b2 QQ Jg R2 hs)
end
section
variable {c:WX->WX->Bool}{a:Array WX}
theorem jI {src d:Nat}(hs:src<a.size)(hd:d<=src)(k:Nat):el (bubble a src d) k=if k=src-d then el a src else if src-d<k/\k<=src then el a (k-1) else el a k:=by
 have e:=getElem?_bubble hs d hd k
 by_cases h1:k=src-d
 ·rw[if_pos h1]at e ⊢
  exact dS e
 ·rw[if_neg h1]at e ⊢
  by_cases h2:src-d<k/\k<=src
  ·rw[if_pos h2]at e ⊢
   exact dS e
  ·rw[if_neg h2]at e ⊢
   exact dS e
theorem yN {lo k l:Nat}(O:cR c)(hk:lo+k<a.size)(hl:l<=k)(h:SR c a lo (lo+k))(h1:∀i,i<l->le c (el a (lo+i)) (el a (lo+k)))(h2:∀i,l<=i->i<k->le c (el a (lo+k)) (el a (lo+i))):
  SR c (bubble a (lo+k) (lo+k-(lo+l))) lo (lo+(k+1)):=λi j g1 g2 g3=>by
 rw[jI hk (by lia),jI hk (by lia),show lo+k-(lo+k-(lo+l))=lo+l by lia]
 have q1:∀i,lo<=i->i<lo+l->le c (el a i) (el a (lo+k)):=λi x y=>by
  have:=h1 (i-lo) (by lia)
  rwa [show lo+(i-lo)=i by lia]at this
 have q2:∀i,lo+l<=i->i<lo+k->le c (el a (lo+k)) (el a i):=λi x y=>by
  have:=h2 (i-lo) (by lia) (by lia)
  rwa [show lo+(i-lo)=i by lia]at this
 by_cases ei:i=lo+l
 ·rw[if_pos ei]
  by_cases ej:j=lo+l
  ·rw[if_pos ej];exact O.refl _
  ·rw[if_neg ej,if_pos (by lia)]
   exact q2 _ (by lia) (by lia)
 ·rw[if_neg ei]
  by_cases ej:j=lo+l
  ·rw[if_pos ej,if_neg (by lia)]
   exact q1 _ (by lia) (by lia)
  ·rw[if_neg ej]
   by_cases fi:lo+l<i/\i<=lo+k
   ·rw[if_pos fi,if_pos (by lia)]
    exact h _ _ (by lia) (by lia) (by lia)
   ·rw[if_neg fi]
    by_cases fj:lo+l<j/\j<=lo+k
    ·rw[if_pos fj];exact h _ _ (by lia) (by lia) (by lia)
    ·rw[if_neg fj];exact h _ _ (by lia) (by lia) (by lia)
theorem yO {src d:Nat}(hs:src<a.size)(hd:d<=src):Rg a (bubble a src d) (src-d) (src+1):=⟨bubble_perm _ _ _,λk h=>by
 rw[jI hs hd,if_neg (by lia),if_neg (by lia)]⟩
end
section
variable {prog:WI}{w:W6}{A:XA}{E:WC->WE->Prop}{s:WE}{κ:YU}{c:WX->WX->Bool}{a₀:Array WX}
theorem GO (O:cR c)(L:il prog w A E s κ c (·∈a₀.toList)){st:XT}{lo n ok:Nat}{Q:Bool->XT->Prop}(h0:jQ κ a₀ st)(bx:ok<=n)(h1:1<=n)(hn:lo+n<=a₀.size)(hs:SR c (Xq st) lo (lo+ok))
  (h:∀b,Rg (Xq st) b lo (lo+n)->SR c b lo (lo+n)->Q true (X9 st b)):wpS (model prog w) A E s (binarySort' lo n ok) Q st:=by
 rw[binarySort'_eq];refine WL (Yx (XZ (I:=λk r aA=>r=(none,())/\k<=n/\∃b,aA=X9 st b/\Rg (Xq st) b lo (lo+n)/\SR c b lo (lo+k))
  (Q:=λr aA=>r=(none,())/\∃b,aA=X9 st b/\Rg (Xq st) b lo (lo+n)/\SR c b lo (lo+n)) ?_ ?_ ?_) ?_)
 ·rintro k r aA yv hk ⟨rfl,_,b,rfl,R,yt⟩;dsimp only;have hz:b.size=a₀.size:=R.size.trans h0.size;refine WL (Yx (XZ (I:=λx r aA=>aA=X9 st b/\∃l u,r=(none,l,u)/\l<=u/\u<=k/\u-l<=k-x/\(∀i,i<l->le c (el b (lo+i)) (el b (lo+k)))/\(∀i,u<=i->i<k->le c (el b (lo+k)) (el b (lo+i))))
   (Q:=λr aA=>aA=X9 st b/\∃l,r=(none,l,l)/\l<=k/\(∀i,i<l->le c (el b (lo+i)) (el b (lo+k)))/\(∀i,l<=i->i<k->le c (el b (lo+k)) (el b (lo+i)))) ?_ ?_ ?_) ?_)
  ·rintro x r aA _ hx ⟨rfl,l,u,rfl,g1,g2,g3,g4,g5⟩;dsimp only
   by_cases S8:l >= u
   ·rw[if_pos S8];obtain rfl:l=u:=by lia
    exact WY ⟨rfl,l,rfl,g2,g4,g5⟩
   ·rw[if_neg S8];refine WL (iA L h0 R (by lia) (by lia) ?_)
    dsimp only;cases hc:c (el b (lo+k)) (el b (lo+(l+u) / 2))with
    |true =>
     rw[if_pos rfl];exact WY ⟨rfl,l,_,rfl,by lia,by lia,by lia,g4,λi h1 h2=>O.trans (O.of_lt hc) (yt _ _ (by lia) (by lia) (by lia))⟩
    |false =>
     rw[if_neg (by simp)]
     exact WY ⟨rfl,_,u,rfl,by lia,by lia,by lia,λi h1=>O.trans (yt _ _ (by lia) (by lia) (by lia)) (show le c (el b (lo+(l+u) / 2)) (el b (lo+k)) from hc),g5⟩
  ·rintro r aA ⟨rfl,l,u,rfl,g1,g2,g3,g4,g5⟩;obtain rfl:l=u:=by lia
   exact⟨rfl,l,rfl,g2,g4,g5⟩
  ·exact⟨rfl,0,k,rfl,WV _,WD _,by lia,λi hi=>by lia,λi h1 h2=>by lia⟩
  rintro r aA ⟨rfl,l,rfl,g2,g4,g5⟩;dsimp only;rw[moveDown'_eq];refine WL (Ze (WY ⟨rfl,by lia,_,rfl,R.trans ((yO (a:=b) (by lia) (by lia)).mono (by lia) (by lia)),yN (a:=b) O (by lia) g2 yt g4 g5⟩))
 ·rintro r aA ⟨rfl,hx,b,rfl,R,yt⟩;rw[show max (max ok 1) n=n by lia]at yt
  exact⟨rfl,b,rfl,R,yt⟩
 ·refine⟨rfl,by lia,Xq st,rfl,Rg.refl,?_⟩
  by_cases h2:ok=0
  ·subst h2;exact SR.one O
  ·rw[show max ok 1=ok by lia]
   exact hs
 ·rintro r aA ⟨rfl,b,rfl,R,yt⟩;exact WY (h b R yt)
theorem sU (base:Nat):∀(l:List WX) (off:Nat) (a:Array WX),base+off+l.length<=a.size->∀k:Nat,
  ((l.zipIdx off).foldl (λx (z:WX×Nat)=>x.setIfInBounds (base+z.2) z.1) a)[k]?=if base+off<=k/\k<base+off+l.length then l[k-(base+off)]? else a[k]?
 |[],off,a,_,k=>by
  rw[if_neg (by rw[ZM];lia)]
  rfl
 |x::l,off,a,h,k=>by
  rw[WS]at h;rw[List.zipIdx_cons,Y5,sU base l (off+1) _ (by rw[aaa];lia)]
  by_cases h1:base+(off+1)<=k/\k<base+(off+1)+l.length
  ·rw[if_pos h1,if_pos (by rw[WS];lia),show k-(base+off)=k-(base+(off+1))+1 by lia,Zw]
  ·rw[if_neg h1,Array.getElem?_setIfInBounds]
   by_cases h2:base+off=k
   ·subst h2;rw[if_pos rfl,if_pos (by lia),if_pos (by rw[WS];lia),ZR]
    rfl
   ·rw[if_neg h2,if_neg (by rw[WS];lia)]
def CZ (a:Array WX)(base:Nat)(l:List WX):Array WX:=l.zipIdx.foldl (λx (z:WX×Nat)=>x.setIfInBounds (base+z.2) z.1) a
theorem pJ {a:Array WX}{base:Nat}{l:List WX}(h:base+l.length<=a.size)(k:Nat):(CZ a base l)[k]?=if base<=k/\k<base+l.length then l[k-base]? else a[k]?:=sU base l 0 a h k
theorem zi {a:Array WX}{base:Nat}{l:List WX}(h:base+l.length<=a.size):(CZ a base l).toList=a.toList.take base++(l++a.toList.drop (base+l.length)):=by
 apply YB;intro k;rw[W9,pJ h];have hz:a.toList.length=a.size:=WM
 by_cases h1:base<=k/\k<base+l.length
 ·rw[if_pos h1,XX (by rw[Xj];lia),Xj,Yi (by lia)]
  congr 1
  lia
 ·rw[if_neg h1]
  by_cases h2:k<base
  ·rw[Yi (by rw[Xj];lia),Zr h2,W9]
  ·rw[XX (by rw[Xj];lia),Xj,XX (by lia),Z0,W9]
   congr 1
   lia
theorem Hc (a:Array WX)(base m:Nat):a.toList=a.toList.take base++((a.toList.drop base).take m++a.toList.drop (base+m)):=by
 have h1:=(YL base a.toList).symm;have h2:=(YL m (a.toList.drop base)).symm;rw[List.drop_drop]at h2;rw[<- h2];exact h1
theorem GL {a:Array WX}{base:Nat}{l:List WX}(h:base+l.length<=a.size)(hp:l.Perm ((a.toList.drop base).take l.length)):Rg a (CZ a base l) base (base+l.length) where
 perm:=by
  rw[Zj,zi h];refine List.Perm.trans ?_ (ZN (Hc a base l.length).symm);exact List.Perm.append_left _ (hp.append_right _)
 out:=λk hk=>dS (by rw[pJ h,if_neg (by lia)])
end
section
variable {prog:WI}{w:W6}{A:XA}{E:WC->WE->Prop}{s:WE}{κ:YU}{c:WX->WX->Bool}{a₀:Array WX}
theorem C5 {σ:Type}{M:Model}{Q:PUnit->σ->Prop}{st aA:σ}(h:Q ⟨⟩ aA):wpS M A E s (set aA:StateT σ Sem PUnit) Q st:=by
 unfold wpS;rw[StateT.run_set];exact WJ ⟨rfl,h⟩
theorem vy {a:Array WX}{lo hi i:Nat}(h:i<hi-lo)(hh:hi<=a.size):el (a.extract lo hi) i=el a (lo+i) :=
 dS (by rw[Array.getElem?_extract,if_pos (by lia)])
theorem mM {a:Array WX}{lo hi:Nat}(hh:hi<=a.size):(a.extract lo hi).size=hi-lo:=by
 rw[Array.size_extract];lia
theorem wH {a:Array WX}{lo hi:Nat}(hh:hi<=a.size){z:WX}(h:z∈(a.extract lo hi).toList):∃u,lo<=u/\u<hi/\z=el a u:=by
 obtain⟨i,fF⟩:=List.getElem?_of_mem h;rw[W9]at fF;have eV:i<(a.extract lo hi).size:=by
  rcases X0 i (a.extract lo hi).size with q|q
  ·exact q
  ·rw[YH q]at fF;cases fF
 rw[mM hh]at eV;exact⟨lo+i,by lia,by lia,by rw[<- vy eV hh,w9 fF]⟩
theorem uz (O:cR c)(L:il prog w A E s κ c (·∈a₀.toList)){st:XT}{i sa na pw sb nb Pn:Nat}{Q:Bool->XT->Prop}(h0:jQ κ a₀ st)(p1:(Xf st)[i]?=some (sa,na,pw))(p2:(Xf st)[i+1]?=some (sb,nb,Pn))
  (yt:sb=sa+na) (Wk:1<=na) (Wj:1<=nb) (hz:sb+nb<=a₀.size) (s1:SR c (Xq st) sa sb) (s2:SR c (Xq st) sb (sb+nb))
  (h:∀aA,kindOf aA=κ->Zz aA=none->Xf aA=((Xf st).setIfInBounds i (sa,na+nb,pw)).eraseIdxIfInBounds (i+1)->Rg (Xq st) (Xq aA) sa (sb+nb)->SR c (Xq aA) sa (sb+nb)->Q true aA) :
  wpS (model prog w) A E s (mergeAt' i) Q st:=by
 rw[sg];refine WL (ZP ?_);rw[p1,p2];dsimp only;refine WL (C5 ?_);have hsz:=h0.size;have hm:∀{j},j<a₀.size->el (Xq st) j∈a₀.toList:=λhj=>h0.mem hj;generalize ha:Xq st=a at *
 have xB:kindOf (ZE st (((Xf st).setIfInBounds i (sa,na+nb,pw)).eraseIdxIfInBounds (i+1)))=κ:=h0.kind;have G9:Zz (ZE st (((Xf st).setIfInBounds i (sa,na+nb,pw)).eraseIdxIfInBounds (i+1)))=none:=h0.fail;have G_:Xq (ZE st (((Xf st).setIfInBounds i (sa,na+nb,pw)).eraseIdxIfInBounds (i+1)))=a:=ha;have KJ:Xf (ZE st (((Xf st).setIfInBounds i (sa,na+nb,pw)).eraseIdxIfInBounds (i+1)))=((Xf st).setIfInBounds i (sa,na+nb,pw)).eraseIdxIfInBounds (i+1):=rfl;generalize hP:((Xf st).setIfInBounds i (sa,na+nb,pw)).eraseIdxIfInBounds (i+1)=P at *
 generalize ZE st P=KL at *
 refine WL (aN (by lia) ?_)
 refine WL (dz O L xB (hm (by lia)) (λx hx=>hm (by lia)) (by lia) (λx y h1 h2 h3=>s1 x y h1 h2 (by lia)) (by lia) λk k1 k2 k3=>?_)
 dsimp only;have g0:∀x,sa<=x->x<sa+k->le c (el a x) (el a sb):=λx h1 h2=>by
  have:=k2 (x-sa) (by lia)
  unfold dW at this;rw[if_neg (by simp),ZC,show sa+(x-sa)=x by lia]at this
  exact this
 by_cases e1:(na-k==0)=true
 ·rw[if_pos e1];have e1:na-k=0:=by simpa using e1
  refine WY (h KL xB G9 KJ (by rw[G_];exact Rg.refl) ?_)
  rw[G_];intro x y h1 h2 h3
  by_cases hx:x<sb
  ·by_cases hy:y<sb
   ·exact s1 x y h1 h2 hy
   ·exact O.trans (g0 x h1 (by lia)) (s2 sb y (WD _) (by lia) h3)
  ·exact s2 x y (by lia) h2 h3
 rw[if_neg e1];have e1:na-k≠0:=by simpa using e1
 have g1:c (el a sb) (el a (sa+k))=true:=by
  have:=k3 k (WD _) (by lia)
  unfold dW at this;rw[if_neg (by simp),Bool.not_eq_false']at this
  exact this
 refine WL (aN (by lia) ?_)
 refine WL (dz O L xB (hm (by lia)) (λx hx=>hm (by lia)) (by lia) (λx y h1 h2 h3=>s2 x y h1 h2 (by lia)) (by lia) λm m1 m2 m3=>?_)
 dsimp only;rw[show sa+k+(na-k)-1=sb-1 by lia]at m2 m3
 have g2:∀x,sb<=x->x<sb+m->c (el a x) (el a (sb-1))=true:=λx h1 h2=>by
  have:=m2 (x-sb) (by lia)
  unfold dW at this;rw[if_pos rfl,show sb+(x-sb)=x by lia]at this
  exact this
 have g3:∀x,sb+m<=x->x<sb+nb->le c (el a (sb-1)) (el a x):=λx h1 h2=>by
  have:=m3 (x-sb) (by lia) (by lia)
  unfold dW at this;rw[if_pos rfl,show sb+(x-sb)=x by lia]at this
  exact this
 by_cases e2:(m==0)=true
 ·exfalso
  have e2:m=0:=by simpa using e2
  have:=O.trans (s1 (sa+k) (sb-1) (by lia) (by lia) (by lia)) (g3 sb (by lia) (by lia))
  exact absurd (g1.symm.trans this) (by simp)
 rw[if_neg e2];have e2:m≠0:=by simpa using e2
 have zx:(a.extract (sa+k) sb).size=sb-(sa+k):=mM (by lia)
 have zy:(a.extract sb (sb+m)).size=m:=by rw[mM (by lia)];lia
 have ex:∀{t},t<sb-(sa+k)->el (a.extract (sa+k) sb) t=el a (sa+k+t):=λht=>vy ht (by lia)
 have ey:∀{t},t<m->el (a.extract sb (sb+m)) t=el a (sb+t):=λht=>vy (by lia) (by lia)
 have fin:∀(out:Array WX) (fy:XT),jR KL fy->Gd c (a.extract (sa+k) sb) (a.extract sb (sb+m)) out.toList ->
   wpS (model prog w) A E s (do
    modify λs2=>X9 s2 (out.toList.zipIdx.foldl (λx z=>match z with|(p,j)=>x.setIfInBounds (sa+k+j) p) (Xq s2))
    let y <- get
    pure (Zz y).isNone:StateT XT Sem Bool) Q fy:=by
  rintro out fy e ⟨gp,gs⟩;refine WL (Ze (WL (ZP (WY ?_))));show Q (Zz fy).isNone (X9 fy (CZ (Xq fy) (sa+k) out.toList));rw[e.fail,G9,e.arr,G_];have zo:out.toList.length=sb-(sa+k)+m:=by
   rw[gp.length_eq,Xi,WM,WM,zx,zy]
  have hb:sa+k+out.toList.length<=a.size:=by lia
  have xy:(a.toList.drop (sa+k)).take out.toList.length=(a.extract (sa+k) sb).toList++(a.extract sb (sb+m)).toList:=by
   rw[cc,cc,zo,show sb+m-sb=m by lia,List.take_add,List.drop_drop,show sa+k+(sb-(sa+k))=sb by lia]
  have R:Rg a (CZ a (sa+k) out.toList) (sa+k) (sa+k+out.toList.length):=GL hb (by rw[xy];exact gp)
  refine h _ (e.kind.trans xB) (e.fail.trans G9) (e.pend.trans KJ) (R.mono (by lia) (by lia)) ?_
  show SR c (CZ a (sa+k) out.toList) sa (sb+nb);have Je:∀t,sa+k<=t->t<sb+m->∃z,out.toList[t-(sa+k)]?=some z/\el (CZ a (sa+k) out.toList) t=z/\((∃u,sa+k<=u/\u<sb/\z=el a u)\/∃u,sb<=u/\u<sb+m/\z=el a u):=by
   intro t h1 h2;have hl:t-(sa+k)<out.toList.length:=by lia
   refine⟨out.toList[t-(sa+k)],WR hl,w9 (by rw[pJ hb,if_pos (by lia)];exact WR hl),?_⟩
   have BD:=gp.mem_iff.mp (YV hl);rcases W4.mp BD with q|q
   ·exact .inl (wH (by lia) q)
   ·exact .inr (wH (by lia) q)
  have Tr:∀t,t<sa+k->el (CZ a (sa+k) out.toList) t=el a t:=λt ht=>R.out t (.inl ht);have Oj:∀t,sb+m<=t->el (CZ a (sa+k) out.toList) t=el a t:=λt ht=>R.out t (.inr (by lia))
  intro x y h1 h2 h3
  by_cases hx:x<sa+k
  ·rw[Tr x hx]
   by_cases hy:y<sa+k
   ·rw[Tr y hy];exact s1 x y h1 h2 (by lia)
   ·by_cases P5:y<sb+m
    ·obtain⟨z,_,ez,P4⟩:=Je y (by lia) P5
     rw[ez];rcases P4 with⟨u,u1,u2,rfl⟩|⟨u,u1,u2,rfl⟩
     ·exact s1 x u h1 (by lia) u2
     ·exact O.trans (g0 x h1 hx) (s2 sb u (WD _) u1 (by lia))
    ·rw[Oj y (by lia)]
     exact O.trans (g0 x h1 hx) (s2 sb y (WD _) (by lia) h3)
  ·by_cases LW:x<sb+m
   ·obtain⟨z,iz,ez,P4⟩:=Je x (by lia) LW
    rw[ez]
    by_cases P5:y<sb+m
    ·obtain⟨z',UO,Rr,_⟩:=Je y (by lia) P5
     rw[Rr]
     by_cases LU:x=y
     ·subst LU;rw[ez]at Rr;rw[Rr];exact O.refl _
     ·obtain⟨q1,q2⟩:=W3.mp iz;obtain⟨q3,q4⟩:=W3.mp UO;have:=Z2.mp gs _ _ q1 q3 (by lia)
      rw[q2,q4]at this;exact this
    ·rw[Oj y (by lia)]
     rcases P4 with⟨u,u1,u2,rfl⟩|⟨u,u1,u2,rfl⟩
     ·exact O.trans (s1 u (sb-1) (by lia) (by lia) (by lia)) (g3 y (by lia) h3)
     ·exact s2 u y (by lia) (by lia) h3
   ·rw[Oj x (by lia),Oj y (by lia)]
    exact s2 x y (by lia) h2 h3
 have go:∀(out:Array WX) (fy:XT),jR KL fy->Gd c (a.extract (sa+k) sb) (a.extract sb (sb+m)) out.toList->wpS (model prog w) A E s (do
    modify λs2=>X9 s2 (out.toList.zipIdx.foldl (λx z=>match z with|(p,j)=>x.setIfInBounds (sa+k+j) p) (Xq s2))
    let y <- get
    pure (Zz y).isNone:StateT XT Sem Bool) Q fy:=fin
 have SX:0<(a.extract (sa+k) sb).size:=by lia
 have SW:0<(a.extract sb (sb+m)).size:=by lia
 have Sx:∀t,t<(a.extract (sa+k) sb).size->el (a.extract (sa+k) sb) t∈a₀.toList:=λt ht=>by rw[ex (by lia)];exact hm (by lia)
 have Sy:∀t,t<(a.extract sb (sb+m)).size->el (a.extract sb (sb+m)) t∈a₀.toList:=λt ht=>by rw[ey (by lia)];exact hm (by lia)
 have Sd:SR c (a.extract (sa+k) sb) 0 (a.extract (sa+k) sb).size:=λx y h1 h2 h3=>by
  rw[ex (by lia),ex (by lia)]
  exact s1 _ _ (by lia) (by lia) (by lia)
 have Sa:SR c (a.extract sb (sb+m)) 0 (a.extract sb (sb+m)).size:=λx y h1 h2 h3=>by
  rw[ey (by lia),ey (by lia)]
  exact s2 _ _ (by lia) (by lia) (by lia)
 have hf:c (el (a.extract sb (sb+m)) 0) (el (a.extract (sa+k) sb) 0)=true:=by
  rw[ex (by lia),ey (by lia)]
  exact g1
 have hl:∀y,y<(a.extract sb (sb+m)).size->c (el (a.extract sb (sb+m)) y) (el (a.extract (sa+k) sb) ((a.extract (sa+k) sb).size-1))=true:=λy hy=>by
  rw[ey (by lia),ex (by lia),show sa+k+((a.extract (sa+k) sb).size-1)=sb-1 by lia]
  exact g2 _ (by lia) (by lia)
 by_cases e3:na-k<=m
 ·rw[if_pos e3];exact WL (ux O L xB Sx Sy Sd Sa SX SW hf hl go)
 ·rw[if_neg e3];exact WL (uy O L xB Sx Sy Sd Sa SX SW hf hl go)
end
section
variable {c:WX->WX->Bool}{a b:Array WX}
def Runs (c:WX->WX->Bool)(a:Array WX):List (Nat×Nat×Nat)->Nat->Nat->Prop
 |[],lo,hi=>lo=hi
 |z::r,lo,hi=>z.1=lo/\1<=z.2.1/\SR c a lo (lo+z.2.1)/\Runs c a r (lo+z.2.1) hi
theorem Runs.app:∀{l r:List (Nat×Nat×Nat)} {lo hi:Nat},Runs c a (l++r) lo hi->∃m,Runs c a l lo m/\Runs c a r m hi
 |[],r,lo,hi,h=>⟨lo,rfl,h⟩
 |z::l,r,lo,hi,⟨h1,h2,h3,h4⟩=>by
  obtain⟨m,g1,g2⟩:=Runs.app h4;exact⟨m,⟨h1,h2,h3,g1⟩,g2⟩
theorem Runs.join:∀{l r:List (Nat×Nat×Nat)} {lo m hi:Nat},Runs c a l lo m->Runs c a r m hi->Runs c a (l++r) lo hi
 |[],r,lo,m,hi,h,g=>by
  obtain rfl:lo=m:=h;exact g
 |z::l,r,lo,m,hi,⟨h1,h2,h3,h4⟩,g=>⟨h1,h2,h3,Runs.join h4 g⟩
theorem Runs.len:∀{l:List (Nat×Nat×Nat)} {lo hi:Nat},Runs c a l lo hi->lo+l.length<=hi
 |[],lo,hi,h=>Nat.le_of_eq h
 |z::l,lo,hi,⟨h1,h2,h3,h4⟩=>by
  have:=Runs.len h4;rw[WS];lia
theorem Runs.congr:∀{l:List (Nat×Nat×Nat)} {lo hi:Nat},Runs c a l lo hi->(∀k,lo<=k->k<hi->el b k=el a k)->Runs c b l lo hi
 |[],lo,hi,h,_=>h
 |z::l,lo,hi,⟨h1,h2,h3,h4⟩,e=>by
  have hl:=Runs.len h4;exact⟨h1,h2,h3.congr λk g1 g2=>e k g1 (by lia),Runs.congr h4 λk g1 g2=>e k (by lia) g2⟩
theorem Runs.pow:∀{l l':List (Nat×Nat×Nat)} {lo hi:Nat},Runs c a l lo hi->l'.map (λz=>(z.1,z.2.1))=l.map (λz=>(z.1,z.2.1))->Runs c a l' lo hi
 |[],[],_,_,h,_=>h
 |[],z::l',_,_,_,e=>by cases e
 |z::l,[],_,_,_,e=>by cases e
 |z::l,z'::l',lo,hi,⟨h1,h2,h3,h4⟩,e=>by
  rw[W_,W_]at e;injection e with e1 e2
  injection e1 with e3 e4
  exact⟨e3.trans h1,by rw[e4];exact h2,by rw[e4];exact h3,by rw[e4];exact Runs.pow h4 e2⟩
end
section
variable {prog:WI}{w:W6}{A:XA}{E:WC->WE->Prop}{s:WE}{κ:YU}{c:WX->WX->Bool}{a₀:Array WX}
theorem Hd {α:Type}{l:List α}{i:Nat}(h:i+1<l.length):∃l1 x y l2,l=l1++x::y::l2/\l1.length=i:=by
 refine⟨l.take i,l[i],l[i+1],l.drop (i+2),?_,by rw[Xj];lia⟩
 rw[<- XE h,<- XE (by lia),YL]
theorem nR (O:cR c)(L:il prog w A E s κ c (·∈a₀.toList)){st:XT}{i hi:Nat}{Q:Bool->XT->Prop}(h0:jQ κ a₀ st)(hr:Runs c (Xq st) (Xf st).toList 0 hi)(hh:hi<=a₀.size)(Ge:i+1<(Xf st).size)
  (h:∀aA,jQ κ a₀ aA->Rg (Xq st) (Xq aA) 0 hi->Runs c (Xq aA) (Xf aA).toList 0 hi->(Xf aA).size+1=(Xf st).size->Q true aA) :
  wpS (model prog w) A E s (mergeAt' i) Q st:=by
 obtain⟨l1,⟨sa,na,pw⟩,⟨sb,nb,Pn⟩,l2,el,hl⟩:=Hd (l:=(Xf st).toList) (i:=i) (by rw[WM];exact Ge)
 rw[el]at hr;obtain⟨m,r1,r2⟩:=hr.app;obtain⟨x1,x2,x3,y1,y2,y3,r3⟩:=r2;dsimp only at x1 x2 x3 y1 y2 y3 r3;have hlen:=r3.len;have S9:=r1.len;have p1:(Xf st)[i]?=some (sa,na,pw):=by
  rw[<- W9,el,XX (by lia),hl,ZR]
  rfl
 have p2:(Xf st)[i+1]?=some (sb,nb,Pn):=by
  rw[<- W9,el,XX (by lia),hl,show i+1-i=1 by lia]
  rfl
 subst x1;refine uz O L h0 p1 p2 y1 x2 y2 (by lia) (by rw[y1];exact x3) (by rw[y1];exact y3) λaA k1 k2 k3 R S=>?_
 have ep:(Xf aA).toList=l1++(sa,na+nb,pw)::l2:=by
  rw[k3];have hz:i+1<((Xf st).setIfInBounds i (sa,na+nb,pw)).size:=by rw[aaa];exact Ge
  have e1:(((Xf st).setIfInBounds i (sa,na+nb,pw)).eraseIdxIfInBounds (i+1)).toList=((Xf st).toList.set i (sa,na+nb,pw)).eraseIdx (i+1):=by
   unfold Array.eraseIdxIfInBounds;rw[dif_pos hz,Array.toList_eraseIdx,Array.toList_setIfInBounds]
  rw[e1,el,<- hl,List.set_append_right _ _ (WD _),ZR,List.set_cons_zero,List.eraseIdx_append_of_length_le (by lia),show l1.length+1-l1.length=1 by lia]
  rfl
 have out:∀k,(k<sa\/sb+nb<=k)->TS.el (Xq aA) k=TS.el (Xq st) k:=R.out;refine h aA ⟨k1,k2,R.perm.trans h0.perm⟩ (R.mono (WV _) (by lia)) ?_ ?_
 ·rw[ep];refine Runs.join (r1.congr λk g1 g2=>out k (.inl (by lia))) ⟨rfl,by show 1<=na+nb;lia,?_,?_⟩
  ·show SR c (Xq aA) sa (sa+(na+nb));rw[show sa+(na+nb)=sb+nb by lia]
   exact S
  ·show Runs c (Xq aA) l2 (sa+(na+nb)) hi;rw[show sa+(na+nb)=sa+na+nb by lia]
   exact r3.congr λk g1 g2=>out k (.inr (by lia))
 ·have e2:(Xf aA).size=l1.length+(l2.length+1):=by rw[<- WM,ep,Xi,WS]
  have e3:(Xf st).size=l1.length+(l2.length+1+1):=by rw[<- WM,el,Xi,WS,WS]
  lia
theorem lW:∀(f n r:Nat),1<=n->1<=minRun' f n r
 |0,n,r,h=>by show 1<=n+r;lia
 |f+1,n,r,h=>by
  rw[minRun'_succ]
  split
  ·lia
  ·exact lW f _ _ (by lia)
theorem DG (p:Array (Nat×Nat×Nat))(i w:Nat):(p.modify i λx=>(x.1,x.2.1,w)).toList.map (λz=>(z.1,z.2.1))=p.toList.map (λz=>(z.1,z.2.1)):=by
 apply YB;intro k;rw[WU,WU,W9,W9,Array.getElem?_modify]
 split
 ·rw[Option.map_map];rfl
 ·rfl
theorem qS (O:cR c)(L:il prog w A E s κ c (·∈a₀.toList)){st:XT}{Q:Unit->XT->Prop}(h0:jQ κ a₀ st)(hp:Xf st=#[])(h2:2<=a₀.size)
  (h:∀aA,jQ κ a₀ aA->SR c (Xq aA) 0 a₀.size->Q () aA):wpS (model prog w) A E s sortRuns' Q st:=by
 rw[sortRuns'_eq];refine WL (ZP ?_);dsimp only;rw[h0.size];have U7:=lW a₀.size a₀.size 0 (by lia)
 generalize minRun' a₀.size a₀.size 0=mr at U7;refine WL (Yx (XZ (I:=λx r aA=>jQ κ a₀ aA/\∃lo,r=(none,lo)/\lo<=a₀.size/\(a₀.size<=lo\/x<=lo)/\Runs c (Xq aA) (Xf aA).toList 0 lo)
  (Q:=λr aA=>jQ κ a₀ aA/\r=(none,a₀.size)/\Runs c (Xq aA) (Xf aA).toList 0 a₀.size) ?_ ?_ ?_) ?_)
 ·rintro x r aA _ hx ⟨hS,lo,rfl,N7,U_,hr⟩;dsimp only
  by_cases hl:lo >= a₀.size
  ·rw[if_pos hl];obtain rfl:lo=a₀.size:=by lia
   exact WY ⟨hS,rfl,hr⟩
  rw[if_neg hl];refine WL (zk O L hS (by lia) (by lia) λn b n1 n2 R Sb=>?_)
  dsimp only;have ui:jQ κ a₀ (X9 aA b):=hS.set R;have qw:Runs c (Xq (X9 aA b)) (Xf (X9 aA b)).toList 0 lo:=Runs.congr (b:=b) hr λk q1 q2=>R.out k (.inl q2);refine(λ(key:∀(N:Nat) (stx:XT),1<=N->lo+N<=a₀.size->Runs c (Xq stx) (Xf stx).toList 0 lo->jQ κ a₀ stx->SR c (Xq stx) lo (lo+N)->(?G:Nat->XT->Prop) N stx)=>?main) ?key
  case main =>
   by_cases S6:n<mr
   ·rw[if_pos S6];refine WL (aab (YZ ⟨rfl,?_⟩));refine WL (GO O L ui (by lia) (by lia) (by lia) Sb λb' R' VO=>?_)
    rw[if_neg (by simp)]
    have Oe:1<=min (a₀.size-lo) mr:=by lia
    have Rf:lo+min (a₀.size-lo) mr<=a₀.size:=by lia
    have qw:Runs c (Xq (X9 (X9 aA b) b')) (Xf (X9 (X9 aA b) b')).toList 0 lo:=Runs.congr (b:=b') qw λk q1 q2=>R'.out k (.inl q2);have ui:jQ κ a₀ (X9 (X9 aA b) b'):=ui.set R';have Gz:SR c (Xq (X9 (X9 aA b) b')) lo (lo+(min (a₀.size-lo) mr)):=VO;generalize X9 (X9 aA b) b'=stx at qw ui Gz ⊢
    generalize min (a₀.size-lo) mr=N at Oe Rf Gz ⊢
    exact key N stx Oe Rf qw ui Gz
   ·rw[if_neg S6];have Gz:SR c (Xq (X9 aA b)) lo (lo+n):=Sb;exact key n _ n1 (by lia) qw ui Gz
  case key =>
   intro N stx Oe Rf qw ui Gz;refine WL (ZP ?_);have Np:∀(ly:XT),jQ κ a₀ ly->SR c (Xq ly) lo (lo+N)->Runs c (Xq ly) (Xf ly).toList 0 lo->jQ κ a₀ (ZE ly ((Xf ly).push (lo,N,0)))/\∃FX,((none,lo+N):Option Unit×Nat)=(none,FX)/\FX<=a₀.size/\(a₀.size<=FX\/x+1<=FX)/\Runs c (Xq ly) ((Xf ly).push (lo,N,0)).toList 0 FX:=λly g1 g2 g3 =>
    ⟨⟨g1.kind,g1.fail,g1.perm⟩,_,rfl,by lia,by lia,by rw[YC];exact g3.join ⟨rfl,Oe,g2,rfl⟩⟩
   cases hb:(Xf stx).back? with
   |none =>
    dsimp only;exact WL (Ze (WY (Np stx ui Gz qw)))
   |some z =>
    obtain⟨s1,n1,p1⟩:=z;dsimp only;refine WL (Yx (XZ (I:=λx r aA=>r=(none,())/\jQ κ a₀ aA/\SR c (Xq aA) lo (lo+N)/\Runs c (Xq aA) (Xf aA).toList 0 lo)
     (Q:=λr aA=>r=(none,())/\jQ κ a₀ aA/\SR c (Xq aA) lo (lo+N)/\Runs c (Xq aA) (Xf aA).toList 0 lo) ?_ ?_ ?_) ?_)
    ·rintro y r ly _ _ ⟨rfl,g1,g2,g3⟩;refine WL (ZP ?_)
     by_cases MK:(Xf ly).size>1
     ·rw[if_pos MK];cases hq:(Xf ly)[(Xf ly).size-2]? with
      |none =>
       dsimp only;exact WY ⟨rfl,g1,g2,g3⟩
      |some z =>
       obtain⟨u,v,Sw⟩:=z;dsimp only
       split
       ·exact WY ⟨rfl,g1,g2,g3⟩
       ·refine WL (nR O L g1 g3 (by lia) (by lia) λKI f1 f2 f3 f4=>?_)
        exact WY ⟨rfl,f1,g2.congr λk q1 q2=>f2.out k (.inr q1),f3⟩
     ·rw[if_neg MK];dsimp only;exact WY ⟨rfl,g1,g2,g3⟩
    ·rintro r ly ⟨rfl,g1,g2,g3⟩;exact⟨rfl,g1,g2,g3⟩
    ·exact⟨rfl,ui,Gz,qw⟩
    rintro r ly ⟨rfl,g1,g2,g3⟩;dsimp only;refine WL (Ze (WL (Ze (WY ?_))));exact Np (ZE ly _) ⟨g1.kind,g1.fail,g1.perm⟩ g2 (g3.pow (DG _ _ _))
 ·rintro r aA ⟨hS,lo,rfl,N7,U_,hr⟩;obtain rfl:lo=a₀.size:=by lia
  exact⟨hS,rfl,hr⟩
 ·exact⟨h0,0,rfl,WV _,.inr (WD _),by rw[hp];rfl⟩
 rintro r aA ⟨hS,rfl,hr⟩;dsimp only;refine WL (Yx (XZ (I:=λx r aA=>r=(none,())/\jQ κ a₀ aA/\Runs c (Xq aA) (Xf aA).toList 0 a₀.size/\((Xf aA).size<=1\/(Xf aA).size+x<=a₀.size))
  (Q:=λr aA=>r=(none,())/\jQ κ a₀ aA/\Runs c (Xq aA) (Xf aA).toList 0 a₀.size/\(Xf aA).size<=1) ?_ ?_ ?_) ?_)
 ·rintro x r fy _ hx ⟨rfl,ui,qw,hz⟩;refine WL (ZP ?_)
  by_cases h1:(Xf fy).size<=1
  ·rw[if_pos h1];exact WY ⟨rfl,ui,qw,h1⟩
  rw[if_neg h1];refine WL (nR O L ui qw (WD _) ?_ λly Vp R3 UY Wh=>?_)
  ·split
   ·split <;> lia
   ·rw[if_neg (by simp)]
    lia
  ·exact WY ⟨rfl,Vp,UY,.inr (by lia)⟩
 ·rintro r fy ⟨rfl,ui,qw,hz⟩;exact⟨rfl,ui,qw,by lia⟩
 ·refine⟨rfl,hS,hr,.inr ?_⟩;have:=hr.len;rw[WM]at this;lia
 ·rintro r fy ⟨rfl,ui,qw,hz⟩;refine WY (h fy ui ?_)
  match hq:(Xf fy).toList,qw with
  |[],e=>
   have:(0:Nat)=a₀.size:=e;lia
  |[z],e =>
   obtain⟨e1,e2,e3,e4⟩:=e;have e4:0+z.2.1=a₀.size:=e4;rw[e4]at e3;exact e3
  |z::y::l,e =>
   have:(Xf fy).toList.length<=1:=by rw[WM];exact hz
   rw[hq]at this;simp at this
end
theorem lex_nil {y:List Int}:HT.lexLt [] y=decide (0<y.length):=by cases y <;> rfl
theorem fQ {a b:Int}{x y:List Int}:HT.lexLt (a::x) (b::y)=if a=b then HT.lexLt x y else decide (a<b):=rfl
theorem l9:∀{x y:List Int},HT.lexLt x y=true->HT.lexLt y x=false
 |[],[],_=>rfl
 |[],_::_,_=>rfl
 |_::_,[],h=>by cases h
 |a::x,b::y,h=>by
  rw[fQ]at h ⊢
  by_cases e:a=b
  ·rw[if_pos e]at h;rw[if_pos e.symm];exact l9 h
  ·rw[if_neg e]at h;rw[if_neg λz=>e z.symm];have:=of_decide_eq_true h;exact decide_eq_false (by lia)
theorem qo:∀{x z:List Int} (y:List Int),HT.lexLt x z=true->HT.lexLt x y=true\/HT.lexLt y z=true
 |[],[],_,h=>by cases h
 |[],_::_,[],h=>.inr rfl
 |[],_::_,_::_,h=>.inl rfl
 |_::_,[],_,h=>by cases h
 |a::x,b::z,[],h=>.inr rfl
 |a::x,b::z,d::y,h=>by
  rw[fQ]at h ⊢
  rw[fQ]
  by_cases e:a=b
  ·subst e;rw[if_pos rfl]at h
   by_cases e2:a=d
   ·subst e2;rw[if_pos rfl,if_pos rfl];exact qo y h
   ·rw[if_neg e2,if_neg λq=>e2 q.symm]
    by_cases e3:a<d
    ·exact .inl (decide_eq_true e3)
    ·exact .inr (decide_eq_true (by lia))
  ·rw[if_neg e]at h;have h:=of_decide_eq_true h
   by_cases e2:a=d
   ·subst e2;rw[if_neg e];exact .inr (decide_eq_true h)
   ·rw[if_neg e2]
    by_cases e3:a<d
    ·exact .inl (decide_eq_true e3)
    ·rw[if_neg (by lia)]
     exact .inr (decide_eq_true (by lia))
theorem jC:∀{x y:List Int},HT.lexLt x y=false->HT.lexLt y x=false->x=y
 |[],[],_,_=>rfl
 |[],_::_,h,_=>by cases h
 |_::_,[],_,h=>by cases h
 |a::x,b::y,h1,h2=>by
  rw[fQ]at h1 h2
  by_cases e:a=b
  ·subst e;rw[if_pos rfl]at h1 h2;rw[jC h1 h2]
  ·rw[if_neg e]at h1;rw[if_neg λq=>e q.symm]at h2;have h1:=of_decide_eq_false h1;have h2:=of_decide_eq_false h2;lia
def byKey (kf:WC->List Int)(x y:WX):Bool:=HT.lexLt (kf x.1) (kf y.1)
theorem DS (kf:WC->List Int):cR (byKey kf):=⟨λ_ _ h=>l9 h,λ_ y _ h=>qo (kf y.1) h⟩
section
variable {prog:WI}{w:W6}{A:XA}{E:WC->WE->Prop}{s:WE}
theorem sC {b:Bool}{Q:Bool->WE->Prop}:∀{ns ms:List Int} {us vs:List WC} (i:Nat),Yq us ns->Yq vs ms->Q (HT.lexLt ns ms) s->PySem.W.KatLex prog w A b (decide (ns.length<ms.length)) Q (us.zip vs) i s
 |[],ms,us,vs,i,hu,hv,q=>by
  cases hu;rw[Z7];rw[lex_nil]at q;exact PySem.W.kat_nil q
 |n::ns,[],us,vs,i,hu,hv,q=>by
  cases hv;rw[List.zip_nil_right];exact PySem.W.kat_nil q
 |n::ns,m::ms,us,vs,i,hu,hv,q=>by
  cases hu with
  |cons _ t hu =>
   cases hv with
   |cons _ t' hv =>
    rw[Y1];refine PySem.W.kat_cons (wpAny_eqBool_int ?_);rw[fQ]at q
    by_cases e:n=m
    ·subst e;rw[if_pos rfl]at q;rw[beq_self_eq_true];have:=sC (b:=b) (Q:=Q) (i+1) hu hv q;rw[show decide ((n::ns).length<(n::ms).length)=decide (ns.length<ms.length) by rw[WS,WS];congr 1;simp]
     exact PySem.W.kat_yes this
    ·rw[if_neg e]at q;rw[show (n==m)=false from beq_eq_false_iff_ne.mpr e]
     refine PySem.W.kat_no ?_;cases b&&i==0 with
     |true=>exact oneLt_int q
     |false=>exact PySem.W.kat_one _ _ (lt_int q)
def nP (h:Heap)(kf:WC->List Int)(a:Addr)(vs:List WC):Prop :=
 ∀v∈vs,∃t o xs k,v=.ref t/\t≠a/\h.get? t=some o/\o.cls=.type "tuple" /\ o.data=.seq xs k/\Yq xs.toList (kf v)/\kf v≠[]
theorem ye {kf:WC->List Int}{a:Addr}{vs:List WC}{b:Bool}{a₀:Array WX}(T:nP s.heap kf a vs)(hm:∀z∈a₀.toList,z.1∈vs):il prog w A E s (tuples' b) (byKey kf) (·∈a₀.toList):=by
 intro x y st Q hx hy hk q;obtain⟨t,o,xs,n,e1,_,e2,_,e3,e4,_⟩:=T _ (hm _ hx);obtain⟨t',o',Nz,n',f1,_,f2,_,f3,f4,_⟩:=T _ (hm _ hy);rw[lt'_eq];refine WL (ZP ?_);rw[hk,e1,f1];have z1:xs.size=(kf x.1).length:=by rw[<- WM];exact e4.length
 have z2:Nz.size=(kf y.1).length:=by rw[<- WM];exact f4.length
 refine WL (aab (ZF (PySem.W.kat_lt e2 e3 f2 f3 ?_)));rw[z1,z2];exact sC 0 e4 f4 ⟨rfl,WY q⟩
theorem lq {kf:WC->List Int}{a:Addr}{h:Heap}:∀{vs:List WC},nP h kf a vs->∃fs:List WC,PySem.W.KatTups h vs fs/\fs.length=vs.length/\∀f∈fs,∃n t,f=Value.int n t
 |[],_=>⟨[],trivial,rfl,λf hf=>by cases hf⟩
 |v::vs,T=>by
  obtain⟨fs,h1,h2,h3⟩:=lq (vs:=vs) λu hu=>T u (WQ _ hu);obtain⟨t,o,xs,k,rfl,_,e2,e3,e4,e5,e6⟩:=T v WO;obtain⟨f,r,ef,n,tk,hn⟩:∃f r,xs.toList=f::r/\∃n tk,f=Value.int n tk:=by
   generalize kf (.ref t)=ks at e5 e6;generalize xs.toList=us at e5;cases e5 with
   |nil=>exact absurd rfl e6
   |cons n tk r=>exact⟨_,_,rfl,_,_,rfl⟩
  have e:xs[0]?=some f:=by rw[<- W9,ef];rfl
  exact⟨f::fs,PySem.W.KatTups.cons e2 e3 e4 e h1,by rw[WS,WS,h2],λg hg=>by
   rcases WG.mp hg with rfl|hg
   ·exact⟨_,_,hn⟩
   ·exact h3 g hg⟩
theorem yj {kf:WC->List Int}{a:Addr}{vs:List WC}{Q:YU->WE->Prop}(T:nP s.heap kf a vs)(h0:0<vs.length)(q:Q (tuples' true) s):Xb (model prog w) A (keyKind' vs.toArray) Q E s:=by
 obtain⟨fs,h1,h2,h3⟩:=lq T;refine PySem.W.kat_kind (T:=.type "int") h1 (by lia) (λv hv=>?_) (by decide) q
 obtain⟨n,t,rfl⟩:=h3 v hv;exact .now
theorem zU {α:Type}{R:α->α->Prop}:∀{l:List α},l.length<2->l.Pairwise R
 |[],_=>.nil
 |[x],_=>Ym _ _
 |_::_::_,h=>by
  rw[WS,WS]at h;lia
theorem l8 {a:Addr} {vs:List WC} {n:Nat} {κ:YU} {c:WC->WC->Bool} {P:PySem.Fin->WE->Prop} (ho:s.heap.get? a=some (YE "list" vs.toArray n)) (hz:vs.length<=1000000) (O:cR λx y=>c x.1 y.1)
  (T:∀s':WE,(∀t o,t≠a->s.heap.get? t=some o->s'.heap.get? t=some o)->(2<=vs.length->∀(Q:YU->WE->Prop),Q κ s'->Xb (model prog w) A (keyKind' vs.toArray) Q E s')/\il prog w A E s' κ (λx y=>c x.1 y.1) (·∈(vs.toArray.zip vs.toArray).toList))
  (h:∀out:List WC,out.Perm vs->out.Pairwise (λx y=>c y x=false)->P (.done (.ret .none)) {s with heap:=sortedHeap s.heap a vs out.toArray}) :
  Xb (model prog w) A (Y3.«list.sort» ⟨[.ref a],[]⟩) P E s:=by
 have la:a<s.heap.objs.size:=W5 ho;obtain⟨ep,hc⟩:∃ep,(s.heap.update a (Zf λ_=>#[])).get? a=some (YE "list" #[] ep):=⟨_,get?_update_seq ho (λ_=>#[])⟩;have old:∀t o,t≠a->s.heap.get? t=some o->(((s.heap.update a (Zf λ_=>#[])).push (YE "tuple" vs.toArray 0)).push (YE "list" #[] 0)).get? t=some o:=λt o ht e =>
  WH _ (WH _ (by rw[Heap.get?_update_ne _ _ _ _ ht];exact e))
 have oS:(((s.heap.update a (Zf λ_=>#[])).push (YE "tuple" vs.toArray 0)).push (YE "list" #[] 0)).get? a=some (YE "list" #[] ep):=WH _ (WH _ hc);have big:∀m:Nat,m<=vs.length->m<=W7:=λm hm=>by rw[XO];lia
 have zz:vs.toArray.size=vs.length:=by simp
 rw[list_sort_plain];refine WA (listItems_at ho rfl ?_);refine WA (listUpdate_at ho rfl ?_ (big _ (Nat.le_of_eq zz)) (WV _));refine WA (seqEpoch_at hc rfl ?_);refine WA (wpAny_newTuple ?_ (big _ (WD _)));refine WA (wpAny_newList ?_ (WV _));refine Yd ?_;show Xb (model prog w) A _ P E {s with heap:=((s.heap.update a (Zf λ_=>#[])).push (YE "tuple" vs.toArray 0)).push (YE "list" #[] 0)}
 dsimp only;have done:∀aA:XT,(Xq aA).Perm (vs.toArray.zip vs.toArray)->(Xq aA).toList.Pairwise (le λx y=>c x.1 y.1)->P (.done (.ret .none)) {s with heap:=sortedHeap s.heap a vs ((Xq aA).map (·.2))}:=λaA hp hs=>by
  have h1:∀z∈(Xq aA).toList,z.1=z.2:=λz hz=>by
   have:=(Zj.mp hp).mem_iff.mp hz;rw[aaj]at this;obtain⟨i,hi⟩:=List.getElem?_of_mem this;rw[List.getElem?_zip_eq_some]at hi;exact Xp (hi.1.symm.trans hi.2)
  have e2:(Xq aA).map (·.2)=((Xq aA).toList.map (·.2)).toArray:=by
   apply Array.toList_inj.mp;rw[Array.toList_map]
  rw[e2];refine h _ ?_ ?_
  ·have:=(Zj.mp hp).map (λz:WX=>z.2);rw[aaj]at this;refine this.trans (ZN ?_);exact List.map_snd_zip (by simp)
  ·rw[XW];refine hs.imp_of_mem λ{x y} hx hy hl=>?_;rw[<- h1 x hx,<- h1 y hy];exact hl
 by_cases h2:vs.toArray.size<2
 ·rw[if_pos h2,if_pos h2];refine WA (WJ ?_);rw[StateT.run_pure];refine WA (WJ ?_);dsimp only;refine WA (seqEpoch_at oS rfl ?_);refine WA (listUpdate_at oS rfl ?_ (WV _) (by rw[Array.size_map,Array.size_zip];exact Xo (big _ (by lia)) (Nat.le_succ _)))
  simp only[bne_self_eq_false,Bool.false_eq_true,if_false];refine WJ (done (SortSt.mk' general' (vs.toArray.zip vs.toArray) #[] 7 none) (Array.Perm.refl _) ?_);refine zU ?_;show (vs.toArray.zip vs.toArray).toList.length<2;rw[WM,Array.size_zip];lia
 ·rw[if_neg h2,if_neg h2];obtain⟨hK,L⟩:=T {s with heap:=((s.heap.update a (Zf λ_=>#[])).push (YE "tuple" vs.toArray 0)).push (YE "list" #[] 0)} old
  refine WA (hK (by lia) _ ?_)
  have zp:(vs.toArray.zip vs.toArray).size=vs.length:=by rw[Array.size_zip];lia
  refine WA (ZT (qS (Q:=λ_ aA=>(Xq aA).Perm (vs.toArray.zip vs.toArray)/\Zz aA=none/\SR (λx y=>c x.1 y.1) (Xq aA) 0 vs.length) O L
   (st:=SortSt.mk' κ (vs.toArray.zip vs.toArray) #[] 7 none) ⟨rfl,rfl,Array.Perm.refl _⟩ rfl (by lia) λaA g1 g2=>⟨g1.perm,g1.fail,by rw[zp]at g2;exact g2⟩) ?_ λ_ _ e=>e)
  rintro⟨⟨⟩,aA⟩ s' ⟨rfl,hp,hf,hs⟩;dsimp only;have zs:(Xq aA).size=vs.length:=hp.size_eq.trans zp;refine WA (seqEpoch_at oS rfl ?_);refine WA (listUpdate_at oS rfl ?_ (WV _) (by rw[Array.size_map,zs];exact Xo (big _ (WD _)) (Nat.le_succ _)))
  rw[hf];simp only[bne_self_eq_false,Bool.false_eq_true,if_false];refine WJ (done aA hp ?_);rw[Z2];intro i j hi hj aF;rw[WM]at hi hj;have:=hs i j (WV _) (by lia) (by lia)
  have ei:el (Xq aA) i=(Xq aA).toList[i]:=w9 (by rw[<- W9];exact WR _)
  have ej:el (Xq aA) j=(Xq aA).toList[j]:=w9 (by rw[<- W9];exact WR _)
  rw[ei,ej]at this;exact this
theorem l7 {a:Addr} {vs:List WC} {n:Nat} {kf:WC->List Int} {P:PySem.Fin->WE->Prop} (ho:s.heap.get? a=some (YE "list" vs.toArray n)) (hz:vs.length<=1000000) (T:nP s.heap kf a vs)
  (h:∀out:List WC,out.Perm vs->out.Pairwise (λx y=>HT.lexLt (kf y) (kf x)=false)->P (.done (.ret .none)) {s with heap:=sortedHeap s.heap a vs out.toArray}) :
  Xb (model prog w) A (Y3.«list.sort» ⟨[.ref a],[]⟩) P E s:=by
 refine l8 (κ:=tuples' true) (c:=λx y=>HT.lexLt (kf x) (kf y)) ho hz (DS kf) (λs' kp=>?_) h;have T':nP s'.heap kf a vs:=λv hv=>by
  obtain⟨t,o,xs,k,e1,e2,e3,r⟩:=T v hv;exact⟨t,o,xs,k,e1,e2,kp t o e2 e3,r⟩
 exact⟨λh2 Q q=>yj T' (by lia) q,ye T' λz hz=>by
  rw[aaj]at hz;exact(ZL hz).1⟩
end
end TS
namespace ST
open PySem PyProof.Rows
section
variable {prog:WI}{w:W6}{A:XA}{E:WC->WE->Prop}{s:WE}
abbrev TK (prog:WI)(w:W6):=aae (intKind prog w)
abbrev kH (prog:WI)(w:W6)(k:List Int):Int:=(TK prog w).hash k
abbrev ent (prog:WI)(w:W6)(x:Addr×List Int):Int×WC:=(kH prog w x.2,.ref x.1)
structure cI (prog:WI)(w:W6)(o:Obj)(ts:List (Addr×List Int))(es:Array (Int×WC))(ep:Nat)(t:SetTable):Prop where
 ex:o.ExactSet
 dat:o.data=.set es ep t
 Jz:es.toList=ts.map (ent prog w)
 wf:WF t (ts.map λx=>kH prog w x.2)
 O5:t.place.size*5<t.mask*3
 FV:t.mask<=8191
 led:t.led=!w.params.followText "set-order"
 J0:t.plain=true
 PD:(ts.map (·.2)).Nodup
def Fw (prog:WI)(w:W6)(h:Heap)(ts:List (Addr×List Int)):Prop:=∀x∈ts,(TK prog w).is h x.2 x.1
theorem cI.fits {o:Obj}{ts:List (Addr×List Int)}{es:Array (Int×WC)}{ep:Nat}{t:SetTable}(S:cI prog w o ts es ep t):t.fits es.size=true:=by
 have h1:=S.wf.sz;have h2:es.size=ts.length:=by rw[<- WM,S.Jz,WB]
 rw[WB]at h1;unfold SetTable.fits SetTable.fill;rw[S.wf.Kc,h2,h1];have:=S.O5;simp;lia
theorem cI.size {o:Obj}{ts:List (Addr×List Int)}{es:Array (Int×WC)}{ep:Nat}{t:SetTable}(S:cI prog w o ts es ep t):es.size=ts.length/\t.place.size=ts.length:=by
 have h1:=S.wf.sz;rw[WB]at h1;exact⟨by rw[<- WM,S.Jz,WB],h1⟩
theorem yH (d:Nat)(n:Int)(tk:Tok):ofAClassStatement d (.int n tk)=pure false:=by
 cases d <;> rfl
theorem qU {k:List Int}{b:Addr}{Q:Bool->WE->Prop}(hk:(TK prog w).is s.heap k b)(q:Q false s):Xb (model prog w) A (ofAClassStatement 8 (.ref b)) Q E s:=by
 obtain⟨o,items,n,ho,hc,hd,hi⟩:=hk;have hT:s.TypeIs (.ref b) "tuple" := ⟨o,ho,hc⟩;unfold ofAClassStatement;refine WA (wpAny_typeOf hT ?_);dsimp only;rw[if_pos (by rfl)]
 refine WA (WJ ?_);rw[if_neg (by simp)]
 refine WA (Yy ho hd ?_);dsimp only;rw[<- Array.forIn_toList];refine WA (aac _ (λrest r s'=>r=(none,())/\s'=s/\∀v∈rest,∃n tk,v=Value.int n tk) _ ?_ ?_ _ _ ⟨rfl,rfl,?_⟩)
 ·rintro v rest r s' ⟨rfl,rfl,jH⟩;obtain⟨n,tk,rfl⟩:=jH v WO;rw[yH];refine WA (WJ ?_);rw[if_neg (by simp)]
  exact WJ ⟨rfl,rfl,λu hu=>jH u (WQ _ hu)⟩
 ·rintro r s' ⟨rfl,rfl,_⟩;exact WJ q
 ·generalize items.toList=vs at hi
  induction hi with
  |nil=>intro v hv;cases hv
  | @cons k v ks vs h1 h2 ih =>
   intro u hu;rcases WG.mp hu with rfl|hu
   ·obtain⟨t,rfl⟩:=Value.isInt_shape h1;exact⟨_,_,rfl⟩
   ·exact ih u hu
theorem C0 {k:List Int}{b:Addr}(hk:(TK prog w).is s.heap k b)(l:List (Addr×List Int)){Q:Bool->WE->Prop}(T:Fw prog w s.heap l)(q:Q false s):Xb (model prog w) A (searchCouldBeSeen (.ref b) (l.map λx=>Value.ref x.1)) Q E s:=by
 unfold searchCouldBeSeen;refine WA (aac _ (λrest r s'=>r=(none,())/\s'=s/\∀v∈rest,∃x∈l,v=Value.ref x.1) _ ?_ ?_ _ _ ⟨rfl,rfl,?_⟩)
 ·rintro v rest r s' ⟨rfl,rfl,jH⟩;obtain⟨x,hx,rfl⟩:=jH v WO;have Gh:∀v∈rest,∃x∈l,v=Value.ref x.1:=λu hu=>jH u (WQ _ hu);dsimp only
  split
  ·exact WJ ⟨rfl,rfl,Gh⟩
  ·refine WA ((TK prog w).quiet hk ?_);rw[if_neg (by simp)]
   refine WA ((TK prog w).quiet (T x hx) ?_);rw[if_neg (by simp)]
   refine WA (qU hk ?_);rw[if_neg (by simp)]
   refine WA (qU (T x hx) ?_);rw[if_neg (by simp)]
   exact WJ ⟨rfl,rfl,Gh⟩
 ·rintro r s' ⟨rfl,rfl,_⟩;exact WJ q
 ·intro v hv;obtain⟨x,hx,rfl⟩:=WT.mp hv;exact⟨x,hx,rfl⟩
end
end ST
namespace L2
open PySem PySem.Spec PyProof.Rows
inductive D where
 |bU|bl (b:Bool)|int (i:Int)|str (x:Str)|obj (a:Addr)
 |tup (ds:List D)|lst (ds:List D)
 |dT (ks:List (List Key)) (ds:List D)|dK (ks:List Key) (ds:List D)
 |sT (ts:List (List Int))
def Hh (P:WI)(w:W6)(a:Addr)(ts:List (Addr×List Int))(h:Heap):Prop:=∃o es ep t,h.get? a=some o/\ST.cI P w o ts es ep t
abbrev Fy (P:WI)(w:W6)(a:Addr)(ts:List (Addr×List Int)):HO:=.ext (Hh P w a ts)
def Fx (P:WI)(w:W6)(H:Hp)(a:Addr)(ts:List (List Int)):Prop :=
 ∃c8:List (Addr×List Int),H a=some (Fy P w a c8)/\(∀x∈c8,H x.1=some (.tup (x.2.map V.int)))/\(c8.map (·.2)).Perm ts
section
variable (P:WI)(w:W6)(W:Addr->Prop)(H:Hp)
mutual
def az:D->V->Prop
 |.bU,v=>v=.bU
 |.bl b,v=>v=.bl b
 |.int i,v=>v=.int i
 |.str x,v=>v=.str x
 |.obj a,v=>v=.ref a
 |.tup ds,v=>∃a vs,v=.ref a/\H a=some (.tup vs)/\ah ds vs
 |.lst ds,v=>∃a vs,v=.ref a/\H a=some (.lst vs)/\¬ W a/\ah ds vs
 |.dT ks ds,v=>∃a vs,v=.ref a/\H a=some (.dT (ks.zip vs))/\ks.length=vs.length/\¬ W a/\ah ds vs
 |.dK ks ds,v=>∃a vs,v=.ref a/\H a=some (.dK (ks.zip vs))/\ks.length=vs.length/\¬ W a/\ah ds vs
 |.sT ts,v=>∃a,v=.ref a/\Fx P w H a ts/\¬ W a
def ah:List D->List V->Prop
 |[],vs=>vs=[]
 |d::ds,vs=>∃v r,vs=v::r/\az d v/\ah ds r
end
end
mutual
def D.flat:D->Bool
 |.tup ds=>D.bR ds
 |.lst _=>false
 |.dT _ _=>false
 |.dK _ _=>false
 |.sT _=>false
 |_=>true
def D.bR:List D->Bool
 |[]=>true
 |d::ds=>D.flat d&&D.bR ds
end
structure Kp (W:Addr->Prop)(H H':Hp):Prop where
 out:∀b o,H b=some o->¬ W b->H' b=some o
 tup:∀b xs,H b=some (.tup xs)->H' b=some (.tup xs)
theorem Kp.refl {W:Addr->Prop}{H:Hp}:Kp W H H:=⟨λ_ _ e _=>e,λ_ _ e=>e⟩
theorem Kp.trans {W:Addr->Prop}{H H1 H2:Hp}(a:Kp W H H1)(b:Kp W H1 H2):Kp W H H2:=⟨λc o e n=>b.out c o (a.out c o e n) n,λc xs e=>b.tup c xs (a.tup c xs e)⟩
theorem au.kp {W:Addr->Prop}{H H':Hp}(h:au H H'):Kp W H H':=⟨λb o e _=>h b o e,λb xs e=>h b _ e⟩
theorem Kp.mono {W W':Addr->Prop}{H H':Hp}(h:Kp W H H')(s:∀a,W a->W' a):Kp W' H H':=⟨λb o e n=>h.out b o e λz=>n (s b z),h.tup⟩
section
variable {P:WI}{w:W6}{W W':Addr->Prop}{H H':Hp}
mutual
theorem az.keep (k:Kp W H H'):∀{d:D} {v:V},az P w W H d v->az P w W H' d v
 |.bU,_,h=>h
 |.bl _,_,h=>h
 |.int _,_,h=>h
 |.str _,_,h=>h
 |.obj _,_,h=>h
 |.tup ds,_,⟨a,vs,e,t,r⟩=>⟨a,vs,e,k.tup a vs t,ah.keep k r⟩
 |.lst ds,_,⟨a,vs,e,t,n,r⟩=>⟨a,vs,e,k.out a _ t n,n,ah.keep k r⟩
 |.dT ks ds,_,⟨a,vs,e,t,l,n,r⟩=>⟨a,vs,e,k.out a _ t n,l,n,ah.keep k r⟩
 |.dK ks ds,_,⟨a,vs,e,t,l,n,r⟩=>⟨a,vs,e,k.out a _ t n,l,n,ah.keep k r⟩
 |.sT ts,_,⟨a,e,⟨c8,t,r,z⟩,n⟩=>⟨a,e,⟨c8,k.out a _ t n,λx hx=>k.tup _ _ (r x hx),z⟩,n⟩
theorem ah.keep (k:Kp W H H'):∀{ds:List D} {vs:List V},ah P w W H ds vs->ah P w W H' ds vs
 |[],_,h=>h
 |d::ds,_,⟨v,r,e,h1,h2⟩=>⟨v,r,e,az.keep k h1,ah.keep k h2⟩
end
mutual
theorem az.aV (s:∀a,W' a->W a):∀{d:D} {v:V},az P w W H d v->az P w W' H d v
 |.bU,_,h=>h
 |.bl _,_,h=>h
 |.int _,_,h=>h
 |.str _,_,h=>h
 |.obj _,_,h=>h
 |.tup ds,_,⟨a,vs,e,t,r⟩=>⟨a,vs,e,t,ah.aV s r⟩
 |.lst ds,_,⟨a,vs,e,t,n,r⟩=>⟨a,vs,e,t,λz=>n (s a z),ah.aV s r⟩
 |.dT ks ds,_,⟨a,vs,e,t,l,n,r⟩=>⟨a,vs,e,t,l,λz=>n (s a z),ah.aV s r⟩
 |.dK ks ds,_,⟨a,vs,e,t,l,n,r⟩=>⟨a,vs,e,t,l,λz=>n (s a z),ah.aV s r⟩
 |.sT ts,_,⟨a,e,t,n⟩=>⟨a,e,t,λz=>n (s a z)⟩
theorem ah.aV (s:∀a,W' a->W a):∀{ds:List D} {vs:List V},ah P w W H ds vs->ah P w W' H ds vs
 |[],_,h=>h
 |d::ds,_,⟨v,r,e,h1,h2⟩=>⟨v,r,e,az.aV s h1,ah.aV s h2⟩
end
mutual
theorem az.flat:∀{d:D} {v:V},d.flat=true->az P w W H d v->az P w W' H d v
 |.bU,_,_,h=>h
 |.bl _,_,_,h=>h
 |.int _,_,_,h=>h
 |.str _,_,_,h=>h
 |.obj _,_,_,h=>h
 |.tup ds,_,f,⟨a,vs,e,t,r⟩=>⟨a,vs,e,t,ah.flat (by simpa[D.flat] using f) r⟩
 |.lst ds,_,f,_=>by simp[D.flat]at f
 |.dT ks ds,_,f,_=>by simp[D.flat]at f
 |.dK ks ds,_,f,_=>by simp[D.flat]at f
 |.sT ts,_,f,_=>by simp[D.flat]at f
theorem ah.flat:∀{ds:List D} {vs:List V},D.bR ds=true->ah P w W H ds vs->ah P w W' H ds vs
 |[],_,_,h=>h
 |d::ds,_,f,⟨v,r,e,h1,h2⟩=>by
  have f':(d.flat&&D.bR ds)=true:=f;rw[Xz]at f';exact⟨v,r,e,az.flat f'.1 h1,ah.flat f'.2 h2⟩
end
theorem az.same (s:au H H'){d:D}{v:V}(h:az P w W H d v):az P w W H' d v:=h.keep s.kp
theorem ah.same (s:au H H'){ds:List D}{vs:List V}(h:ah P w W H ds vs):ah P w W H' ds vs:=h.keep s.kp
theorem ah.length:∀{ds:List D} {vs:List V},ah P w W H ds vs->vs.length=ds.length
 |[],_,h=>by rw[show _=[] from h];rfl
 |d::ds,_,⟨v,r,e,h1,h2⟩=>by rw[e,WS,WS,ah.length h2]
theorem ah.get:∀{ds:List D} {vs:List V} {i:Nat} {d:D},ah P w W H ds vs->ds[i]?=some d->∃v,vs[i]?=some v/\az P w W H d v
 |[],_,_,_,_,e=>by simp at e
 |d::ds,_,0,_,⟨v,r,e,h1,h2⟩,e'=>by simp at e';subst e' e;exact⟨v,by simp,h1⟩
 |d::ds,_,i+1,_,⟨v,r,e,h1,h2⟩,e'=>by
  subst e;obtain⟨u,e1,e2⟩:=ah.get (i:=i) h2 (by simpa using e')
  exact⟨u,by simpa using e1,e2⟩
theorem ah.append:∀{ds ds':List D} {vs vs':List V},ah P w W H ds vs->ah P w W H ds' vs'->ah P w W H (ds++ds') (vs++vs')
 |[],_,_,_,h,h'=>by rw[show _=[] from h];exact h'
 |d::ds,_,_,_,⟨v,r,e,h1,h2⟩,h'=>by subst e;exact⟨v,_,rfl,h1,ah.append h2 h'⟩
theorem ah.one {d:D}{v:V}(h:az P w W H d v):ah P w W H [d] [v]:=⟨v,[],rfl,h,rfl⟩
theorem ah.take:∀{ds:List D} {vs:List V} (n:Nat),ah P w W H ds vs->ah P w W H (ds.take n) (vs.take n)
 |[],_,n,h=>by rw[show _=[] from h];simp[ah]
 |d::ds,_,0,_=>by simp[ah]
 |d::ds,_,n+1,⟨v,r,e,h1,h2⟩=>by subst e;exact⟨v,_,rfl,h1,ah.take n h2⟩
theorem ah.drop:∀{ds:List D} {vs:List V} (n:Nat),ah P w W H ds vs->ah P w W H (ds.drop n) (vs.drop n)
 |[],_,n,h=>by rw[show _=[] from h];simp[ah]
 |d::ds,_,0,h=>h
 |d::ds,_,n+1,⟨v,r,e,h1,h2⟩=>by subst e;exact ah.drop n h2
end
open PySem.SeqAt
abbrev Dm (W:Addr->Prop)(H:Hp):Prop:=∀a,W a->H a≠none
theorem Dm.same {W:Addr->Prop}{H H':Hp}(d:Dm W H)(s:au H H'):Dm W H':=λa h e=>d a h (s.free e)
abbrev Rp (X:Cx)(W:Addr->Prop)(H:Hp)(d:D)(v:V):Prop:=az X.prog X.w W H d v
abbrev ji (X:Cx)(W:Addr->Prop)(H:Hp)(ds:List D)(vs:List V):Prop:=ah X.prog X.w W H ds vs
def Sj (X:Cx)(f:D->Option D):V->Hp->VK->Prop:=λx H Q=>∃W d1 d,Dm W H/\Rp X W H d1 x/\f d1=some d/\∀v H',au H H'->Rp X W H' d v->Q v H'
def Si (X:Cx)(f:D->D->Option D):R2:=λx y H Q=>∃W d1 d2 d,Dm W H/\Rp X W H d1 x/\Rp X W H d2 y/\f d1 d2=some d/\∀v H',au H H'->Rp X W H' d v->Q v H'
def Uk (X:Cx)(f:List D->Option D):List V->Hp->VK->Prop:=λxs H Q=>∃W ds d,Dm W H/\ji X W H ds xs/\f ds=some d/\∀v H',au H H'->Rp X W H' d v->Q v H'
abbrev b8 (X:Cx)(f:WC->WC->Sem WC)(g:D->D->Option D):Prop:=jj X f (Si X g)
abbrev bH (X:Cx)(f:WC)(g:List D->Option D):Prop:=eU X f (Uk X g)
section
variable {X:Cx}{W:Addr->Prop}{H:Hp}
theorem wF {p:Addr}(d:Dm W H)(n:H p=none):¬ W p:=λz=>d p z n
theorem Rp.fO {p:Addr}{vs:List V}{ds:List D}(d:Dm W H)(n:H p=none)(r:ji X W H ds vs):Rp X W (upd H p (.lst vs)) (.lst ds) (.ref p) :=
 ⟨p,vs,rfl,aw,wF d n,r.same (au.new n)⟩
theorem Rp.GX {p:Addr}{vs:List V}{ds:List D}(n:H p=none)(r:ji X W H ds vs):Rp X W (upd H p (.tup vs)) (.tup ds) (.ref p) :=
 ⟨p,vs,rfl,aw,r.same (au.new n)⟩
theorem ji.nil:ji X W H [] []:=rfl
theorem ji.cons {d:D}{ds:List D}{v:V}{vs:List V}(h:Rp X W H d v)(r:ji X W H ds vs):ji X W H (d::ds) (v::vs):=⟨v,vs,rfl,h,r⟩
end
def D.IG:D->Option Int
 |.int i=>some i
 |_=>none
def D.IF:D->Option (List D)
 |.lst a=>some a
 |_=>none
def D.LN:D->Option (List D)
 |.tup a=>some a
 |_=>none
def D.F3:D->Bool
 |.bU=>true
 |_=>false
theorem D.iW {d:D}{i:Int}(h:d.IG=some i):d=.int i:=by cases d <;> first|(cases h;rfl)|cases h
theorem D.mn {d:D}{i:List D}(h:d.IF=some i):d=.lst i:=by cases d <;> first|(cases h;rfl)|cases h
theorem D.Bo {d:D}{i:List D}(h:d.LN=some i):d=.tup i:=by cases d <;> first|(cases h;rfl)|cases h
theorem D.sI {d:D}(h:d.F3=true):d=.bU:=by cases d <;> first|rfl|cases h
theorem D.Ez {d:D}:d=.bU↔d.F3=true:=⟨λe=>by rw[e];rfl,D.sI⟩
def qv (f:Int->Int->Option D)(a b:D):Option D:=match a.IG,b.IG with
 |some i,some j=>f i j
 |_,_=>none
theorem jF {f:Int->Int->Option D}{a b d:D}(h:qv f a b=some d):∃i j,a=.int i/\b=.int j/\f i j=some d:=by
 unfold qv at h;cases ha:a.IG with
 |none=>rw[ha]at h;cases h
 |some i =>
  cases hb:b.IG with
  |none=>rw[ha,hb]at h;cases h
  |some j=>rw[ha,hb]at h;exact⟨i,j,D.iW ha,D.iW hb,h⟩
def Ii (f:D->D->Option D)(g:List D->List D->Option D)(a b:D):Option D:=match a.IF,b.IF with
 |some i,some j=>g i j
 |_,_=>f a b
theorem yf {f:D->D->Option D}{g:List D->List D->Option D}{a b d:D}(h:Ii f g a b=some d):(∃i j,a=.lst i/\b=.lst j/\g i j=some d)\/f a b=some d:=by
 unfold Ii at h;cases ha:a.IF with
 |none=>rw[ha]at h;exact .inr h
 |some i =>
  cases hb:b.IF with
  |none=>rw[ha,hb]at h;exact .inr h
  |some j=>rw[ha,hb]at h;exact .inl ⟨i,j,D.mn ha,D.mn hb,h⟩
def Cg:D->D->Option D:=Ii (qv λi j=>some (.int (i+j))) λa b=>if a.length+b.length<=W7 then some (.lst (a++b)) else none
def RA:D->D->Option D:=qv λi j=>some (.int (i-j))
instance (i j:Int):Decidable (kM i j):=by unfold kM;infer_instance
instance (i j:Int):Decidable (CJ i j):=by unfold CJ;infer_instance
def M9:D->D->Option D:=qv λi j=>if kM i j then some (.int (i*j)) else none
def M_:D->D->Option D:=qv λi j=>if 0<j then some (.int (i % j)) else none
def RC:D->Option D
 |.int i=>some (.int (-i))
 |_=>none
section
variable {X:Cx}
theorem de {c:Prop}[Decidable c]{α:Type}{a b:α}(h:(if c then some a else none)=some b):c/\b=a:=by
 by_cases hc:c
 ·rw[if_pos hc]at h;cases h;exact⟨hc,rfl⟩
 ·rw[if_neg hc]at h;cases h
theorem FQ {f:WC->WC->Sem WC}{C:Int->Int->Prop}{g:Int->Int->V}{h:Int->Int->D}{F:Int->Int->Option D}(ho:jj X f (rI C g))(hF:∀i j d,F i j=some d->C i j/\d=h i j)
  (hg:∀(W:Addr->Prop) (H:Hp) i j,Rp X W H (h i j) (g i j)):b8 X f (qv F):=by
 intro pins s σ H x y v u Q I rx ry hh;obtain⟨W,d1,d2,d,hd,r1,r2,e,q⟩:=hh;obtain⟨i,j,rfl,rfl,e⟩:=jF e;obtain⟨c,rfl⟩:=hF _ _ _ e;cases r1;cases r2;exact ho pins s σ H _ _ v u Q I rx ry ⟨i,j,rfl,rfl,c,q _ _ (au.refl _) (hg W H i j)⟩
theorem AG {f:WC->WC->Sem WC}{g:Int->Int->V}{h:Int->Int->D}(ho:jj X f (Dx g))
  (hg:∀(W:Addr->Prop) (H:Hp) i j,Rp X W H (h i j) (g i j)):b8 X f (qv λi j=>some (h i j)):=by
 intro pins s σ H x y v u Q I rx ry hh;obtain⟨W,d1,d2,d,hd,r1,r2,e,q⟩:=hh;obtain⟨i,j,rfl,rfl,e⟩:=jF e;cases e;cases r1;cases r2;exact ho pins s σ H _ _ v u Q I rx ry ⟨i,j,rfl,rfl,q _ _ (au.refl _) (hg W H i j)⟩
theorem bA:b8 X (YT .Sub) RA:=AG (h:=λi j=>.int (i-j)) AD λ_ _ _ _=>rfl
theorem wz:b8 X (YT .Mult) M9:=FQ (h:=λi j=>.int (i*j)) uX (λ_ _ _ e=>de e) λ_ _ _ _=>rfl
theorem DT:b8 X (YT .Mod) M_:=FQ (h:=λi j=>.int (i % j)) lS (λ_ _ _ e=>de e) λ_ _ _ _=>rfl
theorem kP:Nm X (unaryOp .USub) (Sj X RC):=by
 intro pins s σ H x v Q I rx h;obtain⟨W,d1,d,hd,r1,e,q⟩:=h;cases d1 with
 |int i=>cases e;cases r1;exact zr pins s σ H _ v Q I rx ⟨i,rfl,q _ _ (au.refl _) rfl⟩
 |_=>cases e
end
def Ff (p:Int->Int->Bool):D->D->Option D:=qv λi j=>some (.bl (p i j))
abbrev Om:D->D->Option D:=Ff λi j=>decide (i<j)
abbrev zc:D->D->Option D:=Ff λi j=>decide (j<i)
abbrev VH:D->D->Option D:=Ff λi j=>decide (j<=i)
section
variable {X:Cx}
theorem qg {p:Int->Int->Bool}{f:WC->WC->Sem WC}(ho:jj X f (Dx λi j=>.bl (p i j))):b8 X f (Ff p):=AG (h:=λi j=>.bl (p i j)) ho λ_ _ _ _=>rfl
theorem eG:b8 X (X5 .Lt) Om:=qg Lf
theorem AH:b8 X (X5 .Gt) zc:=qg FP
theorem HL:b8 X (X5 .GtE) VH:=qg Lg
end
mutual
def D.pd:D->PyData
 |.bU=>.none
 |.bl b=>.bool b
 |.int i=>.int i
 |.str x=>.str x
 |.tup ds=>.tuple (D.gu ds)
 |.lst ds=>.list (D.gu ds)
 |_=>.dict []
def D.gu:List D->List PyData
 |[]=>[]
 |d::ds=>d.pd::D.gu ds
end
abbrev D.uN (d:D):Bool:=shaped d.pd
mutual
theorem cD {X:Cx}{pins:List (Addr×Obj)}{σ:St}{H:Hp}{s:WE}(I:Inv X pins σ H s){W:Addr->Prop}:∀{d:D} {v:V} {u:WC},Rp X W H d v->RelV v u->d.pd.canLay0=true->∃as,Reads s.heap u d.pd as
 |.bU,_,_,h,r,_=>by cases h;cases r;exact⟨_,.none⟩
 |.bl b,_,_,h,r,_=>by cases h;cases r;exact⟨_,.bool b⟩
 |.int i,_,_,h,r,_=>by cases h;obtain⟨t,rfl⟩:=r;exact⟨_,.int i t⟩
 |.str x,_,_,h,r,_=>by cases h;obtain⟨t,rfl⟩:=r;exact⟨_,.str x t⟩
 |.tup ds,_,_,h,r,c=>by
  obtain⟨a,vs,rfl,e,q⟩:=h;cases r;obtain⟨its,rv,⟨o,ho,hc,n,hd⟩,hz⟩:=I.tuple (t9.of e);obtain⟨as,ha⟩:=fL I q rv (by simpa[D.pd,Yb] using c)
  exact⟨_,.tuple ho hc hd (by simpa using ha)⟩
 |.lst ds,_,_,h,r,c=>by
  obtain⟨a,vs,rfl,e,_,q⟩:=h;cases r;obtain⟨z,its,n,rv,e'⟩:=I.bx a _ e;obtain⟨as,ha⟩:=fL I q rv (by simpa[D.pd,Yb] using c)
  exact⟨_,.list e' rfl rfl (by simpa using ha)⟩
 |.obj _,_,_,_,_,c=>by simp[D.pd,Yb]at c
 |.dT _ _,_,_,_,_,c=>by simp[D.pd,Yb]at c
 |.dK _ _,_,_,_,_,c=>by simp[D.pd,Yb]at c
 |.sT _,_,_,_,_,c=>by simp[D.pd,Yb]at c
theorem fL {X:Cx}{pins:List (Addr×Obj)}{σ:St}{H:Hp}{s:WE}(I:Inv X pins σ H s){W:Addr->Prop}:∀{ds:List D} {vs:List V} {us:List WC},ji X W H ds vs->Vals vs us->Za (D.gu ds)=true->∃as,ReadsAll s.heap us (D.gu ds) as
 |[],_,_,h,r,_=>by
  rw[show _=[] from h]at r
  cases r;exact⟨_,.nil⟩
 |d::ds,_,_,⟨v,vr,e,h1,h2⟩,r,c=>by
  subst e;have c':(d.pd.canLay0&&Za (D.gu ds))=true:=c;rw[Xz]at c';cases r with
  |cons r1 r2 =>
   obtain⟨as,ha⟩:=cD I h1 r1 c'.1;obtain⟨bs,hb⟩:=fL I h2 r2 c'.2;exact⟨_,.cons ha hb⟩
end
def JC (a b:D):Option D:=if a.uN=true/\b.uN=true then some (.bl (X3 a.pd b.pd)) else none
def M8 (a b:D):Option D:=if a.uN=true/\b.uN=true then some (.bl (!X3 a.pd b.pd)) else none
section
variable {X:Cx}
theorem cq (hu:X.A.units+64<Y4):b8 X (X5 .Eq) JC:=by
 intro pins s σ H x y v u Q I rx ry h;obtain⟨W,d1,d2,d,hd,r1,r2,e,q⟩:=h;obtain⟨⟨s1,s2⟩,rfl⟩:=de e;obtain⟨as,ra⟩:=cD I r1 rx (Yg s1);obtain⟨bs,rb⟩:=cD I r2 ry (Yg s2);exact compareEq_shaped ra rb s1 s2 hu ⟨.bl _,H,I,rfl,q _ _ (au.refl _) rfl⟩
theorem lT (hu:X.A.units+64<Y4):b8 X (X5 .NotEq) M8:=by
 intro pins s σ H x y v u Q I rx ry h;obtain⟨W,d1,d2,d,hd,r1,r2,e,q⟩:=h;obtain⟨⟨s1,s2⟩,rfl⟩:=de e;obtain⟨as,ra⟩:=cD I r1 rx (Yg s1);obtain⟨bs,rb⟩:=cD I r2 ry (Yg s2);exact compareNe_shaped ra rb s1 s2 hu ⟨.bl _,H,I,rfl,q _ _ (au.refl _) rfl⟩
def RD (a b:D):Option D:=match b.F3 with
 |true=>some (.bl a.F3)
 |false=>none
theorem Rp.Ec {W:Addr->Prop}{H:Hp}{d:D}{v:V}(h:Rp X W H d v):v=.bU↔d=.bU:=by
 cases d with
 |bU=>cases h;simp
 |bl b=>cases h;simp
 |int i=>cases h;simp
 |str x=>cases h;simp
 |obj a=>cases h;simp
 |tup ds=>obtain⟨a,vs,rfl,_⟩:=h;simp
 |lst ds=>obtain⟨a,vs,rfl,_⟩:=h;simp
 |dT ks ds=>obtain⟨a,vs,rfl,_⟩:=h;simp
 |dK ks ds=>obtain⟨a,vs,rfl,_⟩:=h;simp
 |sT ts=>obtain⟨a,rfl,_⟩:=h;simp
theorem Bp {b d e:D}(h:(match b.F3 with|true=>some d|false=>none)=some e):b=.bU/\e=d:=by
 cases q:b.F3 with
 |true=>rw[q]at h;cases h;exact⟨D.sI q,rfl⟩
 |false=>rw[q]at h;cases h
theorem Rp.Ed {W:Addr->Prop}{H:Hp}{d:D}{v:V}(h:Rp X W H d v):decide (v=.bU)=d.F3:=by
 have q:=h.Ec.trans D.Ez;cases e:d.F3 with
 |true=>exact decide_eq_true (q.mpr e)
 |false=>exact decide_eq_false λz=>by rw[q.mp z]at e;cases e
theorem qf:b8 X (X5 .Is) RD:=by
 intro pins s σ H x y v u Q I rx ry h;obtain⟨W,d1,d2,d,hd,r1,r2,e,q⟩:=h;obtain⟨rfl,rfl⟩:=Bp e;cases r2;exact HJ pins s σ H _ _ v u Q I rx ry ⟨rfl,q _ _ (au.refl _) (congrArg V.bl r1.Ed)⟩
end
def Nd:D->D->Option Bool
 |a,.lst ds=>if a.uN=true/\(D.lst ds).uN=true then some ((D.gu ds).any λy=>X3 y a.pd) else none
 |a,.tup ds=>if a.uN=true/\(D.tup ds).uN=true then some ((D.gu ds).any λy=>X3 y a.pd) else none
 |_,_=>none
def RF (a b:D):Option D:=(Nd a b).map .bl
theorem vV {ds:List D}{n:PyData}(hn:n=.list (D.gu ds)\/n=.tuple (D.gu ds))(h:shaped n=true):Za (D.gu ds)=true/\Ys (D.gu ds)<=64:=by
 have h1:=Yg h;have h2:=depth_of_shaped h;rcases hn with rfl|rfl
 ·refine⟨by simpa[Yb] using h1,?_⟩
  have:Y0 (.list (D.gu ds))=Ys (D.gu ds)+1:=by simp[Y0]
  lia
 ·refine⟨by simpa[Yb] using h1,?_⟩
  have:Y0 (.tuple (D.gu ds))=Ys (D.gu ds)+1:=by simp[Y0]
  lia
section
variable {X:Cx}
theorem AF (hu:X.A.units+64+1<Y4):b8 X (X5 .In) RF:=by
 intro pins s σ H x y v u Q I rx ry h;obtain⟨W,d1,d2,d,hd,r1,r2,e,q⟩:=h;cases d2 with
 |lst ds =>
  obtain⟨b,e1,rfl⟩:=W8.mp e;obtain⟨⟨s1,s2⟩,rfl⟩:=de e1;obtain⟨as,ra⟩:=cD I r1 rx (Yg s1);obtain⟨bs,rb⟩:=cD I r2 ry (Yg s2);obtain⟨c1,c2⟩:=vV (.inl rfl) s2;exact in_list_reads rb ra c1 (Yg s1) (by have:=Nat.min_le_left (Ys (D.gu ds)) d1.pd.depth;lia) ⟨.bl _,H,I,rfl,q _ _ (au.refl _) rfl⟩
 |tup ds =>
  obtain⟨b,e1,rfl⟩:=W8.mp e;obtain⟨⟨s1,s2⟩,rfl⟩:=de e1;obtain⟨as,ra⟩:=cD I r1 rx (Yg s1);obtain⟨bs,rb⟩:=cD I r2 ry (Yg s2);obtain⟨c1,c2⟩:=vV (.inr rfl) s2;exact in_tuple_reads rb ra c1 (Yg s1) (by have:=Nat.min_le_left (Ys (D.gu ds)) d1.pd.depth;lia) ⟨.bl _,H,I,rfl,q _ _ (au.refl _) rfl⟩
 |_=>cases e
def tN (a b:D):Option D:=match b.IG with
 |some i=>match a.IF with
  |some ds=>nN ds i
  |none=>match a.LN with
   |some ds=>nN ds i
   |none=>none
 |none=>none
theorem Cd {a b d:D}(h:tN a b=some d):∃ds i,(a=.lst ds\/a=.tup ds)/\b=.int i/\nN ds i=some d:=by
 unfold tN at h;cases hb:b.IG with
 |none=>rw[hb]at h;cases h
 |some i =>
  rw[hb]at h;cases ha:a.IF with
  |some ds=>rw[ha]at h;exact⟨ds,i,.inl (D.mn ha),D.iW hb,h⟩
  |none =>
   rw[ha]at h;cases ht:a.LN with
   |some ds=>rw[ht]at h;exact⟨ds,i,.inr (D.Bo ht),D.iW hb,h⟩
   |none=>rw[ht]at h;cases h
theorem ji.nN {W:Addr->Prop}{H:Hp}{ds:List D}{vs:List V}{i:Int}{d:D}(h:ji X W H ds vs)(e:L2.nN ds i=some d):∃v,L2.nN vs i=some v/\Rp X W H d v:=by
 unfold L2.nN at *
 rw[h.length];cases q:wN ds.length i with
 |none=>rw[q]at e;cases e
 |some j =>
  rw[q]at e;exact ah.get h e
theorem ID:GF X (Si X tN):=by
 intro value slice pins s σ H x y v u Q I rx ry h hs;obtain⟨W,d1,d2,d,hd,r1,r2,e,q⟩:=h;obtain⟨ds,i,h,rfl,e⟩:=Cd e;cases r2;rcases h with rfl|rfl
 ·obtain⟨p,vs,rfl,h1,n1,q1⟩:=r1;obtain⟨z,hz,rz⟩:=ji.nN (X:=X) q1 e;exact d9 value slice pins s σ H _ _ v u Q I rx ry ⟨p,vs,i,z,rfl,rfl,c0.of h1,hz,q _ _ (au.refl _) rz⟩ hs
 ·obtain⟨p,vs,rfl,h1,q1⟩:=r1;obtain⟨z,hz,rz⟩:=ji.nN (X:=X) q1 e;exact Bl value slice pins s σ H _ _ v u Q I rx ry ⟨p,vs,i,z,rfl,rfl,t9.of h1,hz,q _ _ (au.refl _) rz⟩ hs
def cutD (xs:List D)(lo hi:Option Int):List D:=(xs.drop (HT.lI xs.length 0 lo)).take (HT.lI xs.length xs.length hi-HT.lI xs.length 0 lo)
def Ts:D->Option Int->Option Int->Option D
 |.lst ds,lo,hi=>some (.lst (cutD ds lo hi))
 |_,_,_=>none
def Nc:List D->Option D
 |[.lst ds]=>some (.int ds.length)
 |[.tup ds]=>some (.int ds.length)
 |_=>none
theorem gG:bH X (.builtin "len") Nc:=by
 intro pins s σ H xs us Q I r h;obtain⟨W,ds,d,hd,r1,e,q⟩:=h
 match ds,e with
 |[.lst es],e =>
  cases e;obtain⟨v,r',rfl,⟨p,vs,rfl,h1,n1,q1⟩,hr⟩:=r1;cases hr;refine i_ pins s σ H _ us Q I r ⟨p,vs,rfl,.inl (c0.of h1),?_⟩;rw[q1.length];exact q _ _ (au.refl _) rfl
 |[.tup es],e =>
  cases e;obtain⟨v,r',rfl,⟨p,vs,rfl,h1,q1⟩,hr⟩:=r1;cases hr;refine i_ pins s σ H _ us Q I r ⟨p,vs,rfl,.inr (t9.of h1),?_⟩;rw[q1.length];exact q _ _ (au.refl _) rfl
def dList:List D->Option D
 |[.lst ds]=>some (.lst ds)
 |[.tup ds]=>some (.lst ds)
 |_=>none
def Nb:List D->Option D
 |[.int i,.int j]=>some (.int (if j>i then j else i))
 |_=>none
def Na:List D->Option D
 |[.int i,.int j]=>some (.int (if j<i then j else i))
 |_=>none
theorem pF {W:Addr->Prop}{H:Hp}{a b:D}{xs:List V}(h:ji X W H [a,b] xs):∃x y,xs=[x,y]/\Rp X W H a x/\Rp X W H b y:=by
 obtain⟨x,r,rfl,hx,y,r',rfl,hy,hr⟩:=h;cases hr;exact⟨x,y,rfl,hx,hy⟩
theorem jh {W:Addr->Prop}{H:Hp}{a:D}{xs:List V}(h:ji X W H [a] xs):∃x,xs=[x]/\Rp X W H a x:=by
 obtain⟨x,r,rfl,hx,hr⟩:=h;cases hr;exact⟨x,rfl,hx⟩
theorem vA (hc:X.calm=true):bH X (.builtin "max") Nb:=by
 intro pins s σ H xs us Q I r h;obtain⟨W,ds,d,hd,r1,e,q⟩:=h
 match ds,e with
 |[.int i,.int j],e =>
  cases e;obtain⟨x,y,rfl,hx,hy⟩:=pF r1;cases hx;cases hy;exact pz hc pins s σ H _ us Q I r ⟨i,j,rfl,q _ _ (au.refl _) rfl⟩
theorem ij (hc:X.calm=true):bH X (.builtin "min") Na:=by
 intro pins s σ H xs us Q I r h;obtain⟨W,ds,d,hd,r1,e,q⟩:=h
 match ds,e with
 |[.int i,.int j],e =>
  cases e;obtain⟨x,y,rfl,hx,hy⟩:=pF r1;cases hx;cases hy;exact yJ hc pins s σ H _ us Q I r ⟨i,j,rfl,q _ _ (au.refl _) rfl⟩
def RE:List D->Option D
 |[.int i]=>some (.int i)
 |[.bl k]=>some (.int (if k then 1 else 0))
 |_=>none
theorem yM:bH X (.type "int") RE:=by
 intro pins s σ H xs us Q I r h;obtain⟨W,ds,d,hd,r1,e,q⟩:=h
 match ds,e with
 |[.int i],e =>
  cases e;obtain⟨x,rfl,hx⟩:=jh r1;cases hx;exact jL pins s σ H _ us Q I r (.inl ⟨i,rfl,q _ _ (au.refl _) rfl⟩)
 |[.bl k],e =>
  cases e;obtain⟨x,rfl,hx⟩:=jh r1;cases hx;exact jL pins s σ H _ us Q I r (.inr ⟨k,rfl,q _ _ (au.refl _) rfl⟩)
end
abbrev zd:=List (Option D)
abbrev JS:=zd->(D->Prop)->Prop
abbrev ua:=zd->(List D->Prop)->Prop
def vH (P:WI)(w:W6)(W:Addr->Prop)(H:Hp)(σ:St)(ρ:zd):Prop:=∀(i:Nat) (d:D),ρ[i]?=some (some d)->∃v,σ[i]?=some (some v)/\az P w W H d v
theorem vH.keep {P:WI}{w:W6}{W:Addr->Prop}{H H':Hp}{σ:St}{ρ:zd}(e:vH P w W H σ ρ)(k:Kp W H H'):vH P w W H' σ ρ:=λi d h=>by
 obtain⟨v,h1,h2⟩:=e i d h;exact⟨v,h1,h2.keep k⟩
theorem vH.same {P:WI}{w:W6}{W:Addr->Prop}{H H':Hp}{σ:St}{ρ:zd}(e:vH P w W H σ ρ)(s:au H H'):vH P w W H' σ ρ:=e.keep s.kp
theorem PE.pre {X:Cx}{e:Expr}{t t':TE}(h:PE X e t)(k:∀σ H Q,t' σ H Q->t σ H Q):PE X e t':=λpins s σ H Q I q=>h pins s σ H Q I (k σ H Q q)
theorem PT.pre {X:Cx}{e:Expr}{t t':TT}(h:PT X e t)(k:∀σ H Q,t' σ H Q->t σ H Q):PT X e t':=λpins s σ H Q I q=>h pins s σ H Q I (k σ H Q q)
theorem PA.pre {X:Cx}{es:List Expr}{t t':TA}(h:PA X es t)(k:∀σ H Q,t' σ H Q->t σ H Q):PA X es t':=λpos pins s σ H Q I q=>h pos pins s σ H Q I (k σ H Q q)
structure Kl (P:WI)(w:W6)(W:Addr->Prop)(σ:St)(H:Hp)(ρ:zd):Prop where
 dm:Dm W H
 env:vH P w W H σ ρ
abbrev SE (X:Cx):(Addr->Prop)->St->Hp->zd->Prop:=Kl X.prog X.w
theorem Kl.same {P:WI}{w:W6}{W:Addr->Prop}{σ:St}{H H':Hp}{ρ:zd}(e:Kl P w W σ H ρ)(s:au H H'):Kl P w W σ H' ρ:=⟨e.dm.same s,e.env.same s⟩
def tD (X:Cx)(φ:JS):TE:=λσ H Q=>∃W ρ,SE X W σ H ρ/\φ ρ λd=>∀v H',au H H'->Rp X W H' d v->Q v H'
def KA (X:Cx)(φ:ua):TA:=λσ H Q=>∃W ρ,SE X W σ H ρ/\φ ρ λds=>∀vs H',au H H'->ji X W H' ds vs->Q vs H'
structure PV (X:Cx)(e:Expr)(φ:JS):Prop where
 mono:∀ρ R R',(∀d,R d->R' d)->φ ρ R->φ ρ R'
 pe:PE X e (tD X φ)
structure Nn (X:Cx)(es:List Expr)(φ:ua):Prop where
 mono:∀ρ R R',(∀d,R d->R' d)->φ ρ R->φ ρ R'
 pa:PA X es (KA X φ)
section
variable {X:Cx}{a e:Expr}{es:List Expr}{φ:JS}{φs:ua}{pos:Pos}{W:Addr->Prop}{σ:St}{H:Hp}{ρ:zd}
theorem tD.of (h:PV X e φ)(se:SE X W σ H ρ){R:D->Prop}{Q:VK}(hr:φ ρ R)(k:∀d v H',R d->au H H'->Rp X W H' d v->Q v H'):tD X φ σ H Q :=
 ⟨W,ρ,se,h.mono ρ _ _ (λd hd v H' s r=>k d v H' hd s r) hr⟩
theorem KA.of (h:Nn X es φs)(se:SE X W σ H ρ){R:List D->Prop}{Q:List V->Hp->Prop}(hr:φs ρ R)(k:∀ds vs H',R ds->au H H'->ji X W H' ds vs->Q vs H'):KA X φs σ H Q :=
 ⟨W,ρ,se,h.mono ρ _ _ (λd hd v H' s r=>k d v H' hd s r) hr⟩
def Ro (i:Nat):JS:=λρ R=>∃d,ρ[i]?=some (some d)/\R d
theorem eF {i:Nat}{x:Str}(hN:X.N[i]?=some x:=by rfl)(hv:xm X.env.scope x:=by first|exact .inl rfl|exact .inr (.inl rfl)|exact .inr (.inr rfl))(hd:(x==("__debug__" : Str))=false:=by decide)(ir:(x==("__classdict__" : Str))=false:=by decide):
  PV X (.Name x pos) (Ro i):=⟨λρ R R' k Qm=> by obtain⟨d,e,h⟩ := Qm;exact⟨d,e,k d h⟩,(dG hN hv hd ir).pre λσ H Q Ql=> by
 obtain⟨W,ρ,se,d,e,q⟩ := Ql;obtain⟨v,h1,h2⟩:=se.env i d e;exact⟨v,h1,q v H (au.refl _) h2⟩⟩
theorem PW.pre {t t':TT}(h:PW X e t)(k:∀σ H Q,t' σ H Q->t σ H Q):PW X e t':=λw pins s σ H Q I q=>h w pins s σ H Q I (k σ H Q q)
def Rq:ua:=λ_ R=>R []
def M5 (φ:JS)(φs:ua):ua:=λρ R=>φ ρ λd=>φs ρ λds=>R (d::ds)
theorem DB:Nn X [] Rq:=⟨λρ R R' k h=>k _ h,cN.pre λσ H Q Qj=> by obtain⟨W,ρ,se,q⟩ := Qj;exact q [] H (au.refl _) rfl⟩
theorem rK (ha:PV X a φ)(hr:Nn X es φs)(hs:WZ (a::es) X.env=(false,eval a X.env)::WZ es X.env:=by rfl):Nn X (a::es) (M5 φ φs) :=
 ⟨λρ R R' k h=>ha.mono ρ _ _ (λd q=>hr.mono ρ _ _ (λds q2=>k _ q2) q) h,(bf ha.pe hr.pa hs).pre λσ H Q ⟨W,ρ,se,h⟩ =>
  tD.of ha se h λd1 v1 H1 h1 s1 r1=>KA.of hr (se.same s1) h1 λds vs H2 q s2 r2=>q (v1::vs) H2 (s1.trans s2) (.cons (r1.same s2) r2)⟩
end
abbrev FD:=List D->(D->Prop)->Prop
def c5 (F:FD):Prop:=∀ds R R',(∀d,R d->R' d)->F ds R->F ds R'
section
end
section
variable {X:Cx}{e:Expr}{pos:Pos}{σ:St}{H:Hp}
theorem GD.pre {ops:List Z1}{rs:List Expr}{t t':V->TE}(h:GD X ops rs t)(k:∀x σ H Q,t' x σ H Q->t x σ H Q):GD X ops rs t':=λpos pins s σ H x v Q I r q=>h pos pins s σ H x v Q I r (k x σ H Q q)
theorem vG.pre {ops:List Z1}{rs:List Expr}{t t':V->TT}(h:vG X ops rs t)(k:∀x σ H Q,t' x σ H Q->t x σ H Q):vG X ops rs t':=λpos pins s σ H x v Q I r q=>h pos pins s σ H x v Q I r (k x σ H Q q)
theorem PO.pre {e:Option Expr}{t t':TO}(h:PO X e t)(k:∀σ H Q,t' σ H Q->t σ H Q):PO X e t':=λpins s σ H Q I q=>h pins s σ H Q I (k σ H Q q)
end
abbrev NF:D->Prop:=λd=>d.flat=true
section
abbrev NL:D->Prop:=λd=>match d with | .lst ds=>D.bR ds=true|d=>d.flat=true
end
section
variable {P:WI}{w:W6}{W W':Addr->Prop}{H:Hp}
mutual
theorem az.grow (s:∀a,W' a->W a\/H a=none):∀{d:D} {v:V},az P w W H d v->az P w W' H d v
 |.bU,_,h=>h
 |.bl _,_,h=>h
 |.int _,_,h=>h
 |.str _,_,h=>h
 |.obj _,_,h=>h
 |.tup ds,_,⟨a,vs,e,t,r⟩=>⟨a,vs,e,t,ah.grow s r⟩
 |.lst ds,_,⟨a,vs,e,t,n,r⟩=>⟨a,vs,e,t,λz=>(s a z).elim n λq=>(by rw[t]at q;cases q),ah.grow s r⟩
 |.dT ks ds,_,⟨a,vs,e,t,l,n,r⟩=>⟨a,vs,e,t,l,λz=>(s a z).elim n λq=>(by rw[t]at q;cases q),ah.grow s r⟩
 |.dK ks ds,_,⟨a,vs,e,t,l,n,r⟩=>⟨a,vs,e,t,l,λz=>(s a z).elim n λq=>(by rw[t]at q;cases q),ah.grow s r⟩
 |.sT ts,_,⟨a,e,⟨c8,t,r,z⟩,n⟩=>⟨a,e,⟨c8,t,r,z⟩,λz=>(s a z).elim n λq=>(by rw[t]at q;cases q)⟩
theorem ah.grow (s:∀a,W' a->W a\/H a=none):∀{ds:List D} {vs:List V},ah P w W H ds vs->ah P w W' H ds vs
 |[],_,h=>h
 |d::ds,_,⟨v,r,e,h1,h2⟩=>⟨v,r,e,az.grow s h1,ah.grow s h2⟩
end
end
def VP (X:Cx)(W:Addr->Prop)(J:It)(ds:List D)(H0:Hp):Prop:=∀(i:Nat) (H:Hp),Kp W H0 H ->
 (∀d,ds[i]?=some d->J.go i H/\∀x H1,J.Ko i H x H1->au H H1/\Rp X W H1 d x)/\(ds.length<=i->J.stop i H)
def yT (X:Cx)(W:Addr->Prop)(J:It)(ds:List D)(H0:Hp):Prop:=∀W':Addr->Prop,(∀b,W' b->W b\/H0 b=none)->VP X W' J ds H0
abbrev JR:=zd->(List D->Prop)->Prop
structure Tu (X:Cx)(tg iter:Expr)(ι:JR):Prop where
 mono:∀ρ R R',(∀d,R d->R' d)->ι ρ R->ι ρ R'
 pi:PI X tg iter λσ H R=>∃W ρ,SE X W σ H ρ/\ι ρ λds=>∀J H',au H H'->yT X W J ds H'->R J H'
section
variable {X:Cx}{tg e:Expr}
theorem PI.pre {iter:Expr}{t t':TI}(h:PI X tg iter t)(k:∀σ H R,t' σ H R->t σ H R):PI X tg iter t':=λpins s σ H R I q=>h pins s σ H R I (k σ H R q)
theorem sH {W:Addr->Prop}{H:Hp}{p:Addr}{vs:List V}{ds:List D}(h1:H p=some (.lst vs))(n1:¬ W p)(q1:ji X W H ds vs):yT X W (OA X.K p) ds H:=λW' hW i H' k=>by
 have h2:=k.out p _ h1 λz=>(hW p z).elim n1 λq=>by rw[h1]at q;cases q
 replace q1:=ah.grow hW q1;constructor
 ·intro d hd;obtain⟨v,hv,rv⟩:=ah.get q1 hd;refine⟨⟨vs,v,c0.of h2,hv⟩,λx H1 y=>?_⟩;obtain⟨rfl,y⟩:=y;have e:=y vs (c0.of h2);rw[hv]at e;cases e;exact⟨au.refl _,rv.keep k⟩
 ·intro hl;exact⟨vs,c0.of h2,by rw[q1.length];exact hl⟩
def pV (lo:Int)(n:Nat):List D:=(WK n).map λ(k:Nat)=>D.int (lo+(k:Int))
theorem jE {W:Addr->Prop}{H:Hp}{lo:Int}{n:Nat}:yT X W (Nv lo n) (pV lo n) H:=λ_ _ i H' k=>by
 constructor
 ·intro d hd;unfold pV at hd;rw[WU]at hd;have hi:i<n:=by
   by_cases h:i<n
   ·exact h
   ·rw[Xw (by simpa using h)]at hd;cases hd
  rw[YD hi]at hd;cases hd;refine⟨hi,λx H1 y=>?_⟩;obtain⟨rfl,rfl⟩:=y;exact⟨au.refl _,rfl⟩
 ·intro hl;unfold pV at hl;rw[WB,Xh]at hl;exact hl
end
section
variable {X:Cx}{tg:Expr}{xv:List Expr}
theorem PG.pre {t t':TG}(h:PG X tg t)(k:∀v σ H Q,t' v σ H Q->t v σ H Q):PG X tg t':=λpins s σ H v u Q I r q=>h pins s σ H v u Q I r (k v σ H Q q)
theorem GC.pre {t t':Gy}(h:GC X xv t)(k:∀v σ H Q,t' v σ H Q->t v σ H Q):GC X xv t':=λpins s σ H v u Q I r q=>h pins s σ H v u Q I r (k v σ H Q q)
end
theorem mh {H:Hp}{a:Addr}{o o':HO}(h:H a=some o)(ht:∀xs,o≠.tup xs):Kp (·=a) H (upd H a o') :=
 ⟨λb u e n=>by rw[ar n];exact e,λb xs e=>by rw[ar (FU e h (λz=>ht xs z.symm))];exact e⟩
section
end
section
end
section
end
section
variable {σ:St}{β:a7}{own:Nat->List Addr}
def aR (own:Nat->List Addr)(i:Nat)(as:List Addr):Nat->List Addr:=λj=>if j=i then as else own j
theorem bV {own:Nat->List Addr}{i j:Nat}{a:Addr}(h:a∈aR own i [] j):a∈own j/\j≠i:=by
 unfold aR at h
 by_cases e:j=i
 ·rw[if_pos e]at h;cases h
 ·rw[if_neg e]at h;exact⟨h,e⟩
theorem bw {α:Type}{β:List α}{i j:Nat}{x:α}(h:i≠j):(β.set i x)[j]?=β[j]?:=by rw[Zc,if_neg h]
theorem bD {α:Type}{β:List α}{i:Nat}{x y:α}(h:(β.set i x)[i]?=some y):y=x/\i<β.length:=by
 rw[Zc,if_pos rfl]at h
 by_cases hi:i<β.length
 ·rw[if_pos hi]at h;cases h;exact⟨rfl,hi⟩
 ·rw[if_neg hi]at h;cases h
theorem get_set {α:Type}{σ:List α}{i:Nat}{x:α}(h:i<σ.length):(σ.set i x)[i]?=some x:=by rw[Zc,if_pos rfl,if_pos h]
end
structure Sn (Z:Hp×(Addr->Prop))(H:Hp)(W:Addr->Prop):Prop where
 w:∀b,W b->Z.2 b\/Z.1 b=none
 k:Kp (λb=>Z.2 b\/Z.1 b=none) Z.1 H
 d:∀b,Z.1 b≠none->H b≠none
theorem Sn.refl {H:Hp}{W:Addr->Prop}:Sn (H,W) H W:=⟨λ_ z=>.inl z,Kp.refl,λ_ z=>z⟩
theorem Sn.same {Z:Hp×(Addr->Prop)}{H H':Hp}{W:Addr->Prop}(n:Sn Z H W)(s:au H H'):Sn Z H' W:=⟨n.w,n.k.trans s.kp,λb z e=>n.d b z (s.free e)⟩
theorem Sn.free {Z:Hp×(Addr->Prop)}{H:Hp}{W:Addr->Prop}(n:Sn Z H W){a:Addr}(h:H a=none):Z.1 a=none:=by
 cases q:Z.1 a with
 |none=>rfl
 |some o=>exact absurd h (n.d a (by rw[q];intro z;cases z))
theorem Sn.upd {Z:Hp×(Addr->Prop)}{H:Hp}{W:Addr->Prop}(n:Sn Z H W){a:Addr}{o o':HO}(h:H a=some o)(ht:∀xs,o≠.tup xs)(wa:W a):Sn Z (L2.upd H a o') W :=
 ⟨n.w,n.k.trans ((mh h ht).mono λb z=>by rw[z];exact n.w a wa),λb z e=>by
  by_cases hb:b=a
  ·subst hb;rw[aw]at e;cases e
  ·rw[ar hb]at e;exact n.d b z e⟩
theorem Sn.trans {Z:Hp×(Addr->Prop)}{H1 H:Hp}{W1 W:Addr->Prop}(n1:Sn Z H1 W1)(n:Sn (H1,W1) H W):Sn Z H W:=by
 have big:∀b,W1 b\/H1 b=none->Z.2 b\/Z.1 b=none:=λb z=>z.elim (n1.w b) λq=>.inr (n1.free q);exact⟨λb z=>big b (n.w b z),n1.k.trans (n.k.mono big),λb z=>n.d b (n1.d b z)⟩
section
variable {X:Cx}{st:Stmt}{rest:List Stmt}{σ:St}{H:Hp}
theorem PS.pre {t t':TS}(h:PS X st t)(k:∀D σ H,t' D σ H->t D σ H):PS X st t':=λpins s σ H D I q=>h pins s σ H D I (k D σ H q)
theorem uo.pre {t t':TS}(h:uo X rest t)(k:∀D σ H,t' D σ H->t D σ H):uo X rest t':=λpins s σ H D I q=>h pins s σ H D I (k D σ H q)
end
section
variable {b:Expr}{H:Hp}
theorem held {P:WI}{w:W6}{W W2:Addr->Prop}{H2:Hp}{d:D}{v:V}(r:az P w W H d v)(n:Sn (H,W) H2 W2):az P w W2 H2 d v :=
 az.aV n.w (az.keep n.k (az.grow (λb z=>z) r))
end
theorem Sn.kp {Z:Hp×(Addr->Prop)}{H H':Hp}{W:Addr->Prop}(n:Sn Z H W)(k:Kp W H H')(dn:∀c,H c≠none->H' c≠none):Sn Z H' W:=⟨n.w,n.k.trans (k.mono n.w),λb z=>dn b (n.d b z)⟩
section
end
section
end
end L2
namespace VQ
open PySem PySem.Spec PyProof.Rows
section
open PySem.SeqAt
open PySem.AutoSeq1 (wpAny_loadPart')
open PySem.MeetsSeq PySem.MeetsSeq2 PySem.MeetsSeq3
end
section
end
section
open PySem.SeqAt
open PySem.AutoSeq1 (wpAny_loadPart')
open PySem.MeetsSeq PySem.MeetsSeq2 PySem.MeetsSeq3
end
section
end
end VQ
namespace L2
open PySem PySem.Spec PySem.SeqAt PyProof.Rows
def bp:List D->Option (List Int)
 |[]=>some []
 |.int i::ds=>(bp ds).map (i::·)
 |_::_=>none
theorem sJ:∀{ds:List D} {ns:List Int},bp ds=some ns->ds=ns.map D.int
 |[],_,h=>by cases h;rfl
 |.int i::ds,_,h=>by
  obtain⟨ns,h1,rfl⟩:=W8.mp h;rw[W_,<- sJ h1]
 |.bU::_,_,h=>by cases h
 |.bl _::_,_,h=>by cases h
 |.str _::_,_,h=>by cases h
 |.obj _::_,_,h=>by cases h
 |.tup _::_,_,h=>by cases h
 |.lst _::_,_,h=>by cases h
 |.dT _ _::_,_,h=>by cases h
 |.dK _ _::_,_,h=>by cases h
 |.sT _::_,_,h=>by cases h
theorem oO:∀(ns:List Int),bp (ns.map D.int)=some ns
 |[]=>rfl
 |n::ns=>by rw[W_];show (bp (ns.map D.int)).map _=_;rw[oO ns];rfl
theorem bM {P:WI}{w:W6}{W:Addr->Prop}{H:Hp}:∀{ns:List Int} {vs:List V},ah P w W H (ns.map D.int) vs->vs=ns.map V.int
 |[],_,h=>h
 |n::ns,_,⟨v,r,e,h1,h2⟩=>by rw[e,bM h2,show v=V.int n from h1];rfl
theorem oN {P:WI}{w:W6}{W:Addr->Prop}{H:Hp}:∀(ns:List Int),ah P w W H (ns.map D.int) (ns.map V.int)
 |[]=>rfl
 |n::ns=>⟨_,_,rfl,rfl,oN ns⟩
section
end
end L2
namespace TS
open PySem PyProof.Rows
section
variable {prog:WI}{w:W6}{A:XA}{E:WC->WE->Prop}{s:WE}
theorem uJ {x:WC}{vs:List WC}{kf:WC->List Int}{Q:WC->WE->Prop}(hz:vs.length<=1000000)
  (col:∀(B:XA) (R:List WC->WE->Prop),B.units<=A.units+1->(∀(h':Heap) (tk:Nat),(∀b o,s.heap.get? b=some o->h'.get? b=some o)->s.heap.objs.size<=h'.objs.size->R vs {s with heap:=h',toks:=tk})->Xb (model prog w) B (collect x) R E s)
  (T:nP s.heap kf s.heap.objs.size vs)
  (h:∀(out:List WC) (l:Addr) (h':Heap) (tk:Nat) (n:Nat),out.Perm vs->out.Pairwise (λx y=>HT.lexLt (kf y) (kf x)=false)->s.heap.objs.size<=l->(∀b o,s.heap.get? b=some o->h'.get? b=some o)->h'.get? l=some (YE "list" out.toArray n)->Q (.ref l) {s with heap:=h',toks:=tk}) :
  Xb (model prog w) A (call (.builtin "sorted") [x]) Q E s:=by
 refine Z4 kind_sorted plain_sorted entry_sorted (args_sorted1 _) ?_;unfold Y3.«sorted»
 refine WA (m:=checkCount "sorted" 1 1 _) (WJ ?_);refine WA (col A.in1 _ (WD _) λh' tk kp PM=>?_);have nl:vs.length<=W7:=by rw[XO];lia
 refine WA (wpAny_newList ?_ nl);have hl:(h'.push (YE "list" vs.toArray 0)).get? h'.objs.size=some (YE "list" vs.toArray 0):=Xc _ rfl;have T':nP (h'.push (YE "list" vs.toArray 0)) kf h'.objs.size vs:=λv hv=>by
  obtain⟨t,o,xs,k,e1,_,e3,r⟩:=T v hv;exact⟨t,o,xs,k,e1,Xk (W5 (kp _ _ e3)),WH _ (kp _ _ e3),r⟩
 refine WA (Yd (Ye slot_list_sort ⟨_,hl,rfl⟩ entry_list_sort (l7 (s:={s with heap:=h'.push (YE "list" vs.toArray 0),toks:=tk}) hl hz T' λout hp hs=>⟨_,rfl,?_⟩) (args_list_sort _)))
 obtain⟨n,hn⟩:=sortedHeap_at (out:=out.toArray) hl;refine WJ ⟨_,rfl,h out h'.objs.size _ tk n hp hs PM (λb o e=>?_) hn⟩;have hb:=W5 (kp _ _ e);rw[sortedHeap_old (Xk hb) (by rw[size_push'];exact Zb hb)]
 exact WH _ (kp _ _ e)
end
end TS
namespace L2
open PySem PySem.Spec PyProof.Rows
def sG (H:Hp):WC->List Int
 |.ref t=>match H t with
  |some (.tup xs)=>xs.filterMap fun
   |.int i=>some i
   |_=>none
  |_=>[]
 |_=>[]
theorem sY:∀ns:List Int,((ns.map V.int).filterMap fun
   |.int i=>some i
   |_=>none)=ns
 |[]=>rfl
 |n::ns=>by
  rw[W_,XS];dsimp only;rw[sY ns]
theorem iT {H:Hp}{t:Addr}{ns:List Int}(h:H t=some (.tup (ns.map V.int))):sG H (.ref t)=ns:=by
 unfold sG;dsimp only;rw[h];exact sY ns
def Gi (H:Hp):WC->Addr×List Int
 |.ref t=>(t,sG H (.ref t))
 |_=>(0,[])
abbrev vF (H:Hp)(ts:List (Addr×List Int)):Prop:=∀t∈ts,H t.1=some (.tup (t.2.map V.int))/\t.2≠[]
abbrev pP (t:Addr×List Int):V:=.ref t.1
theorem f9:∀{ts:List (Addr×List Int)} {us:List WC},Vals (ts.map pP) us->us=ts.map λt=>Value.ref t.1
 |[],_,.nil=>rfl
 |t::ts,_,.cons r q=>by
  rw[W_,<- f9 q];cases r;rfl
theorem ju:∀(ts:List (Addr×List Int)),Vals (ts.map pP) (ts.map λt=>Value.ref t.1)
 |[]=>.nil
 |t::ts=>.cons rfl (ju ts)
theorem oj {H:Hp}{ts:List (Addr×List Int)}(T:vF H ts){out:List WC}(hp:out.Perm (ts.map λt=>Value.ref t.1)):out=(out.map (Gi H)).map (λt=>Value.ref t.1)/\(out.map (Gi H)).Perm ts:=by
 constructor
 ·rw[XD];refine(Xe (g:=id) λv hv=>?_).trans (List.map_id _) |>.symm
  obtain⟨t,ht,rfl⟩:=WT.mp (hp.mem_iff.mp hv);rfl
 ·refine(hp.map (Gi H)).trans (ZN ?_);rw[XD];refine(Xe (g:=id) λt ht=>?_).trans (List.map_id _);show (t.1,sG H (.ref t.1))=t;rw[iT (T t ht).1]
theorem vM {P:WI}{w:W6}{H:Hp}{h:Heap}{ts:List (Addr×List Int)}(ok:ip P w H h)(T:vF H ts){a:Addr}(ha:h.objs.size<=a):TS.nP h (sG H) a (ts.map λt=>Value.ref t.1):=λv hv=>by
 obtain⟨t,ht,rfl⟩:=WT.mp hv;obtain⟨h1,h2⟩:=T t ht;obtain⟨_,its,r,o,ho,hc,n,hd⟩:=(show a6 P w H h t.1 (.tup (t.2.map V.int)) from ok _ _ h1)
 exact⟨t.1,o,_,n,rfl,Xk (Xn (W5 ho) ha),ho,hc,hd,by rw[iT h1];exact intsAre_of (by simpa using r),by rw[iT h1];exact h2⟩
section
variable {X:Cx}
theorem qH:eU X (.builtin "sorted") (λxs H Q=>∃(p:Addr) (ts:List (Addr×List Int)),xs=[.ref p]/\c0 X.K H p (ts.map pP)/\vF H ts/\ts.length<=1000000 /\
  ∀(l:Addr) (c8:List (Addr×List Int)),H l=none->c8.Perm ts->c8.Pairwise (λx y=>HT.lexLt y.2 x.2=false)->Q (.ref l) (upd H l (.lst (c8.map pP)))):=by
 intro pins s σ H xs us Q I r h;obtain⟨p,ts,rfl,hq,T,hz,q⟩:=h;obtain⟨u,rfl,rx⟩:=vals1 r;cases rx;obtain⟨its,r',pl,hl⟩:=I.list hq;obtain rfl:=f9 r';have nl:(ts.map λt=>Value.ref t.1).length<=W7:=by rw[WB,XO];lia
 refine TS.uJ (kf:=sG H) (by rw[WB];exact hz) (λB R _ hR=>?_) (vM I.bx T (WD _)) λout l h' tk n hp hs hle kp ho=>?_
 ·refine collect_list pl.isList (hR _ s.toks (λb o e=>?_) ?_) nl
  ·have hb:=W5 e;rw[Heap.get?_update_ne _ _ _ _ (Xk hb)];exact WH _ e
  ·rw[Heap.size_update,size_push'];exact Nat.le_succ _
 ·obtain⟨e1,e2⟩:=oj T hp;have zl:out.length=ts.length:=by rw[hp.length_eq,WB]
  refine⟨.ref l,_,I.laid (t':=tk) (o:=.lst ((out.map (Gi H)).map pP)) kp hle ?_,rfl,q l _ (I.bx.fresh hle) e2 ?_⟩
  ·refine⟨by rw[WB,WB,zl,XO];lia,out,n,?_,ho⟩
   have:=ju (out.map (Gi H));rw[<- e1]at this;exact this
  ·rw[XW];refine hs.imp_of_mem λ{x y} hx hy hh=>?_;obtain⟨t,ht,rfl⟩:=WT.mp (hp.mem_iff.mp hx);obtain⟨t',N2,rfl⟩:=WT.mp (hp.mem_iff.mp hy);exact hh
end
end L2
namespace ST
open PySem PyProof.Rows
section
variable {prog:WI}{w:W6}{A:XA}{E:WC->WE->Prop}{s:WE}
variable {a b:Addr}{o:Obj}{ts:List (Addr×List Int)}{es:Array (Int×WC)}{ep:Nat}{t:SetTable}{k:List Int}
theorem cI.at (S:cI prog w o ts es ep t){i:Nat}(hi:i<t.place.size):∃x,ts[i]?=some x/\es[i]?=some (ent prog w x):=by
 have hl:i<ts.length:=by rw[<- S.size.2];exact hi
 exact⟨ts[i],WR hl,by rw[<- W9,S.Jz,WU,WR hl];rfl⟩
theorem AQ (S:cI prog w o ts es ep t):t.gaveWay=false:=by
 obtain⟨j,hj,e⟩:=S.wf.FV;unfold SetTable.gaveWay;rw[e];obtain⟨i,rfl⟩:∃i,j=i+1:=⟨j-1,by lia⟩
 have:0<2 ^ i:=Nat.pow_pos (by decide)
 rw[ZS];have:(2 ^ i*2-1) % 2=1:=by lia
 rw[this];rfl
theorem ng (ho:s.heap.get? a=some o)(S:cI prog w o ts es ep t)(T:Fw prog w s.heap ts)(hk:(TK prog w).is s.heap k b)(hu:A.units<Y4){jP:Bool}{N:Nat}{Q:SetFound->WE->Prop}
  (hN:¬ qP t (cw t.mask (kH prog w k) N)) (hO:∀x,x<N->qP t (cw t.mask (kH prog w k) x)) (Wt:N<10*SetTable.turns t.mask)
  (Qf:(∀x∈ts,x.2≠k)->Q (.free (cw t.mask (kH prog w k) N) false) s) (Qt:∀i:Option Nat,(∃x∈ts,x.2=k)->(jP=false->i.isSome=true)->Q (.there i) s) :
  ∀(d n f:Nat) (zG:Option SetTable.Probe),zG.getD (OV t.mask (kH prog w k))=fE t.mask (kH prog w k) n->n+d=N->d<f ->
   (∀m,m<n->∀i x,i<t.place.size->g t.place i=cw t.mask (kH prog w k) m->ts[i]?=some x->x.2≠k) ->
   Xb (model prog w) A (setSearchFrom a (.ref b) (kH prog w k) jP f zG) Q E s:=by
 intro d
 induction d using Nat.strongRecOn with
 |_ d ih =>
  intro n f zG L4 nC Oa MY;obtain⟨f,rfl⟩:∃f',f=f'+1:=⟨f-1,by lia⟩
  unfold setSearchFrom;refine WA (Yz ho S.dat S.fits ?_);dsimp only;rw[AQ S,if_neg (by simp)]
  rw[G6,L4];generalize S5:SetTable.probe t _ (kH prog w k) (fE t.mask (kH prog w k) n)=pr;have hash:∀i x,i<t.place.size->ts[i]?=some x->(es[i]?.map (·.1)).getD 0=kH prog w x.2:=λi x hi hx=>by
   obtain⟨y,h1,h2⟩:=S.at hi;rw[hx]at h1;obtain rfl:=Xp h1;rw[h2];rfl
  rcases rL S.wf (λi=>(es[i]?.map (·.1)).getD 0) (kH prog w k) hN hO d n (10*SetTable.turns t.mask) nC (by lia)with⟨q1,q2⟩|⟨m,i,q1,q2,q3,q4,q5,q6,q7⟩
  ·have e:pr=some (.empty (cw t.mask (kH prog w k) N) none):=S5.symm.trans q1;rw[e];dsimp only;refine WJ (Qf λx hx ED=>?_);obtain⟨i,hi⟩:=List.getElem?_of_mem hx;have Gb:i<t.place.size:=by
    rw[S.size.2];exact(W3.mp hi).1
   obtain⟨n',g1,g2⟩:=S.wf.Sh i (kH prog w x.2) (by rw[WU,hi];rfl)
   rw[ED]at g1 g2;have EH:n'<N:=by
    rcases X0 n' N with z|z
    ·exact z
    ·rcases X0 N n' with z2|z2
     ·exact absurd (g2 N z2) hN
     ·obtain rfl:N=n':=by lia
      exact absurd ⟨i,Gb,g1.symm⟩ hN
   rcases X0 n' n with z|z
   ·exact MY n' z i x Gb g1.symm hi ED
   ·exact q2 n' z EH i Gb g1.symm (by rw[hash i x Gb hi,ED])
  ·have e:pr=some (.candidate (cw t.mask (kH prog w k) m) i (fE t.mask (kH prog w k) (m+1))):=S5.symm.trans q6;rw[e];dsimp only;obtain⟨x,F5,LW⟩:=S.at q3;have LV:x∈ts:=XB F5;have F8:t.slot (cw t.mask (kH prog w k) m)=.live i:=by rw[<- q4];exact n9 S.wf.xQ q3
   refine(λ(key:?G)=>?main) ?key
   case main =>
    cases hl:t.led with
    |true =>
     rw[if_neg (by simp)]
     exact key
    |false =>
     rw[if_pos (by simp)]
     have Qb:(es.filter (·.1==kH prog w k)).toList.map (·.2)=(ts.filter λx=>kH prog w x.2==kH prog w k).map λx=>Value.ref x.1:=by
      rw[Array.toList_filter,S.Jz,List.filter_map,XD];rfl
     rw[Qb];refine WA (C0 hk _ (λy hy=>T y (WW.mp hy).1) ?_);rw[if_neg (by simp)]
     exact key
   case key =>
    rw[LW];dsimp only;refine WA (Yd ((TK prog w).eqBool hu (T x LV) hk ?_));refine WA (Yz ho S.dat S.fits ?_);dsimp only;have F7:t.sameMemory t.moves t.mask=some true:=by
     unfold SetTable.sameMemory;rw[if_pos (beq_self_eq_true _)]
    by_cases ED:x.2=k
    ·rw[decide_eq_true ED];cases jP with
     |true =>
      rw[if_pos (by rfl)]
      exact WJ (Qt none ⟨x,LV,ED⟩ (λz=>by cases z))
     |false =>
      rw[if_neg (by simp),F7]
      dsimp only;rw[if_pos rfl,F8];dsimp only;rw[LW];dsimp only;refine WA (wpAny_isSame_ref_self ?_);rw[if_pos rfl];refine WA (WJ ?_);exact WJ (Qt (some i) ⟨x,LV,ED⟩ (λ_=>rfl))
    ·rw[decide_eq_false ED,if_neg (by simp),F7]
     dsimp only;rw[if_pos rfl,F8];dsimp only;rw[LW];dsimp only;refine WA (wpAny_isSame_ref_self ?_);rw[if_pos rfl];refine WA (WJ ?_);dsimp only;rw[if_neg (by simp)]
     refine ih (N-(m+1)) (by lia) (m+1) f _ rfl (by lia) (by lia) λm' MP i' x' h1 h2 h3=>?_
     rcases X0 m' n with z|z
     ·exact MY m' z i' x' h1 h2 h3
     ·by_cases e2:m'=m
      ·subst e2;obtain rfl:=S.wf.xQ.inj h1 q3 (h2.trans q4.symm);rw[F5]at h3;obtain rfl:=Xp h3;exact ED
      ·intro z2;exact q7 m' z (by lia) i' h1 h2 (by rw[hash i' x' h1 h3,z2])
end
theorem t6 (n:Nat):∀(f j:Nat),n<2 ^ (j+f)->∃j',j<=j'/\SetTable.sizeAbove.go n f (2 ^ j)=2 ^ j'/\n<2 ^ j'/\(j'=j\/2 ^ (j' - 1)<=n)
 |0,j,h=>⟨j,WD _,rfl,h,.inl rfl⟩
 |f+1,j,h=>by
  unfold SetTable.sizeAbove.go
  by_cases hc:2 ^ j<=n
  ·rw[if_pos hc,<- ZS];obtain⟨j',h1,h2,h3,h4⟩:=t6 n f (j+1) (by rw[show j+1+f=j+(f+1) by lia];exact h)
   refine⟨j',by lia,h2,h3,.inr ?_⟩
   rcases h4 with rfl|h4
   ·exact hc
   ·exact h4
  ·rw[if_neg hc];exact⟨j,WD _,rfl,by lia,.inl rfl⟩
theorem CC {n:Nat}(h:n<=4000):∃j,3<=j/\SetTable.sizeAbove n=2 ^ j/\n<2 ^ j/\2 ^ j<=8192:=by
 obtain⟨j,h1,h2,h3,h4⟩:=t6 n 64 3 (Nat.lt_of_le_of_lt h (by decide))
 refine⟨j,h1,h2,h3,?_⟩;rcases h4 with rfl|h4
 ·decide
 ·have:j-1<12:=by
   rcases X0 (j-1) 12 with z|z
   ·exact z
   ·have:2 ^ 12<=2 ^ (j-1):=YQ (by decide) z
    lia
  have:2 ^ j<=2 ^ 12:=YQ (by decide) (by lia)
  lia
theorem EN (d:Nat)(n:Int)(tk:Tok):hashByValue d (.int n tk)=pure true:=by
 cases d <;> rfl
section
variable {prog:WI}{w:W6}{A:XA}{E:WC->WE->Prop}{s:WE}
variable {a b:Addr}{o:Obj}{ts:List (Addr×List Int)}{es:Array (Int×WC)}{ep:Nat}{t:SetTable}{k:List Int}
theorem GN {Q:Bool->WE->Prop}(hk:(TK prog w).is s.heap k b)(q:Q true s):Xb (model prog w) A (hashByValue 8 (.ref b)) Q E s:=by
 obtain⟨o,items,n,ho,hc,hd,hi⟩:=hk;have hT:s.TypeIs (.ref b) "tuple" := ⟨o,ho,hc⟩;unfold hashByValue;refine WA (wpAny_specialOf hT F.slot_tuple_hash.lookup ?_);dsimp only;refine WA (Yy ho hd ?_);dsimp only[Option.getD_some];rw[<- Array.forIn_toList];refine WA (aac _ (λrest r s'=>r=(none,())/\s'=s/\∀v∈rest,∃n tk,v=Value.int n tk) _ ?_ ?_ _ _ ⟨rfl,rfl,?_⟩)
 ·rintro v rest r s' ⟨rfl,rfl,jH⟩;obtain⟨n,tk,rfl⟩:=jH v WO;rw[EN];refine WA (WJ ?_);rw[if_neg (by simp)]
  exact WJ ⟨rfl,rfl,λu hu=>jH u (WQ _ hu)⟩
 ·rintro r s' ⟨rfl,rfl,_⟩;exact WJ q
 ·generalize items.toList=vs at hi
  induction hi with
  |nil=>intro v hv;cases hv
  | @cons k v ks vs h1 h2 ih =>
   intro u hu;rcases WG.mp hu with rfl|hu
   ·obtain⟨t,rfl⟩:=Value.isInt_shape h1;exact⟨_,_,rfl⟩
   ·exact ih u hu
theorem xt (ho:s.heap.get? a=some o)(S:cI prog w o ts es ep t)(T:Fw prog w s.heap ts)(hk:(TK prog w).is s.heap k b)(hu:A.units<Y4){jP:Bool}{Q:SetFound->WE->Prop}
  (Qf:∀N,(∀x∈ts,x.2≠k)->¬ qP t (cw t.mask (kH prog w k) N)->(∀x,x<N->qP t (cw t.mask (kH prog w k) x))->Q (.free (cw t.mask (kH prog w k) N) false) s)
  (Qt:∀i:Option Nat,(∃x∈ts,x.2=k)->(jP=false->i.isSome=true)->Q (.there i) s) :
  Xb (model prog w) A (setSearch a (.ref b) (kH prog w k) jP) Q E s:=by
 obtain⟨N,h1,h2,h3⟩:=S.wf.first (kH prog w k)
 have hm:=S.FV;unfold setSearch;exact ng ho S T hk hu h2 h3 h1 (λq=>Qf N q h2 h3) Qt N 0 100000 none rfl (Yk N) (by unfold SetTable.turns at h1;lia) λm hm=>by lia
theorem wU {h:Heap}(ho:h.get? a=some o)(hd:o.data=.set es ep t)(eC:Array (Int×WC))(t':SetTable):(h.update a (Obj.putSet eC t')).get? a=some {o with data:=.set eC (ep+1) t'}:=by
 have e:=Heap.get?_update_self (Obj.putSet eC t') ho (by rw[putSet_of eC t' hd];rfl)
 rw[e,putSet_of eC t' hd]
theorem Ax {α:Type}(l:List α)(p:Nat)(x:α):(l.take p++x::l.drop p).Perm (x::l):=by
 refine aah.trans (List.Perm.cons x ?_);rw[YL]
theorem zj (ho:s.heap.get? a=some o)(hx:o.ExactSet)(hd:o.data=.set es ep t)(he:es.toList=ts.map (ent prog w))(hw:WF t (ts.map λx=>kH prog w x.2))(Wl:0<ts.length)(hn:ts.length<=1000)
  (QS:t.led=!w.params.followText "set-order") (hpl:t.plain=true) (nC:(ts.map (·.2)).Nodup) {Q:Unit->WE->Prop}
  (q:∀(c8:List (Addr×List Int)) (eC:Array (Int×WC)) (t':SetTable),c8.Perm ts->cI prog w {o with data:=.set eC (ep+1) t'} c8 eC (ep+1) t'->Q () {s with heap:=s.heap.update a (Obj.putSet eC t')}) :
  Xb (model prog w) A (setRelay a (SetTable.grown ts.length)) Q E s:=by
 have hz:es.size=ts.length:=by rw[<- WM,he,WB]
 have hp:t.place.size=ts.length:=by have:=hw.sz;rw[WB]at this;exact this
 have hf:t.fits es.size=true:=by
  unfold SetTable.fits SetTable.fill;rw[hw.Kc,hz,hp];have:=hw.room;simp;lia
 unfold setRelay;refine WA (Yz ho hd hf ?_);dsimp only;have hg:SetTable.grown ts.length=ts.length*4:=by unfold SetTable.grown;rw[if_neg (by lia)]
 rw[hg];obtain⟨j,j3,ja,jb,jc⟩:=CC (n:=ts.length*4) (by lia)
 rw[ja,if_neg (by rw[XO];lia)]
 have hs:(es.map (·.1)).size=ts.length:=by rw[Array.size_map,hz]
 obtain⟨t',order,e1,e2,e3,e4,e5,e6,e7,e8⟩:=Er (hs:=es.map (·.1)) j3 (by lia) t.finger (t.movedTo (2 ^ j-1)) t.led t.plain
 rw[hs]at e6 e8;have er:t.relaid (es.map (·.1)) (ts.length*4)=some (t',order):=by
  unfold SetTable.relaid;rw[ja];exact e1
 rw[er];have gd:∀i,i<ts.length->es[i]?=some (ent prog w (ts.getD i (0,[]))):=λi hi=>by
  rw[<- W9,he,WU,WR hi,Yc,WR hi];rfl
 have mz:(order.filterMap (es[·]?)).toList=(order.toList.map λi=>ts.getD i (0,[])).map (ent prog w):=by
  rw[Array.toList_filterMap,XD];have:∀l:List Nat,(∀i∈l,i<ts.length)->l.filterMap (es[·]?)=l.map (ent prog w ∘ λi=>ts.getD i (0,[])):=λl=>by
   induction l with
   |nil=>intro _;rfl
   |cons i l ih =>
    intro h;rw[XS,gd i (h i WO),W_,ih λy hy=>h y (WQ _ hy)];rfl
  exact this _ λi hi=>X8.mp (e6.mem_iff.mp hi)
 have BB:(order.toList.map λi=>ts.getD i (0,[])).Perm ts:=by
  refine(e6.map _).trans (ZN ?_);apply YB;intro i;rw[WU]
  by_cases hi:i<ts.length
  ·rw[YD hi,WR hi];show some (ts.getD i (0,[]))=_;rw[Yc,WR hi];rfl
  ·rw[Xw (by rw[Xh];lia),Xw (by lia)]
   rfl
 have hsz:(order.filterMap (es[·]?)).size=es.size:=by
  rw[<- WM,mz,WB,BB.length_eq,hz]
 refine WA ?_;show Xb _ _ (if (order.filterMap (es[·]?)).size != es.size then _ else _) _ _ _
 rw[hsz,if_neg (by simp)]
 refine WJ ?_;dsimp only;refine wpAny_storeSet_of ho hd (q _ _ t' BB ⟨hx,rfl,mz,?_,?_,by lia,e3.trans QS,e4.trans hpl,?_⟩) (by rw[hsz,hz,XO];lia)
 ·rw[XD];have:(order.toList.map λi=>(es.map (·.1)).getD i 0)=order.toList.map ((λx=>kH prog w x.2) ∘ λi=>ts.getD i (0,[])):=by
   refine Xe λi hi=>?_;have hi:=X8.mp (e6.mem_iff.mp hi);rw[Xa,Array.getElem?_map,gd i hi];rfl
  rw[<- this];exact e7
 ·rw[e8,e2];lia
 ·exact((BB.map (·.2)).nodup_iff).mpr nC
theorem zm (ho:s.heap.get? a=some o)(S:cI prog w o ts es ep t)(T:Fw prog w s.heap ts)(hk:(TK prog w).is s.heap k b)(hu:A.units<Y4)(hn:ts.length<1000)(f:Nat){Q:Bool->WE->Prop}
  (q:∀(h':Heap) (o':Obj) (c8:List (Addr×List Int)) (eC:Array (Int×WC)) (qF:Nat) (t':SetTable) (added:Bool),Yw a s.heap h'->h'.get? a=some o'->cI prog w o' c8 eC qF t' ->
   ((∃x∈ts,x.2=k)->c8=ts)->((∀x∈ts,x.2≠k)->c8.Perm ((b,k)::ts))->Q added {s with heap:=h'}) :
  Xb (model prog w) A (setAddHashedIn a (.ref b) (kH prog w k) (f+1)) Q E s:=by
 unfold setAddHashedIn;refine WA (Yz ho S.dat S.fits ?_);dsimp only;rw[if_neg (by simp[byScan,Value.scannable])]
 refine WA (xt ho S T hk hu (λN g1 g2 g3=>?_) λi g1 g2=>?_)
 ·dsimp only;refine WA (Yz ho S.dat S.fits ?_);dsimp only;have hr:t.place.size+1<=t.mask:=by
   have:=S.O5;obtain⟨j,hj,e⟩:=S.wf.FV;have:2 ^ 3<=2 ^ j:=YQ (by decide) hj
   lia
  obtain⟨W,hp⟩:=S.wf.put (kO _ _ _) g2 g3 hr;have pe:(t.put (cw t.mask (kH prog w k) N)).1.plain=t.plain/\(t.put (cw t.mask (kH prog w k) N)).1.led=t.led/\(t.put (cw t.mask (kH prog w k) N)).1.mask=t.mask:=⟨rfl,rfl,rfl⟩;have pf:(t.put (cw t.mask (kH prog w k) N)).1.dummies=#[]:=W.Kc;generalize (t.put (cw t.mask (kH prog w k) N)).1=t1 at *
  generalize (t.put (cw t.mask (kH prog w k) N)).2=p at *
  obtain⟨Pt,Su,Uu⟩:=pe;rw[Pt,S.J0,if_pos rfl];refine WA (GN hk ?_);rw[if_pos rfl];have hz:=S.size;have Jy:(SetTable.insertAt es p (kH prog w k,Value.ref b)).toList=(ts.take p++(b,k)::ts.drop p).map (ent prog w):=by
   rw[mq,S.Jz,Xl,W_,List.map_take,List.map_drop]
  have W1:WF t1 ((ts.take p++(b,k)::ts.drop p).map λx=>kH prog w x.2):=by
   rw[Xl,W_,List.map_take,List.map_drop];exact W
  have pm:(ts.take p++(b,k)::ts.drop p).Perm ((b,k)::ts):=Ax ts p (b,k);have hZ:(ts.take p++(b,k)::ts.drop p).length=ts.length+1:=pm.length_eq;have Ej:((ts.take p++(b,k)::ts.drop p).map (·.2)).Nodup:=by
   refine((pm.map (·.2)).nodup_iff).mpr ?_;rw[W_,Xg];exact⟨λhm=>by
    obtain⟨x,hx,e⟩:=WT.mp hm;exact g1 x hx e,S.PD⟩
  have CK:(SetTable.insertAt es p (kH prog w k,Value.ref b)).size=ts.length+1:=by rw[<- WM,Jy,WB,hZ]
  have Wf:t1.place.size=ts.length+1:=by have:=W1.sz;rw[WB,hZ]at this;exact this
  refine WA (wpAny_storeSet_of ho S.dat ?_ (by rw[CK,XO];lia))
  have ML:=wU ho S.dat (SetTable.insertAt es p (kH prog w k,Value.ref b)) t1;have KO:Yw a s.heap (s.heap.update a (Obj.putSet (SetTable.insertAt es p (kH prog w k,Value.ref b)) t1)):=Zo _ _ _;have fin:∀(h':Heap) (o':Obj) (c8:List (Addr×List Int)) (eC:Array (Int×WC)) (qF:Nat) (t':SetTable),Yw a s.heap h'->h'.get? a=some o'->cI prog w o' c8 eC qF t'->c8.Perm (ts.take p++(b,k)::ts.drop p)->Q true {s with heap:=h'} :=
   λh' o' c8 eC qF t' q1 q2 q3 q4=>q h' o' c8 eC qF t' true q1 q2 q3 (λvh=>by obtain⟨x,hx,e⟩:=vh;exact absurd e (g1 x hx)) λ_=>q4.trans pm
  by_cases sP:t1.tooFull=true
  ·rw[sP,if_pos (by rfl)]
   have Ve:SetTable.grown (es.size+1)=SetTable.grown (ts.take p++(b,k)::ts.drop p).length:=by rw[hZ,hz.1]
   rw[Ve];refine WA (zj (s:={s with heap:=s.heap.update a (Obj.putSet (SetTable.insertAt es p (kH prog w k,Value.ref b)) t1)}) ML S.ex rfl Jy W1 (by lia) (by lia) (Su.trans S.led) (Pt.trans S.J0) Ej λc8 eC t' r1 r2=>WJ ?_)
   have F9:=wU ML rfl eC t';exact fin _ _ c8 eC _ t' (KO.trans (Zo _ _ _)) F9 r2 r1
  ·rw[if_neg (by simpa using sP)]
   refine WJ (fin _ _ _ _ _ _ KO ML ⟨S.ex,rfl,Jy,W1,?_,by rw[Uu];exact S.FV,Su.trans S.led,Pt.trans S.J0,Ej⟩ (.refl _))
   unfold SetTable.tooFull SetTable.fill at sP;rw[pf]at sP;simp at sP;lia
 ·dsimp only;exact WJ (q s.heap o ts es ep t false (Heap.SameBut.refl _ _) ho S (λ_=>rfl) λg=>absurd g1 λBw=>by obtain⟨x,hx,e⟩:=Bw;exact g x hx e)
theorem GQ (ho:s.heap.get? a=some o)(S:cI prog w o ts es ep t)(T:Fw prog w s.heap ts)(hk:(TK prog w).is s.heap k b)(hu:A.units<Y4)(hn:ts.length<1000){Q:Bool->WE->Prop}
  (q:∀(h':Heap) (o':Obj) (c8:List (Addr×List Int)) (eC:Array (Int×WC)) (qF:Nat) (t':SetTable) (added:Bool) (tk:Nat),s.toks<=tk->Yw a s.heap h'->h'.get? a=some o'->cI prog w o' c8 eC qF t' ->
   ((∃x∈ts,x.2=k)->c8=ts)->((∀x∈ts,x.2≠k)->c8.Perm ((b,k)::ts))->Q added {s with heap:=h',toks:=tk}) :
  Xb (model prog w) A (setAdd a (.ref b)) Q E s:=by
 unfold setAdd;refine Yd ?_;refine WA ((TK prog w).pyHash hu hk ?_);unfold setAddHashed;refine Yd ?_;exact zm (s:={s with toks:=s.toks+(TK prog w).draws k}) ho S T hk hu hn 99999 λh' o' c8 eC qF t' added r1 r2 r3 r4 r5=>q h' o' c8 eC qF t' added _ (aag _ _) r1 r2 r3 r4 r5
end
theorem mT {α:Type}:∀{l:List α} {i:Nat} (h:i<l.length),(l[i]::l.eraseIdx i).Perm l
 |[],_,h=>absurd h (Nat.not_lt_zero _)
 |x::l,0,_=>.refl _
 |x::l,i+1,h=>by
  have h':i<l.length:=by rw[WS]at h;lia
  show (l[i]::x::l.eraseIdx i).Perm (x::l);exact(List.Perm.swap _ _ _).trans ((mT h').cons x)
theorem wq {α:Type}(next:Nat->Nat):∀(f k:Nat) (left:List α) (out:Array α),f=left.length->(pickOrder.go next f k left out).toList.Perm (out.toList++left)
 |0,k,left,out,e=>by
  obtain rfl:left=[]:=List.length_eq_zero_iff.mp e.symm;unfold pickOrder.go;rw[XY]
 |f+1,k,left,out,e=>by
  unfold pickOrder.go;have hi:next k % left.length<left.length:=ZX _ (by lia)
  rw[WR hi];dsimp only;refine(wq next f (k+1) _ _ (by rw[List.length_eraseIdx_of_lt hi];lia)).trans ?_
  rw[YC,X4];exact List.Perm.append_left _ (mT hi)
theorem xU {α:Type}(next:Nat->Nat)(xs:Array α):(pickOrder next xs).toList.Perm xs.toList:=by
 have:=wq next xs.size 0 xs.toList #[] (by rw[WM])
 exact this
theorem bL:Slot "set_iterator" "__next__" "set_iterator.__next__" :=
 .of (owner:="set_iterator") (n:="__next__") (by rw[typeLookup_type,builtinLookup_eq_fast];kernel_rfl) (by decide +kernel) (by decide +kernel) (by decide +kernel)
  (by first|exact .inl (by decide +kernel)|exact .inr (by decide +kernel)) (by rw[isSubtype_type];kernel_rfl)
theorem gJ:Slot "set_iterator" "__iter__" "set_iterator.__iter__" :=
 .of (owner:="set_iterator") (n:="__iter__") (by rw[typeLookup_type,builtinLookup_eq_fast];kernel_rfl) (by decide +kernel) (by decide +kernel) (by decide +kernel)
  (by first|exact .inl (by decide +kernel)|exact .inr (by decide +kernel)) (by rw[isSubtype_type];kernel_rfl)
theorem fU:entryFor table "set_iterator.__next__" = some Y3.«set_iterator.__next__»:=entryFor_of_tree (by kernel_rfl)
theorem mN:entryFor table "set_iterator.__iter__" = some Y3.«dict_keyiterator.__iter__» :=
 entryFor_alias (id':="dict_keyiterator.__iter__") (by kernel_rfl) rfl (by decide +kernel) (by kernel_rfl)
theorem mO:entryFor table "set.__iter__" = some Y3.«frozenset.__iter__» :=
 entryFor_alias (id':="frozenset.__iter__") (by kernel_rfl) rfl (by decide +kernel) (by kernel_rfl)
theorem gT (a:WC):argsOk "set_iterator.__next__" ⟨[a],[]⟩:=by unfold argsOk;kernel_rfl
theorem nO (a:WC):argsOk "set_iterator.__iter__" ⟨[a],[]⟩:=by unfold argsOk;kernel_rfl
section
variable {prog:WI}{w:W6}{A:XA}{E:WC->WE->Prop}{s:WE}
variable {a:Addr}{o:Obj}{ts:List (Addr×List Int)}{es:Array (Int×WC)}{ep:Nat}{t:SetTable}
abbrev Cp (w:W6):Bool:=w.params.followText "set-order"
theorem jn {Q:Bool->WE->Prop}(q:Q (Cp w) s):Xb (model prog w) A setsByText Q E s:=by
 unfold setsByText;exact WA (aad (WJ q))
def bN (w:W6)(a:Addr)(ep:Nat)(es:Array (Int×WC)):Array (Int×WC):=if Cp w=true then pickOrder (w.params.setOrder a ep) es else es
theorem f7 (w:W6)(a:Addr)(ep:Nat)(es:Array (Int×WC)):(bN w a ep es).toList.Perm es.toList:=by
 unfold bN
 split
 ·exact xU _ _
 ·exact .refl _
theorem ya (S:cI prog w o ts es ep t){Q:Bool->WE->Prop}(ho:s.heap.get? a=some o)(q:Q false s):Xb (model prog w) A (setDrawn a) Q E s:=by
 unfold setDrawn;refine WA (Yz ho S.dat S.fits ?_);dsimp only;refine WA (jn (WJ ?_));have:(!Cp w&&(!t.plain&&decide (es.size>1)))=false:=by rw[S.J0];simp
 show Q (!Cp w&&(!t.plain&&decide (es.size>1))) s;rw[this];exact q
theorem lb (ho:s.heap.get? a=some o)(S:cI prog w o ts es ep t){sl i:Nat}{Q:Option (WC×Nat)->WE->Prop}(J3:Cp w=false->SetTable.below t.place sl=i)
  (q1:∀e,(bN w a ep es)[i]?=some e->∀He:Nat,(Cp w=false->SetTable.below t.place He=i+1)->Q (some (e.2,He)) s) (q2:(bN w a ep es)[i]?=none->Q none s) :
  Xb (model prog w) A (setNext a sl i ep) Q E s:=by
 unfold setNext;refine WA (Yz ho S.dat S.fits ?_);dsimp only;refine WA (jn ?_);cases hb:Cp w with
 |true =>
  rw[if_pos rfl,if_neg (by simp)]
  unfold setWalk;refine WA (WA (Yz ho S.dat S.fits ?_));dsimp only;refine WA (jn ?_);rw[hb,if_pos rfl];refine WA (aad (WJ (WJ ?_)));have e:bN w a ep es=pickOrder (w.params.setOrder a ep) es:=by unfold bN;rw[hb,if_pos rfl]
  rw[e]at q1 q2;show Q (((pickOrder (w.params.setOrder a ep) es)[i]?).map λe=>(e.2,sl)) s;cases hx:(pickOrder (w.params.setOrder a ep) es)[i]? with
  |none=>exact q2 hx
  |some x=>exact q1 x hx sl (λz=>by rw[hb]at z;cases z)
 |false =>
  rw[if_neg (by simp)]
  have e:bN w a ep es=es:=by unfold bN;rw[hb,if_neg (by simp)]
  rw[e]at q1 q2;have hd:(!t.plain&&decide (es.size>1))=false:=by rw[S.J0];rfl
  show Xb _ _ (if (!t.plain&&decide (es.size>1))=true then _ else _) _ _ _
  rw[hd,if_neg (by simp)]
  have hl:t.led=true:=by
   rw[S.led];show (!Cp w)=true;rw[hb];rfl
  refine WA ?_;show Xb _ _ (if (!t.led&&!es.isEmpty)=true then _ else _) _ _ _
  rw[hl,if_neg (by simp)]
  refine WJ (WJ ?_);rw[J3 hb];have hz:=S.size
  by_cases hi:i<t.place.size
  ·have h1:es[i]?=some es[i]:=getElem?_pos es i (by omega)
   rw[h1,vo hi];refine q1 _ h1 _ λ_=>?_;obtain⟨b1,b2,b3⟩:=fw S.wf.xQ (g t.place i+1);rcases Nat.lt_trichotomy (SetTable.below t.place (g t.place i+1)) (i+1)with z|z|z
   ·have:=b3 i (by omega) hi
    omega
   ·exact z
   ·have:=b2 (i+1) z;have:=S.wf.xQ i (i+1) (by omega) (by omega)
    omega
  ·have h1:es[i]?=none:=YH (by omega)
   rw[h1];exact q2 h1
end
section
variable {prog:WI}{w:W6}{A:XA}{E:WC->WE->Prop}{s:WE}
variable {a b it:Addr}{o:Obj}{ts:List (Addr×List Int)}{es:Array (Int×WC)}{ep:Nat}{t:SetTable}
def pU (sl i:Nat)(a:Addr)(n ep:Nat):Obj:={cls:=.type "set_iterator",dict:=none,data:=.fields #[.int sl 0,.int i 0,.ref a,.int n 0,.int ep 0],slots:=#[]}
theorem lA {sl i n:Nat} (h:s.heap.get? it=some (pU sl i a n ep)):s.TypeIs (.ref it) "set_iterator" := ⟨_,h,rfl⟩
def Kj (prog:WI)(w:W6)(it a:Addr)(ts:List (Addr×List Int))(es:Array (Int×WC))(ep:Nat)(i:Nat)(h:Heap):Prop :=
 ∃sl o t,h.get? it=some (pU sl i a es.size ep)/\h.get? a=some o/\cI prog w o ts es ep t/\(Cp w=false->SetTable.below t.place sl=i)
theorem zT (mx:a≠it){i:Nat}{e:Int×WC}{Q:Option WC->WE->Prop}(st:Kj prog w it a ts es ep i s.heap)(he:(bN w a ep es)[i]?=some e)
  (q:∀h',Kj prog w it a ts es ep (i+1) h'->Yw it s.heap h'->Q (some e.2) {s with heap:=h'}):Xb (model prog w) A (ZV (.ref it)) Q E s:=by
 obtain⟨sl,o,t,hi,ho,S,hb⟩:=st;have hT:=lA hi;unfold ZV;refine WA (ZF (YA (name:=ZQ "__next__") hT bL (Ye bL hT fU ?_ (gT _))));unfold Y3.«set_iterator.__next__»
 refine WA (WJ ?_);refine WA (wpAny_fieldsOf hi rfl ?_);dsimp only;refine WA (wpAny_setEntries_of ho S.dat S.fits ?_);rw[if_neg (by simp)]
 refine WA (lb (i:=i) ho S (λz=>by simpa using hb z) (λe' MW He L5=>?_) λhn=>?_)
 ·rw[he]at MW;obtain rfl:=Xp MW;dsimp only;refine WA (Yt hi (by simp) λh1 g1 KO=>?_)
  refine WA (Yt (s:={s with heap:=h1}) g1 (by simp) λh2 g2 Sg=>?_)
  refine WJ ⟨_,rfl,WJ (q h2 ⟨He,o,t,?_,?_,S,L5⟩ (KO.trans Sg))⟩
  ·rw[g2];rfl
  ·rw[(KO.trans Sg).2 a mx];exact ho
 ·rw[he]at hn;cases hn
theorem Dl (hh:A.handled=none)(mx:a≠it){i:Nat}{Q:Option WC->WE->Prop}(st:Kj prog w it a ts es ep i s.heap)(he:(bN w a ep es)[i]?=none)
  (q:∀h',Heap.ExtBut it s.heap h'->Q none {s with heap:=h'}):Xb (model prog w) A (ZV (.ref it)) Q E s:=by
 obtain⟨sl,o,t,hi,ho,S,hb⟩:=st;have hT:=lA hi;unfold ZV;refine WA (ZF (YA (name:=ZQ "__next__") hT bL (Ye bL hT fU ?_ (gT _))));unfold Y3.«set_iterator.__next__»
 refine WA (WJ ?_);refine WA (wpAny_fieldsOf hi rfl ?_);dsimp only;refine WA (wpAny_setEntries_of ho S.dat S.fits ?_);rw[if_neg (by simp)]
 refine WA (lb (i:=i) ho S (λz=>by simpa using hb z) (λe' MW He L5=>?_) λhn=>?_)
 ·rw[he]at MW;cases MW
 ·dsimp only;refine WA (wpAny_setField hi rfl (by simp) ?_)
  refine WA ?_;simp only[newExc,newTuple];refine WA (YN ?_ (by size_fits))
  refine WA (m:=firstArgMember _ _) (wpAny_of_eq (a:=Value.none) (by first|rfl|(simp only[firstArgMember];rfl)) ?_)
  refine YN ?_ (by size_fits)
  simp only[raiseNew];refine WA (wpAny_handled ?_);rw[show A.in1.handled=none from hh]
  refine WA (WJ (wpAny_throw ?_));refine WA (wpAny_isInstance (T:="StopIteration") (b:=true) ⟨_,Xc _ rfl,rfl⟩ isSubtype_stop ?_);exact WJ (q _ (((Zo ..).extBut.push _).push _))
theorem zS {i:Nat}{Q:WC->WE->Prop}(st:Kj prog w it a ts es ep i s.heap)(q:Q (.ref it) s):Xb (model prog w) A (pyIter (.ref it)) Q E s:=by
 obtain⟨sl,o,t,hi,ho,S,hb⟩:=st;have hT:=lA hi;refine wpAny_pyIter_slot hT gJ (Ye gJ hT mN ?_ (nO _));show Xb _ _ (ret (.ref it)) _ _ s;exact WJ ⟨_,rfl,"set_iterator",_,hT,bL.lookup,q⟩
theorem xJ (hh:A.handled=none)(mx:a≠it):Walks prog w A it [it,a] [it] es.size (λi v=>∃e,(bN w a ep es)[i]?=some e/\v=e.2) (Kj prog w it a ts es ep) where
 sub:=λb hb=>by rw[WN.mp hb];exact WO
 frame:=λi h h' ⟨sl,o,t,h1,h2,h3⟩ hk=>⟨sl,o,t,hk it WO _ h1,hk a (WQ _ WO) _ h2,h3⟩
 item:=λi s Q E hi st hQ=>by
  have hz:(bN w a ep es).size=es.size:=by
   have:=(f7 w a ep es).length_eq;rw[WM,WM]at this;exact this
  have he:(bN w a ep es)[i]?=some (bN w a ep es)[i]:=getElem?_pos _ i (by lia)
  exact zT mx st he λh' aA sb=>hQ _ h' s.toks ⟨_,he,rfl⟩ aA λb o hb e=>sb.extBut b o (λz=>hb (by rw[z];exact WN.mpr rfl)) e
 done:=λs Q E st hQ=>by
  have hz:(bN w a ep es).size=es.size:=by
   have:=(f7 w a ep es).length_eq;rw[WM,WM]at this;exact this
  exact Dl hh mx st (YH (by lia)) λh' eb=>hQ h' s.toks λb o hb e=>eb b o (λz=>hb (by rw[z];exact WN.mpr rfl)) e
 self:=λi s Q E st hQ=>zS st hQ
theorem lB (ho:s.heap.get? a=some o) (S:cI prog w o ts es ep t):s.TypeIs (.ref a) "set" := ⟨o,ho,S.ex.1⟩
theorem C3 (ho:s.heap.get? a=some o)(S:cI prog w o ts es ep t){Q:WC->WE->Prop}(q:Q (.ref s.heap.objs.size) {s with heap:=s.heap.push (pU 0 0 a es.size ep)}):
  Xb (model prog w) A (pyIter (.ref a)) Q E s:=by
 have hT:=lB ho S;refine wpAny_pyIter_slot hT F.slot_set_iter (Ye F.slot_set_iter hT mO ?_ (F.args_set_iter_1 _));unfold Y3.«frozenset.__iter__» Builtin.Frozenset.slot0 Builtin.Frozenset.sizeOf;refine WA (WA (WJ (WJ ?_)));refine WA (WA (wpAny_setEntries_of ho S.dat S.fits (WJ ?_)));refine WA (ya S ho ?_);rw[if_neg (by simp)]
 refine WA (WJ ?_);refine WA (wpAny_setEpoch_of ho S.dat S.fits ?_);unfold newFields;refine WA (YN (WJ ⟨_,rfl,"set_iterator",_,⟨_,Xc _ rfl,rfl⟩,bL.lookup,?_⟩) (by size_fits))
 exact q
theorem C4 (ho:s.heap.get? a=some o)(S:cI prog w o ts es ep t){Q:Bool->WE->Prop}(q:Q false s):Xb (model prog w) A (Builtin.List.listLengthHint (.ref a)) Q E s:=by
 have hT:=lB ho S;unfold Builtin.List.listLengthHint;refine WA (wpAny_specialOf hT PySem.F.slot_set_len.lookup ?_);generalize Td:("set.__len__" : String)=UR
 wp_delta
 rw[show splitId UR=some ("set","__len__") from by subst Td;decide +kernel]
 subst Td;refine WA (wpAny_isInstance (T:="set") (b:=true) hT (by rw[isSubtype_type];kernel_rfl) ?_)
 refine wpAny_ite_split (λJo=>absurd Jo (by decide)) (λ_=>?_)
 refine wpAny_ite_split (λ_=>?_) (λJo=>absurd (by decide +kernel) Jo)
 refine WA (wpAny_typeOf hT ?_);exact WJ q
theorem Dn (prog:WI)(w:W6)(a:Addr)(o:Obj)(ts:List (Addr×List Int))(es:Array (Int×WC))(ep:Nat)(t:SetTable)(S:cI prog w o ts es ep t):
  PySem.W.KdlSrc prog w "set" a a es.size (λi v=>∃e,(bN w a ep es)[i]?=some e/\v=e.2) (λh=>h.get? a=some o) where
 type:=λs ho=>lB ho S
 there:=λh ho=>⟨W5 ho,W5 ho⟩
 keep:=λh h' ho hk=>hk a (.inl rfl) _ ho
 notList:=by decide
 notTuple:=by decide
 hint:=λA E s Q ho q=>C4 ho S q
 iter:=λA s hh ho=>⟨pU 0 0 a es.size ep,Kj prog w s.heap.objs.size a ts es ep,λE Q q=>C3 ho S q,xJ hh (Xk (W5 ho)),
  0,o,t,Xc _ rfl,WH _ ho,S,λ_=>by
   obtain⟨b1,b2,b3⟩:=fw S.wf.xQ 0;rcases Nat.eq_zero_or_pos (SetTable.below t.place 0)with z|z
   ·exact z
   ·have:=b2 0 z;lia⟩
theorem rP {α β:Type}{f:α->β}:∀{ts:List α} {l:List β},l.Perm (ts.map f)->∃us:List α,us.Perm ts/\l=us.map f
 |[],l,h=>⟨[],.refl _,List.perm_nil.mp h⟩
 |x::ts,l,h=>by
  obtain⟨l1,l2,rfl⟩:=List.append_of_mem (h.mem_iff.mpr (show f x∈(x::ts).map f from WO))
  have h':(l1++l2).Perm (ts.map f):=(aah.symm.trans h).cons_inv;obtain⟨us,h1,h2⟩:=rP h';obtain⟨u1,u2,rfl,e1,e2⟩:=List.map_eq_append_iff.mp h2.symm;refine⟨u1++x::u2,aah.trans (h1.cons x),?_⟩;rw[Xl,W_,e1,e2]
end
section
variable {prog:WI}{w:W6}{A:XA}{E:WC->WE->Prop}{s:WE}
variable {o:Obj}{ts:List (Addr×List Int)}{es:Array (Int×WC)}{ep:Nat}{t:SetTable}
def lU (w:W6):Obj:={cls:=.type "set",dict:=none,data:=.set #[] 0 (.fresh 0 0 (!Cp w))}
theorem Ef (prog:WI)(w:W6):cI prog w (lU w) [] #[] 0 (.fresh 0 0 (!Cp w)) where
 ex:=⟨rfl,rfl,rfl⟩
 dat:=rfl
 Jz:=rfl
 wf:=⟨rfl,rfl,λi j _ hj=>absurd hj (Nat.not_lt_zero _),λi hi=>absurd hi (Nat.not_lt_zero _),⟨3,WD _,rfl⟩,WV _,λi h hi=>by simp at hi⟩
 O5:=by show 0*5<7*3;decide
 FV:=by show 7<=8191;decide
 led:=rfl
 J0:=rfl
 PD:=XR
theorem A7 {xs:List WC} {R:WC->WE->Prop} (hc:checkBuiltinCall "set.__new__" ⟨.type "set" :: xs,[]⟩=pure ()) (hx:xs=[]\/∃v,xs=[v]) (q:R (.ref s.heap.objs.size) {s with heap:=s.heap.push (lU w)}) :
  Z6 (model prog w) A (.call (.builtin "set.__new__") ⟨.type "set" :: xs,[]⟩) (wants R E) s:=by
 refine codeAny_of_tree ?_;show Xb _ A.in1 (checkBuiltinCall "set.__new__" ⟨.type "set" :: xs,[]⟩ >>= λ_=>again (.builtin "set.__new__" ⟨.type "set" :: xs,[]⟩)) _ _ s;refine WA (wpAny_of_eq hc (WJ ⟨plainId_quiet F.plain_set_new _,Zu F.entry_set_new ?_⟩));rw[Zk F.plain_set_new _];unfold Y3.«set.__new__» Builtin.Frozenset.newClass;have T_:=sub_set_self;obtain⟨hp,gs,dr,tk,os⟩:=s;rcases hx with rfl|⟨v,rfl⟩
 all_goals
  dsimp only
  wp_walk
  refine aad (WJ ?_);dsimp only;simp only[newObj];exact WA (wpAny_alloc (WJ (WJ q)))
theorem yg {I:Addr}{fp wr:List Addr}{G:Array GenState->Array GenState->Prop}{vs:List (Addr×List Int)}{St:Nat->WE->Prop}{R:Result->WE->Prop}(hu:A.in1.units<Y4)
  {n:Nat} {P:Nat->WC->Prop} (W:WalksS prog w A.in1 I fp wr G n P St) (QL:n=vs.length) (Vq:∀(i:Nat) (v:WC),P i v->∃x,vs[i]?=some x/\v=.ref x.1) (sa:Addr) (S4:sa∉fp) (hn:vs.length<1000) (hv:∀x∈vs,x.1∉wr/\x.1≠sa) :
  ∀(d i:Nat) (s:WE) (o:Obj) (ts:List (Addr×List Int)) (es:Array (Int×WC)) (ep:Nat) (t:SetTable),vs.length-i=d->i<=vs.length->St i s->Fw prog w s.heap vs->s.heap.get? sa=some o->cI prog w o ts es ep t ->
   (∀x∈ts,x∈vs.take i)->(∀x∈vs.take i,∃y∈ts,y.2=x.2)->ts.length<=i ->
   (∀s' o' c8 eC qF t',Moved (sa::wr) G s s'->s'.heap.get? sa=some o'->cI prog w o' c8 eC qF t'->(∀x∈c8,x∈vs)->(∀x∈vs,∃y∈c8,y.2=x.2)->R (.ok (.ret .none)) s') ->
   Z6 (model prog w) A (.builtin "set.update.loop" ⟨[.ref sa,.ref I],[]⟩) R s:=by
 subst QL;have wQ:sa∉wr:=λz=>S4 (W.sub _ z);have up:∀x∈wr,x∈sa::wr:=λx hx=>WQ _ hx;intro d
 induction d with
 |zero =>
  intro i s o ts es ep t hd hi st T ho S k1 k2 k3 hR;obtain rfl:i=vs.length:=by lia
  refine Zu F.entry_set_update_loop ?_;rw[Zk F.plain_set_update_loop _];show Xb _ A.in1 (ZV (.ref I) >>= _) _ _ s;refine WA (W.done s _ _ st λs' mv=>?_);rw[Yv]at k1 k2;exact WJ (hR s' o ts es ep t (mv.mono up) (mv.heap sa _ wQ ho) S k1 k2)
 |succ d ih =>
  intro i s o ts es ep t hd hi st T ho S k1 k2 k3 hR;have lt:i<vs.length:=by lia
  refine Zu F.entry_set_update_loop ?_;rw[Zk F.plain_set_update_loop _];show Xb _ A.in1 (ZV (.ref I) >>= _) _ _ s;refine WA (W.item i s _ _ lt st λv s1 hP KL mv=>?_);obtain⟨x,hx,rfl⟩:=Vq i v hP;have LV:x∈vs:=XB hx;have T1:Fw prog w s1.heap vs:=λy hy=>by
   obtain⟨oy,its,n,g1,g2⟩:=T y hy;exact⟨oy,its,n,mv.heap _ _ (hv y hy).1 g1,g2⟩
  have ML:=mv.heap sa _ wQ ho;refine WA (Yd (GQ ML S (λy hy=>T1 y (List.mem_of_mem_take (k1 y hy))) (T1 x LV) hu (by lia) λh' o' c8 eC qF t' added tk r0 r1 r2 r3 r4 r5=>?_))
  have TU:vs.take (i+1)=vs.take i++[x]:=by rw[List.take_succ,hx];rfl
  have keep:∀c oc,c≠sa->s1.heap.get? c=some oc->h'.get? c=some oc:=λc oc hc e=>by rw[r1.2 c hc];exact e
  have step:(∀y∈c8,y∈vs.take (i+1))/\(∀y∈vs.take (i+1),∃z∈c8,z.2=y.2)/\c8.length<=i+1:=by
   rw[TU]
   by_cases EJ:∃y∈ts,y.2=x.2
   ·rw[r4 EJ];refine⟨λy hy=>X1 _ (k1 y hy),λy hy=>?_,by lia⟩
    rcases W4.mp hy with z|z
    ·exact k2 y z
    ·rw[WN.mp z];exact EJ
   ·have pm:=r5 λy hy e=>EJ ⟨y,hy,e⟩;refine⟨λy hy=>?_,λy hy=>?_,by rw[pm.length_eq,WS];lia⟩
    ·rcases WG.mp (pm.mem_iff.mp hy)with rfl|z
     ·exact Xm _ (WN.mpr rfl)
     ·exact X1 _ (k1 y z)
    ·rcases W4.mp hy with z|z
     ·obtain⟨u,hu,e⟩:=k2 y z;exact⟨u,pm.mem_iff.mpr (WQ _ hu),e⟩
     ·rw[WN.mp z];exact⟨x,pm.mem_iff.mpr WO,rfl⟩
  have UH:Moved (sa::wr) G s {s1 with heap:=h',toks:=tk} :=
   (mv.mono up).then_heap r0 λc oc hc e=>keep c oc (λz=>hc (by rw[z];exact WO)) e
  refine WJ ⟨plainId_quiet F.plain_set_update_loop _,ih (i+1) _ o' c8 eC qF t' (by lia) lt (W.frame _ s1 _ _ KL r0 λc hc oc e=>keep c oc (λz=>S4 (by rw[<- z];exact hc)) e) (λy hy=>?_) r2 r3 step.1 step.2.1 step.2.2 λs' o2 TR VB VC t2 m1 m2 m3 m4 m5=>hR s' o2 TR VB VC t2 (Moved.trans W.gtrans UH m1) m2 m3 m4 m5⟩
  obtain⟨oy,its,n,g1,g2⟩:=T1 y hy;exact⟨oy,its,n,keep _ _ (hv y hy).2 g1,g2⟩
end
section
variable {prog:WI}{w:W6}{A:XA}{E:WC->WE->Prop}{s:WE}
theorem yI {l:Addr}{vs:List (Addr×List Int)}{Q:WC->WE->Prop}(hh:A.handled=none)(hu:A.units+16<Y4)(hl:s.heap.IsList l (vs.map λx=>Value.ref x.1).toArray)(hn:vs.length<1000)(T:Fw prog w s.heap vs)
  (q:∀(h':Heap) (tk:Nat) (o':Obj) (ts:List (Addr×List Int)) (es:Array (Int×WC)) (ep:Nat) (t:SetTable),(∀c oc,s.heap.get? c=some oc->h'.get? c=some oc)->h'.get? s.heap.objs.size=some o'->cI prog w o' ts es ep t ->
   (∀x∈ts,x∈vs)->(∀x∈vs,∃y∈ts,y.2=x.2)->Q (.ref s.heap.objs.size) {s with heap:=h',toks:=tk}) :
  Xb (model prog w) A (call (.type "set") [.ref l]) Q E s:=by
 obtain⟨cx,Wa,UI⟩:=F.called_set.mro;have SN:=F.called_set.made;have T8:=F.called_set.sub;refine wpAny_call (codeAny_of_tree ?_);show Xb _ _ (callAny (.type "set") _) _ _ _;refine WJ ⟨Code.quiet_builtin _ (by decide +kernel),Zu F.entry_type_call ?_⟩
 rw[Around.under_plain (weight_type_call_type "set" [.ref l] []) rfl];have t1:=F.called_set.notType;have t2:=F.called_set.canCreate;have t3:=F.typeCall_set_1 (.ref l)
 repeat (any_goals (first|assumption|wp_step))
 have ls:l<s.heap.objs.size:=by obtain⟨ol,QF,_⟩:=hl;exact W5 QF
 refine ZA (A7 (w:=w) (E:=E) (xs:=[.ref l]) (R:=λob sx=>ob=.ref s.heap.objs.size/\sx={s with heap:=s.heap.push (lU w)}) (F.newCall_set_1 _) (.inr ⟨_,rfl⟩) ⟨rfl,rfl⟩) λr sx hr=>?_
 cases r with
 |error e=>exact hr
 |ok fl =>
  cases fl with
  |ret ob =>
   obtain⟨rfl,rfl⟩:=hr;have hS:(s.heap.push (lU w)).get? s.heap.objs.size=some (lU w):=Xc _ rfl;have hT:Shared.TypeIs {s with heap:=s.heap.push (lU w)} (.ref s.heap.objs.size) "set" := ⟨_,hS,rfl⟩
   have i1:=F.called_set.init.lookup;have i2:=F.called_set.init.bind (.ref s.heap.objs.size)
   repeat (any_goals (first|assumption|wp_step))
   refine ZA (codeAny_call_builtin (R:=wants (λr s2=>r=.none/\Q (.ref s.heap.objs.size) s2) E) F.called_set.init.plain F.entry_set_init (check_set_init_1 hT ?_)) λr2 s2 qw=>?_
   ·obtain⟨ol,QF,EM,nl,Te⟩:=hl;obtain⟨c1,c2,c3,c4⟩:=ol;simp only at EM Te;subst EM Te;have QE:(s.heap.push (lU w)).get? l=some {cls:=.type "list",dict:=c2,data:=.seq (vs.map λx=>Value.ref x.1).toArray nl,slots:=c4}:=WH _ QF;have u1:=F.sub_list_set;have u2:=F.sub_list_frozenset;have u3:(Value.type "list" == Value.type "dict")=false:=by decide
    have Ta:(s.heap.push (lU w)).IsList l (vs.map λx=>Value.ref x.1).toArray:=⟨_,QE,rfl,nl,rfl⟩;unfold Y3.«set.__init__» noKeywords Builtin.Frozenset.updateFrom;generalize Vr:pyIter=PI
    wp_walk
    subst Vr;refine wpAny_pyIter_list Ta ?_;refine WA (wpAny_runValue ?_);have UT:A.in1.in1.in1.handled=none:=by simp[hh]
    have uu:A.in1.in1.in1.units<Y4:=by
     have e1:∀B:XA,B.in1.units=B.units+1:=λB=>rfl;rw[e1,e1,e1];lia
    have nI:l≠(s.heap.push (lU w)).objs.size:=by rw[YX];exact Xk (Zb ls)
    have hf:s.heap.objs.size∉[(s.heap.push (lU w)).objs.size,l]:=by
     rw[YX];simp only[WG,XU,or_false,not_or];exact⟨Xk (aaf _),Nat.ne_of_gt ls⟩
    have old:∀x∈vs,x.1<s.heap.objs.size:=λx hx=>by
     obtain⟨oy,its,n,g1,g2⟩:=T x hx;exact W5 g1
    refine yg (vs:=vs) uu ((Walks.list UT _ l nI _).toS) (by simp) (λi v hv=>?_) s.heap.objs.size hf hn (λx hx=>?_) vs.length 0 _ (lU w) [] #[] 0 _ (by lia) (WV _) ⟨⟨_,Xc _ rfl,rfl,rfl⟩,Ta.push _⟩ (λx hx=>?_) (WH _ hS) (Ef prog w) (λx hx=>by cases hx) (λx hx=>by simp at hx) (WV _) λs' o' c8 eC qF t' m1 m2 m3 m4 m5=>?_
    ·have hv:(vs.map λx=>Value.ref x.1).toArray[i]?=some v:=hv;rw[List.getElem?_toArray,WU]at hv;obtain⟨x,e1,e2⟩:=W8.mp hv;exact⟨x,e1,e2.symm⟩
    ·have:=old x hx;refine⟨λz=>?_,Xk this⟩;have z:=WN.mp z;rw[YX]at z;exact absurd z (Xk (Zb this))
    ·obtain⟨oy,its,n,g1,g2⟩:=T x hx;exact⟨oy,its,n,WH _ (WH _ g1),g2⟩
    ·obtain⟨h',g',d',TV,Px⟩:=s';have eg:g'=s.gens:=m1.gens;have ed:d'=s.drawn:=m1.drawn;have eo:Px=s.os:=m1.os;subst eg ed eo;refine WJ (WJ ⟨rfl,q h' TV o' c8 eC qF t' (λc oc e=>?_) m2 m3 m4 m5⟩);have hc:=W5 e;refine m1.heap c oc (λz=>?_) (WH _ (WH _ e));rcases WG.mp z with z|z
     ·exact absurd z (Xk hc)
     ·have z:=WN.mp z;rw[YX]at z;exact absurd z (Xk (Zb hc))
   ·cases r2 with
    |error e=>exact qw
    |ok Vv =>
     cases Vv with
     |ret r =>
      obtain⟨rfl,hq⟩:=qw
      repeat (any_goals (first|assumption|wp_step))
     |_=>exact qw.elim
  |_=>exact hr.elim
end
end ST
namespace TS
open PySem PyProof.Rows
section
variable {prog:WI}{w:W6}{A:XA}{E:WC->WE->Prop}{s:WE}
theorem uI {x:WC}{vs:List WC}{kf:WC->List Int}{Q:WC->WE->Prop}(hz:vs.length<=1000000)
  (col:∀(R:List WC->WE->Prop),(∀(h':Heap) (tk:Nat),(∀b o,s.heap.get? b=some o->h'.get? b=some o)->R vs {s with heap:=h',toks:=tk})->Xb (model prog w) A.in1 (collect x) R E s)
  (T:nP s.heap kf s.heap.objs.size vs)
  (h:∀(out:List WC) (h1 h':Heap) (tk:Nat) (n:Nat),out.Perm vs->out.Pairwise (λx y=>HT.lexLt (kf y) (kf x)=false)->(∀b o,s.heap.get? b=some o->h1.get? b=some o)->(∀b o,h1.get? b=some o->h'.get? b=some o)->h'.get? h1.objs.size=some (YE "list" out.toArray n)->Q (.ref h1.objs.size) {s with heap:=h',toks:=tk}) :
  Xb (model prog w) A (call (.builtin "sorted") [x]) Q E s:=by
 refine Z4 kind_sorted plain_sorted entry_sorted (args_sorted1 _) ?_;unfold Y3.«sorted»
 refine WA (m:=checkCount "sorted" 1 1 _) (WJ ?_);refine WA (col _ λh' tk kp=>?_);have nl:vs.length<=W7:=by rw[XO];lia
 refine WA (wpAny_newList ?_ nl);have hl:(h'.push (YE "list" vs.toArray 0)).get? h'.objs.size=some (YE "list" vs.toArray 0):=Xc _ rfl;have T':nP (h'.push (YE "list" vs.toArray 0)) kf h'.objs.size vs:=λv hv=>by
  obtain⟨t,o,xs,k,e1,_,e3,r⟩:=T v hv;exact⟨t,o,xs,k,e1,Xk (W5 (kp _ _ e3)),WH _ (kp _ _ e3),r⟩
 refine WA (Yd (Ye slot_list_sort ⟨_,hl,rfl⟩ entry_list_sort (l7 (s:={s with heap:=h'.push (YE "list" vs.toArray 0),toks:=tk}) hl hz T' λout hp hs=>⟨_,rfl,?_⟩) (args_list_sort _)))
 obtain⟨n,hn⟩:=sortedHeap_at (out:=out.toArray) hl;refine WJ ⟨_,rfl,h out h' _ tk n hp hs kp (λb o e=>?_) hn⟩;have hb:=W5 e;rw[sortedHeap_old (Xk hb) (by rw[size_push'];exact Zb hb)]
 exact WH _ e
end
end TS
namespace ST
open PySem PyProof.Rows
section
variable {prog:WI}{w:W6}{s:WE}
theorem qT {a:Addr}{o:Obj}{ts:List (Addr×List Int)}{es:Array (Int×WC)}{ep:Nat}{t:SetTable}(ho:s.heap.get? a=some o)(S:cI prog w o ts es ep t)(hn:ts.length<=1000):
  ∃us:List (Addr×List Int),us.Perm ts/\∀(A:XA) (E:WC->WE->Prop) (R:List WC->WE->Prop),A.handled=none->(∀(h':Heap) (tk:Nat),(∀b o,s.heap.get? b=some o->h'.get? b=some o)->R (us.map λx=>Value.ref x.1) {s with heap:=h',toks:=tk}) ->
  Xb (model prog w) A (collect (.ref a)) R E s:=by
 have hw:=f7 w a ep es;rw[S.Jz]at hw;obtain⟨us,h1,h2⟩:=rP hw;refine⟨us,h1,λA E R hh q=>?_⟩;refine PySem.W.kdu_collect (Dn prog w a o ts es ep t S) hh ho (by rw[S.size.1,XO];lia) λh' tk acc hk M1=>?_
 have e:acc.toList=us.map λx=>Value.ref x.1:=by
  have hz:(bN w a ep es).size=es.size:=by
   have:=(f7 w a ep es).length_eq;rw[WM,WM]at this;exact this
  have e2:us.map (λx=>Value.ref x.1)=(bN w a ep es).toList.map (·.2):=by
   rw[h2,XD];rfl
  rw[e2];apply YB;intro i;rw[WU,W9,W9]
  by_cases hi:i<acc.size
  ·obtain⟨x,g1,g2⟩:=M1.2 i acc[i] (getElem?_pos acc i hi);rw[getElem?_pos acc i hi,g1,g2];rfl
  ·have:=M1.1;rw[YH (by lia),YH (by lia)]
   rfl
 rw[e];exact q h' tk hk
end
end ST
namespace L2
open PySem PySem.Spec PySem.SeqAt PyProof.Rows HT
theorem hX:∀{a b:List Int},lexLt a b=false->lexLt b a=false->a=b
 |[],[],_,_=>rfl
 |[],_::_,h,_=>by cases h
 |_::_,[],_,h=>by cases h
 |x::xs,y::ys,h1,h2=>by
  rw[fq]at h1 h2
  by_cases e:x=y
  ·subst e;rw[if_pos rfl]at h1 h2;rw[hX h1 h2]
  ·rw[if_neg e]at h1;rw[if_neg (λz=>e z.symm)]at h2;have:=of_decide_eq_false h1;have:=of_decide_eq_false h2;omega
theorem me:∀{a b:List Int},lexLt a b=true->lexLt b a=false
 |[],[],h=>by cases h
 |[],_::_,_=>rfl
 |_::_,[],h=>by cases h
 |x::xs,y::ys,h=>by
  rw[fq]at h ⊢
  by_cases e:x=y
  ·subst e;rw[if_pos rfl]at h ⊢
   exact me h
  ·rw[if_neg e]at h;rw[if_neg (λz=>e z.symm)];have:=of_decide_eq_true h;exact decide_eq_false (by lia)
theorem j8:∀{a b c:List Int},lexLt a b=true->lexLt b c=true->lexLt a c=true
 |[],[],_,h,_=>by cases h
 |[],_::_,[],_,h=>by cases h
 |[],_::_,_::_,_,_=>rfl
 |_::_,[],_,h,_=>by cases h
 |x::xs,y::ys,[],_,h=>by cases h
 |x::xs,y::ys,z::zs,h1,h2=>by
  rw[fq]at h1 h2 ⊢
  by_cases e:x=y
  ·subst e;rw[if_pos rfl]at h1
   by_cases e2:x=z
   ·subst e2;rw[if_pos rfl]at h2 ⊢
    exact j8 h1 h2
   ·rw[if_neg e2]at h2 ⊢
    exact h2
  ·rw[if_neg e]at h1;have q1:=of_decide_eq_true h1
   by_cases e2:y=z
   ·subst e2;rw[if_neg e];exact h1
   ·rw[if_neg e2]at h2;have q2:=of_decide_eq_true h2;rw[if_neg (by omega)]
    exact decide_eq_true (by omega)
def vf (k:List Int):List (List Int)->List (List Int)
 |[]=>[k]
 |x::xs=>if lexLt x k=true then x::vf k xs else k::x::xs
def gI:List (List Int)->List (List Int)
 |[]=>[]
 |k::ks=>vf k (gI ks)
theorem jG (k:List Int):∀xs,(vf k xs).Perm (k::xs)
 |[]=>.refl _
 |x::xs=>by
  unfold vf
  split
  ·exact((jG k xs).cons x).trans (List.Perm.swap _ _ _)
  ·exact .refl _
theorem eO:∀ks,(gI ks).Perm ks
 |[]=>.refl _
 |k::ks=>(jG k (gI ks)).trans ((eO ks).cons k)
abbrev t7 (ks:List (List Int)):Prop:=ks.Pairwise λx y=>HT.lexLt y x=false
theorem le_trans' {a b c:List Int}(h1:lexLt b a=false)(h2:lexLt c b=false):lexLt c a=false:=by
 cases h:lexLt c a with
 |false=>rfl
 |true =>
  cases hb:lexLt a b with
  |true=>rw[j8 h hb]at h2;cases h2
  |false =>
   have:=hX hb h1;subst this;rw[h]at h2;cases h2
theorem oP (k:List Int):∀xs,t7 xs->t7 (vf k xs)
 |[],_=>by simp[vf]
 |x::xs,h=>by
  obtain⟨h1,h2⟩:=Xy.mp h;unfold vf
  split
  ·rename_i hx
   refine Xy.mpr ⟨λy hy=>?_,oP k xs h2⟩;rcases WG.mp ((jG k xs).mem_iff.mp hy)with rfl|hy
   ·exact me hx
   ·exact h1 y hy
  ·rename_i hx
   have F6:lexLt x k=false:=by cases q:lexLt x k <;> simp_all
   refine Xy.mpr ⟨λy hy=>?_,h⟩;rcases WG.mp hy with rfl|hy
   ·exact F6
   ·exact le_trans' F6 (h1 y hy)
theorem lz:∀ks,t7 (gI ks)
 |[]=>.nil
 |k::ks=>oP k _ (lz ks)
theorem jU:∀{a b:List (List Int)},a.Perm b->t7 a->t7 b->a=b
 |[],b,p,_,_=>by rw[List.nil_perm.mp p]
 |x::a,[],p,_,_=>by have:=p.length_eq;simp at this
 |x::a,y::b,p,ha,hb=>by
  obtain⟨a1,a2⟩:=Xy.mp ha;obtain⟨b1,b2⟩:=Xy.mp hb;have LU:x=y:=by
   rcases WG.mp (p.mem_iff.mp (WO (a:=x) (l:=a)))with h|h
   ·exact h
   ·rcases WG.mp (p.mem_iff.mpr (WO (a:=y) (l:=b)))with h' | h'
    ·exact h'.symm
    ·exact hX (b1 x h) (a1 y h')
  subst LU;rw[jU (List.perm_cons x |>.mp p) a2 b2]
theorem zJ {a b:List (List Int)}(p:a.Perm b)(h:t7 a):a=gI b:=jU (p.trans (eO b).symm) h (lz b)
def nL:List (List Int)->List (List Int)
 |[]=>[]
 |k::ks=>if k∈nL ks then nL ks else k::nL ks
theorem fW:∀l:List (List Int),(nL l).Nodup/\∀x,x∈nL l↔x∈l
 |[]=>⟨XR,λ_=>Iff.rfl⟩
 |k::ks=>by
  obtain⟨h1,h2⟩:=fW ks;unfold nL
  split
  ·rename_i h
   refine⟨h1,λx=>?_⟩;rw[h2 x,WG];exact⟨.inr,λz=>z.elim (λe=>by rw[e];exact(h2 k).mp h) id⟩
  ·rename_i h
   refine⟨Xg.mpr ⟨h,h1⟩,λx=>?_⟩;rw[WG,WG,h2 x]
theorem xa:∀l:List (List Int),(nL l).length<=l.length
 |[]=>WD _
 |k::ks=>by
  have:=xa ks;unfold nL
  split
  ·exact Nat.le_succ_of_le this
  ·simpa using this
abbrev kD (k:List Int):D:=.tup (k.map D.int)
def dh:List D->Option (List (List Int))
 |[]=>some []
 |.tup a::ds=>match bp a,dh ds with
  |some k,some ks=>if k=[] then none else some (k::ks)
  |_,_=>none
 |_::_=>none
theorem iU:∀{ds:List D} {ks:List (List Int)},dh ds=some ks->ds=ks.map kD/\∀k∈ks,k≠[]
 |[],_,h=>by cases h;exact⟨rfl,λ_ z=>nomatch z⟩
 |.tup a::ds,ks,h=>by
  have h':(match bp a,dh ds with|some k,some ks=>if k=[] then none else some (k::ks)|_,_=>none)=some ks:=h
  cases ea:bp a with
  |none=>rw[ea]at h';cases h'
  |some k =>
   cases eb:dh ds with
   |none=>rw[ea,eb]at h';cases h'
   |some kr =>
    rw[ea,eb]at h'
    by_cases hk:k=[]
    ·simp[hk]at h'
    ·simp only[hk,if_false,Option.some.injEq]at h';subst h';obtain⟨h1,h2⟩:=iU eb;rw[W_,<- h1,sJ ea];refine⟨rfl,λx hx=>?_⟩;rcases WG.mp hx with rfl|hx
     ·exact hk
     ·exact h2 x hx
 |.bU::_,_,h=>by cases h
 |.bl _::_,_,h=>by cases h
 |.str _::_,_,h=>by cases h
 |.obj _::_,_,h=>by cases h
 |.int _::_,_,h=>by cases h
 |.lst _::_,_,h=>by cases h
 |.dT _ _::_,_,h=>by cases h
 |.dK _ _::_,_,h=>by cases h
 |.sT _::_,_,h=>by cases h
theorem gB:∀{ks:List (List Int)},(∀k∈ks,k≠[])->dh (ks.map kD)=some ks
 |[],_=>rfl
 |k::ks,h=>by
  show (match bp (k.map D.int),dh (ks.map kD)with|some k,some ks=>if k=[] then none else some (k::ks)|_,_=>none)=_
  rw[oO,gB λx hx=>h x (WQ _ hx)];simp[h k (WO ..)]
section
variable {P:WI}{w:W6}{W:Addr->Prop}{H:Hp}
theorem gA:∀{ks:List (List Int)} {vs:List V},(∀k∈ks,k≠[])->ah P w W H (ks.map kD) vs->∃ts:List (Addr×List Int),vs=ts.map pP/\vF H ts/\ts.map (·.2)=ks
 |[],_,_,h=>⟨[],h,(λ_ z=>nomatch z),rfl⟩
 |k::ks,_,hk,⟨v,r,e,⟨a,us,e1,e2,e3⟩,h2⟩=>by
  obtain⟨ts,q1,q2,q3⟩:=gA (λx hx=>hk x (WQ _ hx)) h2;refine⟨(a,k)::ts,by rw[e,e1,q1];rfl,λt ht=>?_,by rw[W_,q3]⟩
  rcases WG.mp ht with rfl|ht
  ·rw[bM e3]at e2;exact⟨e2,hk k (WO ..)⟩
  ·exact q2 t ht
theorem gm:∀{ts:List (Addr×List Int)},(∀t∈ts,H t.1=some (.tup (t.2.map V.int)))->ah P w W H ((ts.map (·.2)).map kD) (ts.map pP)
 |[],_=>rfl
 |t::ts,h=>⟨_,_,rfl,⟨t.1,_,rfl,h t (WO ..),oN t.2⟩,gm λx hx=>h x (WQ _ hx)⟩
def qG:List D->Option D
 |[.lst ds]=>match dh ds with
  |some ks=>if ks.length<=1000000 then some (.lst ((gI ks).map kD)) else none
  |none=>none
 |[.sT ts]=>if ts.length<=1000/\(∀k∈ts,k≠[]) then some (.lst ((gI ts).map kD)) else none
 |_=>none
theorem Bn:∀{ns:List Int} {its:List WC},Vals (ns.map V.int) its->ItemsAre (intKind P w) ns its
 |[],_,.nil=>.nil
 |n::ns,_,.cons r t=>by
  obtain⟨tk,rfl⟩:=r;exact .cons (by show Value.isInt n (.int n tk)=true;simp[Value.isInt]) (Bn t)
theorem G0 {h:Heap}{ts:List (Addr×List Int)}(ok:ip P w H h)(T:∀t∈ts,H t.1=some (.tup (t.2.map V.int))):ST.Fw P w h ts:=λt ht=>by
 obtain⟨_,its,r,o,ho,hc,n,hd⟩:=(show a6 P w H h t.1 (.tup (t.2.map V.int)) from ok _ _ (T t ht))
 refine⟨o,its.toArray,n,ho,hc,hd,?_⟩;exact Bn r
def Gs:List D->Option D
 |[.lst ds]=>match dh ds with
  |some ks=>if ks.length<1000 then some (.sT (nL ks)) else none
  |none=>none
 |_=>none
end
section
end
theorem yL {X:Cx} (hc:X.calm=true) (hu:X.A.units+16<Y4):bH X (.type "set") Gs:=by
 intro pins s σ H xs us Q I r h;obtain⟨W,ds,d,hd,r1,e,q⟩:=h
 match ds,e with
 |[.lst es],e =>
  have e':(match dh es with|some ks=>if ks.length<1000 then some (D.sT (nL ks)) else none|none=>none)=some d:=e
  cases ek:dh es with
  |none=>rw[ek]at e';cases e'
  |some ks =>
   rw[ek]at e';obtain⟨hl,rfl⟩:=de e';obtain⟨rfl,hk⟩:=iU ek;obtain⟨x,rfl,p,vs,rfl,hp,n1,q1⟩:=jh r1;obtain⟨ts,rfl,T,rfl⟩:=gA hk q1;obtain⟨u,rfl,rx⟩:=vals1 r;cases rx;obtain⟨its,r',pl,hz⟩:=I.list (c0.of hp);obtain rfl:=f9 r';refine ST.yI (w:=X.w) (I.ok.hd hc) hu pl.isList (by simpa using hl) (G0 I.bx λt ht=>(T t ht).1) λh' tk o' c8 es ep t kp ho S m1 m2=>?_
   have Jj:H s.heap.objs.size=none:=I.bx.fresh (WD _);have nd:=fW (ts.map (·.2));refine⟨.ref s.heap.objs.size,_,I.laid (t':=tk) (o:=Fy X.prog X.w s.heap.objs.size c8) kp (WD _) ?_,rfl,q _ _ (au.new Jj) ⟨_,rfl,⟨c8,aw,λx hx=>?_,?_⟩,wF hd Jj⟩⟩
   ·refine⟨⟨o',es,ep,t,ho,S⟩,⟨o',ho⟩,λh1 h2 vj k=>by obtain⟨o1,e1,VD,t1,g1,g2⟩:=vj;exact⟨o1,e1,VD,t1,k _ g1,g2⟩⟩
   ·exact(au.new Jj) _ _ (T x (m1 x hx)).1
   ·refine(ZY S.PD nd.1).mpr λk=>?_;rw[nd.2 k,WT,WT];constructor
    ·rintro⟨x,hx,rfl⟩;exact⟨x,m1 x hx,rfl⟩
    ·rintro⟨x,hx,rfl⟩;obtain⟨y,hy,e⟩:=m2 x hx;exact⟨y,hy,e⟩
def jk (ns:List Int):Prop:=∃x y:Int,ns=[x,y]/\0<=x/\0<=y/\y<2147483647
theorem Hand.ok {H:Hp}{h:Addr}(d:Hand H h):∃ns,H h=some (.lst (ns.map V.int))/\jk ns:=by
 obtain⟨x,y,e,h1,h2,h3⟩:=d;exact⟨[x,y],e,x,y,rfl,h1,h2,h3⟩
theorem jk.hand {H:Hp}{h:Addr}{ns:List Int}(e:H h=some (.lst (ns.map V.int)))(o:jk ns):Hand H h:=by
 obtain⟨x,y,rfl,h1,h2,h3⟩:=o;exact⟨x,y,e,h1,h2,h3⟩
def cZ:FD:=λds R=>∃n:Int,ds=[.int n]/\0<n/\n<2 ^ 200/\∀r:Int,0<=r->r<n->R (.int r)
theorem cZ.mono:c5 cZ:=λds R R' k ⟨n,e,h1,h2,q⟩=>⟨n,e,h1,h2,λr a b=>k _ (q r a b)⟩
section
end
section
variable {X:Cx}{W:Addr->Prop}{H:Hp}
theorem u0 {p:Addr}{vs:List V}{ds:List D}(n:H p=none)(f:NL (.lst ds))(r:ji X W H ds vs):Rp X (λa=>H a≠none) (upd H p (.lst vs)) (.lst ds) (.ref p) :=
 ⟨p,vs,rfl,aw,λz=>z n,ah.flat f (r.same (au.new n))⟩
def Pb (X:Cx)(f:D->D->Option D):R2:=λx y H Q=>∃W d1 d2 d,Dm W H/\Rp X W H d1 x/\Rp X W H d2 y/\f d1 d2=some d/\∀v H',au H H'->Rp X W H' d v->(NL d->Rp X (λa=>H a≠none) H' d v)->Q v H'
def Pa (X:Cx)(f:List D->Option D):List V->Hp->VK->Prop:=λxs H Q=>∃W ds d,Dm W H/\ji X W H ds xs/\f ds=some d/\∀v H',au H H'->Rp X W H' d v->(NL d->Rp X (λa=>H a≠none) H' d v)->Q v H'
def KY (X:Cx)(f:D->Option Int->Option Int->Option D):V->Option Int->Option Int->Hp->VK->Prop:=λx lo hi H Q=>∃W d1 d,Dm W H/\Rp X W H d1 x/\f d1 lo hi=some d/\∀v H',au H H'->Rp X W H' d v->(NL d->Rp X (λa=>H a≠none) H' d v)->Q v H'
abbrev Nr (X:Cx)(f:WC->WC->Sem WC)(g:D->D->Option D):Prop:=jj X f (Pb X g)
abbrev vI (X:Cx)(f:WC)(g:List D->Option D):Prop:=eU X f (Pa X g)
theorem aC:Nr X (YT .Add) Cg:=by
 intro pins s σ H x y v u Q I rx ry h;obtain⟨W,d1,d2,d,hd,r1,r2,e,q⟩:=h;rcases yf e with⟨a,b,rfl,rfl,e⟩|e
 ·obtain⟨hl,rfl⟩:=de e;obtain⟨p,vs,rfl,h1,n1,q1⟩:=r1;obtain⟨p',vs',rfl,h2,n2,q2⟩:=r2;exact AI pins s σ H _ _ v u Q I rx ry ⟨p,p',vs,vs',rfl,rfl,h1,h2,by rw[q1.length,q2.length];exact hl,λl vm=>q _ _ (au.new vm) (Rp.fO hd vm (q1.append q2)) λf=>u0 vm f (q1.append q2)⟩
 ·obtain⟨i,j,rfl,rfl,e⟩:=jF e;cases e;cases r1;cases r2;exact uY pins s σ H _ _ v u Q I rx ry ⟨i,j,rfl,rfl,q _ _ (au.refl _) rfl λ_=>rfl⟩
theorem Dk:RL X (KY X Ts):=by
 intro pins s σ H x v vl vu lo hi sl Q I rx hs pl pu h;obtain⟨W,d1,d,hd,r1,e,q⟩:=h;cases d1 with
 |lst ds =>
  cases e;obtain⟨p,vs,rfl,h1,n1,q1⟩:=r1;have rr:ji X W H (cutD ds lo hi) (tP vs lo hi):=by
   unfold tP cutD;rw[q1.length];exact(ah.drop _ q1).take _
  exact vU pins s σ H _ v vl vu lo hi sl Q I rx hs pl pu ⟨p,vs,rfl,c0.of h1,λl hl=>q _ _ (au.new hl) (Rp.fO hd hl rr) λf=>u0 hl f rr⟩
 |_=>cases e
theorem tT:vI X (.type "list") dList:=by
 intro pins s σ H xs us Q I r h;obtain⟨W,ds,d,hd,r1,e,q⟩:=h
 match ds,e with
 |[.lst es],e =>
  cases e;obtain⟨v,r',rfl,⟨p,vs,rfl,h1,n1,q1⟩,hr⟩:=r1;cases hr;exact i9 pins s σ H _ us Q I r ⟨p,vs,rfl,.inl (c0.of h1),λl hl=>q _ _ (au.new hl) (Rp.fO hd hl q1) λf=>u0 hl f q1⟩
 |[.tup es],e =>
  cases e;obtain⟨v,r',rfl,⟨p,vs,rfl,h1,q1⟩,hr⟩:=r1;cases hr;exact i9 pins s σ H _ us Q I r ⟨p,vs,rfl,.inr (t9.of h1),λl hl=>q _ _ (au.new hl) (Rp.fO hd hl q1) λf=>u0 hl f q1⟩
theorem qJ:vI X (.builtin "sorted") (λds=>match ds with | [.lst ds]=>qG [.lst ds]|_=>none):=by
 intro pins s σ H xs us Q I r h;obtain⟨W,ds,d,hd,r1,e,q⟩:=h
 match ds,e with
 |[.lst es],e =>
  have e':(match dh es with|some ks=>if ks.length<=1000000 then some (D.lst ((gI ks).map kD)) else none|none=>none)=some d:=e
  cases ek:dh es with
  |none=>rw[ek]at e';cases e'
  |some ks =>
   rw[ek]at e';obtain⟨hl,rfl⟩:=de e';obtain⟨rfl,hk⟩:=iU ek;obtain⟨x,rfl,p,vs,rfl,hp,n1,q1⟩:=jh r1;obtain⟨ts,rfl,T,rfl⟩:=gA hk q1;refine qH pins s σ H _ us Q I r ⟨p,ts,rfl,c0.of hp,T,by simpa using hl,λl c8 vm I_ UZ=>?_⟩
   have eq:c8.map (·.2)=gI (ts.map (·.2)):=zJ (I_.map _) (XW.mpr UZ);rw[<- eq]at q;have rk:=gm (P:=X.prog) (w:=X.w) (W:=W) (H:=H) (ts:=c8) λt ht=>(T t (I_.mem_iff.mp ht)).1;exact q _ _ (au.new vm) (Rp.fO hd vm rk) λf=>u0 vm f rk
theorem qI (hc:X.calm=true):vI X (.builtin "sorted") (λds=>match ds with | [.sT ts]=>qG [.sT ts]|_=>none):=by
 intro pins s σ H xs us Q I r h;obtain⟨W,ds,d,hd,r1,e,q⟩:=h
 match ds,e with
 |[.sT ks],e =>
  obtain⟨⟨hl,hk⟩,rfl⟩:=de (show (if ks.length<=1000/\(∀k∈ks,k≠[]) then some (D.lst ((gI ks).map kD)) else none)=some d from e)
  obtain⟨x,rfl,p,rfl,⟨ts,hp,T,pm⟩,nW⟩:=jh r1;obtain⟨u,rfl,rx⟩:=vals1 r;cases rx;obtain⟨⟨o,es,ep,t,ho,S⟩,_,_⟩:=(show a6 X.prog X.w H s.heap p (Fy X.prog X.w p ts) from I.bx p _ hp)
  have tl:ts.length=ks.length:=by rw[<- pm.length_eq,WB]
  have T':vF H ts:=λt ht=>⟨T t ht,hk _ (pm.mem_iff.mp (WT.mpr ⟨t,ht,rfl⟩))⟩;obtain⟨us,Bu,col⟩:=ST.qT (s:=s) ho S (by omega)
  have T2:vF H us:=λt ht=>T' t (Bu.mem_iff.mp ht);refine TS.uI (vs:=us.map λx=>Value.ref x.1) (kf:=sG H) (by rw[WB,Bu.length_eq];omega) (λR hR=>col _ _ R (by simp[I.ok.hd hc]) λh' tk kp=>hR h' tk kp) (vM I.bx T2 (WD _)) λout h1 h' tk n jl hs k1 kp EG=>?_
  ·obtain⟨e1,e2⟩:=oj T2 jl;have zl:out.length=us.length:=by rw[jl.length_eq,WB]
   have eq:(out.map (Gi H)).map (·.2)=gI ks:=by
    refine zJ ((e2.trans Bu).map _ |>.trans pm) ?_
    refine XW.mpr (XW.mpr ?_);refine hs.imp_of_mem λ{x y} hx hy hh=>?_;obtain⟨t,ht,rfl⟩:=WT.mp (jl.mem_iff.mp hx);obtain⟨t',N2,rfl⟩:=WT.mp (jl.mem_iff.mp hy);exact hh
   have I1:Inv X pins σ H {s with heap:=h1,toks:=s.toks}:=I.kept k1
   have Jj:H h1.objs.size=none:=I1.bx.fresh (WD _);refine⟨.ref h1.objs.size,_,I1.laid (t':=tk) (o:=.lst ((out.map (Gi H)).map pP)) kp (WD _) ?_,rfl,q _ _ (au.new Jj) ?_ ?_⟩
   ·refine⟨by rw[WB,WB,zl,Bu.length_eq,XO];omega,out,n,?_,EG⟩
    have:=ju (out.map (Gi H));rw[<- e1]at this;exact this
   ·rw[<- eq];exact Rp.fO hd Jj (gm λt ht=>(T2 t (e2.mem_iff.mp ht)).1)
   ·rw[<- eq];exact λf=>u0 (W:=W) Jj f (gm λt ht=>(T2 t (e2.mem_iff.mp ht)).1)
end
section
end
end L2
namespace L2.Q
open PySem PySem.Spec PySem.SeqAt PyProof.Rows
section
variable (P:WI)(w:W6)(H:Hp)
mutual
def Own:D->V->List Addr->Prop
 |.tup ds,v,A=>∃a vs,v=.ref a/\H a=some (.tup vs)/\aI ds vs A
 |.lst ds,v,A=>∃a vs A',v=.ref a/\H a=some (.lst vs)/\A=a::A'/\aI ds vs A'
 |.dT ks ds,v,A=>∃a vs A',v=.ref a/\H a=some (.dT (ks.zip vs))/\ks.length=vs.length/\A=a::A'/\aI ds vs A'
 |.dK ks ds,v,A=>∃a vs A',v=.ref a/\H a=some (.dK (ks.zip vs))/\ks.length=vs.length/\A=a::A'/\aI ds vs A'
 |.sT ts,v,A=>∃a,v=.ref a/\Fx P w H a ts/\A=[a]
 |.bU,v,A=>v=.bU/\A=[]
 |.bl b,v,A=>v=.bl b/\A=[]
 |.int i,v,A=>v=.int i/\A=[]
 |.str x,v,A=>v=.str x/\A=[]
 |.obj a,v,A=>v=.ref a/\A=[]
def aI:List D->List V->List Addr->Prop
 |[],vs,A=>vs=[]/\A=[]
 |d::ds,vs,A=>∃v r A1 A2,vs=v::r/\A=A1++A2/\Own d v A1/\aI ds r A2
end
end
section
variable {P:WI}{w:W6}{W:Addr->Prop}{H H':Hp}
theorem xK {a:Addr}{ts:List (List Int)}(k:∀b xs,H b=some (.tup xs)->H' b=some (.tup xs))(ha:∀o,H a=some o->H' a=some o)(h:Fx P w H a ts):Fx P w H' a ts :=
 let ⟨c8,e,r,z⟩:=h;⟨c8,ha _ e,λx hx=>k _ _ (r x hx),z⟩
mutual
theorem Own.keep (k:∀b xs,H b=some (.tup xs)->H' b=some (.tup xs)):∀{d:D} {v:V} {A:List Addr},(∀c∈A,∀o,H c=some o->H' c=some o)->Own P w H d v A->Own P w H' d v A
 |.tup ds,_,_,ha,⟨a,vs,e,t,r⟩=>⟨a,vs,e,k a vs t,aI.keep k ha r⟩
 |.lst ds,_,_,ha,⟨a,vs,A',e,t,eA,r⟩=>⟨a,vs,A',e,ha a (by rw[eA];simp) _ t,eA,aI.keep k (λc hc=>ha c (by rw[eA];simp[hc])) r⟩
 |.dT ks ds,_,_,ha,⟨a,vs,A',e,t,l,eA,r⟩=>⟨a,vs,A',e,ha a (by rw[eA];simp) _ t,l,eA,aI.keep k (λc hc=>ha c (by rw[eA];simp[hc])) r⟩
 |.dK ks ds,_,_,ha,⟨a,vs,A',e,t,l,eA,r⟩=>⟨a,vs,A',e,ha a (by rw[eA];simp) _ t,l,eA,aI.keep k (λc hc=>ha c (by rw[eA];simp[hc])) r⟩
 |.sT ts,_,_,ha,⟨a,e,r,eA⟩=>⟨a,e,xK k (λo ho=>ha a (by rw[eA];simp) o ho) r,eA⟩
 |.bU,_,_,_,h=>h
 |.bl _,_,_,_,h=>h
 |.int _,_,_,_,h=>h
 |.str _,_,_,_,h=>h
 |.obj _,_,_,_,h=>h
theorem aI.keep (k:∀b xs,H b=some (.tup xs)->H' b=some (.tup xs)):∀{ds:List D} {vs:List V} {A:List Addr},(∀c∈A,∀o,H c=some o->H' c=some o)->aI P w H ds vs A->aI P w H' ds vs A
 |[],_,_,_,h=>h
 |d::ds,_,_,ha,⟨v,r,A1,A2,e,eA,h1,h2⟩=>⟨v,r,A1,A2,e,eA,Own.keep k (λc hc=>ha c (by rw[eA];simp[hc])) h1,aI.keep k (λc hc=>ha c (by rw[eA];simp[hc])) h2⟩
end
mutual
theorem Own.rep:∀{d:D} {v:V} {A:List Addr},(∀c∈A,¬ W c)->Own P w H d v A->az P w W H d v
 |.tup ds,_,_,ha,⟨a,vs,e,t,r⟩=>⟨a,vs,e,t,aI.rep ha r⟩
 |.lst ds,_,_,ha,⟨a,vs,A',e,t,eA,r⟩=>⟨a,vs,e,t,ha a (by rw[eA];simp),aI.rep (λc hc=>ha c (by rw[eA];simp[hc])) r⟩
 |.dT ks ds,_,_,ha,⟨a,vs,A',e,t,l,eA,r⟩=>⟨a,vs,e,t,l,ha a (by rw[eA];simp),aI.rep (λc hc=>ha c (by rw[eA];simp[hc])) r⟩
 |.dK ks ds,_,_,ha,⟨a,vs,A',e,t,l,eA,r⟩=>⟨a,vs,e,t,l,ha a (by rw[eA];simp),aI.rep (λc hc=>ha c (by rw[eA];simp[hc])) r⟩
 |.sT ts,_,_,ha,⟨a,e,r,eA⟩=>⟨a,e,r,ha a (by rw[eA];simp)⟩
 |.bU,_,_,_,h=>h.1
 |.bl _,_,_,_,h=>h.1
 |.int _,_,_,_,h=>h.1
 |.str _,_,_,_,h=>h.1
 |.obj _,_,_,_,h=>h.1
theorem aI.rep:∀{ds:List D} {vs:List V} {A:List Addr},(∀c∈A,¬ W c)->aI P w H ds vs A->ah P w W H ds vs
 |[],_,_,_,h=>h.1
 |d::ds,_,_,ha,⟨v,r,A1,A2,e,eA,h1,h2⟩=>⟨v,r,e,Own.rep (λc hc=>ha c (by rw[eA];simp[hc])) h1,aI.rep (λc hc=>ha c (by rw[eA];simp[hc])) h2⟩
end
mutual
theorem Own.nc:∀{d:D} {v:V} {A:List Addr},Own P w H d v A->∀c∈A,H c≠none/\∀xs,H c≠some (.tup xs)
 |.tup ds,_,_,⟨a,vs,e,t,r⟩,c,hc=>aI.nc r c hc
 |.lst ds,_,_,⟨a,vs,A',e,t,eA,r⟩,c,hc=>by
  rw[eA]at hc;rcases WG.mp hc with rfl|hc
  ·rw[t];exact⟨λz=>(nomatch z),λxs z=>by cases z⟩
  ·exact aI.nc r c hc
 |.dT ks ds,_,_,⟨a,vs,A',e,t,l,eA,r⟩,c,hc=>by
  rw[eA]at hc;rcases WG.mp hc with rfl|hc
  ·rw[t];exact⟨λz=>(nomatch z),λxs z=>by cases z⟩
  ·exact aI.nc r c hc
 |.dK ks ds,_,_,⟨a,vs,A',e,t,l,eA,r⟩,c,hc=>by
  rw[eA]at hc;rcases WG.mp hc with rfl|hc
  ·rw[t];exact⟨λz=>(nomatch z),λxs z=>by cases z⟩
  ·exact aI.nc r c hc
 |.sT ts,_,_,⟨a,e,⟨c8,t,r,z⟩,eA⟩,c,hc=>by
  rw[eA]at hc;rw[WN.mp hc,t];exact⟨λz=>(nomatch z),λxs z=>by cases z⟩
 |.bU,_,_,h,c,hc=>by rw[h.2]at hc;cases hc
 |.bl _,_,_,h,c,hc=>by rw[h.2]at hc;cases hc
 |.int _,_,_,h,c,hc=>by rw[h.2]at hc;cases hc
 |.str _,_,_,h,c,hc=>by rw[h.2]at hc;cases hc
 |.obj _,_,_,h,c,hc=>by rw[h.2]at hc;cases hc
theorem aI.nc:∀{ds:List D} {vs:List V} {A:List Addr},aI P w H ds vs A->∀c∈A,H c≠none/\∀xs,H c≠some (.tup xs)
 |[],_,_,h,c,hc=>by rw[h.2]at hc;cases hc
 |d::ds,_,_,⟨v,r,A1,A2,e,eA,h1,h2⟩,c,hc=>by
  rw[eA]at hc;rcases W4.mp hc with hc|hc
  ·exact Own.nc h1 c hc
  ·exact aI.nc h2 c hc
end
mutual
theorem cX:∀{d:D} {v:V},d.flat=true->az P w W H d v->Own P w H d v []
 |.tup ds,_,f,⟨a,vs,e,t,r⟩=>⟨a,vs,e,t,gv (by simpa[D.flat] using f) r⟩
 |.lst ds,_,f,_=>by simp[D.flat]at f
 |.dT ks ds,_,f,_=>by simp[D.flat]at f
 |.dK ks ds,_,f,_=>by simp[D.flat]at f
 |.sT ts,_,f,_=>by simp[D.flat]at f
 |.bU,_,_,h=>⟨h,rfl⟩
 |.bl _,_,_,h=>⟨h,rfl⟩
 |.int _,_,_,h=>⟨h,rfl⟩
 |.str _,_,_,h=>⟨h,rfl⟩
 |.obj _,_,_,h=>⟨h,rfl⟩
theorem gv:∀{ds:List D} {vs:List V},D.bR ds=true->ah P w W H ds vs->aI P w H ds vs []
 |[],_,_,h=>⟨h,rfl⟩
 |d::ds,_,f,⟨v,r,e,h1,h2⟩=>by
  have f':(d.flat&&D.bR ds)=true:=f;rw[Xz]at f';exact⟨v,r,[],[],e,rfl,cX f'.1 h1,gv f'.2 h2⟩
end
theorem aI.length:∀{ds:List D} {vs:List V} {A:List Addr},aI P w H ds vs A->vs.length=ds.length
 |[],_,_,h=>by rw[h.1];rfl
 |d::ds,_,_,⟨v,r,A1,A2,e,eA,h1,h2⟩=>by rw[e,WS,WS,aI.length h2]
theorem aI.append:∀{ds ds':List D} {vs vs':List V} {A A':List Addr},aI P w H ds vs A->aI P w H ds' vs' A'->aI P w H (ds++ds') (vs++vs') (A++A')
 |[],_,_,_,_,_,h,h'=>by rw[h.1,h.2];exact h'
 |d::ds,_,_,_,_,_,⟨v,r,A1,A2,e,eA,h1,h2⟩,h'=>by
  subst e eA;exact⟨v,_,A1,_,rfl,by rw[X4],h1,aI.append h2 h'⟩
theorem aI.one {d:D}{v:V}{A:List Addr}(h:Own P w H d v A):aI P w H [d] [v] A:=⟨v,[],A,[],rfl,by simp,h,rfl,rfl⟩
theorem aI.split:∀{ds:List D} {vs:List V} {A:List Addr} {i:Nat} {d:D},aI P w H ds vs A->ds[i]?=some d->∃v A1 A2 A3,vs[i]?=some v/\A=A1++(A2++A3)/\aI P w H (ds.take i) (vs.take i) A1/\Own P w H d v A2/\aI P w H (ds.drop (i+1)) (vs.drop (i+1)) A3
 |[],_,_,_,_,_,e=>by simp at e
 |d::ds,_,_,0,_,⟨v,r,A1,A2,e,eA,h1,h2⟩,e'=>by
  simp at e';subst e' e eA;exact⟨v,[],A1,A2,by simp,by simp,⟨rfl,rfl⟩,h1,by simpa using h2⟩
 |d::ds,_,_,i+1,_,⟨v,r,A1,A2,e,eA,h1,h2⟩,e'=>by
  subst e eA;obtain⟨u,B1,B2,B3,g1,g2,g3,g4,g5⟩:=aI.split (i:=i) h2 (by simpa using e')
  exact⟨u,A1++B1,B2,B3,by simpa using g1,by rw[g2];simp[X4],by simpa using ⟨v,_,A1,B1,rfl,rfl,h1,g3⟩,g4,by simpa using g5⟩
end
inductive Kd where
 |own|eW|old|bor
inductive B where
 |val (y:Bool) (d:D)|own (d:D)|hand (ok:List Int->Prop)|shl (y:Bool) (d:D)
abbrev a7:=List (Option B)
structure Cfg where
 H0:Hp
 IO:Addr->Prop
 /-- is the result to be Li own -/
 ro:Bool
 /-- what else PF data keeps off -/
 U:Addr->Prop:=λ_=>False
abbrev Wn (own:Nat->List Addr):Addr->Prop:=λa=>∃i,a∈own i
def av (C:Cfg)(W:Addr->Prop):Kd->Addr->Prop
 |.own,a=>W a\/C.H0 a≠none
 |.eW,a=>W a\/C.H0 a≠none
 |.old,a=>W a
 |.bor,_=>False
def fZ (C:Cfg)(W:Addr->Prop)(k:Kd)(a:Addr):Prop:=av C W k a\/C.U a
abbrev yk (y:Bool):Kd:=match y with|true=>.eW|false=>.old
def Ud:D->HO->List V->Prop
 |.lst _,o,vs=>o=.lst vs
 |.dT ks _,o,vs=>o=.dT (ks.zip vs)/\ks.length=vs.length
 |.dK ks _,o,vs=>o=.dK (ks.zip vs)/\ks.length=vs.length
 |_,_,_=>False
def Ue:D->List D
 |.lst ds=>ds
 |.dT _ ds=>ds
 |.dK _ ds=>ds
 |_=>[]
def Kk (P:WI)(w:W6)(W:Addr->Prop)(H:Hp)(d:D)(v:V)(A:List Addr):Prop:=∃a o vs,v=.ref a/\A=[a]/\H a=some o/\Ud d o vs/\ah P w W H (Ue d) vs
theorem Kk.map {P:WI}{w:W6}{W W':Addr->Prop}{H H':Hp}{d:D}{v:V}{A:List Addr}(h:Kk P w W H d v A)(ha:∀c∈A,∀o,H c=some o->H' c=some o)(hr:∀ds vs,ah P w W H ds vs->ah P w W' H' ds vs):Kk P w W' H' d v A :=
 let ⟨a,o,vs,e1,e2,e3,e4,r⟩:=h;⟨a,o,vs,e1,e2,ha a (by rw[e2];simp) o e3,e4,hr _ _ r⟩
theorem Kk.rep {P:WI}{w:W6}{W W':Addr->Prop}{H:Hp}{d:D}{v:V}{A:List Addr}(h:Kk P w W H d v A)(ha:∀c∈A,¬ W' c)(hs:∀ds vs,ah P w W H ds vs->ah P w W' H ds vs):az P w W' H d v:=by
 obtain⟨a,o,vs,rfl,rfl,e,sh,r⟩:=h;have na:=ha a (by simp)
 replace r:=hs _ _ r;cases d with
 |lst ds=>cases sh;exact⟨a,vs,rfl,e,na,r⟩
 |dT ks ds=>obtain⟨rfl,l⟩:=sh;exact⟨a,vs,rfl,e,l,na,r⟩
 |dK ks ds=>obtain⟨rfl,l⟩:=sh;exact⟨a,vs,rfl,e,l,na,r⟩
 |_=>exact sh.elim
structure bY (P:WI)(w:W6)(C:Cfg)(σ:St)(H:Hp)(β:a7)(own:Nat->List Addr):Prop where
 len:β.length=σ.length
 val:∀(i:Nat) (y:Bool) (d:D),β[i]?=some (some (.val y d))->∃v,σ[i]?=some (some v)/\az P w (fZ C (Wn own) (yk y)) H d v
 ow:∀(i:Nat) (d:D),β[i]?=some (some (.own d))->∃v,σ[i]?=some (some v)/\Own P w H d v (own i)/\∀c∈own i,C.H0 c=none
 nC:∀(i:Nat) (ok:List Int->Prop),β[i]?=some (some (.hand ok))->∃a ns,σ[i]?=some (some (.ref a))/\H a=some (.lst (ns.map V.int))/\ok ns/\own i=[a]/\((∀b,¬ C.IO b)\/C.IO a)
 dm:∀(i:Nat) (a:Addr),a∈own i->H a≠none/\(∀xs,H a≠some (.tup xs))/\(C.H0 a=none\/C.IO a)/\¬ C.U a
 mQ:∀(i j:Nat) (a:Addr),a∈own i->a∈own j->i=j
 m9:∀i,(own i).Nodup
 kp:Kp C.IO C.H0 H
 iu:∀a,C.H0 a≠none->H a≠none
 shl:∀(i:Nat) (y:Bool) (d:D),β[i]?=some (some (.shl y d))->∃v,σ[i]?=some (some v)/\Kk P w (fZ C (Wn own) (yk y)) H d v (own i)/\∀c∈own i,C.H0 c=none
abbrev SQ (X:Cx):=bY X.prog X.w
section
variable {P:WI}{w:W6}{C:Cfg}{σ:St}{H H':Hp}{β:a7}{own:Nat->List Addr}{W W':Addr->Prop}
theorem bY.y_ (b:bY P w C σ H β own):Dm (Wn own) H:=λa ⟨i,h⟩=>(b.dm i a h).1
theorem bY.za (b:bY P w C σ H β own)(k:Kd):Dm (av C (Wn own) k) H:=λa h=>by
 cases k with
 |own=>exact h.elim (b.y_ a) (b.iu a)
 |eW=>exact h.elim (b.y_ a) (b.iu a)
 |old=>exact b.y_ a h
 |bor=>exact h.elim
theorem k8 (s:∀a,W' a->W a)(k:Kd):∀a,av C W' k a->av C W k a:=λa h=>by
 cases k with
 |own=>exact h.imp (s a) id
 |eW=>exact h.imp (s a) id
 |old=>exact s a h
 |bor=>exact h
theorem jg (s:∀a,W' a->W a)(k:Kd):∀a,fZ C W' k a->fZ C W k a:=λa h=>h.imp (k8 s k a) id
theorem bY.keep (b:bY P w C σ H β own)(k:Kp (λa=>H a=none) H H')(kp:Kp C.IO H H')(dn:∀a,H a≠none->H' a≠none):bY P w C σ H' β own:=by
 have ko:∀c o,H c=some o->H' c=some o:=λc o e=>k.out c o e (by rw[e];exact λz=>(nomatch z))
 have same:au H H':=ko;exact⟨b.len,λi y d e=>let ⟨v,h1,h2⟩:=b.val i y d e;⟨v,h1,h2.same same⟩,λi d e=>let ⟨v,h1,h2,h3⟩:=b.ow i d e;⟨v,h1,h2.keep (λ_ _ e=>same _ _ e) (λc _ o e=>same c o e),h3⟩,
  λi ok e=>let ⟨a,ns,h1,h2,h3⟩:=b.nC i ok e;⟨a,ns,h1,same _ _ h2,h3⟩,λi a h=>by
   obtain⟨h1,h2,h3⟩:=b.dm i a h;cases q:H a with
   |none=>exact absurd q h1
   |some o=>rw[same a o q];exact⟨λz=>(nomatch z),λxs z=>h2 xs (by rw[q];exact z),h3⟩,b.mQ,b.m9,b.kp.trans kp,λa z=>dn a (b.iu a z),λi y d e=>let ⟨v,h1,h2,h3⟩:=b.shl i y d e;⟨v,h1,h2.map (λc _ o e=>same c o e) (λ_ _ r=>r.same same),h3⟩⟩
theorem bY.same (b:bY P w C σ H β own)(s:au H H'):bY P w C σ H' β own:=b.keep s.kp s.kp λa z e=>z (s.free e)
theorem eY {own:Nat->List Addr}{i:Nat}{a:Addr}(h:Wn (aR own i []) a):Wn own a:=let ⟨j,q⟩:=h;⟨j,(bV q).1⟩
theorem bF {own:Nat->List Addr}{i j:Nat}{A:List Addr}(h:i≠j):aR own i A j=own j:=by unfold aR;rw[if_neg (X6 h)]
theorem os_eq {own:Nat->List Addr}{i:Nat}{A:List Addr}:aR own i A i=A:=by unfold aR;rw[if_pos rfl]
theorem bY.fI {i:Nat}{d:D}{v:V}{y:Bool}(b:bY P w C σ H β own)(r:az P w (fZ C (Wn own) (yk y)) H d v):bY P w C (σ.set i (some v)) H (β.set i (some (.val y d))) (aR own i []):=by
 have sub:∀y a,fZ C (Wn (aR own i [])) (yk y) a->fZ C (Wn own) (yk y) a:=λy=>jg (λa h=>eY h) _;refine⟨by simp[b.len],λj y' d' e=>?_,λj d' e=>?_,λj ok e=>?_,λj a h=>b.dm j a (bV h).1,λj k a h1 h2=>b.mQ j k a (bV h1).1 (bV h2).1,λj=>?_,b.kp,b.iu,λj y' d' e=>?_⟩
 ·by_cases aF:i=j
  ·subst aF;obtain⟨e',hl⟩:=bD e;cases e';exact⟨v,get_set (by rw[<- b.len];exact hl),r.aV (sub _)⟩
  ·rw[bw aF]at e ⊢
   obtain⟨u,h1,h2⟩:=b.val j y' d' e;exact⟨u,h1,h2.aV (sub _)⟩
 ·by_cases aF:i=j
  ·subst aF;obtain⟨e',hl⟩:=bD e;cases e'
  ·rw[bw aF]at e ⊢
   rw[bF aF];exact b.ow j d' e
 ·by_cases aF:i=j
  ·subst aF;obtain⟨e',hl⟩:=bD e;cases e'
  ·rw[bw aF]at e ⊢
   rw[bF aF];exact b.nC j ok e
 ·by_cases aF:i=j
  ·rw[aF,os_eq];exact XR
  ·rw[bF aF];exact b.m9 j
 ·by_cases aF:i=j
  ·subst aF;obtain⟨e',hl⟩:=bD e;cases e'
  ·rw[bw aF]at e ⊢
   rw[bF aF];obtain⟨u,h1,h2,h3⟩:=b.shl j y' d' e;exact⟨u,h1,h2.map (λ_ _ _ z=>z) (λ_ _ r=>ah.aV (sub _) r),h3⟩
theorem bY.zX {i:Nat}{d:D}{v:V}{A:List Addr}(b:bY P w C σ H β own)(r:Own P w H d v A)(nd:A.Nodup)(nw:∀c∈A,C.H0 c=none/\¬ Wn own c/\C.U c):
  bY P w {C with U:=λ_=>False} (σ.set i (some v)) H (β.set i (some (.own d))) (aR own i A):=by
 have sub:∀y a,fZ {C with U:=λ_=>False} (Wn (aR own i A)) (yk y) a->fZ C (Wn own) (yk y) a:=λy a h=>by
  have q:∀a,Wn (aR own i A) a->Wn own a\/a∈A:=λa vh=>by
   obtain⟨j,q⟩:=vh
   by_cases aF:i=j
   ·rw[aF,os_eq]at q;exact .inr q
   ·rw[bF aF]at q;exact .inl ⟨j,q⟩
  have q':∀a,Wn (aR own i A) a->Wn own a\/C.U a:=λa z=>(q a z).imp id λz=>(nw a z).2.2;rcases h with h|h
  ·cases y with
   |true=>exact h.elim (λz=>(q' a z).imp .inl id) λz=>.inl (.inr z)
   |false=>exact q' a h
  ·exact h.elim
 have mem:∀{j c},c∈aR own i A j->(i=j/\c∈A)\/(i≠j/\c∈own j):=λ{j c} h=>by
  by_cases aF:i=j
  ·subst aF;rw[os_eq]at h;exact .inl ⟨rfl,h⟩
  ·rw[bF aF]at h;exact .inr ⟨aF,h⟩
 refine⟨by simp[b.len],λj y' d' e=>?_,λj d' e=>?_,λj ok e=>?_,λj a h=>?_,λj k a h1 h2=>?_,λj=>?_,b.kp,b.iu,λj y' d' e=>?_⟩
 ·by_cases aF:i=j
  ·subst aF;obtain⟨e',hl⟩:=bD e;cases e'
  ·rw[bw aF]at e ⊢
   obtain⟨u,h1,h2⟩:=b.val j y' d' e;exact⟨u,h1,h2.aV (sub _)⟩
 ·by_cases aF:i=j
  ·subst aF;obtain⟨e',hl⟩:=bD e;cases e';rw[os_eq];exact⟨v,get_set (by rw[<- b.len];exact hl),r,λc hc=>(nw c hc).1⟩
  ·rw[bw aF]at e ⊢
   rw[bF aF];exact b.ow j d' e
 ·by_cases aF:i=j
  ·subst aF;obtain⟨e',hl⟩:=bD e;cases e'
  ·rw[bw aF]at e ⊢
   rw[bF aF];exact b.nC j ok e
 ·rcases mem h with⟨_,h⟩|⟨_,h⟩
  ·exact⟨(r.nc a h).1,(r.nc a h).2,.inl (nw a h).1,λz=>z⟩
  ·exact⟨(b.dm j a h).1,(b.dm j a h).2.1,(b.dm j a h).2.2.1,λz=>z⟩
 ·rcases mem h1 with⟨e1,h1⟩|⟨n1,h1⟩
  ·rcases mem h2 with⟨e2,h2⟩|⟨n2,h2⟩
   ·rw[<- e1,<- e2]
   ·exact absurd ⟨k,h2⟩ (nw a h1).2.1
  ·rcases mem h2 with⟨e2,h2⟩|⟨n2,h2⟩
   ·exact absurd ⟨j,h1⟩ (nw a h2).2.1
   ·exact b.mQ j k a h1 h2
 ·by_cases aF:i=j
  ·rw[<- aF,os_eq];exact nd
  ·rw[bF aF];exact b.m9 j
 ·by_cases aF:i=j
  ·subst aF;obtain⟨e',hl⟩:=bD e;cases e'
  ·rw[bw aF]at e ⊢
   rw[bF aF];obtain⟨u,h1,h2,h3⟩:=b.shl j y' d' e;exact⟨u,h1,h2.map (λ_ _ _ z=>z) (λ_ _ r=>ah.aV (sub _) r),h3⟩
theorem bY.freeze {i:Nat}{d:D}(b:bY P w C σ H β own)(h:β[i]?=some (some (.own d))):bY P w C σ H (β.set i (some (.val true d))) (aR own i []):=by
 obtain⟨v,h1,h2,h3⟩:=b.ow i d h;have e:σ.set i (some v)=σ:=by
  apply YB;intro j;rw[Zc]
  by_cases aF:i=j
  ·subst aF;rw[if_pos rfl,h1];have:i<σ.length:=(W3.mp h1).1;rw[if_pos this]
  ·rw[if_neg aF]
 have q:=bY.fI (i:=i) (d:=d) (v:=v) (y:=true) (own:=aR own i []) (C:=C) (P:=P) (w:=w) (σ:=σ) (H:=H) (β:=β.set i none);have b':bY P w C σ H (β.set i none) (aR own i []):=by
  have sub:∀y a,fZ C (Wn (aR own i [])) (yk y) a->fZ C (Wn own) (yk y) a:=λy=>jg (λa h=>eY h) _;refine⟨by simp[b.len],λj y' d' e=>?_,λj d' e=>?_,λj ok e=>?_,λj a h=>b.dm j a (bV h).1,λj k a h1 h2=>b.mQ j k a (bV h1).1 (bV h2).1,λj=>?_,b.kp,b.iu,λj y' d' e=>?_⟩
  ·by_cases aF:i=j
   ·subst aF;obtain⟨e',hl⟩:=bD e;cases e'
   ·rw[bw aF]at e;obtain⟨u,h1,h2⟩:=b.val j y' d' e;exact⟨u,h1,h2.aV (sub _)⟩
  ·by_cases aF:i=j
   ·subst aF;obtain⟨e',hl⟩:=bD e;cases e'
   ·rw[bw aF]at e;rw[bF aF];exact b.ow j d' e
  ·by_cases aF:i=j
   ·subst aF;obtain⟨e',hl⟩:=bD e;cases e'
   ·rw[bw aF]at e;rw[bF aF];exact b.nC j ok e
  ·by_cases aF:i=j
   ·rw[aF,os_eq];exact XR
   ·rw[bF aF];exact b.m9 j
  ·by_cases aF:i=j
   ·subst aF;obtain⟨e',hl⟩:=bD e;cases e'
   ·rw[bw aF]at e;rw[bF aF];obtain⟨u,h1,h2,h3⟩:=b.shl j y' d' e;exact⟨u,h1,h2.map (λ_ _ _ z=>z) (λ_ _ r=>ah.aV (sub _) r),h3⟩
 have q:=bY.fI (i:=i) (d:=d) (v:=v) (y:=true) b' (h2.rep λc hc z=>by
  rcases z with (z|z)|z
  ·obtain⟨j,hj⟩:=z;obtain⟨hj,ne⟩:=bV hj;exact ne (b.mQ j i c hj hc)
  ·exact z (h3 c hc)
  ·exact(b.dm i c hc).2.2.2 z)
 rw[e,List.set_set]at q;have eo:aR (aR own i []) i []=aR own i []:=by
  funext j
  by_cases aF:i=j
  ·rw[<- aF,os_eq,os_eq]
  ·rw[bF aF,bF aF]
 rwa [eo]at q
abbrev Cfg.u (C:Cfg)(U:Addr->Prop):Cfg:={C with U:=U}
theorem bY.qV {U:Addr->Prop}(b:bY P w C σ H β own)(hU:∀a,U a->H a=none):bY P w (C.u U) σ H β own :=
 ⟨b.len,λi y d e=>let ⟨v,h1,h2⟩:=b.val i y d e;⟨v,h1,az.grow (λa z=>z.elim (λz=>.inl (.inl z)) λz=>.inr (hU a z)) h2⟩,b.ow,b.nC,λi a h=>let ⟨h1,h2,h3,_⟩:=b.dm i a h;⟨h1,h2,h3,λz=>h1 (hU a z)⟩,b.mQ,b.m9,b.kp,b.iu,λi y d e=>let ⟨v,h1,h2,h3⟩:=b.shl i y d e;⟨v,h1,h2.map (λ_ _ _ z=>z) (λ_ _ r=>ah.grow (λa z=>z.elim (λz=>.inl (.inl z)) λz=>.inr (hU a z)) r),h3⟩⟩
theorem bY.Uy {U:Addr->Prop}(b:bY P w (C.u U) σ H β own):bY P w (C.u λ_=>False) σ H β own :=
 ⟨b.len,λi y d e=>let ⟨v,h1,h2⟩:=b.val i y d e;⟨v,h1,az.aV (λa z=>z.elim .inl λz=>z.elim) h2⟩,b.ow,b.nC,λi a h=>let ⟨h1,h2,h3,_⟩:=b.dm i a h;⟨h1,h2,h3,λz=>z⟩,b.mQ,b.m9,b.kp,b.iu,λi y d e=>let ⟨v,h1,h2,h3⟩:=b.shl i y d e;⟨v,h1,h2.map (λ_ _ _ z=>z) (λ_ _ r=>ah.aV (λa z=>z.elim .inl λz=>z.elim) r),h3⟩⟩
theorem bY.kz {i:Nat}{y:Bool}{d:D}(b:bY P w C σ H β own)(e:β[i]?=some (some (.val y d))):∃v,σ[i]?=some (some v)/\az P w (av C (Wn own) (yk y)) H d v:=let ⟨v,h1,h2⟩:=b.val i y d e;⟨v,h1,az.aV (λa z=>.inl z) h2⟩
end
def KV (P:WI)(w:W6)(C:Cfg)(Z:Hp×(Addr->Prop))(own:Nat->List Addr)(H:Hp):Kd->D->V->Prop
 |.own,d,v=>∃A,Own P w H d v A/\A.Nodup/\∀c∈A,Z.1 c=none/\¬ Wn own c/\C.H0 c=none
 |.eW,d,v=>az P w (av C (Wn own) .eW) H d v
 |.old,d,v=>az P w (av C (Wn own) .old) H d v
 |.bor,d,v=>az P w (av C (Wn own) .bor) H d v
structure RM (P:WI)(w:W6)(C:Cfg)(σ:St)(H:Hp)(own:Nat->List Addr)(p:Bool)(β':a7)(H':Hp)(aP:Nat->List Addr):Prop where
 sq:bY P w C σ H' β' aP
 sn:Sn (H,Wn own) H' (Wn aP)
 pu:p=true->au H H'/\aP=own
 le:∀a,Wn aP a->Wn own a
abbrev Out (X:Cx):=RM X.prog X.w
section
variable {X:Cx}{C:Cfg}{σ:St}{H H1 H2 H':Hp}{own aE aX:Nat->List Addr}{p p':Bool}{β β1 β2 β':a7}{Z:Hp×(Addr->Prop)}{d:D}{v:V}{k:Kd}{P:WI}{w:W6}
theorem Out.refl (s:SQ X C σ H β own)(p:Bool):Out X C σ H own p β H own:=⟨s,Sn.refl,λ_=>⟨au.refl _,rfl⟩,λ_ z=>z⟩
theorem Out.trans (a:Out X C σ H own p β1 H1 aE)(b:Out X C σ H1 aE p' β2 H2 aX):Out X C σ H own (p&&p') β2 H2 aX:=⟨b.sq,a.sn.trans b.sn,λh=>by
 rw[Xz]at h;obtain⟨s1,e1⟩:=a.pu h.1;obtain⟨s2,e2⟩:=b.pu h.2;exact⟨s1.trans s2,e2.trans e1⟩,λc z=>a.le c (b.le c z)⟩
theorem Out.same (a:Out X C σ H own p β1 H1 aE)(s:au H1 H2):Out X C σ H own p β1 H2 aE:=⟨a.sq.same s,a.sn.same s,λh=>let ⟨s1,e1⟩:=a.pu h;⟨s1.trans s,e1⟩,a.le⟩
theorem Out.wk (a:Out X C σ H own p β1 H1 aE)(h:p'=true->p=true):Out X C σ H own p' β1 H1 aE:=⟨a.sq,a.sn,λz=>a.pu (h z),a.le⟩
theorem KV.rep (h:KV P w C Z own H k d v):az P w (av C (Wn own) k) H d v:=by
 cases k with
 |own=>obtain⟨A,h1,h2,h3⟩:=h;exact h1.rep λc hc z=>z.elim (h3 c hc).2.1 λz=>z (h3 c hc).2.2
 |_=>exact h
theorem KV.eW (h:KV P w C Z own H .own d v):KV P w C Z own H .eW d v:=KV.rep (k:=.own) h
theorem KV.flat {W:Addr->Prop}(f:d.flat=true)(h:az P w W H d v):KV P w C Z own H .own d v:=⟨[],cX f h,XR,λc hc=>(nomatch hc)⟩
abbrev Kd.wk:Kd->Kd
 |.own=>.eW
 |.eW=>.eW
 |.old=>.old
 |.bor=>.bor
abbrev Kd.max:Kd->Kd->Kd
 |.bor,_=>.bor
 |_,.bor=>.bor
 |.old,_=>.old
 |_,.old=>.old
 |_,_=>.eW
theorem cF {W:Addr->Prop}{a b:Kd}:∀c,av C W (a.max b) c->av C W a c:=λc h=>by
 cases a <;> cases b <;> first|exact h|exact h.elim|exact .inl h
theorem eE {W:Addr->Prop}{a b:Kd}:∀c,av C W (a.max b) c->av C W b c:=λc h=>by
 cases a <;> cases b <;> first|exact h|exact h.elim|exact .inl h
theorem KV.of (h:az P w (av C (Wn own) k.wk) H d v):KV P w C Z own H k.wk d v:=by
 cases k <;> exact h
theorem KV.KP (h:KV P w C Z own H k d v)(s:au H H'):KV P w C Z own H' k d v:=by
 cases k with
 |own=>obtain⟨A,h1,h2⟩:=h;exact⟨A,h1.keep (λb xs e=>s _ _ e) (λc _ o e=>s c o e),h2⟩
 |eW=>exact az.same s h
 |old=>exact az.same s h
 |bor=>exact az.same s h
theorem KV.held (hk:k≠.bor)(h:KV P w C Z own H k d v)(n:Sn (H,Wn own) H2 (Wn aX)):KV P w C Z aX H2 k d v:=by
 cases k with
 |own =>
  obtain⟨A,h1,h2,h3⟩:=h;refine⟨A,h1.keep n.k.tup (λc hc o e=>n.k.out c o e λz=>z.elim (h3 c hc).2.1 λz=>(h1.nc c hc).1 z),h2,λc hc=>⟨(h3 c hc).1,λz=>(n.w c z).elim (h3 c hc).2.1 λz=>(h1.nc c hc).1 z,(h3 c hc).2.2⟩⟩
 |eW =>
  have g:az P w (λa=>av C (Wn own) .eW a\/H a=none) H d v:=az.grow (λb z=>z) h;exact az.aV (λb z=>z.elim (λz=>(n.w b z).imp .inl id) λz=>.inl (.inr z)) (az.keep (n.k.mono λb z=>z.imp .inl id) g)
 |old=>exact held (W:=Wn own) h n
 |bor=>exact absurd rfl hk
theorem KV.MV (h:KV P w C Z own H k d v)(s:au H H2)(e:aX=own):KV P w C Z aX H2 k d v:=by rw[e];exact h.KP s
abbrev hold (k:Kd)(p:Bool):Prop:=match k,p with
 |.bor,false=>False
 |_,_=>True
theorem KV.ho (h:KV P w C Z own H k d v)(o:Out X C σ H own p β' H2 aX)(hh:hold k p):KV P w C Z aX H2 k d v:=by
 cases p with
 |true=>obtain⟨s,e⟩:=o.pu rfl;exact h.MV s e
 |false=>exact h.held (by rintro rfl;exact hh) o.sn
theorem KV.later (h:KV P w C (H1,Wn aE) own H k d v)(n:Sn Z H1 (Wn aE)):KV P w C Z own H k d v:=by
 cases k with
 |own=>obtain⟨A,h1,h2,h3⟩:=h;exact⟨A,h1,h2,λc hc=>⟨n.free (h3 c hc).1,(h3 c hc).2⟩⟩
 |_=>exact h
end
abbrev aQ:=a7->(D->Kd->a7->Prop)->Prop
abbrev bb:=a7->(Bool->a7->Prop)->Prop
abbrev cG:=a7->(List D->List Kd->a7->Prop)->Prop
def tQ (X:Cx)(C:Cfg)(p:Bool)(φ:aQ):TE:=λσ H Q=>∃β own,SQ X C σ H β own/\φ β λd k β'=>∀v H' aP,Out X C σ H own p β' H' aP->KV X.prog X.w C (H,Wn own) aP H' k d v->Q v H'
def jS (X:Cx)(C:Cfg)(p:Bool)(φ:bb):TT:=λσ H Q=>∃β own,SQ X C σ H β own/\φ β λb β'=>∀H' aP,Out X C σ H own p β' H' aP->Q b H'
def KF (P:WI)(w:W6)(C:Cfg)(own:Nat->List Addr)(H:Hp):List Kd->List D->List V->List Addr->Prop
 |[],ds,vs,A=>ds=[]/\vs=[]/\A=[]
 |k::ks,ds,vs,A=>∃d dr v vr A1 A2,ds=d::dr/\vs=v::vr/\A=A1++A2/\(match k with | .own=>Own P w H d v A1|k=>A1=[]/\az P w (av C (Wn own) k) H d v)/\KF P w C own H ks dr vr A2
def ue (P:WI)(w:W6)(C:Cfg)(Z:Hp×(Addr->Prop))(own:Nat->List Addr)(H:Hp)(ks:List Kd)(ds:List D)(vs:List V):Prop :=
 ∃A,KF P w C own H ks ds vs A/\A.Nodup/\∀c∈A,Z.1 c=none/\¬ Wn own c/\C.H0 c=none
def vO (X:Cx)(C:Cfg)(p:Bool)(φ:cG):TA:=λσ H Q=>∃β own,SQ X C σ H β own/\φ β λds ks β'=>∀vs H' aP,Out X C σ H own p β' H' aP->ue X.prog X.w C (H,Wn own) aP H' ks ds vs->Q vs H'
section
variable {C:Cfg}{H H1:Hp}{own aE:Nat->List Addr}{Z:Hp×(Addr->Prop)}{d:D}{v:V}{k:Kd}{P:WI}{w:W6}{ks:List Kd}{ds:List D}{vs:List V}
theorem ue.nil:ue P w C Z own H [] [] []:=⟨[],⟨rfl,rfl,rfl⟩,XR,λc hc=>(nomatch hc)⟩
theorem KF.nc:∀{ks:List Kd} {ds:List D} {vs:List V} {A:List Addr},KF P w C own H ks ds vs A->∀c∈A,H c≠none
 |[],_,_,_,⟨_,_,e⟩,c,hc=>by rw[e]at hc;cases hc
 |k::ks,_,_,_,⟨d,dr,v,vr,A1,A2,rfl,rfl,rfl,h1,h2⟩,c,hc=>by
  rcases W4.mp hc with hc|hc
  ·cases k with
   |own=>exact(Own.nc h1 c hc).1
   |_=>rw[h1.1]at hc;cases hc
  ·exact KF.nc h2 c hc
theorem ue.cons (h1:KV P w C Z aE H1 k d v)(n:Sn (H1,Wn aE) H (Wn own))(ER:KV P w C Z own H k d v)(h2:ue P w C (H1,Wn aE) own H ks ds vs)(n0:Sn Z H1 (Wn aE)):ue P w C Z own H (k::ks) (d::ds) (v::vs):=by
 obtain⟨A2,f2,H_,q2⟩:=h2;have z2:∀c∈A2,Z.1 c=none/\¬ Wn own c/\C.H0 c=none:=λc hc=>⟨n0.free (q2 c hc).1,(q2 c hc).2⟩;cases k with
 |own =>
  obtain⟨A1,o1,Ej,q1⟩:=h1;obtain⟨Wz,Wg,UC,Sm⟩:=(show KV P w C Z own H .own d v from KV.held (k:=.own) (λz=>(nomatch z)) (⟨A1,o1,Ej,q1⟩:KV P w C Z aE H1 .own d v) n)
  have Py:Own P w H d v A1:=o1.keep n.k.tup (λc hc o e=>n.k.out c o e λz=>z.elim (q1 c hc).2.1 λz=>(o1.nc c hc).1 z);refine⟨A1++A2,⟨d,ds,v,vs,A1,A2,rfl,rfl,rfl,Py,f2⟩,XF.mpr ⟨Ej,H_,λa ha b hb e=>?_⟩,λc hc=>?_⟩
  ·subst e;exact(o1.nc a ha).1 (q2 a hb).1
  ·rcases W4.mp hc with hc|hc
   ·exact⟨(q1 c hc).1,λz=>(n.w c z).elim (q1 c hc).2.1 λz=>(o1.nc c hc).1 z,(q1 c hc).2.2⟩
   ·exact z2 c hc
 |eW=>exact⟨A2,⟨d,ds,v,vs,[],A2,rfl,rfl,rfl,⟨rfl,ER⟩,f2⟩,H_,z2⟩
 |old=>exact⟨A2,⟨d,ds,v,vs,[],A2,rfl,rfl,rfl,⟨rfl,ER⟩,f2⟩,H_,z2⟩
 |bor=>exact⟨A2,⟨d,ds,v,vs,[],A2,rfl,rfl,rfl,⟨rfl,ER⟩,f2⟩,H_,z2⟩
abbrev h8:List Kd->Kd
 |[]=>.eW
 |k::ks=>Kd.max k (h8 ks)
theorem KF.jt:∀{ks:List Kd} {ds:List D} {vs:List V} {A:List Addr},KF P w C own H ks ds vs A->(∀c∈A,¬ Wn own c/\C.H0 c=none)->ah P w (av C (Wn own) (h8 ks)) H ds vs
 |[],_,_,_,⟨e1,e2,e⟩,_=>by rw[e1,e2];rfl
 |k::ks,_,_,_,⟨d,dr,v,vr,A1,A2,rfl,rfl,rfl,h1,h2⟩,hA=>by
  refine⟨v,vr,rfl,?_,ah.aV eE (KF.jt h2 λc hc=>hA c (Xm _ hc))⟩;cases k with
  |own=>exact az.aV cF (Own.rep (W:=av C (Wn own) .own) (λc hc z=>z.elim (hA c (X1 _ hc)).1 λz=>z (hA c (X1 _ hc)).2) h1)
  |eW=>exact az.aV (cF (a:=.eW)) h1.2
  |old=>exact az.aV (cF (a:=.old)) h1.2
  |bor=>exact az.aV (cF (a:=.bor)) h1.2
theorem ue.jt (h:ue P w C Z own H ks ds vs):ah P w (av C (Wn own) (h8 ks)) H ds vs:=let ⟨A,h1,_,h3⟩:=h;h1.jt λc hc=>(h3 c hc).2
theorem ue.bor (h:ue P w C Z own H ks ds vs):ah P w (λ_=>False) H ds vs:=ah.aV (λ_ z=>z.elim) h.jt
def xq:List Kd->List D->Prop
 |k::ks,d::ds=>(match k with | .own=>True|_=>d.flat=true)/\xq ks ds
 |_,_=>True
theorem KF.HF:∀{ks:List Kd} {ds:List D} {vs:List V} {A:List Addr},KF P w C own H ks ds vs A->xq ks ds->aI P w H ds vs A
 |[],_,_,_,⟨e1,e2,e⟩,_=>by rw[e1,e2,e];exact⟨rfl,rfl⟩
 |k::ks,_,_,_,⟨d,dr,v,vr,A1,A2,rfl,rfl,rfl,h1,h2⟩,⟨f1,f2⟩=>by
  refine⟨v,vr,A1,A2,rfl,rfl,?_,KF.HF h2 f2⟩;cases k with
  |own=>exact h1
  |eW=>rw[h1.1];exact cX f1 h1.2
  |old=>rw[h1.1];exact cX f1 h1.2
  |bor=>rw[h1.1];exact cX f1 h1.2
theorem iV:∀{ks:List Kd},(h8 ks).wk=h8 ks
 |[]=>rfl
 |k::ks=>by cases k <;> cases h:h8 ks <;> simp[h8,Kd.max,h]
def Bk (ks:List Kd)(ds:List D)(K:Kd->Prop):Prop:=match ks.all (λk=>match k with | .own=>true|_=>false)with
 |true=>K .own
 |false=>(xq ks ds/\K .own)\/K (h8 ks)
theorem Bk.mono {ks:List Kd}{ds:List D}{K K':Kd->Prop}(k:∀x,K x->K' x)(h:Bk ks ds K):Bk ks ds K':=by
 unfold Bk at *
 split
 ·next e=>rw[e]at h;exact k _ h
 ·next e=>rw[e]at h;exact h.imp (λz=>⟨z.1,k _ z.2⟩) (k _)
theorem Bk.of {ks:List Kd}{ds:List D}{K:Kd->Prop}(h:Bk ks ds K):(xq ks ds/\K .own)\/K (h8 ks):=by
 unfold Bk at h
 split at h
 ·next e =>
  refine .inl ⟨?_,h⟩
  clear h
  induction ks generalizing ds with
  |nil=>cases ds <;> trivial
  |cons k ks ih =>
   cases ds with
   |nil=>trivial
   |cons d ds =>
    rw[List.all_cons,Xz]at e;refine⟨?_,ih e.2⟩;have e1:=e.1;cases k <;> first|trivial|cases e1
 ·exact h
end
structure PQ (X:Cx)(C:Cfg)(p:Bool)(e:Expr)(φ:aQ):Prop where
 mono:∀β R R',(∀d k β,R d k β->R' d k β)->φ β R->φ β R'
 pe:PE X e (tQ X C p φ)
structure yR (X:Cx)(C:Cfg)(p:Bool)(e:Expr)(φ:bb):Prop where
 mono:∀β R R',(∀d β,R d β->R' d β)->φ β R->φ β R'
 pt:PT X e (jS X C p φ)
structure yQ (X:Cx)(C:Cfg)(p:Bool)(e:Expr)(φ:bb):Prop where
 mono:∀β R R',(∀d β,R d β->R' d β)->φ β R->φ β R'
 pw:PW X e (jS X C p φ)
structure uq (X:Cx)(C:Cfg)(p:Bool)(es:List Expr)(φ:cG):Prop where
 mono:∀β R R',(∀d k β,R d k β->R' d k β)->φ β R->φ β R'
 pa:PA X es (vO X C p φ)
section
variable {X:Cx}{C:Cfg}{a b c e:Expr}{es:List Expr}{φ φa φb:aQ}{τ τa τb:bb}{φs:cG}{pos:Pos}{σ:St}{H H':Hp}{β:a7}{own:Nat->List Addr}{p p':Bool}
theorem tQ.of (h:PQ X C p e φ)(s:SQ X C σ H β own){R:D->Kd->a7->Prop}{Q:VK}(hr:φ β R)(k:∀d kd β' v H' aP,R d kd β'->Out X C σ H own p β' H' aP->KV X.prog X.w C (H,Wn own) aP H' kd d v->Q v H'):tQ X C p φ σ H Q :=
 ⟨β,own,s,h.mono β _ _ (λd kd β' hd v H' aP o r=>k d kd β' v H' aP hd o r) hr⟩
theorem jS.of (h:yR X C p e τ)(s:SQ X C σ H β own){R:Bool->a7->Prop}{Q:Bool->Hp->Prop}(hr:τ β R)(k:∀t β' H' aP,R t β'->Out X C σ H own p β' H' aP->Q t H'):jS X C p τ σ H Q :=
 ⟨β,own,s,h.mono β _ _ (λt β' hd H' aP o=>k t β' H' aP hd o) hr⟩
theorem vO.of (h:uq X C p es φs)(s:SQ X C σ H β own){R:List D->List Kd->a7->Prop}{Q:List V->Hp->Prop}(hr:φs β R)(k:∀ds ks β' vs H' aP,R ds ks β'->Out X C σ H own p β' H' aP->ue X.prog X.w C (H,Wn own) aP H' ks ds vs->Q vs H'):vO X C p φs σ H Q :=
 ⟨β,own,s,h.mono β _ _ (λd kd β' hd v H' aP o r=>k d kd β' v H' aP hd o r) hr⟩
theorem yQ.t (h:yQ X C p e τ):yR X C p e τ:=⟨h.mono,h.pw.pt⟩
abbrev vk (y:Bool):D->Kd
 |.int _=>.own
 |.bl _=>.own
 |.bU=>.own
 |.str _=>.own
 |_=>yk y
def qB:B->(D->Kd->Prop)->Prop
 |.val y d,K=>K d (vk y d)
 |.own d,K=>K d .bor
 |.hand _,_=>False
 |.shl _ _,_=>False
def Ab (i:Nat):aQ:=λβ R=>∃b,β[i]?=some (some b)/\qB b λd k=>R d k β
theorem Ip {P:WI}{w:W6}{Z:Hp×(Addr->Prop)}{y:Bool}{d:D}{v:V}(h:az P w (av C (Wn own) (yk y)) H d v):KV P w C Z own H (vk y d) d v:=by
 cases d with
 |int i=>exact KV.flat rfl h
 |bl i=>exact KV.flat rfl h
 |bU=>exact KV.flat rfl h
 |str i=>exact KV.flat rfl h
 |_=>cases y <;> exact h
theorem ab {i:Nat}{x:Str}(hN:X.N[i]?=some x:=by rfl)(hv:xm X.env.scope x:=by first|exact .inl rfl|exact .inr (.inl rfl)|exact .inr (.inr rfl))(hd:(x==("__debug__" : Str))=false:=by decide)(ir:(x==("__classdict__" : Str))=false:=by decide):
  PQ X C true (.Name x pos) (Ab i):=⟨λβ R R' k vh=>by obtain⟨b,e,h⟩:=vh;exact⟨b,e,by cases b <;> first|exact k _ _ _ h|exact h⟩,(dG hN hv hd ir).pre λσ H Q Bw=>by
 obtain⟨β,own,s,b,e,q⟩:=Bw;cases b with
 |val y d=>obtain⟨v,h1,h2⟩:=s.kz e;exact⟨v,h1,q v H own (Out.refl s _) (Ip h2)⟩
 |own d=>obtain⟨v,h1,h2,h3⟩:=s.ow i d e;exact⟨v,h1,q v H own (Out.refl s _) (h2.rep λ_ _ z=>z)⟩
 |hand ok=>exact q.elim
 |shl _ _=>exact q.elim⟩
def Pl (i:Nat):aQ:=λβ R=>∃d,β[i]?=some (some (.own d))/\R d .eW (β.set i (some (.val true d)))
theorem As {i:Nat}{x:Str}(hN:X.N[i]?=some x:=by rfl)(hv:xm X.env.scope x:=by first|exact .inl rfl|exact .inr (.inl rfl)|exact .inr (.inr rfl))(hd:(x==("__debug__" : Str))=false:=by decide)(ir:(x==("__classdict__" : Str))=false:=by decide):
  PQ X C false (.Name x pos) (Pl i):=⟨λβ R R' k IP=>by obtain⟨b,e,h⟩:=IP;exact⟨b,e,k _ _ _ h⟩,(dG hN hv hd ir).pre λσ H Q IM=>by
 obtain⟨β,own,s,d,e,q⟩:=IM;have f:=s.freeze e;obtain⟨v,h1,h2⟩:=f.kz (y:=true) (get_set (by rw[s.len];obtain⟨v,h1,_⟩:=s.ow i d e;exact(W3.mp h1).1))
 exact⟨v,h1,q v H _ ⟨f,⟨λb z=>.inl (eY z),Kp.refl,λ_ z=>z⟩,λz=>(nomatch z),λ_ z=>eY z⟩ h2⟩⟩
def qC (d:D):aQ:=λβ R=>R d .own β
theorem ag {i j}:PQ X C true (.Constant (.int i) j pos) (qC (.int i)):=⟨λρ R R' k h=>k _ _ _ h,a8.pre λσ H Q IL=>by obtain⟨β,own,s,q⟩:=IL;exact q _ H own (Out.refl s _) (KV.flat (W:=λ_=>False) rfl rfl)⟩
theorem wg {b j}:PQ X C true (.Constant (.bool b) j pos) (qC (.bl b)):=⟨λρ R R' k h=>k _ _ _ h,FN.pre λσ H Q Qi=>by obtain⟨β,own,s,q⟩:=Qi;exact q _ H own (Out.refl s _) (KV.flat (W:=λ_=>False) rfl rfl)⟩
theorem qa {j}:PQ X C true (.Constant .none j pos) (qC .bU):=⟨λρ R R' k h=>k _ _ _ h,HC.pre λσ H Q L8=>by obtain⟨β,own,s,q⟩:=L8;exact q _ H own (Out.refl s _) (KV.flat (W:=λ_=>False) rfl rfl)⟩
def xS (X:Cx)(f:D->D->Option D)(N:D->Prop):R2:=λx y H Q=>∃W d1 d2 d,Dm W H/\Rp X W H d1 x/\Rp X W H d2 y/\f d1 d2=some d/\∀v H',au H H'->Rp X W H' d v->(N d->Rp X (λa=>H a≠none) H' d v)->Q v H'
abbrev Ox (X:Cx)(f:WC->WC->Sem WC)(g:D->D->Option D)(N:D->Prop):Prop:=jj X f (xS X g N)
theorem b8.m {f:WC->WC->Sem WC}{g:D->D->Option D}(h:b8 X f g):Ox X f g NF:=λpins s σ H x y v u Q I rx ry ⟨W,d1,d2,d,hd,r1,r2,e,q⟩ =>
 h pins s σ H x y v u Q I rx ry ⟨W,d1,d2,d,hd,r1,r2,e,λv H' s r=>q v H' s r λf=>az.flat f r⟩
def kN (N:D->Prop)(d:D)(k:Kd)(K:Kd->Prop):Prop:=match d with
 |.int _=>K .own
 |.bl _=>K .own
 |.bU=>K .own
 |.str _=>K .own
 |.tup _=>K k
 |_=>(N d/\K .own)\/K k
theorem kN.mono {N:D->Prop}{d:D}{k:Kd}{K K':Kd->Prop}(h:∀x,K x->K' x)(q:kN N d k K):kN N d k K':=by
 cases d <;> first|exact h _ q|exact q.imp (λz=>⟨z.1,h _ z.2⟩) (h _)
theorem gw {P:WI}{w:W6}{Z:Hp×(Addr->Prop)}{d:D}{v:V}(hd:Dm (Wn own) H)(h0:∀a,C.H0 a≠none->H a≠none)(hz:∀a,Z.1 a≠none->H a≠none)(f:NL d)(r:az P w (λa=>H a≠none) H' d v):KV P w C Z own H' .own d v:=by
 have nn:∀{a:Addr},¬ (H a≠none)->H a=none:=λ{a} h=>XG λz=>h z;have cl:∀{a:Addr},H a=none->Z.1 a=none/\¬ Wn own a/\C.H0 a=none:=λ{a} h=>⟨XG λz=>hz a z h,λz=>hd a z h,XG λz=>h0 a z h⟩;cases d with
 |lst ds =>
  obtain⟨a,vs,rfl,e,n,q⟩:=r;exact⟨[a],⟨a,vs,[],rfl,e,rfl,gv f q⟩,by simp,λc hc=>by rw[WN.mp hc];exact cl (nn n)⟩
 |_=>exact KV.flat f r
theorem KV.kN {N:D->Prop}{P:WI}{w:W6}{Z:Hp×(Addr->Prop)}{d:D}{v:V}{k:Kd}{K:Kd->Prop}(hk:k.wk=k)(r:az P w (av C (Wn own) k) H' d v)(ro:N d->KV P w C Z own H' .own d v)(q:kN N d k K):∃k',K k'/\KV P w C Z own H' k' d v:=by
 have rk:KV P w C Z own H' k d v:=by rw[<- hk];exact KV.of (by rw[hk];exact r)
 cases d with
 |int i=>exact⟨_,q,KV.flat rfl r⟩
 |bl i=>exact⟨_,q,KV.flat rfl r⟩
 |bU=>exact⟨_,q,KV.flat rfl r⟩
 |str i=>exact⟨_,q,KV.flat rfl r⟩
 |tup ds=>exact⟨_,q,rk⟩
 |_=>exact q.elim (λz=>⟨_,z.2,ro z.1⟩) λz=>⟨_,z,rk⟩
structure CV (N:D->Prop):Prop where
 nl:∀d,N d->NL d
theorem aL:CV NL:=⟨λ_ h=>h⟩
theorem af:CV NF:=⟨λd h=>by cases d <;> first|exact h|cases h⟩
theorem AY {a b:Kd}:(a.max b).wk=a.max b:=by cases a <;> cases b <;> rfl
def yX (g:D->D->Option D)(N:D->Prop)(pb:Bool)(φa φb:aQ):aQ:=λβ R=>φa β λx ka β1=>hold ka pb/\φb β1 λy kb β2=>∃d,g x y=some d/\kN N d (ka.max kb) λk=>R d k β2
variable {g:D->D->Option D}{N:D->Prop}
theorem yX.mono (ha:PQ X C p a φa)(hb:PQ X C p' b φb):∀β R R',(∀d k β,R d k β->R' d k β)->yX g N p' φa φb β R->yX g N p' φa φb β R':=λβ R R' k h =>
 ha.mono β _ _ (λx ka β1 hx=>⟨hx.1,hb.mono β1 _ _ (λy kb β2 BA=>by obtain⟨d,e,q⟩:=BA;exact⟨d,e,q.mono λ_ z=>k _ _ _ z⟩) hx.2⟩) h
theorem uQ (hn:CV N)(ha:PQ X C p a φa)(hb:PQ X C p' b φb):∀σ H Q,tQ X C (p&&p') (yX g N p' φa φb) σ H Q->Kw (xS X g N) (tQ X C p φa) (tQ X C p' φb) σ H Q:=λσ H Q ⟨β,own,s,h⟩ =>
 tQ.of ha s h λd1 k1 β1 v1 H1 aE ⟨hh,h1⟩ o1 r1=>tQ.of hb o1.sq h1 λd2 k2 β2 v2 H2 aX Bz o2 r2=>by
  obtain⟨d,e,q⟩:=Bz;have Dz:=r1.ho o2 hh;refine⟨av C (Wn aX) (k1.max k2),d1,d2,d,o2.sq.za _,az.aV cF Dz.rep,az.aV eE r2.rep,e,λv H' s3 r3 n3=>?_⟩;have o:=(o1.trans o2).same s3;obtain⟨k,q,r⟩:=KV.kN (Z:=(H,Wn own)) AY r3 (λn=>gw (H:=H2) o2.sq.y_ o2.sq.iu (λa z=>o2.sn.d a (o1.sn.d a z)) (hn.nl _ n) (n3 n)) q;exact q v H' aX o r
theorem aH {op:Operator}(hn:CV N)(ho:Ox X (YT op) g N)(ha:PQ X C p a φa)(hb:PQ X C p' b φb):PQ X C (p&&p') (.BinOp a op b pos) (yX g N p' φa φb):=⟨yX.mono ha hb,(cW ho ha.pe hb.pe).pre (uQ hn ha hb)⟩
theorem g_ {op:Z1}(hn:CV N)(ho:Ox X (X5 op) g N)(ha:PQ X C p a φa)(hb:PQ X C p' b φb)(hm:Y7 op b=false:=by first|exact rX _ (by decide) (by decide)|rfl):PQ X C (p&&p') (.Compare a [op] [b] pos) (yX g N p' φa φb) :=
 ⟨yX.mono ha hb,(wu ho ha.pe hb.pe hm).pre (uQ hn ha hb)⟩
theorem aO (hn:CV N)(ho:GF X (xS X g N))(ha:PQ X C p a φa)(hb:PQ X C p' b φb)(hs:k9 b:=by exact λ_ _=>rfl):PQ X C (p&&p') (.Subscript a b pos) (yX g N p' φa φb):=⟨yX.mono ha hb,(j4 ho ha.pe hb.pe hs).pre (uQ hn ha hb)⟩
def FI (φ:aQ):bb:=λβ R=>φ β λd k β'=>∃b,d=.bl b/\R b β'
theorem aS {op:Z1}(hn:CV N)(ho:Ox X (X5 op) g N)(ha:PQ X C p a φa)(hb:PQ X C p' b φb)(hm:Y7 op b=false:=by first|exact rX _ (by decide) (by decide)|rfl):yR X C (p&&p') (.Compare a [op] [b] pos) (FI (yX g N p' φa φb)) :=
 ⟨λβ R R' k h=>yX.mono ha hb β _ _ (λd kd β IZ=>by obtain⟨t,e,q⟩:=IZ;exact⟨t,e,k _ _ q⟩) h,(v8 ho ha.pe hb.pe hm).pre λσ H Q ⟨β,own,s,h⟩ =>
  tQ.of ha s h λd1 k1 β1 v1 H1 aE ⟨hh,h1⟩ o1 r1=>tQ.of hb o1.sq h1 λd2 k2 β2 v2 H2 aX IY o2 r2=>by
   obtain⟨d,e,q⟩:=IY;have Dz:=r1.ho o2 hh;refine⟨av C (Wn aX) (k1.max k2),d1,d2,d,o2.sq.za _,az.aV cF Dz.rep,az.aV eE r2.rep,e,λv H' s3 r3 n3=>?_⟩;obtain⟨k,⟨t,et,q'⟩,r⟩:=KV.kN (Z:=(H,Wn own)) AY r3 (λn=>gw (H:=H2) o2.sq.y_ o2.sq.iu (λa z=>o2.sn.d a (o1.sn.d a z)) (hn.nl _ n) (n3 n)) q;subst et;cases r3;exact⟨t,rfl,q' H' aX ((o1.trans o2).same s3)⟩⟩
theorem gq (ha:PQ X C p a φa)(he:∀whole,isTrue a X.env whole=(do let v <- whole;standAt a.pos;holding [v] (truthy v)):=by intro _;rfl):yR X C p a (FI φa) :=
 ⟨λβ R R' k h=>ha.mono β _ _ (λd kd β' IX=>by obtain⟨b,e,q⟩:=IX;exact⟨b,e,k _ _ q⟩) h,(Ho ha.pe he).pre λσ H Q ⟨β,own,s,h⟩=>tQ.of ha s h λd k β' v H1 aE IV o1 r1=>by
  obtain⟨b,e,q⟩:=IV;subst e;cases r1.rep;exact⟨b,rfl,q H1 aE o1⟩⟩
def K0 (τ:bb):bb:=λβ R=>τ β λb β'=>R (!b) β'
theorem p0 (ha:yR X C p a τ):yR X C p (.UnaryOp .Not a pos) (K0 τ) :=
 ⟨λβ R R' k h=>ha.mono β _ _ (λb β' q=>k _ _ q) h,(Hq ha.pt).pre λσ H Q IU=>by obtain⟨β,own,s,h⟩:=IU;exact jS.of ha s h λb β' H1 aE q o=>q H1 aE o⟩
variable {rest:List Expr}
def K4 (τa τb:bb):bb:=λβ R=>τa β λt β1=>if t=true then τb β1 R else R false β1
def Pg (τa τb:bb):bb:=λβ R=>τa β λt β1=>if t=true then R true β1 else τb β1 R
theorem rN (ha:yR X C p a τ):yQ X C p (.BoolOp .And [a] pos) τ:=⟨ha.mono,pw_and1 ha.pt⟩
theorem pZ (ha:yR X C p a τ):yQ X C p (.BoolOp .Or [a] pos) τ:=⟨ha.mono,pw_or1 ha.pt⟩
theorem Cz {p q:Bool}(z:(p&&q)=true):p=true:=by cases p <;> first|rfl|cases z
theorem RI {p q:Bool}(z:(p&&q)=true):q=true:=by cases p <;> first|exact z|cases z
theorem v_ (ha:yR X C p a τa)(hb:yQ X C p' (.BoolOp .And (b::rest) pos) τb):yQ X C (p&&p') (.BoolOp .And (a::b::rest) pos) (K4 τa τb) :=
 ⟨λβ R R' k h=>ha.mono β _ _ (λt β1 q=>by
   cases t
   ·exact k _ _ q
   ·exact hb.mono β1 _ _ k q) h,(pw_and ha.pt hb.pw).pre λσ H Q ⟨β,own,s,h⟩=>jS.of ha s h λt β1 H1 aE q o1=>by
  cases t
  ·exact q H1 aE (o1.wk Cz)
  ·exact jS.of hb.t o1.sq q λt' β2 H2 aX q2 o2=>q2 H2 aX (o1.trans o2)⟩
theorem uS (ha:yR X C p a τa)(hb:yQ X C p' (.BoolOp .Or (b::rest) pos) τb):yQ X C (p&&p') (.BoolOp .Or (a::b::rest) pos) (Pg τa τb) :=
 ⟨λβ R R' k h=>ha.mono β _ _ (λt β1 q=>by
   cases t
   ·exact hb.mono β1 _ _ k q
   ·exact k _ _ q) h,(pw_or ha.pt hb.pw).pre λσ H Q ⟨β,own,s,h⟩=>jS.of ha s h λt β1 H1 aE q o1=>by
  cases t
  ·exact jS.of hb.t o1.sq q λt' β2 H2 aX q2 o2=>q2 H2 aX (o1.trans o2)
  ·exact q H1 aE (o1.wk Cz)⟩
def Pm (φa φb:aQ):aQ:=λβ R=>φa β λx _ β1=>∃c,x=.bl c/\if c=true then φb β1 R else R (.bl false) .own β1
def Ur (φa φb:aQ):aQ:=λβ R=>φa β λx _ β1=>∃c,x=.bl c/\if c=true then R (.bl true) .own β1 else φb β1 R
def Ph (φa:aQ):aQ:=λβ R=>φa β λx _ β1=>∃c,x=.bl c/\R (.bl (!c)) .own β1
theorem p_ {op}(h:PQ X C p a φ):PQ X C p (.BoolOp op [a] pos) φ:=⟨h.mono,HA h.pe⟩
theorem wJ {P:WI}{w:W6}{Z:Hp×(Addr->Prop)}{b:Bool}:KV P w C Z own H .own (.bl b) (.bl b):=KV.flat (W:=λ_=>False) rfl rfl
theorem uU (ha:PQ X C p a φa)(hb:PQ X C p' (.BoolOp .And (b::rest) pos) φb):PQ X C (p&&p') (.BoolOp .And (a::b::rest) pos) (Pm φa φb) :=
 ⟨λβ R R' k h=>ha.mono β _ _ (λd kd β1 ⟨c,e,q⟩=>⟨c,e,by
   cases c
   ·exact k _ _ _ q
   ·exact hb.mono β1 _ _ k q⟩) h,(HE ha.pe hb.pe).pre λσ H Q ⟨β,own,s,h⟩=>tQ.of ha s h λd kd β1 v H1 aE IT o1 r1=>by
  obtain⟨c,e,q⟩:=IT;subst e;cases r1.rep;refine⟨c,rfl,?_⟩;cases c
  ·exact q _ H1 aE (o1.wk Cz) wJ
  ·exact tQ.of hb o1.sq q λd2 k2 β2 v2 H2 aX q2 o2 r2=>q2 v2 H2 aX (o1.trans o2) (r2.later o1.sn)⟩
theorem Ar (ha:PQ X C p a φa)(hb:PQ X C p' (.BoolOp .Or (b::rest) pos) φb):PQ X C (p&&p') (.BoolOp .Or (a::b::rest) pos) (Ur φa φb) :=
 ⟨λβ R R' k h=>ha.mono β _ _ (λd kd β1 ⟨c,e,q⟩=>⟨c,e,by
   cases c
   ·exact hb.mono β1 _ _ k q
   ·exact k _ _ _ q⟩) h,(K_ ha.pe hb.pe).pre λσ H Q ⟨β,own,s,h⟩=>tQ.of ha s h λd kd β1 v H1 aE IS o1 r1=>by
  obtain⟨c,e,q⟩:=IS;subst e;cases r1.rep;refine⟨c,rfl,?_⟩;cases c
  ·exact tQ.of hb o1.sq q λd2 k2 β2 v2 H2 aX q2 o2 r2=>q2 v2 H2 aX (o1.trans o2) (r2.later o1.sn)
  ·exact q _ H1 aE (o1.wk Cz) wJ⟩
theorem Hu (ha:PQ X C p a φa):PQ X C p (.UnaryOp .Not a pos) (Ph φa) :=
 ⟨λβ R R' k h=>ha.mono β _ _ (λd kd β1 Qw=>by obtain⟨c,e,q⟩:=Qw;exact⟨c,e,k _ _ _ q⟩) h,(HB ha.pe).pre λσ H Q ⟨β,own,s,h⟩=>tQ.of ha s h λd kd β1 v H1 aE IQ o1 r1=>by
  obtain⟨c,e,q⟩:=IQ;subst e;cases r1.rep;exact⟨c,rfl,q _ H1 aE o1 wJ⟩⟩
def Up (g:D->Option D)(φa:aQ):aQ:=λβ R=>φa β λx _ β1=>∃d,g x=some d/\d.flat=true/\R d .own β1
theorem we {op:UnaryOp}{g:D->Option D}(ho:Nm X (unaryOp op) (Sj X g))(ha:PQ X C p a φa):PQ X C p (.UnaryOp op a pos) (Up g φa) :=
 ⟨λβ R R' k h=>ha.mono β _ _ (λx _ β1 Qu=>by obtain⟨d,e,f,q⟩:=Qu;exact⟨d,e,f,k _ _ _ q⟩) h,(FL ho ha.pe).pre λσ H Q ⟨β,own,s,h⟩ =>
  tQ.of ha s h λd1 k1 β1 v1 H1 aE Qs o1 r1=>by obtain⟨d,e,f,q⟩:=Qs;exact⟨_,d1,d,o1.sq.za _,r1.rep,e,λv H' s2 r2=>q v H' aE (o1.same s2) (KV.flat f r2)⟩⟩
def Pj:cG:=λβ R=>R [] [] β
def K2 (pr:Bool)(φ:aQ)(φs:cG):cG:=λβ R=>φ β λd k β1=>hold k pr/\φs β1 λds ks β2=>R (d::ds) (k::ks) β2
theorem ae:uq X C true [] Pj:=⟨λβ R R' k h=>k _ _ _ h,cN.pre λσ H Q Qr=>by obtain⟨β,own,s,q⟩:=Qr;exact q [] H own (Out.refl s _) ue.nil⟩
theorem aa (ha:PQ X C p a φ)(hr:uq X C p' es φs)(hs:WZ (a::es) X.env=(false,eval a X.env)::WZ es X.env:=by rfl):uq X C (p&&p') (a::es) (K2 p' φ φs) :=
 ⟨λβ R R' k h=>ha.mono β _ _ (λd kd β1 q=>⟨q.1,hr.mono β1 _ _ (λds ks β2 q2=>k _ _ _ q2) q.2⟩) h,(bf ha.pe hr.pa hs).pre λσ H Q ⟨β,own,s,h⟩ =>
  tQ.of ha s h λd1 k1 β1 v1 H1 aE Qq o1 r1=>by obtain⟨hh,h1⟩:=Qq;exact vO.of hr o1.sq h1 λds ks β2 vs H2 aX q o2 r2=>q (v1::vs) H2 aX (o1.trans o2) (ue.cons r1 o2.sn (r1.ho o2 hh) r2 o1.sn)⟩
def Pe (φs:cG):aQ:=λβ R=>φs β λds ks β1=>ds.length<=W7/\Bk ks ds λk=>R (.tup ds) k β1
def Pk (φs:cG):aQ:=λβ R=>φs β λds ks β1=>ds.length<=W7/\Bk ks ds λk=>R (.lst ds) k β1
theorem aI.same {P:WI}{w:W6}{ds:List D}{vs:List V}{A:List Addr}(s:au H H')(h:aI P w H ds vs A):aI P w H' ds vs A:=h.keep (λb xs e=>s _ _ e) λc _ o e=>s c o e
theorem Iq {P:WI}{w:W6}{Z:Hp×(Addr->Prop)}{ks:List Kd}{ds:List D}{vs:List V}{K:Kd->Prop}{q:Addr}(hq:H q=none)(h:ue P w C Z own H ks ds vs)(m:Bk ks ds K):∃k,K k/\KV P w C Z own (upd H q (.tup vs)) k (.tup ds) (.ref q):=by
 rcases m.of with⟨f,k⟩|k
 ·obtain⟨A,h1,h2,h3⟩:=h;exact⟨_,k,A,⟨q,vs,rfl,aw,(h1.HF f).same (au.new hq)⟩,h2,h3⟩
 ·refine⟨_,k,?_⟩;rw[<- iV];exact KV.of (by rw[iV];exact⟨q,vs,rfl,aw,h.jt.same (au.new hq)⟩)
theorem Ir {P:WI}{w:W6}{Z:Hp×(Addr->Prop)}{ks:List Kd}{ds:List D}{vs:List V}{K:Kd->Prop}{q:Addr}(hq:H q=none)(hd:Dm (Wn own) H)(h0:∀a,C.H0 a≠none->H a≠none)(hz:∀a,Z.1 a≠none->H a≠none)(h:ue P w C Z own H ks ds vs)(m:Bk ks ds K):∃k,K k/\KV P w C Z own (upd H q (.lst vs)) k (.lst ds) (.ref q):=by
 rcases m.of with⟨f,k⟩|k
 ·obtain⟨A,h1,h2,h3⟩:=h;refine⟨_,k,q::A,⟨q,vs,A,rfl,aw,rfl,(h1.HF f).same (au.new hq)⟩,Xg.mpr ⟨λz=>h1.nc q z hq,h2⟩,λc hc=>?_⟩;rcases WG.mp hc with rfl|hc
  ·exact⟨XG λz=>hz c z hq,λz=>hd c z hq,XG λz=>h0 c z hq⟩
  ·exact h3 c hc
 ·refine⟨_,k,?_⟩;have nq:¬ av C (Wn own) (h8 ks) q:=λz=>by
   cases e:h8 ks <;> rw[e]at z <;> first|exact z.elim (λz=>hd q z hq) λz=>h0 q z hq|exact hd q z hq|exact z
  rw[<- iV];exact KV.of (by rw[iV];exact⟨q,vs,rfl,aw,nq,h.jt.same (au.new hq)⟩)
theorem ue.length {P:WI}{w:W6}{Z:Hp×(Addr->Prop)}{ks:List Kd}{ds:List D}{vs:List V}(h:ue P w C Z own H ks ds vs):vs.length=ds.length:=h.jt.length
theorem cn {x1}(h:uq X C p es φs):PQ X C p (.Tuple es x1 pos) (Pe φs) :=
 ⟨λβ R R' k q=>h.mono β _ _ (λds ks β1 Qp=>by obtain⟨l,q⟩:=Qp;exact⟨l,q.mono λ_ z=>k _ _ _ z⟩) q,(Ay h.pa).pre λσ H Q ⟨β,own,s,q⟩=>vO.of h s q λds ks β1 vs H1 aE ⟨l,q1⟩ o1 r1 =>
  ⟨by rw[r1.length];exact l,λq hq=>let ⟨k,q1,r⟩:=Iq hq r1 q1;q1 _ _ aE (o1.same (au.new hq)) r⟩⟩
theorem bh (h:uq X C p es φs):PQ X C p (.List es pos) (Pk φs) :=
 ⟨λβ R R' k q=>h.mono β _ _ (λds ks β1 Qo=>by obtain⟨l,q⟩:=Qo;exact⟨l,q.mono λ_ z=>k _ _ _ z⟩) q,(uW h.pa).pre λσ H Q ⟨β,own,s,q⟩=>vO.of h s q λds ks β1 vs H1 aE ⟨l,q1⟩ o1 r1 =>
  ⟨by rw[r1.length];exact l,λq hq=>let ⟨k,q1,r⟩:=Ir hq o1.sq.y_ o1.sq.iu (λa z=>o1.sn.d a z) r1 q1;q1 _ _ aE (o1.same (au.new hq)) r⟩⟩
end
section
variable {X:Cx}{C:Cfg}{a b c e:Expr}{es:List Expr}{φ φa φb:aQ}{φs:cG}{pos:Pos}{σ:St}{H H':Hp}{β:a7}{own:Nat->List Addr}{p:Bool}{g:D->D->Option D}{N:D->Prop}
abbrev pH:=D->Kd->aQ
structure Ov (X:Cx)(C:Cfg)(ops:List Z1)(es:List Expr)(φ:pH):Prop where
 mono:∀x k β R R',(∀d k β,R d k β->R' d k β)->φ x k β R->φ x k β R'
 ch:GD X ops es λx σ H Q=>∃β own d k,SQ X C σ H β own/\Rp X (av C (Wn own) k) H d x/\φ d k β λd' k' β'=>∀v H',au H H'->SQ X C σ H' β' own->KV X.prog X.w C (H,Wn own) own H' k' d' v->Q v H'
 VJ:vG X ops es λx σ H Q=>∃β own d k,SQ X C σ H β own/\Rp X (av C (Wn own) k) H d x/\φ d k β λd' k' β'=>∃b,d'=.bl b/\∀H',au H H'->SQ X C σ H' β' own->Q b H'
def K3 (g:D->D->Option D)(φb:aQ):pH:=λx _ β R=>φb β λy _ β1=>∃b,g x y=some (.bl b)/\R (.bl b) .own β1
def Hn (g:D->D->Option D)(φb:aQ)(φr:pH):pH:=λx _ β R=>φb β λy ky β1=>∃k,g x y=some (.bl k)/\if k=true then φr y ky β1 R else R (.bl false) .own β1
variable {op HN:Z1}{ops:List Z1}{rs:List Expr}{φr:pH}
theorem wb (ho:b8 X (X5 op) g)(hb:PQ X C true b φb):Ov X C [op] [b] (K3 g φb) :=
 ⟨λx k β R R' h q=>hb.mono β _ _ (λy _ β1 vj=>by obtain⟨d,e,q⟩:=vj;exact⟨d,e,h _ _ _ q⟩) q,
  (JG ho hb.pe).pre λx σ H Q ⟨β,own,d,k,s,r,h⟩=>tQ.of hb s h λd2 k2 β2 v2 H2 aX Bw o2 r2=>by
    obtain⟨d',e,q⟩:=Bw;obtain⟨s2,rfl⟩:=o2.pu rfl;exact⟨av C (Wn aX) (k.max k2),d,d2,.bl d',o2.sq.za _,az.aV cF (r.same s2),az.aV eE r2.rep,e,λv H' s3 r3=>q v H' (s2.trans s3) (o2.sq.same s3) (KV.flat rfl r3)⟩,
  (Fj ho hb.pe).pre λx σ H Q ⟨β,own,d,k,s,r,h⟩=>tQ.of hb s h λd2 k2 β2 v2 H2 aX IM o2 r2=>by
    obtain⟨d',e,b,eb,q⟩:=IM;obtain⟨s2,rfl⟩:=o2.pu rfl;cases eb;exact⟨av C (Wn aX) (k.max k2),d,d2,.bl d',o2.sq.za _,az.aV cF (r.same s2),az.aV eE r2.rep,e,λv H' s3 r3=>by
      cases r3;exact⟨_,rfl,q H' (s2.trans s3) (o2.sq.same s3)⟩⟩⟩
theorem iJ (ho:b8 X (X5 op) g)(hb:PQ X C true b φb)(hc:Ov X C (HN::ops) (c::rs) φr):Ov X C (op::HN::ops) (b::c::rs) (Hn g φb φr) :=
 ⟨λx k β R R' h q=>hb.mono β _ _ (λy ky β1 ⟨d,e,q⟩=>⟨d,e,by
   cases d
   ·exact h _ _ _ q
   ·exact hc.mono y ky β1 _ _ h q⟩) q,
  (Fl ho hb.pe hc.ch).pre λx σ H Q ⟨β,own,d,k,s,r,h⟩=>tQ.of hb s h λd2 k2 β2 v2 H2 aX L8 o2 r2=>by
    obtain⟨t,e,q⟩:=L8;obtain⟨s2,rfl⟩:=o2.pu rfl;refine⟨av C (Wn aX) (k.max k2),d,d2,.bl t,o2.sq.za _,az.aV cF (r.same s2),az.aV eE r2.rep,e,λv H' s3 r3=>?_⟩;cases r3;refine⟨t,rfl,?_⟩;cases t
    · exact q _ H' (s2.trans s3) (o2.sq.same s3) wJ
    · exact⟨β2,aX,d2,k2,o2.sq.same s3,r2.rep.same s3,hc.mono d2 k2 β2 _ _ (λd' k' β' q' v CG s4 sq r4=>q' v CG ((s2.trans s3).trans s4) sq (r4.later ((o2.same s3).sn))) q⟩,
  (Ck ho hb.pe hc.VJ).pre λx σ H Q ⟨β,own,d,k,s,r,h⟩=>tQ.of hb s h λd2 k2 β2 v2 H2 aX vi o2 r2=>by
    obtain⟨t,e,q⟩:=vi;obtain⟨s2,rfl⟩:=o2.pu rfl;refine⟨av C (Wn aX) (k.max k2),d,d2,.bl t,o2.sq.za _,az.aV cF (r.same s2),az.aV eE r2.rep,e,λv H' s3 r3=>?_⟩;cases r3;refine⟨t,rfl,?_⟩;cases t
    · obtain⟨b,eb,q⟩:=q;cases eb;exact q H' (s2.trans s3) (o2.sq.same s3)
    · exact⟨β2,aX,d2,k2,o2.sq.same s3,r2.rep.same s3,hc.mono d2 k2 β2 _ _ (λd' k' β' BA=>by obtain⟨b,eb,q'⟩:=BA;exact⟨b,eb,λCG s4 sq=>q' CG ((s2.trans s3).trans s4) sq⟩) q⟩⟩
def Ae (φa:aQ)(φr:pH):aQ:=λβ R=>φa β λx k β1=>φr x k β1 R
theorem rO {lQ lP:Z1}(ha:PQ X C true a φa)(hc:Ov X C (lQ::lP::ops) (b::c::rs) φr)(hm:lastMarks (lQ::lP::ops) (b::c::rs)=false:=by with_unfolding_all rfl):
  PQ X C true (.Compare a (lQ::lP::ops) (b::c::rs) pos) (Ae φa φr) :=
 ⟨λβ R R' k h=>ha.mono β _ _ (λx kx β1 q=>hc.mono x kx β1 _ _ k q) h,(xX ha.pe hc.ch hm).pre λσ H Q ⟨β,own,s,h⟩=>tQ.of ha s h λd k β1 v H1 aE q o1 r1=>by
  obtain⟨s1,rfl⟩:=o1.pu rfl;exact⟨β1,aE,d,k,o1.sq,r1.rep,hc.mono d k β1 _ _ (λd' k' β' q' v CG s4 sq r4=>q' v CG aE ⟨sq,o1.sn.same s4,λ_=>⟨s1.trans s4,rfl⟩,o1.le⟩ (r4.later o1.sn)) q⟩⟩
abbrev CD:=a7->(Option Int->a7->Prop)->Prop
structure Ou (X:Cx)(C:Cfg)(e:Option Expr)(φ:CD):Prop where
 mono:∀β R R',(∀d β,R d β->R' d β)->φ β R->φ β R'
 po:PO X e λσ H Q=>∃β own,SQ X C σ H β own/\φ β λo β'=>∀H',au H H'->SQ X C σ H' β' own->Q o H'
theorem Aq:Ou X C none (λβ R=>R none β):=⟨λβ R R' k h=>k _ _ h,wm.pre λσ H Q By=>by obtain⟨β,own,s,q⟩:=By;exact q H (au.refl _) s⟩
theorem Ao (ha:PQ X C true a φ):Ou X C (some a) (λβ R=>φ β λd _ β1=>∃i,d=.int i/\R (some i) β1) :=
 ⟨λβ R R' k h=>ha.mono β _ _ (λd _ β1 Bx=>by obtain⟨i,e,q⟩:=Bx;exact⟨i,e,k _ _ q⟩) h,(wj ha.pe).pre λσ H Q ⟨β,own,s,h⟩=>tQ.of ha s h λd k β1 v H1 aE IX o1 r1=>by
  obtain⟨i,e,q⟩:=IX;subst e;cases r1.rep;obtain⟨s1,rfl⟩:=o1.pu rfl;exact⟨i,rfl,q H1 s1 o1.sq⟩⟩
def Uq (φ:aQ)(φl φh:CD):aQ:=λβ R=>φ β λx k β1=>φl β1 λl β2=>φh β2 λh β3=>∃d,Ts x l h=some d/\kN NL d k.wk λk'=>R d k' β3
theorem FE {k:Kd}:k.wk.wk=k.wk:=by cases k <;> rfl
theorem Cw {W:Addr->Prop}{k:Kd}:∀c,av C W k.wk c->av C W k c:=λc h=>by cases k <;> exact h
theorem K7 {lo hi:Option Expr}{φl φh:CD}{p2:Pos}(ha:PQ X C p a φ)(hl:Ou X C lo φl)(hh:Ou X C hi φh):PQ X C p (.Subscript a (.Slice lo hi none p2) pos) (Uq φ φl φh) :=
 ⟨λβ R R' k h=>ha.mono β _ _ (λx kx β1 q=>hl.mono β1 _ _ (λl β2 q=>hh.mono β2 _ _ (λu β3 IW=>by obtain⟨d,e,q⟩:=IW;exact⟨d,e,q.mono λ_ z=>k _ _ _ z⟩) q) q) h,
  (rQ Dk ha.pe hl.po hh.po).pre λσ H Q ⟨β,own,s,h⟩=>tQ.of ha s h λd k β1 v H1 aE q o1 r1 =>
    ⟨β1,aE,o1.sq,hl.mono β1 _ _ (λl β2 q H2 s2 Uc=>⟨β2,aE,Uc,hh.mono β2 _ _ (λu β3 IU H3 s3 NO=>by
      obtain⟨d',e,q⟩:=IU;refine⟨av C (Wn aE) k.wk,d,d',NO.za _,((az.aV Cw r1.rep).same s2).same s3,e,λv H' s4 r4 n4=>?_⟩;obtain⟨k',q,r⟩:=KV.kN (Z:=(H,Wn own)) FE r4 (λn=>gw (H:=H3) NO.y_ NO.iu (λa z e=>o1.sn.d a z (s2.free (s3.free e))) n (n4 n)) q;exact q v H' aE ⟨NO.same s4,o1.sn.same ((s2.trans s3).trans s4),λz=>⟨(o1.pu z).1.trans ((s2.trans s3).trans s4),(o1.pu z).2⟩,o1.le⟩ r) q⟩) q⟩⟩
def KW (X:Cx)(f:List D->Option D)(N:D->Prop):List V->Hp->VK->Prop:=λxs H Q=>∃W ds d,Dm W H/\ji X W H ds xs/\f ds=some d/\∀v H',au H H'->Rp X W H' d v->(N d->Rp X (λa=>H a≠none) H' d v)->Q v H'
abbrev CH (X:Cx)(f:WC)(g:List D->Option D)(N:D->Prop):Prop:=eU X f (KW X g N)
theorem bH.m {f:WC}{g:List D->Option D}(h:bH X f g):CH X f g NF:=λpins s σ H xs us Q I r ⟨W,ds,d,hd,r1,e,q⟩ =>
 h pins s σ H xs us Q I r ⟨W,ds,d,hd,r1,e,λv H' s r=>q v H' s r λf=>az.flat f r⟩
def jW (g:List D->Option D)(N:D->Prop)(φs:cG):aQ:=λβ R=>φs β λds ks β1=>∃d,g ds=some d/\kN N d (h8 ks) λk=>R d k β1
variable {x:Str}{pp:Pos}{id T:String}{gs:List D->Option D}
theorem jW.mono (h:uq X C p es φs):∀β R R',(∀d k β,R d k β->R' d k β)->jW gs N φs β R->jW gs N φs β R':=λβ R R' k q=>h.mono β _ _ (λds ks β1 QB=>by obtain⟨d,e,q⟩:=QB;exact⟨d,e,q.mono λ_ z=>k _ _ _ z⟩) q
theorem rJ (hn:CV N)(h:uq X C p es φs):∀σ H Q,tQ X C p (jW gs N φs) σ H Q->OR (KW X gs N) (vO X C p φs) σ H Q:=λσ H Q ⟨β,own,s,q⟩=>vO.of h s q λds ks β1 vs H1 aE Qz o1 r1=>by
 obtain⟨d,e,q1⟩:=Qz;refine⟨av C (Wn aE) (h8 ks),ds,d,o1.sq.za _,r1.jt,e,λv H' s2 r2 n2=>?_⟩;obtain⟨k',q,r⟩:=KV.kN (Z:=(H,Wn own)) iV r2 (λn=>gw (H:=H1) o1.sq.y_ o1.sq.iu (λa z=>o1.sn.d a z) (hn.nl _ n) (n2 n)) q1;exact q v H' aE (o1.same s2) r
theorem ba (EH:CV N)(hc:CH X (.builtin id) gs N)(hm:X.mg x=none)(hv:XC x=some (.builtin id))(ha:uq X C p (e::es) φs)(hg:Gl X x:=by rfl)(hn:x≠"__name__" := by decide)(hdb:(x==("__debug__" : Str))=false:=by decide)
  (mw:WZ (e::es) X.env=(false,eval e X.env)::WZ es X.env:=by rfl) (hpl:(YM pos (WZ es X.env)).any (·.1)=false:=by rfl) :
  PQ X C p (.Call (.Name x pp) (e::es) [] pos) (jW gs N φs):=⟨jW.mono ha,(iM hc hg hm hv ha.pa hn hdb (he:=mw) (hpl:=hpl)).pre (rJ EH ha)⟩
theorem jx (EH:CV N)(hc:CH X (.type T) gs N)(hm:X.mg x=none)(hv:XC x=some (.type T))(ha:uq X C p (e::es) φs)(hg:Gl X x:=by rfl)(hn:x≠"__name__" := by decide)(hdb:(x==("__debug__" : Str))=false:=by decide)
  (mw:WZ (e::es) X.env=(false,eval e X.env)::WZ es X.env:=by rfl) (hpl:(YM pos (WZ es X.env)).any (·.1)=false:=by rfl) :
  PQ X C p (.Call (.Name x pp) (e::es) [] pos) (jW gs N φs):=⟨jW.mono ha,(om hc hg hm hv ha.pa hn hdb (he:=mw) (hpl:=hpl)).pre (rJ EH ha)⟩
end
def ud (P:WI)(w:W6)(ro:Bool)(H H':Hp)(d:D)(v:V):Prop:=match ro with
 |true=>∃A,Own P w H' d v A/\A.Nodup/\∀c∈A,H c=none
 |false=>az P w (λa=>H a≠none) H' d v
abbrev rk (ro:Bool):Kd:=match ro with|true=>.own|false=>.eW
def dX (P:WI)(w:W6)(ro:Bool)(F:FD):Sp:=λvs H Q _=>∃ds,ah P w (λ_=>False) H ds vs/\F ds λd=>∀v H',au H H'->ud P w ro H H' d v->Q v H'
def kB (P:WI)(w:W6)(ok:List Int->Prop)(ro:Bool)(F:FD):Sp:=λvs H Q _=>∃h vs' ds ns,vs=.ref h::vs'/\H h=some (.lst (ns.map V.int))/\ok ns/\ah P w (λa=>a=h) H ds vs' /\
 F ds λd=>∀v H' ou,Kp (·=h) H H'->(∀c,H c≠none->H' c≠none)->H' h=some (.lst (ou.map V.int))->ok ou->ud P w ro H H' d v->Q v H'
section
variable {X:Cx}{C:Cfg}{k ih:Nat}{f:Addr}{fd:Xx}{ps:List Str}{F:FD}{ro p:Bool}{x hx:Str}{pp pos px:Pos}{e:Expr}{es:List Expr}{φs:cG}{ok:List Int->Prop}{σ:St}{H H':Hp}{β:a7}{own:Nat->List Addr}{P:WI}{w:W6}
theorem ud.kv {Z:Hp×(Addr->Prop)}{d:D}{v:V}(hd:Dm (Wn own) H)(h0:∀a,C.H0 a≠none->H a≠none)(hz:∀a,Z.1 a≠none->H a≠none)(h:ud P w ro H H' d v):KV P w C Z own H' (rk ro) d v:=by
 cases ro with
 |true =>
  obtain⟨A,h1,h2,h3⟩:=h;exact⟨A,h1,h2,λc hc=>⟨XG λz=>hz c z (h3 c hc),λz=>hd c z (h3 c hc),XG λz=>h0 c z (h3 c hc)⟩⟩
 |false=>exact az.aV (λa z=>z.elim (hd a) (h0 a)) h
def Pf (ro:Bool)(F:FD)(φs:cG):aQ:=λβ R=>φs β λds _ β1=>F ds λd=>R d (rk ro) β1
theorem aW (mF:c5 F)(G:aM X.prog X.w X.K X.mg X.base bZ k f fd ps (dX X.prog X.w ro F))(hr:cQ k X.A)(hm:X.mg x=some (.ref f))(hk:PySem.W.keepIn X.K (.ref f)=true)(hb:Binds X.K fd ps [])(ha:uq X C p (e::es) φs)(hg:Gl X x:=by rfl)
  (hdb:(x==("__debug__" : Str))=false:=by decide)
  (mw:WZ (e::es) X.env=(false,eval e X.env)::WZ es X.env:=by rfl) (hpl:(YM pos (WZ es X.env)).any (·.1)=false:=by rfl) :
  PQ X C p (.Call (.Name x pp) (e::es) [] pos) (Pf ro F φs) :=
 ⟨λβ R R' k h=>ha.mono β _ _ (λds ks β1 q=>mF ds _ _ (λd q=>k _ _ _ q) q) h,(wx G hr hg hm hk hb .nil FO ha.pa (hdb:=hdb) (he:=mw) (hpl:=hpl)).pre λσ H Q ⟨β,own,s,h⟩=>vO.of ha s h λds ks β1 vs H1 aE q o1 r1=>by
  rw[XY];exact⟨ds,r1.bor,mF ds _ _ (λd q2 v H' s2 r2=>q2 v H' aE (o1.same s2) (r2.kv o1.sq.y_ o1.sq.iu λa z=>o1.sn.d a z)) q⟩⟩
theorem bY.drawn {i:Nat}{h:Addr}{ou:List Int}(b:bY P w C σ H β own)(e:β[i]?=some (some (.hand ok)))(hσ:σ[i]?=some (some (.ref h)))(k:Kp (·=h) H H')(e':H' h=some (.lst (ou.map V.int)))(o':ok ou)(dn:∀c,H c≠none->H' c≠none):bY P w C σ H' β own:=by
 obtain⟨a,ns,h1,h2,h3,h4,h5⟩:=b.nC i ok e;rw[hσ]at h1;cases h1;have wh:Wn own h:=⟨i,by rw[h4];simp⟩
 have kW:∀y,Kp (fZ C (Wn own) (yk y)) H H':=λy=>k.mono λc z=>by rw[z];cases y <;> first|exact .inl wh|exact .inl (.inl wh)
 have ne:∀j,j≠i->∀c∈own j,c≠h:=λj hj c hc z=>hj (b.mQ j i c hc (by rw[h4,z];simp))
 refine⟨b.len,λj y d e=>let ⟨v,g1,g2⟩:=b.val j y d e;⟨v,g1,g2.keep (kW y)⟩,λj d ej=>?_,λj yY ej=>?_,λj c hc=>?_,b.mQ,b.m9,⟨λc o z n=>?_,λc xs z=>k.tup c xs (b.kp.tup c xs z)⟩,λc z=>dn c (b.iu c z),λj y d ej=>by
  obtain⟨v,g1,g2,g3⟩:=b.shl j y d ej;have hj:j≠i:=λz=>by rw[z,e]at ej;cases ej
  exact⟨v,g1,g2.map (λc hc o eo=>k.out c o eo (ne j hj c hc)) (λ_ _ r=>r.keep (kW y)),g3⟩⟩
 ·obtain⟨v,g1,g2,g3⟩:=b.ow j d ej;have hj:j≠i:=λz=>by rw[z,e]at ej;cases ej
  exact⟨v,g1,g2.keep k.tup (λc hc o eo=>k.out c o eo (ne j hj c hc)),g3⟩
 ·by_cases hj:j=i
  ·subst hj;rw[e]at ej;cases ej;exact⟨h,ou,hσ,e',o',h4,h5⟩
  ·obtain⟨a,ms,g1,g2,g3,g4,g5⟩:=b.nC j yY ej;exact⟨a,ms,g1,k.out a _ g2 (ne j hj a (by rw[g4];simp)),g3,g4,g5⟩
 ·obtain⟨g1,g2,g3⟩:=b.dm j c hc
  by_cases sQ:c=h
  ·rw[sQ,e'];rw[sQ]at g3;exact⟨λz=>(nomatch z),λxs z=>(by cases z),g3⟩
  ·cases q:H c with
   |none=>exact absurd q g1
   |some o=>rw[k.out c o q sQ];exact⟨λz=>(nomatch z),λxs z=>g2 xs (by rw[q];exact z),g3⟩
 ·refine k.out c o (b.kp.out c o z n) λq=>?_;subst q;rcases (b.dm i c (by rw[h4];simp)).2.2.1 with z0|z0
  ·rw[z0]at z;cases z
  ·exact n z0
def K1 (ih:Nat)(ok:List Int->Prop)(ro:Bool)(F:FD)(φs:cG):aQ:=λβ R=>β[ih]?=some (some (.hand ok))/\φs β λds ks β1=>β1[ih]?=some (some (.hand ok))/\hold (h8 ks) false/\F ds λd=>R d (rk ro) β1
theorem bO (mF:c5 F)(G:aM X.prog X.w X.K X.mg X.base bZ k f fd ps (kB X.prog X.w ok ro F))(hr:cQ k X.A)(hm:X.mg x=some (.ref f))(hk:PySem.W.keepIn X.K (.ref f)=true)(hb:Binds X.K fd ps [])(ha:uq X C p es φs)(hN:X.N[ih]?=some hx:=by rfl)
  (hv:xm X.env.scope hx:=by first|exact .inl rfl|exact .inr (.inl rfl)|exact .inr (.inr rfl)) (hd:(hx==("__debug__" : Str))=false:=by decide) (ir:(hx==("__classdict__" : Str))=false:=by decide) (hg:Gl X x:=by rfl) (hdb:(x==("__debug__" : Str))=false:=by decide)
  (mw:WZ (.Name hx px::es) X.env=(false,eval (.Name hx px) X.env)::WZ es X.env:=by rfl) (hpl:(YM pos (WZ es X.env)).any (·.1)=false:=by rfl) :
  PQ X C false (.Call (.Name x pp) (.Name hx px::es) [] pos) (K1 ih ok ro F φs) :=
 ⟨λβ R R' k Qy=>by obtain⟨e,h⟩:=Qy;exact⟨e,ha.mono β _ _ (λds ks β1 Qx=>by obtain⟨e,hh,q⟩:=Qx;exact⟨e,hh,mF ds _ _ (λd q=>k _ _ _ q) q⟩) h⟩,
  (wx G hr hg hm hk hb .nil FO (bf (dG (pos:=px) hN hv hd ir) ha.pa mw) (hdb:=hdb) (he:=mw) (hpl:=hpl)).pre λσ H Q IS=>by
  obtain⟨β,own,s,e,h⟩:=IS;obtain⟨hh,ns,h1,h2,h3,h4⟩:=s.nC ih ok e;refine⟨.ref hh,h1,vO.of ha s h λds ks β1 vs H1 aE ⟨e1,ho,q⟩ o1 r1=>?_⟩;obtain⟨Wo,Ux,g1,g2,g3,g4,g5⟩:=o1.sq.nC ih ok e1;rw[h1]at g1;cases g1;have wh:Wn aE hh:=⟨ih,by rw[g4];simp⟩
  rw[XY];refine⟨hh,vs,ds,Ux,rfl,g2,g3,ah.aV (λa z=>?_) r1.jt,mF ds _ _ (λd q v H' ou kp dn e' yY r=>?_) q⟩
  ·subst z;cases hk:h8 ks with
   |own=>exact .inl wh
   |eW=>exact .inl wh
   |old=>exact wh
   |bor=>rw[hk]at ho;exact ho.elim
  ·exact q v H' aE ⟨o1.sq.drawn e1 h1 kp e' yY dn,o1.sn.kp (kp.mono λb z=>by rw[z];exact wh) dn,λz=>(nomatch z),o1.le⟩ (r.kv o1.sq.y_ o1.sq.iu λa z=>o1.sn.d a z)⟩
end
abbrev Cfg.z (C:Cfg):Cfg:=C.u λ_=>False
def SB (X:Cx)(C:Cfg)(Z:Hp×(Addr->Prop))(σ:St)(H:Hp)(β:a7):Prop:=∃own,SQ X C.z σ H β own/\Sn Z H (Wn own)
structure fB where
 nx:a7->Prop
 rt:D->a7->Prop
 bk:a7->Prop:=λ_=>False
 ct:a7->Prop:=λ_=>False
def fB.up (E:fB)(n:a7->Prop):fB:=⟨n,E.rt,E.bk,E.ct⟩
def fB.lp (E:fB)(n:a7->Prop):fB:=⟨n,E.rt,E.nx,n⟩
structure V4 (X:Cx)(C:Cfg)(Z:Hp×(Addr->Prop))(E:fB)(D:Ends):Prop where
 nx:∀σ H β,SB X C Z σ H β->E.nx β->D.nx σ H
 rt:∀σ H β d v,SB X C Z σ H β->ud X.prog X.w C.ro C.H0 H d v->E.rt d β->D.rt v H
 bk:∀σ H β,SB X C Z σ H β->E.bk β->D.bk σ H
 ct:∀σ H β,SB X C Z σ H β->E.ct β->D.ct σ H
structure Le (E E':fB):Prop where
 nx:∀β,E.nx β->E'.nx β
 rt:∀d β,E.rt d β->E'.rt d β
 bk:∀β,E.bk β->E'.bk β
 ct:∀β,E.ct β->E'.ct β
abbrev JQ:=fB->a7->Prop
def R9 (X:Cx)(C:Cfg)(ψ:JQ):TS:=λD σ H=>∃Z E β,SB X C Z σ H β/\ψ E β/\V4 X C Z E D
structure PB (X:Cx)(C:Cfg)(st:Stmt)(ψ:JQ):Prop where
 mono:∀E E' β,Le E E'->ψ E β->ψ E' β
 ps:PS X st (R9 X C ψ)
structure xo (X:Cx)(C:Cfg)(st:List Stmt)(ψ:JQ):Prop where
 mono:∀E E' β,Le E E'->ψ E β->ψ E' β
 ps:uo X st (R9 X C ψ)
section
variable {X:Cx}{C:Cfg}{st:Stmt}{rest a b:List Stmt}{ψ ψ1 ψ2:JQ}{Z:Hp×(Addr->Prop)}{σ:St}{H H':Hp}{β β':a7}{pos pos':Pos}{e c:Expr}{φ:aQ}{τ:bb}{p:Bool}{own aP:Nat->List Addr}{i:Nat}{x:Str}
theorem Out.sb (n:Sn Z H (Wn own))(o:Out X C.z σ H own p β' H' aP):SB X C Z σ H' β':=⟨aP,o.sq,n.trans o.sn⟩
theorem a5:xo X C [] (λE β=>E.nx β):=⟨λE E' β l h=>l.nx β h,v9.pre λD σ H vj=>by obtain⟨Z,E,β,sb,h,ok⟩:=vj;exact ok.nx σ H β sb h⟩
theorem aj (h1:PB X C st ψ1)(h2:xo X C rest ψ2):xo X C (st::rest) (λE β=>ψ1 (E.up (ψ2 E)) β) :=
 ⟨λE E' β l h=>h1.mono {E with nx:=ψ2 E} {E' with nx:=ψ2 E'} β ⟨λβ' q=>h2.mono E E' β' l q,l.rt,l.bk,l.ct⟩ h,(dF h1.ps h2.ps).pre λD σ H ⟨Z,E,β,sb,h,ok⟩ =>
  ⟨Z,{E with nx:=ψ2 E},β,sb,h,⟨λσ' H' β' Ds h'=>⟨Z,E,β',Ds,h',ok⟩,ok.rt,ok.bk,ok.ct⟩⟩⟩
theorem ao (h1:PB X C st ψ):xo X C [st] ψ:=⟨h1.mono,iH h1.ps⟩
theorem fg (h1:PB X C st ψ1)(h2:xo X C rest ψ2):xo X C (st::rest) (λE β=>∃J:a7->Prop,ψ1 (E.up J) β/\∀β',J β'->ψ2 E β') :=
 ⟨λE E' β l Bw=>by obtain⟨J,h,k⟩:=Bw;exact⟨J,h1.mono {E with nx:=J} {E' with nx:=J} β ⟨λ_ q=>q,l.rt,l.bk,l.ct⟩ h,λβ' q=>h2.mono E E' β' l (k β' q)⟩,(dF h1.ps h2.ps).pre λD σ H ⟨Z,E,β,sb,⟨J,h,k⟩,ok⟩ =>
  ⟨Z,{E with nx:=J},β,sb,h,⟨λσ' H' β' Ds h'=>⟨Z,E,β',Ds,k β' h',ok⟩,ok.rt,ok.bk,ok.ct⟩⟩⟩
theorem cv (hc:yR X C.z p c τ)(ha:xo X C a ψ1)(hb:xo X C b ψ2):PB X C (.If c a b pos) (λE β=>τ β λt β'=>if t=true then ψ1 E β' else ψ2 E β') :=
 ⟨λE E' β l h=>hc.mono _ _ _ (λt β' q=>by
   cases t
   ·exact hb.mono E E' β' l q
   ·exact ha.mono E E' β' l q) h,(FJ hc.pt ha.ps hb.ps).pre λD σ H L7=>by
  obtain⟨Z,E,β,⟨own,s,n⟩,h,ok⟩:=L7;refine jS.of hc s h λt β' H1 aE q o1=>?_;cases t
  ·exact⟨Z,E,β',o1.sb n,q,ok⟩
  ·exact⟨Z,E,β',o1.sb n,q,ok⟩⟩
abbrev F0 (d:D)(k:Kd)(K:B->Prop):Prop:=match k with
 |.own=>K (.val true d)
 |.eW=>K (.val true d)
 |.old=>K (.val false d)
 |.bor=>d.flat=true/\K (.val true d)
theorem F0.mono {d:D}{k:Kd}{K K':B->Prop}(h:∀b,K b->K' b)(q:F0 d k K):F0 d k K':=by
 cases k <;> first|exact h _ q|exact⟨q.1,h _ q.2⟩
theorem F0.of {P:WI}{w:W6}{d:D}{v:V}{k:Kd}{K:B->Prop}(r:KV P w C Z own H k d v)(q:F0 d k K):∃y,K (.val y d)/\az P w (av C (Wn own) (yk y)) H d v:=by
 cases k with
 |own=>exact⟨true,q,r.eW⟩
 |eW=>exact⟨true,q,r⟩
 |old=>exact⟨false,q,r⟩
 |bor=>exact⟨true,q.2,az.flat q.1 r⟩
theorem uM {own:Nat->List Addr}{i:Nat}(n:Sn Z H (Wn own)):Sn Z H (Wn (aR own i [])):=⟨λb z=>n.w b (eY z),n.k,n.d⟩
theorem a9 (he:PQ X C.z p e φ)(hN:X.N.Nodup)(hi:X.N[i]?=some x:=by rfl)(hx:Loc X.env.scope x:=by first|exact .inl rfl|exact .inr rfl)
  (hs:Zl e (some (.Name x pos')) pos.line X.env=pure false:=by rfl) (hf:X.fn x=true\/X.env.scope.names.lookup x=some .local:=by first|exact .inl rfl|exact .inr rfl|assumption) :
  PB X C (.Assign [.Name x pos'] e pos) (λE β=>φ β λd k β'=>F0 d k λb=>E.nx (β'.set i (some b))) :=
 ⟨λE E' β l q=>he.mono _ _ _ (λd k β' q=>q.mono λ_=>l.nx _) q,(uR hN hi hx he.pe hs hf).pre λD σ H ⟨Z,E,β,⟨own,s,n⟩,q,ok⟩=>tQ.of he s q λd k β' v H' aP q o r=>by
  obtain⟨y,q,r⟩:=q.of r;exact ok.nx _ _ _ ⟨_,o.sq.fI (az.aV (λa z=>z.elim id λz=>z.elim) r),uM (n.trans o.sn)⟩ q⟩
abbrev Ew (k:Kd)(d:D):Prop:=match k with
 |.own=>True
 |_=>d.flat=true
theorem KV.fl {P:WI}{w:W6}{d:D}{v:V}{k:Kd}(f:Ew k d)(r:KV P w C Z own H k d v):KV P w C Z own H .own d v:=by
 cases k with
 |own=>exact r
 |eW=>exact KV.flat f r.rep
 |old=>exact KV.flat f r.rep
 |bor=>exact KV.flat f r.rep
theorem fh (he:∀U,PQ X (C.u U) p e φ)(hN:X.N.Nodup)(hi:X.N[i]?=some x:=by rfl)(hx:Loc X.env.scope x:=by first|exact .inl rfl|exact .inr rfl)
  (hs:Zl e (some (.Name x pos')) pos.line X.env=pure false:=by rfl) (hf:X.fn x=true\/X.env.scope.names.lookup x=some .local:=by first|exact .inl rfl|exact .inr rfl|assumption) :
  PB X C (.Assign [.Name x pos'] e pos) (λE β=>φ β λd k β'=>Ew k d/\E.nx (β'.set i (some (.own d)))) :=
 ⟨λE E' β l q=>(he λ_=>False).mono _ _ _ (λd k β' q=>⟨q.1,l.nx _ q.2⟩) q,λpins s σ H D I ⟨Z,E,β,⟨own,sq,n⟩,q,ok⟩ =>
  uR hN hi hx (he λa=>H a=none).pe hs hf pins s σ H D I (tQ.of (he λa=>H a=none) (sq.qV (C:=C.z) (U:=λa=>H a=none) λa z=>z) q λd k β' v H' aP I9 o r=>by
   obtain⟨f,q⟩:=I9;obtain⟨A,h1,h2,h3⟩:=r.fl f;refine ok.nx _ _ _ ⟨_,o.sq.zX h1 h2 λc hc=>⟨(h3 c hc).2.2,(h3 c hc).2.1,(h3 c hc).1⟩,?_⟩ q;have m:=n.trans o.sn;exact⟨λb QD=>by
    obtain⟨j,hj⟩:=QD
    by_cases aF:i=j
    ·rw[<- aF,os_eq]at hj;exact .inr (n.free (h3 b hj).1)
    ·rw[bF aF]at hj;exact m.w b ⟨j,hj⟩,m.k,m.d⟩)⟩
theorem bY.K5 {P:WI}{w:W6}{U U2:Addr->Prop}{d d':D}{v:V}{A':List Addr}{c:Addr}{o:HO}(b:bY P w (C.u U) σ H β own)(e:β[i]?=some (some (.own d)))(hσ:σ[i]?=some (some v))(hc:c∈own i)
  (r:Own P w (upd H c o) d' v A') (nd:A'.Nodup) (hA:∀a∈A',a∈own i\/(C.H0 a=none/\¬ Wn own a/\U a)) (hU:∀a,U2 a->U a) (Ri:∀a∈A',¬ U2 a):bY P w (C.u U2) σ (upd H c o) (β.set i (some (.own d'))) (aR own i A'):=by
 obtain⟨g1,g2,g3,g4⟩:=b.dm i c hc;obtain⟨oc,Ja⟩:∃oc,H c=some oc:=by
  cases q:H c with
  |none=>exact absurd q g1
  |some oc=>exact⟨oc,rfl⟩
 have ht:∀xs,oc≠.tup xs:=λxs z=>g2 xs (by rw[Ja,z])
 have k:Kp (·=c) H (upd H c o):=mh Ja ht;have h0:∀a∈own i,C.H0 a=none:=by obtain⟨_,_,_,h⟩:=b.ow i d e;exact h
 have wc:Wn own c:=⟨i,hc⟩;have sub:∀y a,fZ (C.u U2) (Wn (aR own i A')) (yk y) a->fZ (C.u U) (Wn own) (yk y) a:=λy a h=>by
  have q:∀a,Wn (aR own i A') a->Wn own a\/U a:=λa Bz=>by
   obtain⟨j,q⟩:=Bz
   by_cases aF:i=j
   ·rw[aF,os_eq]at q;rcases hA a q with z|z
    ·exact .inl ⟨i,z⟩
    ·exact .inr z.2.2
   ·rw[bF aF]at q;exact .inl ⟨j,q⟩
  rcases h with h|h
  ·cases y with
   |true=>exact h.elim (λz=>(q a z).imp .inl id) λz=>.inl (.inr z)
   |false=>exact q a h
  ·exact .inr (hU a h)
 have mem:∀{j c},c∈aR own i A' j->(i=j/\c∈A')\/(i≠j/\c∈own j):=λ{j c} h=>by
  by_cases aF:i=j
  ·subst aF;rw[os_eq]at h;exact .inl ⟨rfl,h⟩
  ·rw[bF aF]at h;exact .inr ⟨aF,h⟩
 have NT:∀j,i≠j->∀a∈own j,a≠c:=λj aF a ha z=>aF (b.mQ i j c hc (by rw[<- z];exact ha))
 refine⟨by simp[b.len],λj y' d2 e2=>?_,λj d2 e2=>?_,λj ok e2=>?_,λj a h=>?_,λj k2 a h1 h2=>?_,λj=>?_,⟨λa oa z n=>?_,λa xs z=>k.tup a xs (b.kp.tup a xs z)⟩,λa z=>?_,λj y' d2 e2=>by
  by_cases aF:i=j
  ·subst aF;obtain⟨e',hl⟩:=bD e2;cases e'
  ·rw[bw aF]at e2;rw[bF aF];obtain⟨u,h1,h2,h3⟩:=b.shl j y' d2 e2;exact⟨u,h1,h2.map (λa ha oa ea=>k.out a oa ea (NT j aF a ha)) (λ_ _ r=>ah.aV (sub _) (r.keep (k.mono λa z=>by rw[z];cases y' <;> first|exact .inl wc|exact .inl (.inl wc)))),h3⟩⟩
 ·by_cases aF:i=j
  ·subst aF;obtain⟨e',hl⟩:=bD e2;cases e'
  ·rw[bw aF]at e2;obtain⟨u,h1,h2⟩:=b.val j y' d2 e2;exact⟨u,h1,(h2.keep (k.mono λa z=>by rw[z];cases y' <;> first|exact .inl wc|exact .inl (.inl wc))).aV (sub _)⟩
 ·by_cases aF:i=j
  ·subst aF;obtain⟨e',hl⟩:=bD e2;cases e';rw[os_eq];exact⟨v,hσ,r,λa ha=>(hA a ha).elim (h0 a) λz=>z.1⟩
  ·rw[bw aF]at e2;rw[bF aF];obtain⟨u,h1,h2,h3⟩:=b.ow j d2 e2;exact⟨u,h1,h2.keep k.tup (λa ha oa ea=>k.out a oa ea (NT j aF a ha)),h3⟩
 ·by_cases aF:i=j
  ·subst aF;obtain⟨e',hl⟩:=bD e2;cases e'
  ·rw[bw aF]at e2;rw[bF aF];obtain⟨a,ns,h1,h2,h3,h4,h5⟩:=b.nC j ok e2;exact⟨a,ns,h1,k.out a _ h2 (NT j aF a (by rw[h4];simp)),h3,h4,h5⟩
 ·rcases mem h with⟨_,h⟩|⟨aF,h⟩
  ·exact⟨(r.nc a h).1,(r.nc a h).2,.inl ((hA a h).elim (h0 a) λz=>z.1),Ri a h⟩
  ·obtain⟨q1,q2,q3,q4⟩:=b.dm j a h;rw[ar (NT j aF a h)];exact⟨q1,q2,q3,λz=>q4 (hU a z)⟩
 ·rcases mem h1 with⟨e1,h1⟩|⟨n1,h1⟩
  ·rcases mem h2 with⟨e2,h2⟩|⟨n2,h2⟩
   ·rw[<- e1,<- e2]
   ·rcases hA a h1 with z|z
    ·exact absurd (b.mQ i k2 a z h2) n2
    ·exact absurd ⟨k2,h2⟩ z.2.1
  ·rcases mem h2 with⟨e2,h2⟩|⟨n2,h2⟩
   ·rcases hA a h2 with z|z
    ·exact absurd (b.mQ i j a z h1) n1
    ·exact absurd ⟨j,h1⟩ z.2.1
   ·exact b.mQ j k2 a h1 h2
 ·by_cases aF:i=j
  ·rw[<- aF,os_eq];exact nd
  ·rw[bF aF];exact b.m9 j
 ·refine k.out a oa (b.kp.out a oa z n) λq=>?_;subst q;rw[h0 a hc]at z;cases z
 ·by_cases Th:a=c
  ·rw[Th,aw];exact λz=>(nomatch z)
  ·rw[ar Th];exact b.iu a z
theorem bY.putIn {P:WI}{w:W6}{U:Addr->Prop}{d d':D}{v:V}{A':List Addr}{c:Addr}{o:HO}(b:bY P w (C.u U) σ H β own)(e:β[i]?=some (some (.own d)))(hσ:σ[i]?=some (some v))(hc:c∈own i)
  (r:Own P w (upd H c o) d' v A') (nd:A'.Nodup) (hA:∀a∈A',a∈own i\/(C.H0 a=none/\¬ Wn own a/\U a)):bY P w C.z σ (upd H c o) (β.set i (some (.own d'))) (aR own i A') :=
 b.K5 (U2:=λ_=>False) e hσ hc r nd hA (λ_ z=>z.elim) λ_ _ z=>z
theorem pR {A':List Addr}{c:Addr}{o:HO}{U:Addr->Prop}(n:Sn Z H (Wn own))(m:∀a,U a->Z.1 a=none)(hc:Wn own c)(Ja:∃oc,H c=some oc/\∀xs,oc≠.tup xs)(hA:∀a∈A',a∈own i\/(C.H0 a=none/\¬ Wn own a/\U a)):Sn Z (upd H c o) (Wn (aR own i A')):=by
 obtain⟨oc,h1,h2⟩:=Ja;have u:=Sn.upd (o':=o) n h1 h2 hc;exact⟨λb IZ=>by
  obtain⟨j,hj⟩:=IZ
  by_cases aF:i=j
  ·rw[<- aF,os_eq]at hj;rcases hA b hj with z|z
   ·exact n.w b ⟨i,z⟩
   ·exact .inr (m b z.2.2)
  ·rw[bF aF]at hj;exact n.w b ⟨j,hj⟩,u.k,u.d⟩
theorem bY.sv {P:WI}{w:W6}{ds:List D}(b:bY P w C σ H β own)(e:β[i]?=some (some (.own (.lst ds)))):∃a vs A',σ[i]?=some (some (.ref a))/\H a=some (.lst vs)/\own i=a::A'/\aI P w H ds vs A':=by
 obtain⟨v,h1,⟨a,vs,A',rfl,h2,h3,h4⟩,_⟩:=b.ow i _ e;exact⟨a,vs,A',h1,h2,h3,h4⟩
variable {px ap cp:Pos}
theorem cM (he:∀U,PQ X (C.u U) p e φ)(hN:X.N[i]?=some x:=by rfl)(hv:xm X.env.scope x:=by first|exact .inl rfl|exact .inr (.inl rfl)|exact .inr (.inr rfl))(hd:(x==("__debug__" : Str))=false:=by decide)(ir:(x==("__classdict__" : Str))=false:=by decide)
  (dO:Y8 (.Name x px) "append" X.env (eval (.Name x px) X.env)=eval (.Name x px) X.env:=by rfl)
  (my:((YM cp (WZ [e] X.env)).all (λx=>!x.1)&&(backToKw cp (Z5 [] X.env)).all (λx=>x.1.isSome)&&decide ([e].length+([]:List ZH).length+(if ([]:List ZH).isEmpty then 0 else 1)<30))=true:=by rfl)
  (dN:(ap.endLine==cp.line)=true:=by rfl) (hs:WZ [e] X.env=(false,eval e X.env)::WZ [] X.env:=by rfl) (dJ:(YM cp (WZ [] X.env)).any (·.1)=false:=by rfl)
  (wQ:Zl (.Call (.Attribute (.Name x px) "append" ap) [e] [] cp) none pos.line X.env=pure false:=by rfl) :
  PB X C (.Expr (.Call (.Attribute (.Name x px) "append" ap) [e] [] cp) pos) (λE β=>(∃ds,β[i]?=some (some (.own (.lst ds))))/\φ β λd k β'=>Ew k d/\∃ds,β'[i]?=some (some (.own (.lst ds)))/\ds.length<W7/\E.nx (β'.set i (some (.own (.lst (ds++[d])))))):=by
 refine⟨λE E' β l By=>by obtain⟨h1,q⟩:=By;exact⟨h1,(he λ_=>False).mono _ _ _ (λd k β' Bx=>by obtain⟨f,ds,h1,h2,q⟩:=Bx;exact⟨f,ds,h1,h2,l.nx _ q⟩) q⟩,λpins s σ H D I ⟨Z,E,β,⟨own,sq,n⟩,⟨⟨VE,hb⟩,q⟩,ok⟩=>?_⟩
 refine pX (pos:=pos) (wy (apos:=ap) (cpos:=cp) PySem.F.plainAttrs_list PySem.F.slot_list_append PySem.F.type_list_append jz (dG (pos:=px) hN hv hd ir) (bf (he λa=>H a=none).pe cN hs) dO my dN hs dJ) wQ pins s σ H D I ?_;obtain⟨a,vs,A',h1,h2,h3,h4⟩:=sq.sv hb;refine⟨.ref a,h1,.inl ⟨rfl,vs,c0.of h2⟩,tQ.of (he λa=>H a=none) (sq.qV (C:=C.z) (U:=λa=>H a=none) λa z=>z) q λd k β' v H1 aE ⟨f,ds,kL,hl,q⟩ o r=>?_⟩;obtain⟨a',vs',A1,g1,g2,g3,g4⟩:=o.sq.sv kL;rw[h1]at g1;cases g1;obtain⟨A,r1,r2,r3⟩:=r.fl f;have ha:a∈aE i:=by rw[g3];simp
 have nd:(a::(A1++A)).Nodup:=by
  have q:=o.sq.m9 i;rw[g3]at q;refine Xg.mpr ⟨λz=>?_,XF.mpr ⟨(Xg.mp q).2,r2,λx hx y hy e=>?_⟩⟩
  ·rcases W4.mp z with z|z
   ·exact(Xg.mp q).1 z
   ·exact(r3 a z).2.1 ⟨i,ha⟩
  ·subst e;exact(r3 x hy).2.1 ⟨i,by rw[g3];simp[hx]⟩
 have hA:∀b∈a::(A1++A),b∈aE i\/(C.H0 b=none/\¬ Wn aE b/\H b=none):=λb hb=>by
  rcases WG.mp hb with rfl|hb
  ·exact .inl ha
  ·rcases W4.mp hb with hb|hb
   ·exact .inl (by rw[g3];simp[hb])
   ·exact .inr ⟨(r3 b hb).2.2,(r3 b hb).2.1,(r3 b hb).1⟩
 have kt:∀b xs,H1 b=some (.tup xs)->upd H1 a (.lst (vs'++[v])) b=some (.tup xs):=λb xs z=>by
  rw[ar (λz'=>by rw[z',g2]at z;cases z)];exact z
 have ne1:∀c∈A1,c≠a:=λc hc z=>by
  have q:=o.sq.m9 i;rw[g3]at q;exact(Xg.mp q).1 (by rw[<- z];exact hc)
 have ne2:∀c∈A,c≠a:=λc hc z=>(r3 c hc).2.1 ⟨i,by rw[z];exact ha⟩
 have r':Own X.prog X.w (upd H1 a (.lst (vs'++[v]))) (.lst (ds++[d])) (.ref a) (a::(A1++A)) :=
  ⟨a,vs'++[v],A1++A,rfl,aw,rfl,(g4.keep kt λc hc oc ec=>by rw[ar (ne1 c hc)];exact ec).append (aI.one (r1.keep kt λc hc oc ec=>by rw[ar (ne2 c hc)];exact ec))⟩
 exact⟨a,vs',v,rfl,rfl,g2,by rw[g4.length];exact hl,ok.nx _ _ _ ⟨_,o.sq.putIn kL h1 ha r' nd hA,pR (n.trans o.sn) (λb z=>n.free z) ⟨i,ha⟩ ⟨_,g2,λxs z=>by cases z⟩ hA⟩ q⟩
end
abbrev df:=D->Kd->a7->(a7->Prop)->Prop
abbrev pI:=List D->Kd->a7->(a7->Prop)->Prop
structure xp (X:Cx)(C:Cfg)(tg:Expr)(T:List Nat)(γ:df):Prop where
 mono:∀d k β R R',(∀r,R r->R' r)->γ d k β R->γ d k β R'
 pg:PG X tg λv σ H Q=>∃own β d k,SQ X C σ H β own/\Rp X (fZ C (Wn own) k) H d v/\γ d k β λβ'=>∀σ' aP,SQ X C σ' H β' aP->(∀a,Wn aP a->Wn own a)->(∀j,j∉T->σ'[j]?=σ[j]?)->Q σ' H
structure Fz (X:Cx)(C:Cfg)(xv:List Expr)(T:List Nat)(γ:pI):Prop where
 mono:∀d k β R R',(∀r,R r->R' r)->γ d k β R->γ d k β R'
 Ss:GC X xv λvs σ H Q=>∃own β ds k,SQ X C σ H β own/\ji X (fZ C (Wn own) k) H ds vs/\γ ds k β λβ'=>∀σ' aP,SQ X C σ' H β' aP->(∀a,Wn aP a->Wn own a)->(∀j,j∉T->σ'[j]?=σ[j]?)->Q σ' H
section
variable {X:Cx}{C:Cfg}{tg:Expr}{xv:List Expr}{γ:df}{γs:pI}{T T':List Nat}{pos:Pos}{e:Expr}{φ:aQ}{p:Bool}
def Vu (i:Nat):df:=λd k β R=>F0 d k λb=>R (β.set i (some b))
theorem ak {i:Nat}{x:Str}(hN:X.N.Nodup)(hi:X.N[i]?=some x:=by rfl)(hx:Loc X.env.scope x:=by first|exact .inl rfl|exact .inr rfl)
  (hf:X.fn x=true\/X.env.scope.names.lookup x=some .local:=by first|exact .inl rfl|exact .inr rfl|assumption):xp X C (.Name x pos) [i] (Vu i) :=
 ⟨λd k β R R' h q=>F0.mono (d:=d) (k:=k) (K:=λb=>R (β.set i (some b))) (K':=λb=>R' (β.set i (some b))) (λ_=>h _) q,(DI hN hi hx hf).pre λv σ H Q vj=>by
  obtain⟨own,β,d,k,s,r,q⟩:=vj;have NP:∀(v:V) (j:Nat),j∉[i]->(σ.set i (some v))[j]?=σ[j]?:=λv j hj=>bw (X6 (by simpa using hj))
  cases k with
  |own=>exact q _ _ (s.fI (y:=true) r) (λa h=>eY h) (NP v)
  |eW=>exact q _ _ (s.fI (y:=true) r) (λa h=>eY h) (NP v)
  |old=>exact q _ _ (s.fI (y:=false) r) (λa h=>eY h) (NP v)
  |bor=>exact q.2 _ _ (s.fI (y:=true) (az.flat q.1 r)) (λa h=>eY h) (NP v)⟩
abbrev sk (k:Kd):D->Kd
 |.int _=>.own
 |.bl _=>.own
 |.bU=>.own
 |.str _=>.own
 |_=>k.wk
theorem pT {P:WI}{w:W6}{W:Addr->Prop}{H:Hp}{k:Kd}{d:D}{v:V}(r:az P w (fZ C W k) H d v):az P w (fZ C W (sk k d)) H d v:=by
 cases d with
 |int i=>exact az.flat rfl r
 |bl i=>exact az.flat rfl r
 |bU=>exact az.flat rfl r
 |str i=>exact az.flat rfl r
 |_=>exact az.aV (λa z=>z.imp (Cw a) id) r
def Jq:pI:=λds _ β R=>ds=[]/\R β
def BL (γ:df)(γs:pI):pI:=λds k β R=>∃d r,ds=d::r/\γ d (sk k d) β λβ'=>γs r k β' R
theorem bK:Fz X C [] [] Jq:=⟨λd k β R R' h q=>⟨q.1,h _ q.2⟩,DH.pre λvs σ H Q vh=>by
 obtain⟨own,β,ds,k,s,r,e,q⟩:=vh;subst e;exact⟨r,q σ own s (λ_ z=>z) λ_ _=>rfl⟩⟩
theorem aG (h1:xp X C tg T γ)(h2:Fz X C xv T' γs)(hs:(YS (tg::xv) X.env).map (·.2)=assign tg X.env::(YS xv X.env).map (·.2):=by rfl):Fz X C (tg::xv) (T++T') (BL γ γs) :=
 ⟨λds k β R R' h Bw=>by obtain⟨d,r,e,q⟩:=Bw;exact⟨d,r,e,h1.mono _ _ β _ _ (λβ' q=>h2.mono r k β' _ _ h q) q⟩,
  (Aw h1.pg h2.Ss hs).pre λvs σ H Q IP=>by
    obtain⟨own,β,ds,k,s,rr,d,r,e,q⟩:=IP;subst e;obtain⟨v,vr,rfl,rv,Ui⟩:=rr;exact⟨v,vr,rfl,own,β,d,_,s,pT rv,h1.mono _ _ β _ _ (λβ' q σ' aP s' w' t'=>⟨aP,β',r,k,s',ah.aV (jg w' k) Ui,h2.mono r k β' _ _ (λβ2 q2 σ2 aX s2 w2 t2=>q2 σ2 aX s2 (λa z=>w' a (w2 a z)) λj hj=>(t2 j λz=>hj (Xm _ z)).trans (t' j λz=>hj (X1 _ z))) q⟩) q⟩⟩
def Vt (n:Nat)(γs:pI):df:=λd k β R=>∃ds,d=.tup ds/\ds.length=n/\γs ds k β R
theorem cg {k:Nat}{n:Nat}(hc:X.calm=true)(h:Fz X C xv T γs)(hn:(YS xv X.env).length=n:=by rfl)(L4:(YS xv X.env).findIdx? (·.1)=none:=by rfl):xp X C (.Tuple xv k pos) T (Vt n γs) :=
 ⟨λd k β R R' hh IM=>by obtain⟨ds,e,l,q⟩:=IM;exact⟨ds,e,l,h.mono ds k β _ _ hh q⟩,(Hz hc h.Ss hn L4).pre λv σ H Q IL=>by
  obtain⟨own,β,d,k,s,r,ds,e,l,q⟩:=IL;subst e;obtain⟨a,vs,rfl,ha,rs⟩:=r;exact⟨a,vs,rfl,t9.of ha,by rw[rs.length];exact l,own,β,ds,k,s,rs,q⟩⟩
theorem iF {Z:Hp×(Addr->Prop)}{H:Hp}{own aP:Nat->List Addr}(n:Sn Z H (Wn own))(h:∀a,Wn aP a->Wn own a):Sn Z H (Wn aP):=⟨λb z=>n.w b (h b z),n.k,n.d⟩
theorem qc (he:PQ X C.z p e φ)(hg:xp X C.z tg T γ)(hs:swapsWithSole [tg] e pos.line X.env=pure false:=by rfl)(hw:swappedStores [tg] e X.env=pure none:=by rfl)
  (h1:(YS [tg] X.env).map (·.2)=[assign tg X.env]:=by rfl):PB X C (.Assign [tg] e pos) (λE β=>φ β λd k β'=>γ d k β' E.nx) :=
 ⟨λE E' β l q=>he.mono _ _ _ (λd k β' q=>hg.mono _ _ _ _ _ l.nx q) q,(pY he.pe hg.pg hs hw h1).pre λD σ H ⟨Z,E,β,⟨own,s,n⟩,q,ok⟩=>tQ.of he s q λd k β' v H' aP q o r =>
  ⟨aP,β',d,k,o.sq,az.aV (λa z=>z.elim id λz=>z.elim) r.rep,hg.mono _ _ _ _ _ (λβ2 q σ2 aX s2 w2 _=>ok.nx _ _ _ ⟨aX,s2,iF (n.trans o.sn) w2⟩ q) q⟩⟩
abbrev SS (ro:Bool)(k:Kd)(d:D):Prop:=match k,ro with
 |.own,_=>True
 |.eW,false=>True
 |_,_=>d.flat=true
theorem eQ {P:WI}{w:W6}{W:Addr->Prop}{ro:Bool}{H H':Hp}{d:D}{v:V}(f:d.flat=true)(r:az P w W H' d v):ud P w ro H H' d v:=by
 cases ro with
 |true=>exact⟨[],cX f r,XR,λc hc=>(nomatch hc)⟩
 |false=>exact az.flat f r
theorem Ee {P:WI}{w:W6}{Z:Hp×(Addr->Prop)}{own:Nat->List Addr}{ro:Bool}{H':Hp}{k:Kd}{d:D}{v:V}(f:SS ro k d)(r:KV P w C Z own H' k d v):ud P w ro C.H0 H' d v:=by
 cases k with
 |own =>
  cases ro with
  |true=>obtain⟨A,h1,h2,h3⟩:=r;exact⟨A,h1,h2,λc hc=>(h3 c hc).2.2⟩
  |false=>exact az.aV (λa z=>.inr z) r.rep
 |eW =>
  cases ro with
  |true=>exact eQ f r.rep
  |false=>exact az.aV (λa z=>.inr z) r.rep
 |old=>cases ro <;> exact eQ f r.rep
 |bor=>cases ro <;> exact eQ f r.rep
theorem aY (he:PQ X C.z p e φ):PB X C (.Return (some e) pos) (λE β=>φ β λd k β'=>SS C.ro k d/\E.rt d β') :=
 ⟨λE E' β l q=>he.mono _ _ _ (λd k β' q=>⟨q.1,l.rt _ _ q.2⟩) q,(jw he.pe).pre λD σ H L7=>by obtain⟨Z,E,β,⟨own,s,n⟩,q,ok⟩:=L7;exact tQ.of he s q λd k β' v H' aP q o r=>ok.rt _ _ _ _ _ (o.sb n) (Ee (C:=C.z) q.1 r) q.2⟩
theorem kT {i:Nat}{x:Str}{px:Pos}(hN:X.N[i]?=some x:=by rfl)(hv:xm X.env.scope x:=by first|exact .inl rfl|exact .inr (.inl rfl)|exact .inr (.inr rfl))(hd:(x==("__debug__" : Str))=false:=by decide)(ir:(x==("__classdict__" : Str))=false:=by decide):
  PB X C (.Return (some (.Name x px)) pos) (λE β=>∃d,β[i]?=some (some (.own d))/\E.rt d β) :=
 ⟨λE E' β l vi=>by obtain⟨d,h1,q⟩:=vi;exact⟨d,h1,l.rt _ _ q⟩,(jw (dG (pos:=px) hN hv hd ir)).pre λD σ H BA=>by
  obtain⟨Z,E,β,⟨own,s,n⟩,⟨d,h1,q⟩,ok⟩:=BA;obtain⟨v,e1,r,h0⟩:=s.ow i d h1;refine⟨_,e1,ok.rt _ _ _ _ _ ⟨own,s,n⟩ ?_ q⟩;cases hr:C.ro with
  |true=>exact⟨_,r,s.m9 i,h0⟩
  |false=>exact r.rep λc hc z=>z (h0 c hc)⟩
end
abbrev cH:=a7->(List D->Kd->a7->Prop)->Prop
structure xn (X:Cx)(C:Cfg)(p:Bool)(tg iter:Expr)(ι:cH):Prop where
 mono:∀β R R',(∀d k β,R d k β->R' d k β)->ι β R->ι β R'
 pi:PI X tg iter λσ H R=>∃β own,SQ X C σ H β own/\ι β λds k β'=>∀J H' aP,Out X C σ H own p β' H' aP->yT X (av C (Wn aP) k) J ds H'->R J H'
section
variable {X:Cx}{C:Cfg}{tg e a b:Expr}{φ:aQ}{φs:cG}{p:Bool}{pp pos:Pos}
def P2 (φ:aQ):cH:=λβ R=>φ β λd k β'=>∃ds,d=.lst ds/\R ds k β'
theorem a_ (h:PQ X C p e φ):xn X C p tg e (P2 φ) :=
 ⟨λβ R R' k q=>h.mono β _ _ (λd kd β' I9=>by obtain⟨ds,e,q⟩:=I9;exact⟨ds,e,k _ _ _ q⟩) q,(wt h.pe).pre λσ H R ⟨β,own,s,q⟩=>tQ.of h s q λd k β' v H1 aE Bz o1 r1=>by
  obtain⟨ds,e,q1⟩:=Bz;subst e;obtain⟨a,vs,rfl,h1,n1,q2⟩:=r1.rep;exact⟨a,rfl,⟨vs,c0.of h1⟩,q1 _ _ aE o1 (sH h1 n1 q2)⟩⟩
def EC (φs:cG):cH:=λβ R=>φs β λds _ β'=>∃j:Int,ds=[.int j]/\-(2 ^ 62)<=j/\j<2 ^ 62/\R (pV 0 j.toNat) .eW β'
def wO (φs:cG):cH:=λβ R=>φs β λds _ β'=>∃i j:Int,ds=[.int i,.int j]/\(-(2 ^ 62)<=i/\i<2 ^ 62/\-(2 ^ 62)<=j/\j<2 ^ 62)/\R (pV i (j-i).toNat) .eW β'
theorem bg (hm:X.mg "range" = none) (ha:uq X C p [a] φs) (hg:Gl X "range" := by rfl) (hs:WZ [a] X.env=[(false,eval a X.env)]:=by rfl):xn X C p tg (.Call (.Name "range" pp) [a] [] pos) (EC φs) :=
 ⟨λβ R R' k q=>ha.mono β _ _ (λd kd β' IY=>by obtain⟨j,e,h1,h2,q⟩:=IY;exact⟨j,e,h1,h2,k _ _ _ q⟩) q,(xW hg hm ha.pa hs).pre λσ H R ⟨β,own,s,q⟩=>vO.of ha s q λds ks β' vs H1 aE IW o1 r1=>by
  obtain⟨j,e,h1,h2,q1⟩:=IW;subst e;obtain⟨x,rfl,hx⟩:=jh r1.jt;cases hx;exact⟨j,rfl,h1,h2,q1 _ _ aE o1 jE⟩⟩
theorem g9 (hm:X.mg "range" = none) (ha:uq X C p [a,b] φs) (hg:Gl X "range" := by rfl) (hs:WZ [a,b] X.env=[(false,eval a X.env),(false,eval b X.env)]:=by rfl) (uh:WZ [b] X.env=[(false,eval b X.env)]:=by rfl) :
  xn X C p tg (.Call (.Name "range" pp) [a,b] [] pos) (wO φs) :=
 ⟨λβ R R' k q=>ha.mono β _ _ (λd kd β' IV=>by obtain⟨i,j,e,h1,q⟩:=IV;exact⟨i,j,e,h1,k _ _ _ q⟩) q,(oh hg hm ha.pa hs uh).pre λσ H R ⟨β,own,s,q⟩=>vO.of ha s q λds ks β' vs H1 aE QC o1 r1=>by
  obtain⟨i,j,e,h1,q1⟩:=QC;subst e;obtain⟨x,y,rfl,hx,hy⟩:=pF r1.jt;cases hx;cases hy;exact⟨i,j,rfl,h1,q1 _ _ aE o1 jE⟩⟩
end
def EV (γ:df)(ψ:JQ)(E:fB)(ds:List D)(k:Kd)(β:a7):Prop:=∃I:Nat->a7->Prop,I 0 β/\(∀i d β,ds[i]?=some d->I i β->γ d (sk k d) β λβ1=>ψ (E.lp (I (i+1))) β1)/\∀β,I ds.length β->E.nx β
section
variable {X:Cx}{C:Cfg}{tg iter:Expr}{γ:df}{T:List Nat}{ψ:JQ}{ι:cH}{body:List Stmt}{pos:Pos}{p:Bool}
theorem EV.mono {E E':fB}{ds:List D}{k:Kd}{β:a7}(hγ:∀d k β R R',(∀r,R r->R' r)->γ d k β R->γ d k β R')(hψ:∀E E' β,Le E E'->ψ E β->ψ E' β)(l:Le E E'):EV γ ψ E ds k β->EV γ ψ E' ds k β:=λ⟨I,h0,h1,h2⟩ =>
 ⟨I,h0,λi d β e q=>hγ d _ β _ _ (λβ1 q=>hψ {nx:=I (i+1),rt:=E.rt,bk:=E.nx,ct:=I (i+1)} {nx:=I (i+1),rt:=E'.rt,bk:=E'.nx,ct:=I (i+1)} β1 ⟨λ_ q=>q,l.rt,l.nx,λ_ q=>q⟩ q) (h1 i d β e q),λβ q=>l.nx _ (h2 β q)⟩
theorem Fs {own aX:Nat->List Addr}{H H2:Hp}{k:Kd}(n:Sn (H,Wn own) H2 (Wn aX)):∀b,av C (Wn aX) k b->av C (Wn own) k b\/H b=none:=λb z=>by
 cases k with
 |own=>exact z.elim (λz=>(n.w b z).imp .inl id) λz=>.inl (.inr z)
 |eW=>exact z.elim (λz=>(n.w b z).imp .inl id) λz=>.inl (.inr z)
 |old=>exact n.w b z
 |bor=>exact z.elim
theorem b9 (hp:PassesOwn (model X.prog X.w) X.A X.env X.xe)(hc:X.calm=true)(hi:xn X C.z p tg iter ι)(hg:xp X C.z tg T γ)(hb:xo X C body ψ)(hs:∀x,XI iter X.env x=pure x:=by intro _;rfl):
  PB X C (.For tg iter body [] pos) (λE β=>ι β λds k β1=>hold k false/\EV γ ψ E ds k β1) :=
 ⟨λE E' β l q=>hi.mono _ _ _ (λds k β1 q=>⟨q.1,q.2.mono hg.mono hb.mono l⟩) q,(Ai hp hc hi.pi hg.pg hb.ps hs).pre λD σ H QA=>by
  obtain⟨Z,E,β,⟨own,s,n⟩,q,ok⟩:=QA;refine⟨β,own,s,hi.mono _ _ _ (λds k β1 ⟨hk,I,i0,i1,i2⟩ J H1 aE o1 it=>?_) q⟩;have n':=n.trans o1.sn;have ig:∀b,Wn aE b\/H1 b=none->av C.z (Wn aE) k b\/H1 b=none:=λb z=>by
   cases k with
   |own=>exact z.imp .inl id
   |eW=>exact z.imp .inl id
   |old=>exact z
   |bor=>exact hk.elim
  have J2:=it (λb=>av C.z (Wn aE) k b\/H1 b=none) λb z=>z;refine⟨λi m σ H=>i<=ds.length/\m=ds.length-i/\∃β,SB X C (H1,Wn aE) σ H β/\I i β,⟨_,WV _,rfl,β1,⟨aE,o1.sq,Sn.refl⟩,i0⟩,?_⟩;rintro i m σ2 H2 ⟨hi,rfl,β2,⟨aX,s2,n2⟩,hl⟩;obtain⟨cy,qt⟩:=J2 i H2 (n2.k.mono ig)
  by_cases eV:i<ds.length
  ·right
   have hd:ds[i]?=some ds[i]:=WR eV;obtain⟨go,yl⟩:=cy _ hd;refine⟨go,λσ' H'=>∃β,SB X C (H1,Wn aE) σ' H' β/\I (i+1) β,λσ' H' IT=>by obtain⟨β',Ds,vm⟩:=IT;exact⟨_,by lia,eV,rfl,β',Ds,vm⟩,λx H3 y=>?_⟩
   obtain⟨s3,r3⟩:=yl x H3 y;refine⟨aX,β2,_,_,s2.same s3,pT (C:=C.z) (az.aV (λb z=>Fs (C:=C) n2 b (z.elim id λz=>z.elim)) r3),hg.mono _ _ _ _ _ (λβ4 q σ4 rS s4 w4 _=>?_) (i1 i _ β2 hd hl)⟩;refine⟨(H1,Wn aE),_,β4,⟨rS,s4,iF (n2.same s3) w4⟩,q,⟨λσ5 H5 β5 xN q5=>⟨β5,xN,q5⟩,λσ5 H5 β5 d5 v5 xN r5 q5=>?_,λσ5 H5 β5 xN q5=>?_,λσ5 H5 β5 xN q5=>⟨β5,xN,q5⟩⟩⟩
   ·obtain⟨nv,s5,n5⟩:=xN;exact ok.rt _ _ _ _ _ ⟨nv,s5,n'.trans n5⟩ r5 q5
   ·obtain⟨nv,s5,n5⟩:=xN;exact ok.nx _ _ _ ⟨nv,s5,n'.trans n5⟩ q5
  ·left
   have e:i=ds.length:=by lia
   subst e;exact⟨qt (WD _),ok.nx _ _ _ ⟨aX,s2,n'.trans n2⟩ (i2 β2 hl)⟩⟩
end
def startB (N:List Str)(ds:List D):a7:=ds.map (λd=>some (.val false d))++Xs (N.length-ds.length) none
def jr (N:List Str)(ok:List Int->Prop)(ds:List D):a7:=some (.hand ok)::(ds.map (λd=>some (.val false d))++Xs (N.length-(ds.length+1)) none)
section
variable {P:WI}{w:W6}{K:PySem.W.Frag}{mg:Str->Option WC}{base:Heap}
theorem fK {i n:Nat}{b:B}(h:(Xs n (none:Option B))[i]?=some (some b)):False:=by
 rw[List.getElem?_replicate]at h
 split at h <;> cases h
theorem eN {ds:List D}{n i:Nat}{b:B}(h:(ds.map (λd=>some (B.val false d))++Xs n none)[i]?=some (some b)):∃d,ds[i]?=some d/\b=.val false d:=by
 by_cases hi:i<ds.length
 ·rw[Yi (by simpa using hi),WU]at h
  cases q:ds[i]? with
  |none=>rw[q]at h;cases h
  |some d=>rw[q]at h;cases h;exact⟨d,rfl,rfl⟩
 ·rw[XX (by simpa using hi)]at h
  exact(fK h).elim
theorem jq {N:List Str}{vs:List V}{i:Nat}{v:V}(h:vs[i]?=some v):(start N vs)[i]?=some (some v):=by
 unfold start;rw[Yi (by simpa using (W3.mp h).1),WU,h]
 rfl
theorem zL {N:List Str}{vs:List V}{ds:List D}{H:Hp}{ro:Bool}(r:ah P w (λ_=>False) H ds vs):bY P w ⟨H,λ_=>False,ro,λ_=>False⟩ (start N vs) H (startB N ds) (λ_=>[]):=by
 refine⟨?_,λi y d h=>?_,λi d h=>?_,λi ok h=>?_,λi a h=>(nomatch h),λi j a h=>(nomatch h),λi=>XR,Kp.refl,λ_ z=>z,λi y d h=>by obtain⟨d',e,e'⟩:=eN h;cases e'⟩
 ·unfold startB start;simp[r.length]
 ·obtain⟨d',e,e'⟩:=eN h;cases e';obtain⟨v,e1,e2⟩:=ah.get r e;exact⟨v,jq e1,az.aV (λa z=>z.elim (λQv=>by obtain⟨_,q⟩:=Qv;exact(nomatch q)) λz=>z) e2⟩
 ·obtain⟨d',e,e'⟩:=eN h;cases e'
 ·obtain⟨d',e,e'⟩:=eN h;cases e'
theorem qQ {x qual:Str}{st:Stmt}{f:Addr}{fd:Xx}{N ps:List Str}{k:Nat}{F:FD}{ro:Bool}(G:CW K x qual st f fd)(S:aK N ps (ay st))(len:∀ds R,F ds R->ds.length=ps.length)
  (mB:∀(cJ:WC) (A:XA) (outer:List Env) (s:WE) (H:Hp) (E:XK),cQ k (A.deeper (envOfC qual (ay st) s.heap.objs.size f cJ)) ->
   ∃ψ,xo (nM bZ P w K mg base N qual (ay st) f cJ A outer s H E).FR ⟨H,λ_=>False,ro,λ_=>False⟩ (eD st) ψ/\∀ds R,F ds R->ψ {nx:=λ_=>R .bU,rt:=λd _=>R d} (startB N ds)) :
  aM P w K mg base bZ (k+1) f fd ps (dX P w ro F):=by
 refine G.ok S (λvs H Q E h=>?_) (λcJ A outer s H vs Q E hr h=>?_)
 ·obtain⟨ds,r,h⟩:=h;rw[r.length];exact len ds _ h
 ·obtain⟨ds,r,h⟩:=h;obtain⟨ψ,hb,hF⟩:=mB cJ A outer s H E hr;refine⟨_,hb.ps,(H,Wn λ_=>[]),_,startB N ds,⟨λ_=>[],zL r,Sn.refl⟩,hF ds _ h,λσ H' β sb q=>?_,λσ H' β d v sb rr q=>?_,λ_ _ _ _ z=>z.elim,λ_ _ _ _ z=>z.elim⟩
  ·obtain⟨own,s',n'⟩:=sb;exact q _ H' (λb o e=>s'.kp.out b o e (λz=>z)) (eQ (W:=λ_=>False) rfl rfl)
  ·obtain⟨own,s',n'⟩:=sb;exact q _ H' (λb o e=>s'.kp.out b o e (λz=>z)) rr
theorem xE {N:List Str}{ok:List Int->Prop}{h:Addr}{ns:List Int}{vs:List V}{ds:List D}{H:Hp}{ro:Bool}(hh:H h=some (.lst (ns.map V.int)))(ho:ok ns)(r:ah P w (λa=>a=h) H ds vs):
  bY P w ⟨H,(·=h),ro,λ_=>False⟩ (start N (.ref h::vs)) H (jr N ok ds) (λi=>if i=0 then [h] else []):=by
 have DQ:∀{i:Nat} {a:Addr},a∈(if i=0 then [h] else ([]:List Addr))->i=0/\a=h:=λ{i a} q=>by
  by_cases e:i=0
  ·rw[if_pos e]at q;exact⟨e,by simpa using q⟩
  ·rw[if_neg e]at q;cases q
 have ES:∀{i:Nat} {b:B},(jr N ok ds)[i]?=some (some b)->(i=0/\b=.hand ok)\/∃j d,i=j+1/\ds[j]?=some d/\b=.val false d:=λ{i b} q=>by
  unfold jr at q;cases i with
  |zero=>simp at q;exact .inl ⟨rfl,q.symm⟩
  |succ i =>
   rw[Zw]at q;obtain⟨d,e,e'⟩:=eN q;exact .inr ⟨i,d,rfl,e,e'⟩
 refine⟨?_,λi y d q=>?_,λi d q=>?_,λi yY q=>?_,λi a q=>?_,λi j a h1 h2=>?_,λi=>?_,Kp.refl,λ_ z=>z,λi y d q=>(ES q).elim (λMJ=> by obtain⟨_,e⟩ := MJ;cases e) (λMI=> by obtain⟨j,d',_,_,e'⟩ := MI;cases e')⟩
 ·unfold jr start;simp[r.length]
 ·rcases ES q with⟨_,e⟩|⟨j,d',rfl,e,e'⟩
  ·cases e
  ·cases e';obtain⟨v,e1,e2⟩:=ah.get r e;exact⟨v,jq (by simpa using e1),az.aV (λa z=>z.elim (λIQ=>by obtain⟨j,q⟩:=IQ;exact(DQ q).2) λz=>z.elim) e2⟩
 ·rcases ES q with⟨_,e⟩|⟨j,d',_,_,e'⟩
  ·cases e
  ·cases e'
 ·rcases ES q with⟨e0,e⟩|⟨j,d',_,_,e'⟩
  ·cases e;subst e0;exact⟨h,ns,jq rfl,hh,ho,rfl,.inr rfl⟩
  ·cases e'
 ·obtain⟨_,rfl⟩:=DQ q;exact⟨by rw[hh];exact λz=>(nomatch z),λxs z=>(by rw[hh]at z;cases z),.inr rfl,λz=>z⟩
 ·rw[(DQ h1).1,(DQ h2).1]
 ·by_cases e:i=0
  ·simp[e]
  ·simp[e]
theorem HX {x qual:Str}{st:Stmt}{f:Addr}{fd:Xx}{N ps:List Str}{k:Nat}{F:FD}{ok:List Int->Prop}{ro:Bool}(G:CW K x qual st f fd)(S:aK N ps (ay st))(len:∀ds R,F ds R->ds.length+1=ps.length)
  (mB:∀(cJ:WC) (A:XA) (outer:List Env) (s:WE) (H:Hp) (E:XK) (IO:Addr->Prop),cQ k (A.deeper (envOfC qual (ay st) s.heap.objs.size f cJ)) ->
   ∃ψ,xo (nM bZ P w K mg base N qual (ay st) f cJ A outer s H E).FR ⟨H,IO,ro,λ_=>False⟩ (eD st) ψ/\∀ds R,F ds R->ψ {nx:=λ_=>False,rt:=λd β=>β[0]?=some (some (.hand ok))/\R d} (jr N ok ds)) :
  aM P w K mg base bZ (k+1) f fd ps (kB P w ok ro F):=by
 refine G.ok S (λvs H Q E h=>?_) (λcJ A outer s H vs Q E hr h=>?_)
 ·obtain⟨h,vs',ds,ns,rfl,hh,ho,r,q⟩:=h;rw[WS,r.length];exact len ds _ q
 ·obtain⟨h,vs',ds,ns,rfl,hh,ho,r,q⟩:=h;obtain⟨ψ,hb,hF⟩:=mB cJ A outer s H E (·=h) hr;refine⟨_,hb.ps,(H,_),_,jr N ok ds,⟨_,xE hh ho r,Sn.refl⟩,hF ds _ q,λσ H' β sb z=>z.elim,λσ H' β d v sb rr ⟨b0,q⟩=>?_,λ_ _ _ _ z=>z.elim,λ_ _ _ _ z=>z.elim⟩;obtain⟨own,s',n'⟩:=sb;obtain⟨a,ou,g1,g2,g3,g4,g5⟩:=s'.nC 0 ok b0;have ea:a=h:=g5.elim (λz=>(z h rfl).elim) λz=>z;subst ea;exact q v H' ou s'.kp s'.iu g2 g3 rr
end
end L2.Q
namespace L2
open PySem PySem.Spec PySem.SeqAt PyProof.Rows
theorem ub.pre {X:Cx}{ifs:List Expr}{t t':TT}(h:ub X ifs t)(k:∀σ H Q,t' σ H Q->t σ H Q):ub X ifs t':=λpins s σ H Q I q=>h pins s σ H Q I (k σ H Q q)
section
end
section
end
section
variable {X:Cx}{e:Expr}{g:Zs}{gs:List Zs}{scope:Zv}{N':List Str}{lk:List (Option Nat)}{tg:Addr->TG}{tt:Addr->TT}{wi:TI}
theorem kq {eI:Sem WC}{o:HO}{after:WC->Env->Sem Fin->Sem Fin}{ta:Addr->m6}(L:Links X scope N' lk)(hc:X.calm=true)(hA:m8 X eI o)
  (F:∀acc env,gU e 0 g acc env (after acc env))
  (EJ:∀a cl C s H ex,PG (aB X scope N' cl C s H ex) g.target (tg a)/\ub (aB X scope N' cl C s H ex) g.ifs (tt a)/\qO (aB X scope N' cl C s H ex) (after (.ref a) (aB X scope N' cl C s H ex).env) (ta a))
  {cl:List (Str×Addr)} (nE:∀x,(x,XH)∈scope.names->∃c,cl.lookup x=some c) (nD:∀x c,cl.lookup x=some c->X.env.cells.lookup x=some c)
  {pins:List (Addr×Obj)} {σ:St} {s:WE} {Q:V->Hp->Prop} {F1:WC} {E:WC->WE->Prop} {RR:WC->Addr->Result->WE->Prop}
  (h:Kn X pins σ g.target (λJ H1=>∀a,H1 a=none->fH J (tg a) (tt a) (ta a) (λ_ H'=>Q (.ref a) H') (dZ lk σ) (upd H1 a o)) F1 s)
  (hR:∀a H' C s',Inv X pins σ H' s'->f6 X pins H' C->(∃m,s'.heap.Ns C m)->Q (.ref a) H'->RR (.ref a) C (.ok .next) s') :
  Xb (model X.prog X.w) X.A eI (λacc s₃=>Xb (model X.prog X.w) X.A (newFunctionEnv scope X.env.globals cl [] X.env.qual none .none (some X.env)) (λNh s₄ =>
   Z6 (model X.prog X.w) X.A (.compStart e 0 F1 acc {Nh with scope:=relabel scope X.env}) (RR acc Nh.locals) s₄) E s₃) E s:=by
 obtain⟨it,fp,tn,J,H2,e1,I2,T,fy,f2,hl⟩:=h;subst e1;refine hA.ok pins s σ H2 _ E I2 λa s3 ha hn hk I3=>?_;refine wpAny_newFunctionEnv L.uZ (by intro y hy;simp at hy) (λh₁ Jc IK=>?_) L.kind
 have QI:∀b∈fp,∃o,s3.heap.get? b=some o:=λb hb=>by
  obtain⟨ob,q,_⟩:=T.obj _ _ fy b hb;exact⟨ob,hk b ob q⟩
 have Q_:∀b∈fp,b≠a:=λb hb=>by
  obtain⟨ob,q,_⟩:=T.obj _ _ fy b hb;exact Xk (Xn (W5 q) ha)
 have f3:∀b∈fp,f6 X pins (upd H2 a o) b:=λb hb=>⟨by rw[ar (Q_ b hb)];exact(f2 b hb).1,(f2 b hb).2⟩
 have yv:∀b ob,s3.heap.get? b=some ob->h₁.get? b=some ob:=λb ob q=>IK.extBut b ob (Xk (W5 q)) (WH _ q);have N4:h₁.Ns s3.heap.objs.size (λ_=>none):=Jc;have I4:=Bq (t':=s3.toks+([]:List (Str×WC)).length) I3 L f3 QI nE nD N4 yv;obtain⟨g1,g2,g3⟩:=EJ a cl s3.heap.objs.size s3 (upd H2 a o) fp;have f4:∀b∈fp,f6 (aB X scope N' cl s3.heap.objs.size s3 (upd H2 a o) fp) [] (upd H2 a o) b:=λb hb =>
  ⟨(f3 b hb).1,(I4.ok.Oi b hb).1,I4.ok.BW b hb,.inl hb,(I4.ok.Oi b hb).2,λp hp=>absurd (show p∈([]:List (Addr×Obj)) from hp) (by simp)⟩
 have KI:tn 0 h₁:=T.keep 0 _ _ fy λb hb ob q=>yv b ob (hk b ob q);refine ZA (mU (X:=aB X scope N' cl s3.heap.objs.size s3 (upd H2 a o) fp) rfl hc (F (.ref a) _) g1 g2 g3 T I4 KI f4 (hl a hn)) λr s' hr=>?_;obtain⟨rfl,σ',H',J',q⟩:=hr;have I5:Inv X pins σ H' s':=Br (C:=s3.heap.objs.size) (h'':=s'.heap) I3 f3 J' (.refl ..);refine hR a H' s3.heap.objs.size s' I5 (I3.BO (WD _) J'.free) ?_ q;obtain⟨m,hm,_⟩:=J'.loc;exact⟨m,hm⟩
theorem iL {eI:Sem WC}{o:HO}{after:WC->Env->Sem Fin->Sem Fin}{ta:Addr->m6}{pos:Pos}(L:Links X scope N' lk)(hc:X.calm=true)(hA:m8 X eI o)
  (Jk:eval e X.env=comprehension e scope X.env pos eI false (eval g.iter X.env)) (EM:clausesOf e=g::gs)
  (F:∀acc env,gU e 0 g acc env (after acc env)) (hi:PI X g.target g.iter wi)
  (EJ:∀a cl C s H ex,PG (aB X scope N' cl C s H ex) g.target (tg a)/\ub (aB X scope N' cl C s H ex) g.ifs (tt a)/\qO (aB X scope N' cl C s H ex) (after (.ref a) (aB X scope N' cl C s H ex).env) (ta a))
  (hs:∀x,XI g.iter X.env x=pure x) :
  PE X e (λσ H Q=>wi σ H λJ H1=>∀a,H1 a=none->fH J (tg a) (tt a) (ta a) (λ_ H'=>Q (.ref a) H') (dZ lk σ) (upd H1 a o)):=by
 intro pins s σ H Q I h;rw[Jk];obtain⟨cl,BI,nE,nD⟩:=gS (env:=X.env) (scope:=scope) λx hx=>I.ok.has x (L.free x hx);refine wpAny_comprehension_free (use:=none) EM hs BI L.kind L.names (bJ (hi pins s σ H _ I h) λv s1 h1=>bJ h1 λF1 s2 h2=>?_);refine kq (RR:=λacc C=>compPost (model X.prog X.w) X.A X.xe none (EP X pins σ Q) acc C) L hc hA F EJ nE nD h2 λa H' C s' I' f ⟨m,hm⟩ q=>?_;exact⟨m,hm,λh' yt=>⟨.ref a,H',I'.sameBut f yt,rfl,q⟩⟩
theorem Aj {eI:Sem WC}{o:HO}{after:WC->Env->Sem Fin->Sem Fin}{ta:Addr->m6}{pos pos' rh:Pos}{y:Str}{i:Nat}(L:Links X scope N' lk)(hc:X.calm=true)(hA:m8 X eI o)
  (wQ:Zl e (some (.Name y pos')) rh.line X.env=pure true)
  (Jk:evalThenUse e X.env (assign (.Name y pos') X.env)=(do let _ <- comprehension e scope X.env pos eI false (eval g.iter X.env) (some (assign (.Name y pos') X.env));pure ())) (EM:clausesOf e=g::gs)
  (hN:X.N.Nodup) (hy:X.N[i]?=some y) (hx:Loc X.env.scope y) (hf:X.fn y=true\/X.env.scope.names.lookup y=some .local)
  (F:∀acc env,gU e 0 g acc env (after acc env)) (hi:PI X g.target g.iter wi)
  (EJ:∀a cl C s H ex,PG (aB X scope N' cl C s H ex) g.target (tg a)/\ub (aB X scope N' cl C s H ex) g.ifs (tt a)/\qO (aB X scope N' cl C s H ex) (after (.ref a) (aB X scope N' cl C s H ex).env) (ta a))
  (hs:∀x,XI g.iter X.env x=pure x) :
  PS X (.Assign [.Name y pos'] e rh) (λD σ H=>wi σ H λJ H1=>∀a,H1 a=none->fH J (tg a) (tt a) (ta a) (λ_ H'=>D.nx (σ.set i (some (.ref a))) H') (dZ lk σ) (upd H1 a o)):=by
 intro pins s σ H D I h;rw[exec_Assign_Name_used _ _ _ _ wQ,Jk];refine WA (Y6 (WA (WA ?_)));obtain⟨cl,BI,nE,nD⟩:=gS (env:=X.env) (scope:=scope) λx hx=>I.ok.has x (L.free x hx);refine bJ (wpAny_comprehension_free (use:=some (assign (.Name y pos') X.env)) (Q:=λ_ s'=>SP X pins D .next s') EM hs BI L.kind L.names (bJ (hi pins s σ H _ I h) λv s1 h1=>bJ h1 λF1 s2 h2=>?_)) λ_ s' q=>WJ (WJ q)
 refine kq (Q:=λv H'=>D.nx (σ.set i (some v)) H') (RR:=λacc C=>compPost (model X.prog X.w) X.A X.xe (some (assign (.Name y pos') X.env)) (λ_ s'=>SP X pins D .next s') acc C) L hc hA F EJ nE nD h2 λa H' C s' I' f ⟨m,hm⟩ q=>?_
 show Xb _ _ (assign (.Name y pos') X.env (.ref a)) _ _ s';have Wv:∃o,s'.heap.get? C=some o:=by obtain⟨o,_,_,ho,_⟩:=hm;exact⟨o,ho⟩
 refine wpAny_assign_Name (nX I' hN hy hx (v:=.ref a) (u:=.ref a) rfl (λs4 I4 k4=>?_) hf);obtain⟨a4,Uh,Ti⟩:=k4;have mx:C≠a4:=by
  rcases Ti with z|z
  ·rw[z];exact f.2.1
  ·exact(f.2.2.2.2.1 y a4 z).symm
 exact⟨m,hm.at' (λo e=>(Uh.2 C mx).trans e),λh' yt=>⟨_,H',I4.sameBut f yt,q⟩⟩
end
end L2
namespace L2.Q
open PySem PySem.Spec PySem.SeqAt PyProof.Rows
def SU:Option B->Option B
 |some (.own d)=>some (.val false d)
 |some (.shl _ d)=>some (.val false d)
 |b=>b
def cE (lk:List (Option Nat))(β:a7):a7:=lk.map λl=>match l with|some j=>(match β[j]? with|some b=>SU b|none=>none)|none=>none
def NZ:Option (Option B)->Bool
 |some (some (.hand _))=>true
 |_=>false
def bu (lk:List (Option Nat))(β:a7)(own:Nat->List Addr)(i:Nat):List Addr:=match lk[i]? with
 |some (some j)=>if NZ β[j]?=true then own j else []
 |_=>[]
def eS:a7->a7->Prop
 |[],_=>True
 |some (.hand ok)::a,c=>c.head?=some (some (.hand ok))/\eS a c.tail
 |_::a,c=>eS a c.tail
theorem eS.get:∀{a c:a7} {i:Nat} {ok:List Int->Prop},eS a c->a[i]?=some (some (.hand ok))->c[i]?=some (some (.hand ok))
 |[],_,_,_,_,e=>by simp at e
 |x::a,c,0,ok,h,e=>by
  simp at e;subst e;rw[<- List.head?_eq_getElem?];exact h.1
 |x::a,c,i+1,ok,h,e=>by
  have h':eS a c.tail:=by
   cases x with
   |none=>exact h
   |some x=>cases x <;> first|exact h|exact h.2
  have:=eS.get (i:=i) h' (by simpa using e)
  rwa [List.getElem?_tail]at this
section
variable {P:WI}{w:W6}{C:Cfg}{σ σ':St}{H H' H1:Hp}{β βi:a7}{own iO:Nat->List Addr}{lk:List (Option Nat)}{a:Addr}
theorem b6 {i:Nat}{c:Addr}(h:c∈bu lk β own i):∃j,lk[i]?=some (some j)/\NZ β[j]?=true/\c∈own j:=by
 unfold bu at h
 split at h
 ·next j e =>
  by_cases q:NZ β[j]?=true
  ·rw[if_pos q]at h;exact⟨j,e,q,h⟩
  ·rw[if_neg q]at h;cases h
 ·cases h
theorem bq:∀c,Wn (bu lk β own) c->Wn own c:=λc ⟨i,h⟩=>let ⟨j,_,_,h⟩:=b6 h;⟨j,h⟩
theorem fR {i j:Nat}{v:V}(h:lk[i]?=some (some j))(e:σ[j]?=some (some v)):(dZ lk σ)[i]?=some (some v):=by
 unfold dZ;rw[WU,h];simp only[Option.map_some];rw[e]
theorem gC {i:Nat}{b:B}(h:(cE lk β)[i]?=some (some b)):∃j b',lk[i]?=some (some j)/\β[j]?=some (some b')/\SU (some b')=some b:=by
 unfold cE at h;rw[WU]at h;cases q:lk[i]? with
 |none=>rw[q]at h;cases h
 |some l =>
  rw[q]at h;cases l with
  |none=>cases h
  |some j =>
   simp only[Option.map_some]at h;cases q2:β[j]? with
   |none=>rw[q2]at h;cases h
   |some b2 =>
    rw[q2]at h;simp only[Option.some.injEq]at h;cases b2 with
    |none=>cases h
    |some b'=>exact⟨j,b',rfl,q2,h⟩
theorem bY.enter (s:bY P w C σ H β own)(ha:H a=none)(inj:∀(i i' j:Nat),lk[i]?=some (some j)->lk[i']?=some (some j)->i=i'):
  bY P w (C.u λc=>c=a) (dZ lk σ) (upd H a (.lst [])) (cE lk β) (bu lk β own):=by
 have sm:au H (upd H a (.lst [])):=au.new ha;have na:∀{i c},c∈own i->c≠a:=λ{i c} hc z=>(s.dm i c hc).1 (by rw[z];exact ha)
 have gr:∀k,∀c,fZ (C.u λc=>c=a) (Wn (bu lk β own)) k c->fZ C (Wn own) k c\/H c=none:=λk c z=>by
  rcases z with z|z
  ·exact .inl (.inl (k8 bq k c z))
  ·exact .inr (by rw[z];exact ha)
 refine⟨by unfold cE dZ;simp,λi y d e=>?_,λi d e=>?_,λi ok e=>?_,λi c h=>?_,λi i' c h1 h2=>?_,λi=>?_,s.kp.trans sm.kp,λc z e=>s.iu c z (sm.free e),λi y d e=>by
  obtain⟨j,b',e1,e2,e3⟩:=gC e;cases b' <;> cases e3⟩
 ·obtain⟨j,b',e1,e2,e3⟩:=gC e;cases b' with
  |val y' d' =>
   cases e3;obtain⟨v,h1,h2⟩:=s.val j y d e2;exact⟨v,fR e1 h1,(az.grow (gr _) h2).same sm⟩
  |own d' =>
   cases e3;obtain⟨v,h1,h2,h3⟩:=s.ow j d e2;refine⟨v,fR e1 h1,az.same sm (h2.rep λc hc z=>?_)⟩;rcases z with z|z
   ·obtain⟨i',fF⟩:=z;obtain⟨j',q1,q2,q3⟩:=b6 fF;have:=s.mQ j j' c hc q3;subst this;rw[e2]at q2;cases q2
   ·exact na hc z
  |hand ok=>cases e3
  |shl y' d' =>
   cases e3;obtain⟨v,h1,h2,h3⟩:=s.shl j y' d e2;refine⟨v,fR e1 h1,az.same sm (h2.rep (λc hc z=>?_) λds vs r=>ah.grow (λc z=>?_) r)⟩
   ·rcases z with z|z
    ·obtain⟨i',fF⟩:=z;obtain⟨j',q1,q2,q3⟩:=b6 fF;have:=s.mQ j j' c hc q3;subst this;rw[e2]at q2;cases q2
    ·exact na hc z
   ·rcases gr _ c z with z|z
    ·refine .inl ?_;rcases z with z|z
     ·cases y' with
      |true=>exact .inl (.inl z)
      |false=>exact .inl z
     ·exact .inr z
    ·exact .inr z
 ·obtain⟨j,b',e1,e2,e3⟩:=gC e;cases b' <;> cases e3
 ·obtain⟨j,b',e1,e2,e3⟩:=gC e;cases b' with
  |val y' d'=>cases e3
  |own d'=>cases e3
  |shl y d=>cases e3
  |hand yY =>
   cases e3;obtain⟨h,ns,h1,h2,h3,h4,h5⟩:=s.nC j ok e2;refine⟨h,ns,fR e1 h1,sm _ _ h2,h3,?_,h5⟩;unfold bu;rw[e1];simp only;rw[e2];exact(if_pos rfl).trans h4
 ·obtain⟨j,q1,q2,q3⟩:=b6 h;obtain⟨g1,g2,g3,g4⟩:=s.dm j c q3;rw[ar (na q3)];exact⟨g1,g2,g3,na q3⟩
 ·obtain⟨j,q1,q2,q3⟩:=b6 h1;obtain⟨j',Sm,We,Us⟩:=b6 h2;have:=s.mQ j j' c q3 Us;subst this;exact inj _ _ _ q1 Sm
 ·unfold bu
  split
  ·next j e =>
   split
   ·exact s.m9 j
   ·exact XR
  ·exact XR
theorem bY.Hg {o:HO}(s:bY P w (C.u λc=>c=a) σ H β own){oa:HO}(ha:H a=some oa)(ht:∀xs,oa≠.tup xs)(h0:C.H0 a=none):bY P w (C.u λc=>c=a) σ (upd H a o) β own:=by
 have k:Kp (·=a) H (upd H a o):=mh ha ht;have na:∀{i c},c∈own i->c≠a:=λ{i c} hc=>(s.dm i c hc).2.2.2;refine⟨s.len,λi y d e=>let ⟨v,h1,h2⟩:=s.val i y d e;⟨v,h1,h2.keep (k.mono λc z=>.inr z)⟩,λi d e=>let ⟨v,h1,h2,h3⟩:=s.ow i d e;⟨v,h1,h2.keep k.tup (λc hc oc ec=>k.out c oc ec (na hc)),h3⟩,
  λi ok e=>?_,λi c h=>?_,s.mQ,s.m9,⟨λc oc z n=>k.out c oc (s.kp.out c oc z n) λq=>?_,λc xs z=>k.tup c xs (s.kp.tup c xs z)⟩,λc z=>?_,λi y d e=>let ⟨v,h1,h2,h3⟩:=s.shl i y d e;⟨v,h1,h2.map (λc hc oc ec=>k.out c oc ec (na hc)) (λ_ _ r=>r.keep (k.mono λc z=>.inr z)),h3⟩⟩
 ·obtain⟨h,ns,h1,h2,h3,h4,h5⟩:=s.nC i ok e;exact⟨h,ns,h1,k.out h _ h2 (na (by rw[h4];simp)),h3,h4,h5⟩
 ·rw[ar (na h)];exact s.dm i c h
 ·rw[q,h0]at z;cases z
 ·by_cases q:c=a
  ·rw[q,aw];exact λz=>(nomatch z)
  ·rw[ar q];exact s.iu c z
theorem bY.leave (s:bY P w C σ H1 β own)(i:bY P w (C.u λc=>c=a) σ' H' βi iO)(n:Sn (H1,Wn (bu lk β own)) H' (Wn iO))(le:∀c,Wn iO c->Wn (bu lk β own) c)
  (hh:eS (cE lk β) βi) (hσ:∀(j:Nat) (ok:List Int->Prop) (i:Nat),β[j]?=some (some (B.hand ok))->lk[i]?=some (some j)->σ'[i]?=(dZ lk σ)[i]?):bY P w C σ H' β own:=by
 have off:∀{j c},c∈own j->¬ Wn (bu lk β own) c->∀o,H1 c=some o->H' c=some o:=λ{j c} hc nw o e=>n.k.out c o e λz=>z.elim nw λz=>(s.dm j c hc).1 z;have L6:∀{j c},c∈own j->NZ β[j]?=false->¬ Wn (bu lk β own) c:=λ{j c} hc q vh=>by
  obtain⟨i',fF⟩:=vh;obtain⟨j',q1,q2,q3⟩:=b6 fF;have:=s.mQ j j' c hc q3;subst this;rw[q]at q2;cases q2
 have hN:∀(j:Nat) (ok:List Int->Prop),β[j]?=some (some (B.hand ok))->∃a ns,σ[j]?=some (some (V.ref a))/\H' a=some (.lst (ns.map V.int))/\ok ns/\own j=[a]/\((∀b,¬ C.IO b)\/C.IO a):=λj ok e=>by
  obtain⟨h,ns,h1,h2,h3,h4,h5⟩:=s.nC j ok e
  by_cases q:Wn (bu lk β own) h
  ·obtain⟨i',fF⟩:=q;obtain⟨j',q1,q2,q3⟩:=b6 fF;have:=s.mQ j j' h (by rw[h4];simp) q3
   subst this;have eB:(cE lk β)[i']?=some (some (.hand ok)):=by
    unfold cE;rw[WU,q1];simp only[Option.map_some];rw[e];rfl
   obtain⟨h',ou,g1,g2,g3,g4,g5⟩:=i.nC i' ok (hh.get eB);rw[hσ j ok i' e q1,fR q1 h1]at g1;cases g1;exact⟨h,ou,h1,g2,g3,h4,h5⟩
  ·exact⟨h,ns,h1,off (by rw[h4];simp) q _ h2,h3,h4,h5⟩
 refine⟨s.len,λj y d e=>?_,λj d e=>?_,hN,λj c hc=>?_,s.mQ,s.m9,i.kp,i.iu,λj y d e=>by
  obtain⟨v,h1,h2,h3⟩:=s.shl j y d e;refine⟨v,h1,h2.map (λc hc o eo=>off hc (L6 hc (by rw[e];rfl)) o eo) (λds vs r=>?_),h3⟩
  have g:ah P w (λc=>fZ C (Wn own) (yk y) c\/H1 c=none) H1 ds vs:=ah.grow (λc z=>z) r;refine ah.aV (λc z=>.inl z) (g.keep (n.k.mono λc z=>z.imp (λz=>?_) id));cases y with
  |true=>exact .inl (.inl (bq c z))
  |false=>exact .inl (bq c z)⟩
 ·obtain⟨v,h1,h2⟩:=s.val j y d e;have g:az P w (λc=>fZ C (Wn own) (yk y) c\/H1 c=none) H1 d v:=az.grow (λc z=>z) h2;refine⟨v,h1,az.aV (λc z=>.inl z) (g.keep (n.k.mono λc z=>z.imp (λz=>?_) id))⟩;cases y with
  |true=>exact .inl (.inl (bq c z))
  |false=>exact .inl (bq c z)
 ·obtain⟨v,h1,h2,h3⟩:=s.ow j d e;exact⟨v,h1,h2.keep n.k.tup (λc hc o eo=>off hc (L6 hc (by rw[e];rfl)) o eo),h3⟩
 ·obtain⟨g1,g2,g3,g4⟩:=s.dm j c hc
  by_cases q:Wn (bu lk β own) c
  ·obtain⟨i',fF⟩:=q;obtain⟨j',q1,q2,q3⟩:=b6 fF;have:=s.mQ j j' c hc q3;subst this;cases e:β[j]? with
   |none=>rw[e]at q2;cases q2
   |some b =>
    rw[e]at q2;cases b with
    |none=>cases q2
    |some b =>
     cases b with
     |val y d=>cases q2
     |own d=>cases q2
     |shl y d=>cases q2
     |hand ok =>
      obtain⟨h,ns,k1,k2,k3,k4,k5⟩:=hN j ok e;rw[k4]at hc;rw[WN.mp hc]at g3 g4 ⊢
      rw[k2];exact⟨λz=>(nomatch z),λxs z=>(by cases z),g3,g4⟩
  ·cases e:H1 c with
   |none=>exact absurd e g1
   |some o=>rw[off hc q o e];exact⟨λz=>(nomatch z),λxs z=>g2 xs (by rw[e];exact z),g3,g4⟩
end
def Kr:bb:=λβ R=>R true β
theorem An {X:Cx}{C:Cfg}:ub X [] (jS X C true Kr):=DD.pre λσ H Q ⟨β,own,s,q⟩=>q H own (Out.refl s _)
theorem Am {X:Cx}{C:Cfg}{p:Bool}{c:Expr}{τ:bb}(h:yR X C p c τ):ub X [c] (jS X C p τ):=DC h.pt
def j6 (γ:df)(τ:bb)(φ:aQ)(ds:List D)(k:Kd)(β0:a7)(K:List D->Prop):Prop:=∃I:Nat->a7->List D->Prop,I 0 β0 [] /\
 (∀i d β o,ds[i]?=some d->I i β o->γ d (sk k d) β λβ1=>τ β1 λt β2=>if t=true then φ β2 λx kx β3=>Ew kx x/\o.length<W7/\I (i+1) β3 (o++[x]) else I (i+1) β2 o)/\∀β o,I ds.length β o->eS β0 β/\K o
theorem j6.mono {γ:df}{τ:bb}{φ:aQ}{ds:List D}{k:Kd}{β0:a7}{K K':List D->Prop}(h:∀o,K o->K' o)(q:j6 γ τ φ ds k β0 K):j6 γ τ φ ds k β0 K':=let ⟨I,h0,h1,h2⟩:=q;⟨I,h0,h1,λβ o z=>⟨(h2 β o z).1,h _ (h2 β o z).2⟩⟩
section
variable {X:Cx}{C:Cfg}{lk:List (Option Nat)}{γ:df}{τ:bb}{φ:aQ}{T:List Nat}{pc pe:Bool}
theorem jJ {σ:St}{H1:Hp}{β:a7}{own:Nat->List Addr}{a:Addr}{J:It}{ds:List D}{k:Kd}{K:List D->Prop}{End:Hp->Prop}
  (γm:∀d k β R R',(∀r,R r->R' r)->γ d k β R->γ d k β R') (τm:∀β R R',(∀d β,R d β->R' d β)->τ β R->τ β R') (φm:∀β R R',(∀d k β,R d k β->R' d k β)->φ β R->φ β R')
  (inj:∀(i i' j:Nat),lk[i]?=some (some j)->lk[i']?=some (some j)->i=i') (hT:∀i∈T,∀j,lk[i]?≠some (some j))
  (s1:SQ X C σ H1 β own) (ha:H1 a=none) {hp:Bool} (J4:hp=true->(pc&&pe)=true) (hk:hold k hp) (it:yT X (av C (Wn own) k) J ds H1) (q:j6 γ τ φ ds k (cE lk β) K)
  (fin:∀o H',K o->Out X C σ H1 own (pc&&pe) β H' own->KV X.prog X.w C (H1,Wn own) own H' .own (.lst o) (.ref a)->End H') :
  fH J (λv σ H Q=>∃own β d k,SQ X (C.u λc=>c=a) σ H β own/\Rp X (fZ (C.u λc=>c=a) (Wn own) k) H d v/\γ d k β λβ'=>∀σ' aP,SQ X (C.u λc=>c=a) σ' H β' aP->(∀a,Wn aP a->Wn own a)->(∀j,j∉T->σ'[j]?=σ[j]?)->Q σ' H)
   (jS X (C.u λc=>c=a) pc τ) (λN σ H=>tQ X (C.u λc=>c=a) pe φ σ H λv H1=>∃xs,H1 a=some (.lst xs)/\xs.length<W7/\N σ (upd H1 a (.lst (xs++[v]))))
   (λ_ H'=>End H') (dZ lk σ) (upd H1 a (.lst [])):=by
 obtain⟨I,i0,i1,i2⟩:=q;have h0:C.H0 a=none:=XG λz=>s1.iu a z ha;have sm:au H1 (upd H1 a (.lst [])):=au.new ha;have SK:∀c,Wn (bu lk β own) c->c≠a:=λc z e=>by
  obtain⟨j,hj⟩:=bq c z;exact(s1.dm j c hj).1 (by rw[e];exact ha)
 let S:Nat->St->Hp->Prop:=λi σ' H'=>∃βi iO vs o A,SQ X (C.u λc=>c=a) σ' H' βi iO/\Sn (H1,Wn (bu lk β own)) H' (Wn iO)/\(∀c,Wn iO c->Wn (bu lk β own) c)/\H' a=some (.lst vs)/\aI X.prog X.w H' o vs A/\A.Nodup/\(∀c∈A,H1 c=none/\c≠a) /\
  ((pc&&pe)=true->au H1 H')/\(∀j,j∉T->σ'[j]?=(dZ lk σ)[j]?)/\I i βi o
 have W':Addr->Prop:=λb=>av C (Wn own) k b\/H1 b=none;have J2:=it (λb=>av C (Wn own) k b\/H1 b=none) λb z=>z;have kI:∀{H':Hp} {iO:Nat->List Addr},Sn (H1,Wn (bu lk β own)) H' (Wn iO)->((pc&&pe)=true->au H1 H')->Kp (λb=>av C (Wn own) k b\/H1 b=none) H1 H':=λn pu=>by
  cases k with
  |own=>exact n.k.mono λb z=>z.imp (λz=>.inl (bq b z)) id
  |eW=>exact n.k.mono λb z=>z.imp (λz=>.inl (bq b z)) id
  |old=>exact n.k.mono λb z=>z.imp (bq b) id
  |bor =>
   cases hp with
   |false=>exact hk.elim
   |true=>exact(pu (J4 rfl)).kp.mono λb z=>.inr z
 refine⟨λi m σ' H'=>i<=ds.length/\m=ds.length-i/\S i σ' H',⟨_,WV _,rfl,cE lk β,bu lk β own,[],[],[],s1.enter ha inj,⟨λb z=>.inl z,sm.kp,λb z e=>z (sm.free e)⟩,λ_ z=>z,aw,⟨rfl,rfl⟩,XR,λc hc=>(nomatch hc),λ_=>sm,λ_ _=>rfl,i0⟩,?_⟩;rintro i m σ2 H2 ⟨hi,rfl,βi,iO,vs,o,A,sq,sn,le,Ra,os,nd,nw,pu,st,hl⟩;obtain⟨cy,qt⟩:=J2 i H2 (kI sn pu)
 by_cases eV:i<ds.length
 ·right
  have hd:ds[i]?=some ds[i]:=WR eV;obtain⟨go,yl⟩:=cy _ hd;refine⟨go,λσ' H'=>S (i+1) σ' H',λσ' H' h=>⟨_,by omega,eV,rfl,h⟩,λx H3 y=>?_⟩
  obtain⟨s3,r3⟩:=yl x H3 y;have VM:∀{iO:Nat->List Addr},(∀c,Wn iO c->Wn (bu lk β own) c)->∀c,fZ (C.u λc=>c=a) (Wn iO) k c->av C (Wn own) k c\/H1 c=none:=λle c z=>z.elim (λz=>.inl (k8 (λc z=>bq c (le c z)) k c z)) λz=>.inr (by rw[z];exact ha)
  refine⟨iO,βi,_,_,sq.same s3,pT (az.aV (VM le) r3),γm _ _ _ _ _ (λβ4 q σ4 rS s4 w4 t4=>?_) (i1 i _ βi o hd hl)⟩;have PL:∀c,Wn rS c->Wn (bu lk β own) c:=λc z=>le c (w4 c z);refine⟨β4,rS,s4,τm _ _ _ (λt β5 q H5 nv o5=>?_) q⟩;have NV:∀c,Wn nv c->Wn (bu lk β own) c:=λc z=>PL c (o5.le c z);have Bj:∀c,c∈a::A->∀oc,H2 c=some oc->H5 c=some oc:=λc hc oc e=>by
   refine o5.sn.k.out c oc (s3 c oc e) λz=>?_;rcases z with z|z
   ·rcases WG.mp hc with rfl|hc
    ·exact SK _ (PL _ z) rfl
    ·obtain⟨j,hj⟩:=bq c (PL c z);exact(s1.dm j c hj).1 (nw c hc).1
   ·exact absurd ((s3 c oc e).symm.trans z) (λz=>(nomatch z))
  have UL:∀b xs,H2 b=some (.tup xs)->H5 b=some (.tup xs):=λb xs e=>o5.sn.k.tup b xs (s3 b _ e);have Pw:aI X.prog X.w H5 o vs A:=os.keep UL λc hc oc e=>Bj c (by simp[hc]) oc e
  have OY:Sn (H1,Wn (bu lk β own)) H5 (Wn nv):=(iF (sn.same s3) w4).trans o5.sn;have So:(pc&&pe)=true->au H1 H5:=λz=>((pu z).trans s3).trans (o5.pu (Cz z)).1;have KI:∀j,j∉T->σ4[j]?=(dZ lk σ)[j]?:=λj hj=>(t4 j hj).trans (st j hj);cases t with
  |false=>exact⟨β5,nv,vs,o,A,o5.sq,OY,NV,Bj a (by simp) _ Ra,Pw,nd,nw,So,KI,q⟩
  |true =>
   refine⟨β5,nv,o5.sq,φm _ _ _ (λxd kx β6 ⟨f,hz,q⟩ v H6 DP o6 r6=>?_) q⟩;obtain⟨B',r1,r2,Pd⟩:=r6.fl f;have M0:H5 a=some (.lst vs):=Bj a (by simp) _ Ra
   have FY:∀c,c∈a::A->∀oc,H5 c=some oc->H6 c=some oc:=λc hc oc e=>by
    refine o6.sn.k.out c oc e λz=>?_;rcases z with z|z
    ·rcases WG.mp hc with rfl|hc
     ·exact SK _ (NV _ z) rfl
     ·obtain⟨j,hj⟩:=bq c (NV c z);exact(s1.dm j c hj).1 (nw c hc).1
    ·exact absurd (e.symm.trans z) (λz=>(nomatch z))
   have sR:H6 a=some (.lst vs):=FY a (by simp) _ M0
   have Sv:aI X.prog X.w H6 o vs A:=Pw.keep o6.sn.k.tup λc hc oc e=>FY c (by simp[hc]) oc e
   have UA:∀c∈A,c≠a:=λc hc=>(nw c hc).2;have Lp:∀c∈B',c≠a:=λc hc z=>by rw[z]at hc;exact absurd (M0.symm.trans (Pd a hc).1) (λz=>(nomatch z))
   have kt:∀b xs,H6 b=some (.tup xs)->upd H6 a (.lst (vs++[v])) b=some (.tup xs):=λb xs z=>by rw[ar (λz'=>by rw[z',sR]at z;cases z)];exact z
   refine⟨vs,sR,by rw[Sv.length];exact hz,β6,DP,vs++[v],o++[xd],A++B',o6.sq.Hg sR (λxs z=>by cases z) h0,?_,λc z=>NV c (o6.le c z),aw,?_,?_,λc hc=>?_,λz=>?_,KI,q⟩
   ·have m:=OY.trans o6.sn;refine⟨m.w,m.k.trans ((mh sR (λxs z=>by cases z)).mono λb z=>.inr (by rw[z];exact ha)),λb z e=>?_⟩
    by_cases hb:b=a
    ·rw[hb,aw]at e;cases e
    ·rw[ar hb]at e;exact m.d b z e
   ·exact(Sv.keep kt λc hc oc e=>by rw[ar (UA c hc)];exact e).append (aI.one (r1.keep kt λc hc oc e=>by rw[ar (Lp c hc)];exact e))
   ·refine XF.mpr ⟨nd,r2,λx hx y hy e=>?_⟩;subst e;have:=(Pd x hy).1;exact(Pw.nc x hx).1 this
   ·rcases W4.mp hc with hc|hc
    ·exact nw c hc
    ·exact⟨OY.free (Pd c hc).1,Lp c hc⟩
   ·refine λb ob e=>?_;rw[ar (λz'=>by rw[z',ha]at e;cases e)]
    exact(o6.pu (RI z)).1 b ob (So z b ob e)
 ·left
  have e:i=ds.length:=by omega
  subst e;obtain⟨hh,q⟩:=i2 βi o hl;have lv:SQ X C σ H2 β own:=s1.leave sq sn le hh λj ok i' e1 e2=>st i' λz=>hT i' z j e2;refine⟨qt (WD _),fin o H2 q ⟨lv,⟨λb z=>.inl z,sn.k.mono λb z=>z.imp (bq b) id,sn.d⟩,λz=>⟨pu z,rfl⟩,λ_ z=>z⟩ ⟨a::A,⟨a,vs,A,rfl,Ra,rfl,os⟩,Xg.mpr ⟨λz=>(nw a z).2 rfl,nd⟩,λc hc=>?_⟩⟩;have nE:H1 c=none:=by
   rcases WG.mp hc with rfl|hc
   ·exact ha
   ·exact(nw c hc).1
  exact⟨nE,λIM=>by obtain⟨j,hj⟩:=IM;exact(s1.dm j c hj).1 nE,XG λz=>s1.iu c z nE⟩
theorem cP {scope:Zv}{N':List Str}(L:Links X scope N' lk)(hN:N'.Nodup):∀(i i' j:Nat),lk[i]?=some (some j)->lk[i']?=some (some j)->i=i':=λi i' j h1 h2=>by
 obtain⟨x,a1,a2,_⟩:=L.link i j h1;obtain⟨y,b1,b2,_⟩:=L.link i' j h2;rw[a2]at b2;cases b2;exact(List.getElem?_inj (W3.mp a1).1 hN).mp (a1.trans b1.symm)
def v3 (lk:List (Option Nat))(ι:cH)(γ:df)(τ:bb)(φ:aQ):aQ:=λβ R=>ι β λds k β1=>hold k false/\j6 γ τ φ ds k (cE lk β1) λo=>R (.lst o) .own β1
variable {scope:Zv}{N':List Str}{tg cy elt:Expr}{ifs:List Expr}{ι:cH}{pi:Bool}{pos pos' rh:Pos}{y:Str}{i:Nat}
theorem K9 (L:Links X scope N' lk)(sS:N'.Nodup)(hT:T.all (λi=>match lk[i]? with|some (some _)=>false|_=>true)=true)(hc:X.calm=true)(hi:xn X C pi tg cy ι)
  (oQ:∀a cl c s H ex,xp (aB X scope N' cl c s H ex) (C.u λc=>c=a) tg T γ) (kZ:∀a cl c s H ex,ub (aB X scope N' cl c s H ex) ifs (jS (aB X scope N' cl c s H ex) (C.u λc=>c=a) pc τ)) (τm:∀β R R',(∀d β,R d β->R' d β)->τ β R->τ β R')
  (mz:∀a cl c s H ex,PQ (aB X scope N' cl c s H ex) (C.u λc=>c=a) pe elt φ) (γm:∀d k β R R',(∀r,R r->R' r)->γ d k β R->γ d k β R') (φm:∀β R R',(∀d k β,R d k β->R' d k β)->φ β R->φ β R')
  (hs:∀x,XI cy X.env x=pure x:=by intro _;rfl):PQ X C (pi&&(pc&&pe)) (.ListComp elt [⟨tg,cy,ifs,0⟩] scope pos) (v3 lk ι γ τ φ):=by
 have EO:∀i∈T,∀j,lk[i]?≠some (some j):=λi hi j e=>by
  have:=YW.mp hT i hi;rw[e]at this;cases this
 refine⟨λβ R R' k h=>hi.mono β _ _ (λds kd β1 q=>⟨q.1,q.2.mono λo z=>k _ _ _ z⟩) h,?_⟩;refine(iL (g:=⟨tg,cy,ifs,0⟩) (gs:=[]) (tg:=λa v σ H Q=>∃own β d k,SQ X (C.u λc=>c=a) σ H β own/\Rp X (fZ (C.u λc=>c=a) (Wn own) k) H d v/\γ d k β λβ'=>∀σ' aP,SQ X (C.u λc=>c=a) σ' H β' aP->(∀a,Wn aP a->Wn own a)->(∀j,j∉T->σ'[j]?=σ[j]?)->Q σ' H)
  (tt:=λa=>jS X (C.u λc=>c=a) pc τ) (ta:=λa N σ H=>tQ X (C.u λc=>c=a) pe φ σ H λv H1=>∃xs,H1 a=some (.lst xs)/\xs.length<W7/\N σ (upd H1 a (.lst (xs++[v]))))
  L hc iQ rfl rfl (λ_ _=>Cn) hi.pi (λa cl c s H ex=>⟨(oQ a cl c s H ex).pg,kZ a cl c s H ex,iN rfl (mz a cl c s H ex).pe⟩) hs).pre λσ H Q ⟨β,own,s,h⟩=>?_
 refine⟨β,own,s,hi.mono β _ _ (λds k β1 ⟨hk,q⟩ J H1 aE o1 it a ha=>?_) h⟩;exact jJ γm τm φm (cP L sS) EO o1.sq ha (hp:=false) (λz=>by cases z) hk it q λo H' q o2 r=>q _ _ aE (o1.trans o2) (r.later o1.sn)
theorem K6 {K:D->a7->fB->Prop}(L:Links X scope N' lk)(sS:N'.Nodup)(hT:T.all (λi=>match lk[i]? with|some (some _)=>false|_=>true)=true)(hc:X.calm=true)(hi:∀U,xn X (C.u U) pi tg cy ι)
  (oQ:∀U cl c s H ex,xp (aB X scope N' cl c s H ex) (C.u U) tg T γ) (kZ:∀U cl c s H ex,ub (aB X scope N' cl c s H ex) ifs (jS (aB X scope N' cl c s H ex) (C.u U) pc τ)) (τm:∀β R R',(∀d β,R d β->R' d β)->τ β R->τ β R')
  (mz:∀U cl c s H ex,PQ (aB X scope N' cl c s H ex) (C.u U) pe elt φ) (γm:∀d k β R R',(∀r,R r->R' r)->γ d k β R->γ d k β R') (φm:∀β R R',(∀d k β,R d k β->R' d k β)->φ β R->φ β R') (o:Bool)
  (hN:X.N.Nodup) (hy:X.N[i]?=some y:=by rfl) (hx:Loc X.env.scope y:=by first|exact .inl rfl|exact .inr rfl) (hf:X.fn y=true\/X.env.scope.names.lookup y=some .local:=by first|exact .inl rfl|exact .inr rfl|assumption)
  (wQ:Zl (.ListComp elt [⟨tg,cy,ifs,0⟩] scope pos) (some (.Name y pos')) rh.line X.env=pure true:=by rfl)
  (Jk:evalThenUse (.ListComp elt [⟨tg,cy,ifs,0⟩] scope pos) X.env (assign (.Name y pos') X.env)=(do let _ <- comprehension (.ListComp elt [⟨tg,cy,ifs,0⟩] scope pos) scope X.env (firstIterPos [⟨tg,cy,ifs,0⟩] pos) (newList []) false (eval cy X.env) (some (assign (.Name y pos') X.env));pure ()):=by first|rfl|exact arm_evalThenUse_ListComp ..)
  (hs:∀x,XI cy X.env x=pure x:=by intro _;rfl) :
  PB X C (.Assign [.Name y pos'] (.ListComp elt [⟨tg,cy,ifs,0⟩] scope pos) rh) (λE β=>v3 lk ι γ τ φ β λd _ β'=>E.nx (β'.set i (some (match o with|true=>.own d|false=>.val true d)))):=by
 have EO:∀i∈T,∀j,lk[i]?≠some (some j):=λi hi j e=>by
  have:=YW.mp hT i hi;rw[e]at this;cases this
 refine⟨λE E' β l h=>(hi λ_=>False).mono β _ _ (λds kd β1 q=>⟨q.1,q.2.mono λo z=>l.nx _ z⟩) h,λpins s σ H D I0 ⟨Z,E,β,⟨own,sq,n⟩,h,ok⟩=>?_⟩;refine Aj (g:=⟨tg,cy,ifs,0⟩) (gs:=[]) (tg:=λa v σ H Q=>∃own β d k,SQ X (C.u λc=>c=a) σ H β own/\Rp X (fZ (C.u λc=>c=a) (Wn own) k) H d v/\γ d k β λβ'=>∀σ' aP,SQ X (C.u λc=>c=a) σ' H β' aP->(∀a,Wn aP a->Wn own a)->(∀j,j∉T->σ'[j]?=σ[j]?)->Q σ' H)
  (tt:=λa=>jS X (C.u λc=>c=a) pc τ) (ta:=λa N σ H=>tQ X (C.u λc=>c=a) pe φ σ H λv H1=>∃xs,H1 a=some (.lst xs)/\xs.length<W7/\N σ (upd H1 a (.lst (xs++[v]))))
  L hc iQ wQ Jk rfl hN hy hx hf (λ_ _=>Cn) (hi λa=>H a=none).pi (λa cl c s H ex=>⟨(oQ _ cl c s H ex).pg,kZ _ cl c s H ex,iN rfl (mz _ cl c s H ex).pe⟩) hs pins s σ H D I0 ?_
 refine⟨β,own,sq.qV (C:=C.z) (U:=λa=>H a=none) λa z=>z,(hi λ_=>False).mono β _ _ (λds k β1 ⟨hk,q⟩ J H1 aE o1 it a ha=>?_) h⟩;refine jJ (C:=C.u λa=>H a=none) γm τm φm (cP L sS) EO o1.sq ha (hp:=false) (λz=>by cases z) hk it q λol H' q o2 r=>?_
 have r':=r.later o1.sn;have oo:=o1.trans o2;have m:=n.trans oo.sn;cases o with
 |false=>exact ok.nx _ _ _ ⟨_,(bY.Uy oo.sq).fI (az.aV (λa z=>z.elim id λz=>z.elim) (KV.rep r')),uM m⟩ q
 |true =>
  obtain⟨A,h1,h2,h3⟩:=r';refine ok.nx _ _ _ ⟨_,oo.sq.zX h1 h2 λc hc=>⟨(h3 c hc).2.2,(h3 c hc).2.1,(h3 c hc).1⟩,?_⟩ q;exact⟨λb vi=>by
   obtain⟨j,hj⟩:=vi
   by_cases aF:i=j
   ·rw[<- aF,os_eq]at hj;exact .inr (n.free (h3 b hj).1)
   ·rw[bF aF]at hj;exact m.w b ⟨j,hj⟩,m.k,m.d⟩
end
end L2.Q
namespace Zp
open PySem PySem.Spec PyProof.Rows
structure JV (prog:WI)(w:W6)(i l:Addr)(vs:List WC)(St:Nat->Heap->Prop)(Ct:Heap->Prop):Prop where
 obj:∀k h,St k h->∃o,h.get? i=some o/\∀v,o.data≠.cell v
 keep:∀k h h',St k h->(∀o,h.get? i=some o->h'.get? i=some o)->St k h'
 kept:∀h h',Ct h->(∀o,h.get? l=some o->h'.get? l=some o)->Ct h'
 item:∀(A:XA) (E:WC->WE->Prop) (s:WE) (k:Nat) (x:WC) (Q:WC->WE->Prop),St k s.heap->Ct s.heap->vs[k]?=some x ->
  (∀h',St (k+1) h'->Yw i s.heap h'->Q x {s with heap:=h'})->Xb (model prog w) A (XQ (.ref i)) Q E s
 done:∀(A:XA) (E:WC->WE->Prop) (s:WE) (k:Nat) (Q:WC->WE->Prop),A.handled=none->St k s.heap->Ct s.heap->vs[k]?=none ->
  (∀h' e,Heap.ExtBut i s.heap h'->(∃o,h'.get? e=some o/\o.cls=.type "StopIteration")->E (.ref e) {s with heap:=h'})->Xb (model prog w) A (XQ (.ref i)) Q E s
variable {prog:WI}{w:W6}
theorem B8 {i l:Addr}{vs:List WC}:JV prog w i l vs (λk h=>h.IsListIter i l k) (λh=>h.IsList l vs.toArray) where
 obj:=λk h ⟨o,a,_,d⟩=>⟨o,a,λv z=>by rw[d]at z;cases z⟩
 keep:=λk h h' a k1=>a.at k1
 kept:=λh h' b k2=>b.at k2
 item:=λA E s k x Q a b hx q=>wpAny_nextOf_list_item a b (by simpa using hx) λh' a' sb=>q h' a' sb
 done:=λA E s k Q hh a b hx q=>wpAny_nextOf_list_end hh a b (by simpa using hx) q
theorem AU {A:XA}{E:WC->WE->Prop}{s:WE}{i l:Addr}{k:Nat}{its:Array WC}{x:WC}{Q:WC->WE->Prop}(a:s.heap.IsTupleIter i l k)(b:s.heap.IsTuple l its)(hx:its[k]?=some x)
  (q:∀h',h'.IsTupleIter i l (k+1)->Yw i s.heap h'->Q x {s with heap:=h'}):Xb (model prog w) A (XQ (.ref i)) Q E s:=by
 have hT:=a.typeIs;obtain⟨oi,gi,ci,di⟩:=a;obtain⟨ol,gl,cl,nl,dl⟩:=b;unfold XQ;apply WA;apply YA (name:=ZQ "__next__") hT F.slot_tuple_iterator_next;apply Ye F.slot_tuple_iterator_next hT F.entry_tuple_iterator_next _ (F.args_tuple_iterator_next_1 _)
 change Xb (model prog w) _ (field (.ref i) 0 >>= _) _ _ s
 apply WA;apply YI gi di (x:=.ref l) rfl;rw[if_neg (by intro z;cases z)]
 change Xb (model prog w) _ (field (.ref i) 1 >>= _) _ _ s
 apply WA;apply YI gi di (x:=.int k 0) rfl
 change Xb (model prog w) _ (seqItems? (.ref l) >>= _) _ _ s
 apply WA;apply Yy gl dl;simp only[Zd,hx];apply WA;apply wpAny_setField gi di (by simp)
 refine WJ ⟨x,rfl,?_⟩;refine WJ (q _ ⟨_,Heap.get?_update_self _ gi (Obj.isFreed_of_fields (Obj.data_mapFields di _)),?_,?_⟩ (Zo ..))
 ·rw[Obj.cls_mapFields];exact ci
 ·rw[Obj.data_mapFields di];simp[rawInt]
theorem E2 {A:XA}{E:WC->WE->Prop}{s:WE}{i l:Addr}{k:Nat}{its:Array WC}{Q:WC->WE->Prop}(hh:A.handled=none)(a:s.heap.IsTupleIter i l k)(b:s.heap.IsTuple l its)(hx:its[k]?=none)
  (q:∀h' e,Heap.ExtBut i s.heap h'->(∃o,h'.get? e=some o/\o.cls=.type "StopIteration")->E (.ref e) {s with heap:=h'}):Xb (model prog w) A (XQ (.ref i)) Q E s:=by
 have hT:=a.typeIs;obtain⟨oi,gi,ci,di⟩:=a;obtain⟨ol,gl,cl,nl,dl⟩:=b;unfold XQ;apply WA;apply YA (name:=ZQ "__next__") hT F.slot_tuple_iterator_next;apply Ye F.slot_tuple_iterator_next hT F.entry_tuple_iterator_next _ (F.args_tuple_iterator_next_1 _)
 change Xb (model prog w) _ (field (.ref i) 0 >>= _) _ _ s
 apply WA;apply YI gi di (x:=.ref l) rfl;rw[if_neg (by intro z;cases z)]
 change Xb (model prog w) _ (field (.ref i) 1 >>= _) _ _ s
 apply WA;apply YI gi di (x:=.int k 0) rfl
 change Xb (model prog w) _ (seqItems? (.ref l) >>= _) _ _ s
 apply WA;apply Yy gl dl;simp only[Zd,hx];apply WA;apply YZ;apply WA;apply wpAny_setField gi di (by simp)
 change Xb (model prog w) _ (newExc (.type "StopIteration") [] >>= _) _ _ _
 apply WA;simp only[newExc,newTuple];apply WA;refine YN ?_ (by size_fits)
 apply WA (m:=firstArgMember _ _);apply wpAny_of_eq (a:=Value.none)
 ·first|rfl|(simp only[firstArgMember];rfl)
 refine YN ?_ (by size_fits);simp only[raiseNew]
 apply WA;apply wpAny_handled;have N_:A.in1.handled=none:=hh
 first|rw[N_]|rw[hh]
 refine WA (WJ (wpAny_throw (q _ _ (((Zo ..).extBut.push _).push _) ⟨_,Xc _ rfl,rfl⟩)))
theorem E4 {i l:Addr}{vs:List WC}:JV prog w i l vs (λk h=>h.IsTupleIter i l k) (λh=>h.IsTuple l vs.toArray) where
 obj:=λk h ⟨o,a,_,d⟩=>⟨o,a,λv z=>by rw[d]at z;cases z⟩
 keep:=λk h h' ⟨o,a1,a2⟩ k1=>⟨o,k1 o a1,a2⟩
 kept:=λh h' ⟨o',b1,b2⟩ k2=>⟨o',k2 o' b1,b2⟩
 item:=λA E s k x Q a b hx q=>AU a b (by simpa using hx) λh' a' sb=>q h' a' sb
 done:=λA E s k Q hh a b hx q=>E2 hh a b (by simpa using hx) q
structure Apart (z TI TO i1 i2 l1 l2:Addr):Prop where
 nd:[z,TI,TO,i1,i2].Nodup
 o1:∀c∈[z,TO,i1,i2],l1≠c
 o2:∀c∈[z,TO,i1,i2],l2≠c
section
variable {A:XA}{E:WC->WE->Prop}{s:WE}{z TI TO i1 i2 l1 l2:Addr}{vs us:List WC}{S1 S2:Nat->Heap->Prop}{C1 C2:Heap->Prop}
theorem zh (P:Apart z TI TO i1 i2 l1 l2)(D1:JV prog w i1 l1 vs S1 C1)(D2:JV prog w i2 l2 us S2 C2){k:Nat}{x y a b:WC}{Q:Option WC->WE->Prop}(hz:IsZip s.heap z TI TO .none)(Rc:Y_ s.heap TI (.ref i1) (.ref i2))(Rb:Y_ s.heap TO a b)
  (h1:S1 k s.heap) (h2:S2 k s.heap) (c1:C1 s.heap) (c2:C2 s.heap) (hx:vs[k]?=some x) (hy:us[k]?=some y)
  (q:∀h',IsZip h' z TI TO (rawInt s.heap.objs.size)->Y_ h' TO x y->S1 (k+1) h'->S2 (k+1) h'->Y_ h' s.heap.objs.size x y->(∀c o,c∉[z,TO,i1,i2]->s.heap.get? c=some o->h'.get? c=some o)->Q (some (.ref s.heap.objs.size)) {s with heap:=h'}) :
  Xb (model prog w) A (ZV (.ref z)) Q E s:=by
 have hT:s.TypeIs (.ref z) "zip" := ⟨_,hz,rfl⟩;obtain⟨nd,o1,o2⟩:=P;simp only[Xg,WG,XU,or_false,not_or,XR,not_false_eq_true,and_true]at nd;obtain⟨⟨TH,GK,GJ,JW⟩,⟨TITO,TIi1,TIi2⟩,⟨TOi1,TOi2⟩,i12⟩:=nd;have a1:=o1 z (by simp);have a2:=o1 TO (by simp);have a3:=o1 i1 (by simp);have a4:=o1 i2 (by simp)
 have b1:=o2 z (by simp);have b2:=o2 TO (by simp);have b3:=o2 i1 (by simp);have b4:=o2 i2 (by simp)
 unfold ZV;apply WA;apply ZF;apply YA (name:=ZQ "__next__") hT F.slot_zip_next;refine Ye F.slot_zip_next hT F.entry_zip_next ?_ (F.args_zip_next_1 _)
 change Xb (model prog w) _ (field (.ref z) 2 >>= _) _ _ _
 apply WA;apply YI hz rfl (x:=.bool false) rfl
 change Xb (model prog w) _ (field (.ref z) 3 >>= _) _ _ _
 apply WA;apply YI hz rfl (x:=.ref TI) rfl;apply WA;apply Yy Rc rfl
 change Xb (model prog w) _ (YJ (.ref z) >>= _) _ _ _
 apply WA;unfold YJ;apply WA;apply YI hz rfl (x:=.none) rfl;apply WJ;simp only[if_true];apply WA;apply YZ;apply WA;apply YI hz rfl (x:=.ref TO) rfl;apply WA;refine Yt hz (by simp) λg1 y1 e1=>?_
 have z1:IsZip g1 z TI TO .ellipsis:=y1;apply WA;simp only[List.zipIdx_cons,List.zipIdx_nil,List.forIn_cons,List.forIn_nil];apply WA;apply WA;apply wpAny_onRaise
 change Xb (model prog w) _ (XQ (.ref i1) >>= _) _ _ _
 apply WA;refine D1.item _ _ _ k x _ (D1.keep k _ _ h1 (λo e=>e1.extBut _ _ (X6 GJ) e)) (D1.kept _ _ c1 λo e=>e1.extBut _ _ a1 e) hx λg2 s2 e2=>WJ ?_;have t2:Y_ g2 TO a b:=e2.extBut _ _ TOi1 (e1.extBut _ _ (X6 GK) Rb);apply WA;apply Yy t2 rfl;apply WA;refine wpAny_updateSeq_pair t2 λg3 y3 e3=>?_;have t3:Y_ g3 TO x b:=y3;apply WA;refine wpAny_letGo (WJ ?_);apply WA;apply WA;apply wpAny_onRaise
 change Xb (model prog w) _ (XQ (.ref i2) >>= _) _ _ _
 apply WA;have k2:S2 k g3:=D2.keep k _ _ h2 λo e=>e3.extBut _ _ (X6 TOi2) (e2.extBut _ _ (X6 i12) (e1.extBut _ _ (X6 JW) e));have k3:C2 g3:=D2.kept _ _ c2 λo e=>e3.extBut _ _ b2 (e2.extBut _ _ b3 (e1.extBut _ _ b1 e));refine D2.item _ _ _ k y _ k2 k3 hy λg4 s4 e4=>WJ ?_;have t4:Y_ g4 TO x b:=e4.extBut _ _ TOi2 t3;apply WA;apply Yy t4 rfl;apply WA;refine wpAny_updateSeq_pair t4 λg5 y5 e5=>?_;have t5:Y_ g5 TO x y:=y5;apply WA;refine wpAny_letGo (WJ (WJ ?_));apply WA;apply Yy t5 rfl;apply WA;refine wpAny_newTuple ?_;have hsz:g5.objs.size=s.heap.objs.size:=by rw[e5.1,e4.1,e3.1,e2.1,e1.1]
 have z5:IsZip g5 z TI TO .ellipsis:=e5.extBut _ _ GK (e4.extBut _ _ JW (e3.extBut _ _ GK (e2.extBut _ _ GJ z1)));have old:∀c o,c∉[z,TO,i1,i2]->s.heap.get? c=some o->g5.get? c=some o:=λc o hc e=>by
  simp only[WG,XU,or_false,not_or]at hc;obtain⟨c1,c2,c3,c4⟩:=hc;exact e5.extBut _ _ c2 (e4.extBut _ _ c4 (e3.extBut _ _ c2 (e2.extBut _ _ c3 (e1.extBut _ _ c1 e))))
 have n1:S1 (k+1) g5:=D1.keep _ _ _ s2 λo e=>e5.extBut _ _ (X6 TOi1) (e4.extBut _ _ i12 (e3.extBut _ _ (X6 TOi1) e));have n2:S2 (k+1) g5:=D2.keep _ _ _ s4 λo e=>e5.extBut _ _ (X6 TOi2) e;have R6:=W5 z5
 change Xb (model prog w) _ (Builtin.SmallTypes.ownedTupleHandOut (.ref z) (.ref g5.objs.size) >>= _) _ _ _
 apply WA;unfold Builtin.SmallTypes.ownedTupleHandOut;have z6:IsZip (g5.push {cls:=.type "tuple",data:=.seq #[x,y]}) z TI TO .ellipsis:=WH _ z5;apply WA;refine Yt z6 (by simp) λg7 y7 e7=>?_
 have z7:IsZip g7 z TI TO (rawInt g5.objs.size):=y7;refine Yt z7 (by simp) λg8 y8 e8=>?_
 have z8:IsZip g8 z TI TO (rawInt g5.objs.size):=y8;have up:∀c o,c≠z->g5.get? c=some o->g8.get? c=some o:=λc o c1 e=>e8.extBut _ _ c1 (e7.extBut _ _ c1 (WH _ e));have t8:Y_ g8 g5.objs.size x y:=e8.extBut _ _ (Nat.ne_of_gt R6) (e7.extBut _ _ (Nat.ne_of_gt R6) (Xc _ rfl));rw[hsz]at z8 t8;refine WJ ⟨_,rfl,WJ ?_⟩;show Q (some (.ref g5.objs.size)) _;rw[hsz];exact q g8 z8 (up _ _ (X6 GK) t5) (D1.keep _ _ _ n1 λo e=>up _ _ (X6 GJ) e) (D2.keep _ _ _ n2 λo e=>up _ _ (X6 JW) e) t8 λc o hc e=>up c o (λw=>hc (by simp[w])) (old c o hc e)
theorem CY (P:Apart z TI TO i1 i2 l1 l2)(D1:JV prog w i1 l1 vs S1 C1)(D2:JV prog w i2 l2 us S2 C2)(hh:A.handled=none){k:Nat}{a b:WC}{Q:Option WC->WE->Prop}(hz:IsZip s.heap z TI TO .none)(Rc:Y_ s.heap TI (.ref i1) (.ref i2))(Rb:Y_ s.heap TO a b)
  (h1:S1 k s.heap) (h2:S2 k s.heap) (c1:C1 s.heap) (c2:C2 s.heap) (hx:vs[k]?=none\/us[k]?=none)
  (q:∀h',(∀c o,c∉[z,TO,i1,i2]->s.heap.get? c=some o->h'.get? c=some o)->Q none {s with heap:=h'}) :
  Xb (model prog w) A (ZV (.ref z)) Q E s:=by
 have hT:s.TypeIs (.ref z) "zip" := ⟨_,hz,rfl⟩;obtain⟨nd,o1,o2⟩:=P;simp only[Xg,WG,XU,or_false,not_or,XR,not_false_eq_true,and_true]at nd;obtain⟨⟨TH,GK,GJ,JW⟩,⟨TITO,TIi1,TIi2⟩,⟨TOi1,TOi2⟩,i12⟩:=nd;have a1:=o1 z (by simp);have b1:=o2 z (by simp);have b2:=o2 TO (by simp);have b3:=o2 i1 (by simp)
 have oc:∀{c:Addr},c∉[z,TO,i1,i2]->c≠z/\c≠TO/\c≠i1/\c≠i2:=λhc=>by simpa[not_or] using hc
 have N_:A.in1.handled=none:=hh;unfold ZV;apply WA;apply ZF;apply YA (name:=ZQ "__next__") hT F.slot_zip_next;refine Ye F.slot_zip_next hT F.entry_zip_next ?_ (F.args_zip_next_1 _);have fin:∀(h':Heap) (e:Addr),(∀c o,c∉[z,TO,i1,i2]->s.heap.get? c=some o->h'.get? c=some o)->(∃o,h'.get? e=some o/\o.cls=.type "StopIteration") ->
   Xb (model prog w) A (do if <- isInstance (.ref e) (.type "StopIteration") then pure none else throw (.ref e)) Q E {s with heap:=h'}:=λh' e hk MH=> by
  obtain⟨o,ho,hc⟩ := MH;apply WA;refine wpAny_isInstance (T:="StopIteration") (b:=true) ⟨o,ho,hc⟩ isSubtype_stop ?_;exact WJ (q h' hk)
 change Xb (model prog w) _ (field (.ref z) 2 >>= _) _ _ _
 apply WA;apply YI hz rfl (x:=.bool false) rfl
 change Xb (model prog w) _ (field (.ref z) 3 >>= _) _ _ _
 apply WA;apply YI hz rfl (x:=.ref TI) rfl;apply WA;apply Yy Rc rfl
 change Xb (model prog w) _ (YJ (.ref z) >>= _) _ _ _
 apply WA;unfold YJ;apply WA;apply YI hz rfl (x:=.none) rfl;apply WJ;simp only[if_true];apply WA;apply YZ;apply WA;apply YI hz rfl (x:=.ref TO) rfl;apply WA;refine Yt hz (by simp) λg1 y1 e1=>?_
 have z1:IsZip g1 z TI TO .ellipsis:=y1;apply WA;simp only[List.zipIdx_cons,List.zipIdx_nil,List.forIn_cons,List.forIn_nil];apply WA;apply WA;apply wpAny_onRaise
 change Xb (model prog w) _ (XQ (.ref i1) >>= _) _ _ _
 apply WA;have f1:S1 k g1:=D1.keep k _ _ h1 λo e=>e1.extBut _ _ (X6 GJ) e;have f2:C1 g1:=D1.kept _ _ c1 λo e=>e1.extBut _ _ a1 e;cases ex:vs[k]? with
 |none =>
  refine D1.done _ _ _ k _ N_ f1 f2 ex λg2 e e2 he=>?_;obtain⟨oe,ge,ce⟩:=he;have z2:IsZip g2 z TI TO .ellipsis:=e2 _ _ GJ z1;have ez:e≠z:=λw=>by subst w;rw[z2]at ge;cases ge;simp at ce
  refine Yt z2 (by simp) λg3 _ e3=>fin g3 e (λc o hc x=>?_) ⟨oe,e3.extBut _ _ ez ge,ce⟩
  obtain⟨q1,q2,q3,q4⟩:=oc hc;exact e3.extBut _ _ q1 (e2 _ _ q3 (e1.extBut _ _ q1 x))
 |some x =>
  have ey:us[k]?=none:=hx.resolve_left (by rw[ex];intro z;cases z)
  refine D1.item _ _ _ k x _ f1 f2 ex λg2 s2 e2=>WJ ?_;have t2:Y_ g2 TO a b:=e2.extBut _ _ TOi1 (e1.extBut _ _ (X6 GK) Rb);apply WA;apply Yy t2 rfl;apply WA;refine wpAny_updateSeq_pair t2 λg3 y3 e3=>?_;apply WA;refine wpAny_letGo (WJ ?_);apply WA;apply WA;apply wpAny_onRaise
  change Xb (model prog w) _ (XQ (.ref i2) >>= _) _ _ _
  apply WA;have k2:S2 k g3:=D2.keep k _ _ h2 λo e=>e3.extBut _ _ (X6 TOi2) (e2.extBut _ _ (X6 i12) (e1.extBut _ _ (X6 JW) e));have k3:C2 g3:=D2.kept _ _ c2 λo e=>e3.extBut _ _ b2 (e2.extBut _ _ b3 (e1.extBut _ _ b1 e));refine D2.done _ _ _ k _ N_ k2 k3 ey λg4 e e4 he=>?_;obtain⟨oe,ge,ce⟩:=he;have z4:IsZip g4 z TI TO .ellipsis:=e4 _ _ JW (e3.extBut _ _ GK (e2.extBut _ _ GJ z1));have ez:e≠z:=λw=>by subst w;rw[z4]at ge;cases ge;simp at ce
  refine Yt z4 (by simp) λg5 _ e5=>fin g5 e (λc o hc x=>?_) ⟨oe,e5.extBut _ _ ez ge,ce⟩
  obtain⟨q1,q2,q3,q4⟩:=oc hc;exact e5.extBut _ _ q1 (e4 _ _ q4 (e3.extBut _ _ q2 (e2.extBut _ _ q3 (e1.extBut _ _ q1 x))))
end
section
variable {prog:WI}{w:W6}{A:XA}{E:WC->WE->Prop}{s:WE}
abbrev NJ (h:Heap)(l1:Addr):Heap:=h.push {cls:=.type "tuple_iterator",data:=.fields #[.ref l1,.int 0 0]}
abbrev NH (h:Heap)(l1 l2:Addr):Heap:=(NJ h l1).push {cls:=.type "tuple_iterator",data:=.fields #[.ref l2,.int 0 0]}
abbrev NG (h:Heap)(l1 l2:Addr):Heap:=(NH h l1 l2).push {cls:=.type "tuple",data:=.seq #[.ref h.objs.size,.ref (NJ h l1).objs.size]}
abbrev ND (h:Heap)(l1 l2:Addr):Heap:=(NG h l1 l2).push {cls:=.type "tuple",data:=.seq #[.none,.none]}
abbrev JY (h:Heap)(l1 l2:Addr):Heap:=(ND h l1 l2).push {cls:=.type "zip",data:=.fields #[.none,.bool false,.bool false,.ref (NH h l1 l2).objs.size,.ref (NG h l1 l2).objs.size]}
theorem xr (l1 l2:Addr)(xs ys:Array WC):
  Meets (Y3.«zip.__new__» ⟨[.type "zip",.ref l1,.ref l2],[]⟩) (λ_ R s=>s.heap.IsTuple l1 xs/\s.heap.IsTuple l2 ys/\R (.ok (.ret (.ref (ND s.heap l1 l2).objs.size))) {s with heap:=JY s.heap l1 l2}) :=
 .of_wp λprog w A R s h=>by
  obtain⟨hp,g,d,tk,os⟩:=s;obtain⟨u1,u2,h⟩:=h;have Ua:=sub_zip;have m1:Heap.IsTuple (Shared.heap ⟨hp,g,d,tk,os⟩) l1 xs:=u1;have m2:Heap.IsTuple (Shared.heap ⟨hp.push {cls:=.type "tuple_iterator",data:=.fields #[.ref l1,.int 0 0]},g,d,tk,os⟩) l2 ys:=Heap.IsTuple.push u2 _
  wp_walk using wpAny_pyIter_tuple m1,wpAny_pyIter_tuple m2
  exact⟨_,rfl,h⟩
theorem zg {l1 l2:Addr}{xs ys:Array WC}{Q:WC->WE->Prop}(u1:s.heap.IsTuple l1 xs)(u2:s.heap.IsTuple l2 ys)
  (q:∀h',IsZip h' (s.heap.objs.size+4) (s.heap.objs.size+2) (s.heap.objs.size+3) .none->Y_ h' (s.heap.objs.size+2) (.ref s.heap.objs.size) (.ref (s.heap.objs.size+1))->Y_ h' (s.heap.objs.size+3) .none .none ->
   h'.IsTupleIter s.heap.objs.size l1 0->h'.IsTupleIter (s.heap.objs.size+1) l2 0->(∀c o,s.heap.get? c=some o->h'.get? c=some o)->Q (.ref (s.heap.objs.size+4)) {s with heap:=h'}) :
  Xb (model prog w) A (call (.type "zip") [.ref l1,.ref l2]) Q E s:=by
 refine callType_new F.called_zip (by decide) (F.typeCall_zip_2 _ _) (F.newCall_zip_2 _ _) (λobj=>F.args_object_init_3 obj _ _) F.entry_zip_new (xr l1 l2 xs ys) ⟨u1,u2,?_⟩
 have n1:(NJ s.heap l1).objs.size=s.heap.objs.size+1:=YX ..
 have n2:(NH s.heap l1 l2).objs.size=s.heap.objs.size+2:=by rw[YX,n1]
 have n3:(NG s.heap l1 l2).objs.size=s.heap.objs.size+3:=by rw[YX,n2]
 have n4:(ND s.heap l1 l2).objs.size=s.heap.objs.size+4:=by rw[YX,n3]
 have up:∀{h:Heap} {o:Obj} {c:Addr} {u:Obj},h.get? c=some u->(h.push o).get? c=some u:=λe=>WH _ e;have w5:(JY s.heap l1 l2).get? (ND s.heap l1 l2).objs.size=some _:=Xc _ rfl;have w4:(JY s.heap l1 l2).get? (NG s.heap l1 l2).objs.size=some _:=up (Xc _ rfl);have w3:(JY s.heap l1 l2).get? (NH s.heap l1 l2).objs.size=some _:=up (up (Xc _ rfl));have w2:(JY s.heap l1 l2).get? (NJ s.heap l1).objs.size=some _:=up (up (up (Xc _ rfl)));have w1:(JY s.heap l1 l2).get? s.heap.objs.size=some _:=up (up (up (up (Xc _ rfl))));show _/\_;rw[n2,n3,n4]at w5;rw[n1,n2]at w3;rw[n3]at w4;rw[n1]at w2;rw[n4];exact⟨⟨_,w5,rfl⟩,q _ w5 w3 w4 ⟨_,w1,rfl,rfl⟩ ⟨_,w2,rfl,rfl⟩ λc o e=>up (up (up (up (up e))))⟩
end
end Zp
namespace L2
open PySem PySem.Spec PySem.SeqAt PyProof.Rows Zp
abbrev Ot:=Hp->List V->Prop
def Tw (c1 c2:Ot):It :=
 ⟨λi H=>∃xs ys x y,c1 H xs/\c2 H ys/\xs[i]?=some x/\ys[i]?=some y,
  λi H x H'=>∃T,H T=none/\x=.ref T/\∀xs ys,c1 H xs->c2 H ys->∃a b,xs[i]?=some a/\ys[i]?=some b/\H'=upd H T (.tup [a,b]),
  λi H=>∃xs ys,c1 H xs/\c2 H ys/\(xs[i]?=none\/ys[i]?=none)⟩
structure Src (P:WI)(w:W6)(K:PySem.W.Frag)(i l:Addr)(c:Ot)(S:Nat->Heap->Prop):Prop where
 «at»:∀(X:Cx) (pins:List (Addr×Obj)) (σ:St) (H:Hp) (s:WE) (xs:List V),X.prog=P->X.w=w->X.K=K->Inv X pins σ H s->c H xs->∃vs Ct,Vals xs vs/\JV P w i l vs S Ct/\Ct s.heap
 obj:∀k h,S k h->∃o,h.get? i=some o/\∀v,o.data≠.cell v
 keep:∀k h h',S k h->(∀o,h.get? i=some o->h'.get? i=some o)->S k h'
 inj:∀(H:Hp) (xs ys:List V),c H xs->c H ys->xs=ys
 old:∀(H:Hp) (xs:List V),c H xs->H l≠none
theorem src_list {P:WI}{w:W6}{K:PySem.W.Frag}{i l:Addr}:Src P w K i l (λH xs=>H l=some (.lst xs)) (λk h=>h.IsListIter i l k) where
 «at»:=λX pins σ H s xs hp hw hk I h=>by
  obtain⟨its,r',pl,_⟩:=I.list (c0.of h);exact⟨its,_,r',B8,pl.isList⟩
 obj:=λk h ⟨o,a,_,d⟩=>⟨o,a,λv z=>by rw[d]at z;cases z⟩
 keep:=λk h h' a k1=>a.at k1
 inj:=λH xs ys h h'=>by rw[h]at h';cases h';rfl
 old:=λH xs h z=>by rw[h]at z;cases z
theorem Dh {P:WI}{w:W6}{K:PySem.W.Frag}{i l:Addr}:Src P w K i l (λH xs=>H l=some (.tup xs)) (λk h=>h.IsTupleIter i l k) where
 «at»:=λX pins σ H s xs hp hw hk I h=>by
  obtain⟨its,r',pl,_⟩:=I.tuple (t9.of h);exact⟨its,_,r',E4,(show s.heap.IsTuple l its.toArray from pl)⟩
 obj:=λk h ⟨o,a,_,d⟩=>⟨o,a,λv z=>by rw[d]at z;cases z⟩
 keep:=λk h h' ⟨o,a1,a2⟩ k1=>⟨o,k1 o a1,a2⟩
 inj:=λH xs ys h h'=>by rw[h]at h';cases h';rfl
 old:=λH xs h z=>by rw[h]at z;cases z
theorem Inv.C7 {X:Cx}{pins:List (Addr×Obj)}{σ:St}{H:Hp}{s:WE}{fp:List Addr}{h':Heap}{x y:V}{u v:WC}(I:Inv X pins σ H s)(hf:∀b∈fp,f6 X pins H b)(k:∀c o,c∉fp->s.heap.get? c=some o->h'.get? c=some o)
  (rx:RelV x u) (ry:RelV y v) (hT:Y_ h' s.heap.objs.size u v):Inv X pins σ (upd H s.heap.objs.size (.tup [x,y])) {s with heap:=h'}:=by
 have hn:H s.heap.objs.size=none:=I.bx.fresh (WD _);have ne:∀{b:Addr} {o:Obj},s.heap.get? b=some o->b≠s.heap.objs.size:=λe=>Xk (W5 e);have nt:∀{b:Addr} {o:HO},H b=some o->b≠s.heap.objs.size:=λe z=>by rw[z,hn]at e;cases e
 have nf:∀{b:Addr} {o:HO},H b=some o->b∉fp:=λe z=>by rw[(hf _ z).1]at e;cases e
 refine I.call (g':=s.gens) (t':=s.toks) (d':=s.drawn) (ch:=fp) ⟨λb o e n _ hc=>k b o hc e,λb o e n _ hc=>⟨o.slots,k b o hc e⟩,λb o e n _=>by rw[ar (ne e)];exact n,λb o e hc=>⟨o,k b o hc e⟩,
  λb xs e=>by rw[ar (nt e)];exact e,λb o u e=>by rw[ar (nt e)];exact e,λb ps e=>⟨#[],by rw[ar (nt e),e];simp⟩⟩ (λb u e=>?_) I.bare λb hb=>?_
 ·by_cases hb:b=s.heap.objs.size
  ·subst hb;rw[aw]at e;cases e;exact⟨by show 2<=W7;decide,[_,_],.cons rx (.cons ry .nil),⟨_,hT,rfl,_,rfl⟩⟩
  ·rw[ar hb]at e;refine(I.bx b u e).rg (λc v hc q=>k c v ?_ q) (λc q=>by rw[ar (nt q)];exact q) λc xs q=>by rw[ar (nt q)];exact q
   rcases hc with z|z
   ·rw[z];exact nf e
   ·exact nf z
 ·obtain⟨f0,f1,f2,f3,f4,f5⟩:=hf b hb;exact⟨f3,f1,f4,f5⟩
theorem Inv.vL {X:Cx}{pins:List (Addr×Obj)}{σ:St}{H:Hp}{s:WE}{fp:List Addr}{h':Heap}(I:Inv X pins σ H s)(hf:∀b∈fp,f6 X pins H b)(k:∀c o,c∉fp->s.heap.get? c=some o->h'.get? c=some o):Inv X pins σ H {s with heap:=h'}:=by
 have nf:∀{b:Addr} {o:HO},H b=some o->b∉fp:=λe z=>by rw[(hf _ z).1]at e;cases e
 refine I.call (g':=s.gens) (t':=s.toks) (d':=s.drawn) (ch:=fp) ⟨λb o e n _ hc=>k b o hc e,λb o e n _ hc=>⟨o.slots,k b o hc e⟩,λb o e n _=>n,λb o e hc=>⟨o,k b o hc e⟩,λb xs e=>e,λb o u e=>e,λb ps e=>⟨#[],by rw[e];simp⟩⟩ (λb u e=>?_) I.bare λb hb=>?_
 ·refine(I.bx b u e).rg (λc v hc q=>k c v ?_ q) (λc q=>q) λc xs q=>q;rcases hc with z|z
  ·rw[z];exact nf e
  ·exact nf z
 ·obtain⟨f0,f1,f2,f3,f4,f5⟩:=hf b hb;exact⟨f3,f1,f4,f5⟩
theorem zu {P:WI}{w:W6}{K:PySem.W.Frag}{elts:List Expr}{kk:Nat}{pos:Pos}{z TI TO i1 i2 l1 l2:Addr}{c1 c2:Ot}{S1 S2:Nat->Heap->Prop}(Ap:Apart z TI TO i1 i2 l1 l2)(s1:Src P w K i1 l1 c1 S1)(s2:Src P w K i2 l2 c2 S2):
  Turn P w K (.Tuple elts kk pos) (Tw c1 c2) [z,TI,TO,i1,i2] z (λk h=>IsZip h z TI TO .none/\Y_ h TI (.ref i1) (.ref i2)/\(∃a b,Y_ h TO a b)/\S1 k h/\S2 k h) where
 mem:=by simp
 obj:=λk h MG c hc=> by
  obtain⟨h1,h2,⟨a,b,h3⟩,h4,h5⟩ := MG;simp only[WG,XU,or_false]at hc;rcases hc with rfl|rfl|rfl|rfl|rfl
  ·exact⟨_,h1,λv z=>by cases (show Data.fields _=Data.cell v from z)⟩
  ·exact⟨_,h2,λv z=>by cases (show Data.seq _ _=Data.cell v from z)⟩
  ·exact⟨_,h3,λv z=>by cases (show Data.seq _ _=Data.cell v from z)⟩
  ·exact s1.obj k h h4
  ·exact s2.obj k h h5
 keep:=λk h h' ⟨h1,h2,⟨a,b,h3⟩,h4,h5⟩ kp=>⟨kp z (by simp) _ h1,kp TI (by simp) _ h2,⟨a,b,kp TO (by simp) _ h3⟩,s1.keep k h h' h4 (λo e=>kp i1 (by simp) o e),s2.keep k h h' h5 λo e=>kp i2 (by simp) o e⟩
 item:=by
  intro X hP hw hK hc i pins s σ H E I hf st hg;obtain⟨g1,g2,⟨a,b,g3⟩,g4,g5⟩:=st;obtain⟨xs,ys,x,y,hx,hy,ex,ey⟩:=hg;obtain⟨vs,C1,r1,D1,k1⟩:=s1.at X pins σ H s xs hP hw hK I hx;obtain⟨us,C2,r2,D2,k2⟩:=s2.at X pins σ H s ys hP hw hK I hy;obtain⟨u,eu,ru⟩:=r1.get ex;obtain⟨v,ev,rv⟩:=r2.get ey;have sub:∀c∈[z,TO,i1,i2],c∈[z,TI,TO,i1,i2]:=λc hc=>by simp at hc ⊢;rcases hc with h|h|h|h <;> simp[h]
  refine zh Ap D1 D2 g1 g2 g3 g4 g5 k1 k2 eu ev λh' y1 y2 y3 y4 y5 y6=>?_;have I1:=I.C7 (fp:=[z,TI,TO,i1,i2]) hf (λc o Gg e=>y6 c o (λq=>Gg (sub c q)) e) ru rv y5;have nT:∀b∈[z,TI,TO,i1,i2],upd H s.heap.objs.size (.tup [x,y]) b=none:=λb hb=>by
   have:b≠s.heap.objs.size:=by
    have:=(show (∃o,s.heap.get? b=some o) from by
     simp only[WG,XU,or_false]at hb;rcases hb with rfl|rfl|rfl|rfl|rfl
     ·exact⟨_,g1⟩
     ·exact⟨_,g2⟩
     ·exact⟨_,g3⟩
     ·exact⟨_,(s1.obj i _ g4).choose_spec.1⟩
     ·exact⟨_,(s2.obj i _ g5).choose_spec.1⟩)
    obtain⟨o,e⟩:=this;exact Xk (W5 e)
   rw[ar this];exact(hf b hb).1
  have VN:Y_ h' TI (.ref i1) (.ref i2):=y6 TI _ (by
   have:=Ap.nd;simp only[Xg,WG,XU,or_false,not_or]at this ⊢
   obtain⟨⟨q1,_⟩,⟨q2,q3,q4⟩,_⟩:=this;exact⟨X6 q1,q2,q3,q4⟩) g2
  refine⟨_,rfl,wpAny_letOwnedTupleGo_zip y1 λh'' z' sb=>?_⟩;have I2:Inv X pins σ (upd H s.heap.objs.size (.tup [x,y])) {s with heap:=h''}:=by
   refine I1.vL (fp:=[z]) (λb hb=>?_) λc o Gg e=>sb.extBut _ _ (by simpa using Gg) e
   have e:b=z:=by simpa using hb
   subst e;exact⟨nT b (by simp),(hf b (by simp)).2⟩
  have Nw:∀c∈[TI,TO,i1,i2],c≠z:=λc hc q=>by
   have:=Ap.nd;rw[Xg]at this;exact this.1 (by rw[<- q];exact hc)
  refine⟨.ref s.heap.objs.size,_,I2,rfl,⟨s.heap.objs.size,I.bx.fresh (WD _),rfl,λNz TJ F6 P6=>?_⟩,⟨z',sb.extBut _ _ (Nw TI (by simp)) VN,⟨_,_,sb.extBut _ _ (Nw TO (by simp)) y2⟩,s1.keep _ _ _ y3 (λo e=>sb.extBut _ _ (Nw i1 (by simp)) e),s2.keep _ _ _ y4 λo e=>sb.extBut _ _ (Nw i2 (by simp)) e⟩,nT⟩
  rw[s1.inj H Nz xs F6 hx,s2.inj H TJ ys P6 hy];exact⟨x,y,ex,ey,rfl⟩
 done:=by
  intro X hP hw hK hc i pins s σ H E I hf st hg;obtain⟨g1,g2,⟨a,b,g3⟩,g4,g5⟩:=st;obtain⟨xs,ys,hx,hy,ex⟩:=hg;obtain⟨vs,C1,r1,D1,k1⟩:=s1.at X pins σ H s xs hP hw hK I hx;obtain⟨us,C2,r2,D2,k2⟩:=s2.at X pins σ H s ys hP hw hK I hy;have sub:∀c∈[z,TO,i1,i2],c∈[z,TI,TO,i1,i2]:=λc hc=>by simp at hc ⊢;rcases hc with h|h|h|h <;> simp[h]
  refine CY Ap D1 D2 (I.ok.hd hc) g1 g2 g3 g4 g5 k1 k2 (ex.imp (λq=>r1.none_of q) λq=>r2.none_of q) λh' y6=>?_;exact⟨rfl,I.vL (fp:=[z,TI,TO,i1,i2]) hf λc o Gg e=>y6 c o (λq=>Gg (sub c q)) e⟩
 self:=λA i s Q E ⟨h1,_⟩ q=>wpAny_pyIter_zip h1 q
theorem JK:XC "zip" = some (.type "zip"):=by decide +kernel
def iw:List D->List D->List D
 |a::as,b::bs=>.tup [a,b]::iw as bs
 |_,_=>[]
theorem k_:∀{as bs:List D} {i:Nat} {d:D},(iw as bs)[i]?=some d->∃a b,as[i]?=some a/\bs[i]?=some b/\d=.tup [a,b]
 |[],_,_,_,h=>by simp[iw]at h
 |_::_,[],_,_,h=>by simp[iw]at h
 |a::as,b::bs,0,_,h=>by simp[iw]at h;exact⟨a,b,rfl,rfl,h.symm⟩
 |a::as,b::bs,i+1,_,h=>by
  obtain⟨x,y,h1,h2,h3⟩:=k_ (as:=as) (bs:=bs) (i:=i) (by simpa[iw] using h)
  exact⟨x,y,by simpa using h1,by simpa using h2,h3⟩
theorem qR:∀(as bs:List D),(iw as bs).length=min as.length bs.length
 |[],_=>by simp[iw]
 |_::_,[]=>by simp[iw]
 |a::as,b::bs=>by simp[iw,qR as bs]
section
variable {X:Cx}{W:Addr->Prop}{H:Hp}{l1 l2:Addr}{xs ys:List V}{ds es:List D}
def vB (t:Bool)(l:Addr):Ot:=λH xs=>if t=true then H l=some (.tup xs) else H l=some (.lst xs)
theorem Ex (t:Bool)(h1:vB t l1 H xs)(h2:vB t l2 H ys)(n1:t=false->¬ W l1)(n2:t=false->¬ W l2)(r1:ji X W H ds xs)(r2:ji X W H es ys):yT X W (Tw (vB t l1) (vB t l2)) (iw ds es) H:=λW' hW i H' k=>by
 have st:∀{l:Addr} {xs:List V},vB t l H xs->(t=false->¬ W l)->vB t l H' xs:=λ{l xs} h n=>by
  unfold vB at h ⊢
  cases t with
  |true=>exact k.tup l xs h
  |false=>exact k.out l _ h λz=>(hW l z).elim (n rfl) λq=>by rw[show H l=some (HO.lst xs) from h]at q;cases q
 have inj:∀{l:Addr} {xs ys:List V},vB t l H' xs->vB t l H' ys->xs=ys:=λ{l xs ys} a b=>by
  unfold vB at a b;cases t with
  |true=>rw[show H' l=some (HO.tup xs) from a]at b;cases b;rfl
  |false=>rw[show H' l=some (HO.lst xs) from a]at b;cases b;rfl
 have q1:=(ah.grow hW r1).keep k;have q2:=(ah.grow hW r2).keep k;constructor
 ·intro d hd;obtain⟨a,b,ha,hb,rfl⟩:=k_ hd;obtain⟨x,ex,rx⟩:=ah.get q1 ha;obtain⟨y,ey,ry⟩:=ah.get q2 hb;refine⟨⟨xs,ys,x,y,st h1 n1,st h2 n2,ex,ey⟩,λv H1 ⟨T,hT,e,yl⟩=>?_⟩;obtain⟨x',y',Tq,Tp,eH⟩:=yl xs ys (st h1 n1) (st h2 n2);rw[ex]at Tq;rw[ey]at Tp;cases Tq;cases Tp;subst e eH;exact⟨au.new hT,Rp.GX hT (.cons rx (.cons ry .nil))⟩
 ·intro hl;rw[qR]at hl;have z1:=q1.length;have z2:=q2.length;refine⟨xs,ys,st h1 n1,st h2 n2,?_⟩
  by_cases h:ds.length<=i
  ·exact .inl (Xw (by lia))
  ·exact .inr (Xw (by lia))
variable {φs:ua}{elts:List Expr}{kk:Nat}{GZ:Pos}
def P1 (φs:ua):JR:=λρ R=>φs ρ λl=>∃as bs,(l=[.lst as,.lst bs]\/l=[.tup as,.tup bs])/\R (iw as bs)
theorem zK {P:WI}{w:W6}{K:PySem.W.Frag}{i l:Addr}(t:Bool):∃S:Nat->Heap->Prop,Src P w K i l (vB t l) S/\∀h,(t=true->h.IsTupleIter i l 0)->(t=false->h.IsListIter i l 0)->S 0 h:=by
 cases t with
 |true=>exact⟨_,Dh,λh a b=>a rfl⟩
 |false=>exact⟨_,src_list,λh a b=>b rfl⟩
theorem DA {a b:Expr} {p pos:Pos} (hm:X.mg "zip" = none) (ha:Nn X [a,b] φs) (hg:Gl X "zip" := by rfl) (hs:WZ [a,b] X.env=[(false,eval a X.env),(false,eval b X.env)]:=by rfl) (uh:WZ [b] X.env=[(false,eval b X.env)]:=by rfl) :
  Tu X (.Tuple elts kk GZ) (.Call (.Name "zip" p) [a,b] [] pos) (P1 φs):=by
 refine⟨λρ R R' k q=>ha.mono ρ _ _ (λl MF=> by obtain⟨as,bs,e,q⟩ := MF;exact⟨as,bs,e,k _ q⟩) q,λpins s σ H R I ⟨W,ρ,se,q⟩=>?_⟩
 refine Call_ (h7 I hg hm JK (YF (bJ (ha.pa pos pins s σ H _ I (KA.of ha se q λds vs H1 h s1 r1=>(⟨ds,h,s1,r1⟩:∃ds,(∃as bs,(ds=[.lst as,.lst bs]\/ds=[.tup as,.tup bs])/\∀J H',au H H'->yT X W J (iw as bs) H'->R J H')/\au H H1/\ji X W H1 ds vs)))
  λus s1 ⟨vs,H1,I1,rv,h⟩=>?_) (by rw[hs,uh]) (by rw[uh];rfl)))
 obtain⟨ds,⟨as,bs,e,q⟩,sm,r1⟩:=h;have main:∀(t:Bool) (l1 l2:Addr) (xs ys:List V),vs=[.ref l1,.ref l2]->vB t l1 H1 xs->vB t l2 H1 ys->(t=false->¬ W l1)->(t=false->¬ W l2)->ji X W H1 as xs->ji X W H1 bs ys ->
   Xb (model X.prog X.w) X.A (call (.type "zip") us) (λv s1=>Xb (model X.prog X.w) X.A (pyIter v) (Kn X pins σ (.Tuple elts kk GZ) R) X.xe s1) X.xe s1:=by
  intro t l1 l2 xs ys ev g1 g2 n1 n2 w1 w2;subst ev;have it:=Ex t g1 g2 n1 n2 w1 w2;obtain⟨v1,v2,rfl,e1,e2⟩:∃v1 v2,us=[v1,v2]/\RelV (.ref l1) v1/\RelV (.ref l2) v2:=by
   cases rv with
   |cons a rr=>cases rr with
    |cons b rr=>cases rr;exact⟨_,_,rfl,a,b⟩
  cases e1;cases e2;have PJ:l1<s1.heap.objs.size:=I1.bx.lt (o:=if t=true then .tup xs else .lst xs) (by unfold vB at g1;cases t <;> exact g1)
  have PH:l2<s1.heap.objs.size:=I1.bx.lt (o:=if t=true then .tup ys else .lst ys) (by unfold vB at g2;cases t <;> exact g2)
  have Ap:Apart (s1.heap.objs.size+4) (s1.heap.objs.size+2) (s1.heap.objs.size+3) s1.heap.objs.size (s1.heap.objs.size+1) l1 l2:=by
   generalize s1.heap.objs.size=n at PJ PH
   change (l1:Nat)<n at PJ
   change (l2:Nat)<n at PH
   refine⟨?_,λc hc=>?_,λc hc=>?_⟩
   ·have q:∀(i j:Nat),i≠j->(n+i:Nat)≠n+j:=λi j h z=>h (Nat.add_left_cancel z);simp only[Xg,WG,XU,or_false,not_or,XR,not_false_eq_true,and_true];exact⟨⟨q 4 2 (by decide),q 4 3 (by decide),q 4 0 (by decide),q 4 1 (by decide)⟩,⟨q 2 3 (by decide),q 2 0 (by decide),q 2 1 (by decide)⟩,⟨q 3 0 (by decide),q 3 1 (by decide)⟩,q 0 1 (by decide)⟩
   ·simp only[WG,XU,or_false]at hc;rcases hc with rfl|rfl|rfl|rfl <;> exact Xk (Xn PJ (by first|exact aag _ _|exact WD _))
   ·simp only[WG,XU,or_false]at hc;rcases hc with rfl|rfl|rfl|rfl <;> exact Xk (Xn PH (by first|exact aag _ _|exact WD _))
  obtain⟨S1,OX,z1⟩:=zK (P:=X.prog) (w:=X.w) (K:=X.K) (i:=s1.heap.objs.size) (l:=l1) t;obtain⟨S2,OW,z2⟩:=zK (P:=X.prog) (w:=X.w) (K:=X.K) (i:=s1.heap.objs.size+1) (l:=l2) t;have fin:∀h',IsZip h' (s1.heap.objs.size+4) (s1.heap.objs.size+2) (s1.heap.objs.size+3) .none->Y_ h' (s1.heap.objs.size+2) (.ref s1.heap.objs.size) (.ref (s1.heap.objs.size+1))->Y_ h' (s1.heap.objs.size+3) .none .none ->
    S1 0 h'->S2 0 h'->(∀c o,s1.heap.get? c=some o->h'.get? c=some o)->Xb (model X.prog X.w) X.A (pyIter (.ref (s1.heap.objs.size+4))) (Kn X pins σ (.Tuple elts kk GZ) R) X.xe {s1 with heap:=h'}:=λh' y1 y2 y3 y4 y5 y6=>by
   refine wpAny_pyIter_zip y1 ?_;have I2:Inv X pins σ H1 {s1 with heap:=h'}:=I1.kept (t':=s1.toks) y6
   refine⟨_,_,_,_,H1,rfl,I2,zu Ap OX OW,⟨y1,y2,⟨_,_,y3⟩,y4,y5⟩,λb hb=>?_,q _ _ sm it⟩;have kL:s1.heap.objs.size<=b:=by
    simp only[WG,XU,or_false]at hb;rcases hb with rfl|rfl|rfl|rfl|rfl <;> first|exact aag _ _|exact WD _
   exact I1.BO kL (I1.bx.fresh kL)
  cases t with
  |true =>
   obtain⟨LJ,_,p1,_⟩:=I1.tuple (t9.of (show H1 l1=some (.tup xs) from g1))
   obtain⟨nz,_,p2,_⟩:=I1.tuple (t9.of (show H1 l2=some (.tup ys) from g2))
   exact zg (show s1.heap.IsTuple l1 LJ.toArray from p1) (show s1.heap.IsTuple l2 nz.toArray from p2) λh' y1 y2 y3 y4 y5 y6=>fin h' y1 y2 y3 (z1 h' (λ_=>y4) λz=>by cases z) (z2 h' (λ_=>y5) λz=>by cases z) y6
  |false =>
   obtain⟨LJ,_,p1,_⟩:=I1.list (c0.of (show H1 l1=some (.lst xs) from g1))
   obtain⟨nz,_,p2,_⟩:=I1.list (c0.of (show H1 l2=some (.lst ys) from g2))
   exact call_zip_2 p1.isList p2.isList λh' y1 y2 y3 y4 y5 y6 y7=>fin h' y1 y2 y3 (z1 h' (λz=>by cases z) λ_=>y4) (z2 h' (λz=>by cases z) λ_=>y5) y7
 rcases e with rfl|rfl
 ·obtain⟨x,y,rfl,⟨l1,xs,rfl,g1,n1,w1⟩,⟨l2,ys,rfl,g2,n2,w2⟩⟩:=pF r1;exact main false l1 l2 xs ys rfl g1 g2 (λ_=>n1) (λ_=>n2) w1 w2
 ·obtain⟨x,y,rfl,⟨l1,xs,rfl,g1,w1⟩,⟨l2,ys,rfl,g2,w2⟩⟩:=pF r1;exact main true l1 l2 xs ys rfl g1 g2 (λz=>by cases z) (λz=>by cases z) w1 w2
end
section
end
theorem cb {lo:Int}{n i:Nat}{d:D}(h:(pV lo n)[i]?=some d):i<n/\d=.int (lo+i):=by
 unfold pV at h;rw[WU]at h;have hi:i<n:=by
  by_cases hi:i<n
  ·exact hi
  ·rw[Xw (by simpa using hi)]at h;cases h
 rw[YD hi]at h;cases h;exact⟨hi,rfl⟩
theorem cC {lo:Int}{n:Nat}:(pV lo n).length=n:=by unfold pV;simp
section
end
structure Df (K:PySem.W.Frag)(mg:Str->Option WC)(x:Str)(st:Stmt)(ps:List Str)(f:Addr)(fd:Xx):Prop where
 F:CW K x x st f fd
 b:Binds K fd ps []
 m:mg x=some (.ref f)
structure Bs (mg:Str->Option WC):Prop where
 max:mg "max" = none
 min:mg "min" = none
 int:mg "int" = none
 range:mg "range" = none
 sorted:mg "sorted" = none
 set:mg "set" = none
 len:mg "len" = none
 list:mg "list" = none
theorem JM:XC "set" = some (.type "set"):=by decide +kernel
theorem cQ.vJ {k:Nat}{A:XA}(r:cQ k A):A.units+64+1<Y4:=by have:=r.un;lia
theorem cQ.vK {k:Nat}{A:XA}(r:cQ k A):A.units+16<Y4:=by have:=r.un;lia
def RK (n:Int)(t:List Int):Prop:=∃a b,t=[a,b]/\0<=a/\a<b/\b<n
theorem RK.ne {n:Int}{t:List Int}(h:RK n t):t≠[]:=by
 obtain⟨a,b,rfl,_⟩:=h;intro z;cases z
def bz (n:Int)(ts:List (List Int)):Prop:=∀t∈ts,RK n t
theorem bz.ne {n:Int}{ts:List (List Int)}(h:bz n ts):∀k∈ts,k≠[]:=λk hk=>(h k hk).ne
theorem bz.nil {n:Int}:bz n []:=λ_ z=>(nomatch z)
theorem bz.app {n:Int}{ts us:List (List Int)}(h:bz n ts)(h':bz n us):bz n (ts++us):=λt ht=>(W4.mp ht).elim (h t) (h' t)
theorem bz.one {n:Int}{a b:Int}(h1:0<=a)(h2:a<b)(h3:b<n):bz n [[a,b]]:=λt ht=>by
 rw[WN.mp ht];exact⟨a,b,rfl,h1,h2,h3⟩
theorem dP (ts:List (List Int)):D.bR (ts.map kD)=true:=by
 have fi:∀k:List Int,D.bR (k.map D.int)=true:=λk=>by
  induction k with
  |nil=>rfl
  |cons i k ih=>show (D.flat (.int i)&&D.bR (k.map D.int))=true;rw[ih];rfl
 induction ts with
 |nil=>rfl
 |cons t ts ih =>
  show (D.flat (kD t)&&D.bR (ts.map kD))=true;rw[ih];show (D.bR (t.map D.int)&&true)=true;rw[fi];rfl
theorem uL {ts:List (List Int)}(h:∀k∈ts,k≠[])(l:ts.length<=1000000):(match [D.lst (ts.map kD)]with | [.lst ds]=>qG [.lst ds]|_=>none)=some (.lst ((gI ts).map kD)):=by
 show (match dh (ts.map kD)with|some ks=>if ks.length<=1000000 then some (D.lst ((gI ks).map kD)) else none|none=>none)=_
 rw[gB h];show (if ts.length<=1000000 then some (D.lst ((gI ts).map kD)) else none)=_
 rw[if_pos l]
theorem zI {n:Int}{ts:List (List Int)}(h:bz n ts):bz n (gI ts):=λt ht=>h t ((eO ts).mem_iff.mp ht)
theorem zV {ts:List (List Int)}(h:∀k∈ts,k≠[])(l:ts.length<1000):Gs [.lst (ts.map kD)]=some (.sT (nL ts)):=by
 show (match dh (ts.map kD)with|some ks=>if ks.length<1000 then some (D.sT (nL ks)) else none|none=>none)=_
 rw[gB h];show (if ts.length<1000 then some (D.sT (nL ts)) else none)=_
 rw[if_pos l]
theorem uK {ts:List (List Int)}(h:∀k∈ts,k≠[])(l:ts.length<1000):(match [D.sT (nL ts)]with | [.sT ts]=>qG [.sT ts]|_=>none)=some (.lst ((gI (nL ts)).map kD)):=by
 show (if (nL ts).length<=1000/\(∀k∈nL ts,k≠[]) then some (D.lst ((gI (nL ts)).map kD)) else none)=_
 rw[if_pos ⟨by have:=xa ts;lia,λk hk=>h k (((fW ts).2 k).mp hk)⟩]
def tH:FD:=λds R=>∃n:Int,ds=[.int n]/\0<=n/\n<=1000/\∀ts:List (List Int),ts.length<=n.toNat->bz n ts->R (.lst (ts.map kD))
theorem tH.mono:c5 tH:=λds R R' k ⟨n,e,h1,h2,q⟩=>⟨n,e,h1,h2,λts a b=>k _ (q ts a b)⟩
def Drawn (n:Int)(ts:List (List Int)):Prop:=ts.length<=300/\bz n ts/\t7 ts/\ts.Nodup
def tw:FD:=λds R=>∃n:Int,ds=[.int n]/\2<=n/\n<=40/\∀ts,Drawn n ts->R (.lst (ts.map kD))
theorem tw.mono:c5 tw:=λds R R' k ⟨n,e,h1,h2,q⟩=>⟨n,e,h1,h2,λts a=>k _ (q ts a)⟩
def BR:FD:=λds R=>ds=[]/\∀(n:Int) ts,0<=n->n<=40->Drawn n ts->R (.tup [.int n,.lst (ts.map kD)])
theorem BR.mono:c5 BR:=λds R R' k ⟨e,q⟩=>⟨e,λn ts a b c=>k _ (q n ts a b c)⟩
theorem B9 {n:Int}{ks:List (List Int)}(h:bz n ks):∃ts,cutD ((gI (nL ks)).map kD) none (some 300)=ts.map kD/\Drawn n ts:=by
 refine⟨(gI (nL ks)).take (min 300 (gI (nL ks)).length),?_,?_,?_,?_,?_⟩
 ·unfold cutD;rw[HT.zZ,show (some (300:Int))=some ((300:Nat):Int) from rfl,HT.Dt,List.drop_zero,<- List.map_take]
  simp
 ·rw[Xj];lia
 ·exact λt ht=>h t (((fW ks).2 t).mp ((eO _).mem_iff.mp (List.mem_of_mem_take ht)))
 ·exact List.Pairwise.take (lz _)
 ·exact List.Nodup.sublist (List.take_sublist _ _) ((eO _).nodup_iff.mpr (fW ks).1)
theorem kS {fs:List (List Int)}{t:List Int}:(fs++[t]).map kD=fs.map kD++[kD t]:=by simp
theorem zQ {fs:List Int}{t:Int}:(fs++[t]).map D.int=fs.map D.int++[D.int t]:=by simp
theorem qZ {a b:D}:[a,b].length<=W7:=by show 2<=W7;decide
theorem T7 {a b c:D}:[a,b,c].length<=W7:=by show 3<=W7;decide
theorem CK {a:D}:[a].length<=W7:=by show 1<=W7;decide
theorem yZ {b:Bool}{p q:Prop}(hb:b=true)(h:p):(if b=true then p else q):=by rw[if_pos hb];exact h
theorem iX {b:Bool}{p q:Prop}(hb:b=false)(h:q):(if b=true then p else q):=by rw[hb,if_neg (by simp)];exact h
theorem m_ {c:Prop}[Decidable c]{p q:Prop}(h1:c->p)(h2:¬ c->q):(if decide c=true then p else q):=by
 by_cases h:c
 ·exact yZ (by simp[h]) (h1 h)
 ·exact iX (by simp[h]) (h2 h)
theorem UQ {c:Prop}[Decidable c]{p q:Prop}(h1:¬ c->p)(h2:c->q):(if (!decide c)=true then p else q):=by
 by_cases h:c
 ·exact iX (by simp[h]) (h2 h)
 ·exact yZ (by simp[h]) (h1 h)
theorem du {α:Type}(f:α->D):∀l:List α,D.gu (l.map f)=l.map λa=>(f a).pd
 |[]=>rfl
 |a::l=>by
  show (f a).pd::D.gu (l.map f)=_;rw[du f l];rfl
theorem jO {n:Nat}:∀{xs:List PyData},(∀x∈xs,x.canLay0=true/\x.depth<=n)->Za xs=true/\Ys xs<=n
 |[],_=>⟨by simp[Za],by simp[Ys]⟩
 |x::xs,h=>by
  obtain⟨h1,h2⟩:=jO (n:=n) (xs:=xs) λy hy=>h y (by simp[hy])
  obtain⟨g1,g2⟩:=h x (by simp)
  refine⟨by simp[Za,h1,g1],?_⟩
  simp only[Ys];lia
theorem nY {n:Nat}{ds:List D}(h:∀d∈ds,d.pd.canLay0=true/\d.pd.depth<=n):(D.tup ds).pd.canLay0=true/\(D.tup ds).pd.depth<=n+1:=by
 have e:D.gu ds=ds.map λd=>d.pd:=by
  have:=du (λd:D=>d) ds;simpa using this
 obtain⟨h1,h2⟩:=jO (n:=n) (xs:=D.gu ds) λx hx=>by
  rw[e]at hx;obtain⟨d,hd,rfl⟩:=WT.mp hx;exact h d hd
 refine⟨by simpa[D.pd,Yb] using h1,?_⟩
 have:(D.tup ds).pd.depth=Ys (D.gu ds)+1:=by simp[D.pd,Y0]
 lia
theorem nZ {n:Nat}{ds:List D}(h:∀d∈ds,d.pd.canLay0=true/\d.pd.depth<=n):(D.lst ds).pd.canLay0=true/\(D.lst ds).pd.depth<=n+1:=by
 have e:D.gu ds=ds.map λd=>d.pd:=by
  have:=du (λd:D=>d) ds;simpa using this
 obtain⟨h1,h2⟩:=jO (n:=n) (xs:=D.gu ds) λx hx=>by
  rw[e]at hx;obtain⟨d,hd,rfl⟩:=WT.mp hx;exact h d hd
 refine⟨by simpa[D.pd,Yb] using h1,?_⟩
 have:(D.lst ds).pd.depth=Ys (D.gu ds)+1:=by simp[D.pd,Y0]
 lia
theorem bC (i:Int):(D.int i).pd.canLay0=true/\(D.int i).pd.depth<=1:=⟨by simp[D.pd,Yb],by simp[D.pd,Y0]⟩
theorem rp (b:Bool):(D.bl b).pd.canLay0=true/\(D.bl b).pd.depth<=1:=⟨by simp[D.pd,Yb],by simp[D.pd,Y0]⟩
theorem rm (t:List Int):(kD t).pd.canLay0=true/\(kD t).pd.depth<=2:=nY λd hd=>by
 obtain⟨i,_,rfl⟩:=WT.mp hd;exact bC i
theorem gY (ts:List (List Int)):(D.lst (ts.map kD)).pd.canLay0=true/\(D.lst (ts.map kD)).pd.depth<=3:=nZ λd hd=>by
 obtain⟨i,_,rfl⟩:=WT.mp hd;exact rm i
theorem eZ (ts:List Int):(D.lst (ts.map D.int)).pd.canLay0=true/\(D.lst (ts.map D.int)).pd.depth<=2:=nZ λd hd=>by
 obtain⟨i,_,rfl⟩:=WT.mp hd;exact bC i
theorem c9 {d:D}{n:Nat}(h:d.pd.canLay0=true/\d.pd.depth<=n)(hn:n<=64:=by decide):d.uN=true:=by
 show (d.pd.canLay0&&decide (d.pd.depth<=64))=true;rw[h.1,decide_eq_true (by lia)]
 rfl
theorem fv {α:Type}[DecidableEq α]{f:α->PyData}(hf:∀a b,X3 (f a) (f b)=decide (a=b)):∀xs ys:List α,Z9 (xs.map f) (ys.map f)=decide (xs=ys)
 |[],[]=>by simp[Z9]
 |[],_::_=>by simp[Z9]
 |_::_,[]=>by simp[Z9]
 |x::xs,y::ys=>by
  simp only[W_,Z9];rw[hf,fv hf xs ys]
  by_cases h1:x=y
  ·by_cases h2:xs=ys <;> simp[h1,h2]
  ·simp[h1]
theorem k6 (i j:Int):X3 (D.int i).pd (D.int j).pd=decide (i=j):=by
 simp only[D.pd,X3]
 by_cases h:i=j <;> simp[h]
theorem Jw (t u:List Int):X3 (kD t).pd (kD u).pd=decide (t=u):=by
 show X3 (.tuple (D.gu (t.map D.int))) (.tuple (D.gu (u.map D.int)))=_;rw[du,du];simp only[X3];exact fv k6 t u
theorem BX (ts us:List (List Int)):X3 (D.lst (ts.map kD)).pd (D.lst (us.map kD)).pd=decide (ts=us):=by
 show X3 (.list (D.gu (ts.map kD))) (.list (D.gu (us.map kD)))=_;rw[du,du];simp only[X3];exact fv Jw ts us
theorem BY (ts us:List Int):X3 (D.lst (ts.map D.int)).pd (D.lst (us.map D.int)).pd=decide (ts=us):=by
 show X3 (.list (D.gu (ts.map D.int))) (.list (D.gu (us.map D.int)))=_;rw[du,du];simp only[X3];exact fv k6 ts us
theorem vz {a b:D}{c:Bool}(h1:a.uN=true)(h2:b.uN=true)(e:X3 a.pd b.pd=c):JC a b=some (.bl c):=by
 unfold JC;rw[if_pos ⟨h1,h2⟩,e]
theorem Ca {a b:D}{c:Bool}(h1:a.uN=true)(h2:b.uN=true)(e:X3 a.pd b.pd=c):M8 a b=some (.bl (!c)):=by
 unfold M8;rw[if_pos ⟨h1,h2⟩,e]
theorem ck (i j:Int):JC (.int i) (.int j)=some (.bl (decide (i=j))):=vz (c9 (bC i)) (c9 (bC j)) (k6 i j)
theorem Cf (ts us:List (List Int)):JC (.lst (ts.map kD)) (.lst (us.map kD))=some (.bl (decide (ts=us))):=vz (c9 (gY ts)) (c9 (gY us)) (BX ts us)
theorem Cb (ts us:List Int):M8 (.lst (ts.map D.int)) (.lst (us.map D.int))=some (.bl (!decide (ts=us))):=Ca (c9 (eZ ts)) (c9 (eZ us)) (BY ts us)
theorem any_map {α:Type}[DecidableEq α]{f:α->D}(hf:∀a b,X3 (f a).pd (f b).pd=decide (a=b))(t:α):∀xs:List α,((D.gu (xs.map f)).any λy=>X3 y (f t).pd)=decide (t∈xs)
 |[]=>rfl
 |x::xs=>by
  show (X3 (f x).pd (f t).pd || (D.gu (xs.map f)).any λy=>X3 y (f t).pd)=_
  rw[any_map hf t xs,hf]
  by_cases h:x=t
  ·simp[h]
  ·have h':¬ t=x:=λz=>h z.symm;simp[h,h']
theorem Fd (i:Int)(t:List Int):Nd (.int i) (kD t)=some (decide (i∈t)):=by
 show (if (D.int i).uN=true/\(D.tup (t.map D.int)).uN=true then some _ else none)=_
 rw[if_pos ⟨c9 (bC i),c9 (rm t)⟩,any_map k6]
theorem Ce (i:Int)(t:List Int):RF (.int i) (kD t)=some (.bl (decide (i∈t))):=by unfold RF;rw[Fd];rfl
theorem RH {α:Type}{ds:List α}{i:Nat}{d:α}(h:ds[i]?=some d):nN ds (i:Int)=some d:=by
 have hl:i<ds.length:=(W3.mp h).1;unfold nN wN;rw[if_pos (by lia),if_pos (by lia),Zd]
 exact h
theorem Cy {α:Type}{ds:List α}{i:Int}(h0:0<=i)(h1:i<ds.length):∃d∈ds,nN ds i=some d/\ds[i.toNat]?=some d:=by
 have hl:i.toNat<ds.length:=by lia
 refine⟨ds[i.toNat],YV hl,?_,WR hl⟩;have:=RH (ds:=ds) (i:=i.toNat) (WR hl)
 rwa [show ((i.toNat:Nat):Int)=i by lia]at this
theorem Fc {ds:List D}{i:Nat}{d:D}(h:ds[i]?=some d):tN (.lst ds) (.int (i:Int))=some d:=RH h
theorem pick {ds:List D}{r:Int}{p:D->Prop}(h0:0<=r)(h1:r<ds.length)(h:∀d∈ds,p d):∃d,tN (.lst ds) (.int r)=some d/\p d:=by
 obtain⟨d,hd,e,_⟩:=Cy h0 h1;exact⟨d,e,h d hd⟩
theorem tM {ks:List Int}{i:Int}(h0:0<=i)(h1:i<ks.length):∃r∈ks,tN (.lst (ks.map D.int)) (.int i)=some (.int r):=by
 obtain⟨r,hr,e,e'⟩:=Cy h0 h1;refine⟨r,hr,?_⟩;show nN (ks.map D.int) i=_;have:=RH (ds:=ks.map D.int) (i:=i.toNat) (d:=.int r) (by rw[WU,e'];rfl)
 rwa [show ((i.toNat:Nat):Int)=i by lia]at this
def OI:D->Option String
 |.bU=>some "NoneType"
 |.bl _=>some "bool"
 |.int _=>some "int"
 |.str _=>some "str"
 |.tup _=>some "tuple"
 |.lst _=>some "list"
 |_=>none
section
variable {X:Cx}{W:Addr->Prop}{H:Hp}{pins:List (Addr×Obj)}{σ:St}{s:WE}
theorem Rp.ty {d:D}{v:V}{T:String}(h:Rp X W H d v)(e:OI d=some T):ik X.K H v (.type T):=by
 cases d with
 |bU=>cases h;cases e;exact .bU
 |bl b=>cases h;cases e;exact .bl _
 |int b=>cases h;cases e;exact .int _
 |str b=>cases h;cases e;exact .str _
 |tup ds=>obtain⟨a,vs,rfl,h1,_⟩:=h;cases e;exact .tup h1
 |lst ds=>obtain⟨a,vs,rfl,h1,_⟩:=h;cases e;exact .lst h1
 |_=>cases e
theorem yK:eU X (.builtin "isinstance") (λxs H Q=>∃x p n1 n2 T k,xs=[x,.ref p]/\H p=some (.tup [.ty n1,.ty n2])/\ik X.K H x (.type T)/\PySem.W.kitAny X.K (.type T) [.type n1,.type n2]=some k/\Q (.bl k) H):=by
 intro pins s σ H xs us Q I r h;obtain⟨x,p,n1,n2,T,k,rfl,hp,ty,e,q⟩:=h;obtain⟨u,w',rfl,r1,r2⟩:=vals2 r;cases (show w'=Value.ref p from r2)
 obtain⟨_,its,rv,o,ho,hc,n,hd⟩:=(show a6 X.prog X.w H s.heap p (.tup [.ty n1,.ty n2]) from I.bx p _ hp)
 obtain⟨u1,u2,rfl,e1,e2⟩:∃u1 u2,its=[u1,u2]/\RelV (.ty n1) u1/\RelV (.ty n2) u2:=by
  cases rv with
  |cons a rr=>cases rr with
   |cons b rr=>cases rr;exact⟨_,_,rfl,a,b⟩
 cases (show u1=Value.type n1 from e1)
 cases (show u2=Value.type n2 from e2)
 obtain⟨c,dd,dt,sl⟩:=o;simp only at hc hd;subst hc hd;have fin:∀tk,EP X pins σ Q (.bool k) {s with toks:=tk}:=λtk=>⟨.bl k,H,I.tok _,rfl,q⟩
 cases ty with
 |bU=>cases (show u=Value.none from r1);exact PySem.W.kia_tup PySem.W.kitx_none I.jD YK ho e (λz=>nomatch z) fin
 |bl y=>cases (show u=Value.bool y from r1);exact PySem.W.kia_tup PySem.W.kitx_bool I.jD YK ho e (λz=>nomatch z) fin
 |int i=>obtain⟨t,q⟩:=(show ∃t,u=Value.int i t from r1);cases q;exact PySem.W.kia_tup PySem.W.kitx_int I.jD YK ho e (λz=>nomatch z) fin
 |str y=>obtain⟨t,q⟩:=(show ∃t,u=Value.str y t from r1);cases q;exact PySem.W.kia_tup PySem.W.kitx_str I.jD YK ho e (λz=>nomatch z) fin
 |Jt y=>obtain⟨t,q⟩:=(show ∃t,u=Value.float y t from r1);cases q;exact PySem.W.kia_tup PySem.W.kitx_float I.jD YK ho e (λz=>nomatch z) fin
 | @lst a xs ea =>
  cases (show u=Value.ref a from r1)
  obtain⟨_,_,n,_,h1⟩:=(show a6 X.prog X.w H s.heap a (.lst xs) from I.bx a _ ea)
  exact PySem.W.kia_tup PySem.W.kitx_list I.jD ⟨_,h1,rfl⟩ ho e (λz=>nomatch z) fin
 | @uj a ob xs ea =>
  cases (show u=Value.ref a from r1)
  obtain⟨_,_,_,n,_,h1⟩:=(show a6 X.prog X.w H s.heap a (.uj ob (.lst xs)) from I.bx a _ ea)
  exact PySem.W.kia_tup PySem.W.kitx_list I.jD ⟨_,h1,rfl⟩ ho e (λz=>nomatch z) fin
 | @tup a xs ea =>
  cases (show u=Value.ref a from r1)
  obtain⟨_,_,_,p⟩:=(show a6 X.prog X.w H s.heap a (.tup xs) from I.bx a _ ea)
  obtain⟨o,h1,h2,_⟩:=p;exact PySem.W.kia_tup PySem.W.kitx_tuple I.jD ⟨o,h1,h2⟩ ho e (λz=>nomatch z) fin
 | @dK a kvs ea =>
  cases (show u=Value.ref a from r1)
  obtain⟨_,_,vs,_,p⟩:=(show a6 X.prog X.w H s.heap a (.dK kvs) from I.bx a _ ea)
  obtain⟨o,es,ep,h1,h2,_⟩:=p;exact PySem.W.kia_tup PySem.W.kitx_dict I.jD ⟨o,h1,h2.1⟩ ho e (λz=>nomatch z) fin
 | @dT a kvs ea =>
  cases (show u=Value.ref a from r1)
  obtain⟨_,_,xs,_,o,es,ep,h1,h2,_⟩:=(show a6 X.prog X.w H s.heap a (.dT kvs) from I.bx a _ ea)
  exact PySem.W.kia_tup PySem.W.kitx_dict I.jD ⟨o,h1,h2.1⟩ ho e (λz=>nomatch z) fin
end
section
variable {X:Cx}{a:Expr}{φ:JS}{T T2:Str}{n n2:String}{p p2 p3 tp pos:Pos}{x1:Nat}
theorem gn (hm:X.mg "isinstance" = none) (ha:PV X a φ) (hT:X.mg T=none) (bT:XC T=some (.type n)) (hg:Gl X "isinstance" := by rfl) (Q1:Gl X T:=by rfl) (QN:T≠"__name__" := by decide) (Q6:(T==("__debug__" : Str))=false:=by decide)
  (mw:WZ [a,.Name T p2] X.env=(false,eval a X.env)::WZ [.Name T p2] X.env:=by rfl) (IJ:WZ [.Name T p2] X.env=(false,eval (.Name T p2) X.env)::WZ [] X.env:=by rfl) (hpl:(YM pos (WZ [.Name T p2] X.env)).any (·.1)=false:=by rfl) :
  PV X (.Call (.Name "isinstance" p) [a,.Name T p2] [] pos) (λρ R=>φ ρ λd=>∃t k,OI d=some t/\PySem.W.kitOne X.K (.type t) (.type n)=some k/\R (.bl k)) :=
 ⟨λρ R R' k h=>ha.mono ρ _ _ (λd ME=> by obtain⟨t,b,h1,h2,q⟩ := ME;exact⟨t,b,h1,h2,k _ q⟩) h,
  (iM Co hg hm Cs (bf ha.pe (bf (qb (v:=.ty n) Q1 hT bT rfl QN Q6) cN IJ) mw) (he:=mw) (hpl:=hpl)).pre λσ H Q ⟨W,ρ,se,h⟩=>tD.of ha se h λd v H1 ⟨t,k,h1,h2,q⟩ s1 r1 =>
    ⟨v,n,_,k,rfl,r1.ty h1,h2,q _ H1 s1 rfl⟩⟩
theorem v7 (hm:X.mg "isinstance" = none) (ha:PV X a φ) (hT:X.mg T=none) (bT:XC T=some (.type n)) (Vo:X.mg T2=none) (VL:XC T2=some (.type n2)) (hg:Gl X "isinstance" := by rfl) (Q1:Gl X T:=by rfl) (QN:T≠"__name__" := by decide) (Q6:(T==("__debug__" : Str))=false:=by decide) (Q0:Gl X T2:=by rfl) (QM:T2≠"__name__" := by decide) (Q5:(T2==("__debug__" : Str))=false:=by decide)
  (mw:WZ [a,.Tuple [.Name T p2,.Name T2 p3] x1 tp] X.env=(false,eval a X.env)::WZ [.Tuple [.Name T p2,.Name T2 p3] x1 tp] X.env:=by rfl) (IJ:WZ [.Tuple [.Name T p2,.Name T2 p3] x1 tp] X.env=(false,eval (.Tuple [.Name T p2,.Name T2 p3] x1 tp) X.env)::WZ [] X.env:=by rfl) (hpl:(YM pos (WZ [.Tuple [.Name T p2,.Name T2 p3] x1 tp] X.env)).any (·.1)=false:=by rfl)
  (vj:WZ [.Name T p2,.Name T2 p3] X.env=(false,eval (.Name T p2) X.env)::WZ [.Name T2 p3] X.env:=by rfl) (vh:WZ [.Name T2 p3] X.env=(false,eval (.Name T2 p3) X.env)::WZ [] X.env:=by rfl) :
  PV X (.Call (.Name "isinstance" p) [a,.Tuple [.Name T p2,.Name T2 p3] x1 tp] [] pos) (λρ R=>φ ρ λd=>∃t k,OI d=some t/\PySem.W.kitAny X.K (.type t) [.type n,.type n2]=some k/\R (.bl k)) :=
 ⟨λρ R R' k h=>ha.mono ρ _ _ (λd MD=> by obtain⟨t,b,h1,h2,q⟩ := MD;exact⟨t,b,h1,h2,k _ q⟩) h,
  (iM yK hg hm Cs (bf ha.pe (bf (Ay (bf (qb (v:=.ty n) Q1 hT bT rfl QN Q6) (bf (qb (v:=.ty n2) Q0 Vo VL rfl QM Q5) cN vh) vj)) cN IJ) mw) (he:=mw) (hpl:=hpl)).pre λσ H Q ⟨W,ρ,se,h⟩=>tD.of ha se h λd v H1 ⟨t,k,h1,h2,q⟩ s1 r1 =>
    ⟨by show 2<=W7;decide,λp hp=>⟨v,p,n,n2,t,k,rfl,aw,Rp.ty (X:=X) (r1.same (au.new hp)) h1,h2,q _ _ (s1.trans (au.new hp)) rfl⟩⟩⟩
end
theorem Bi {K:PySem.W.Frag}:PySem.W.kitOne K (.type "list") (.type "list")=some true:=rfl
theorem Bg {K:PySem.W.Frag}:PySem.W.kitOne K (.type "tuple") (.type "list")=some false:=rfl
theorem kit_is {K:PySem.W.Frag}:PySem.W.kitOne K (.type "int") (.type "str")=some false:=rfl
theorem Iu {K:PySem.W.Frag}:PySem.W.kitOne K (.type "NoneType") (.type "str")=some false:=rfl
theorem Bh {K:PySem.W.Frag}:PySem.W.kitOne K (.type "str") (.type "str")=some true:=rfl
theorem Iv {K:PySem.W.Frag}:PySem.W.kitOne K (.type "int") (.type "int")=some true:=rfl
theorem Iw {K:PySem.W.Frag}:PySem.W.kitOne K (.type "int") (.type "bool")=some false:=rfl
theorem Eu {K:PySem.W.Frag}:PySem.W.kitAny K (.type "int") [.type "list",.type "tuple"]=some false:=rfl
theorem Es {K:PySem.W.Frag}:PySem.W.kitAny K (.type "str") [.type "list",.type "tuple"]=some false:=rfl
theorem Et {K:PySem.W.Frag}:PySem.W.kitAny K (.type "NoneType") [.type "list",.type "tuple"]=some false:=rfl
theorem wK {K:PySem.W.Frag}:PySem.W.kitAny K (.type "tuple") [.type "list",.type "tuple"]=some true:=rfl
theorem wL {K:PySem.W.Frag}:PySem.W.kitAny K (.type "list") [.type "list",.type "tuple"]=some true:=rfl
end L2
namespace HT
open PySem PySem.Spec PyProof.Rows
theorem mE {α β:Type}{f g:α->Option β}:∀{l:List α},(∀x∈l,f x=g x)->l.filterMap f=l.filterMap g
 |[],_=>rfl
 |x::l,h=>by
  rw[XS,XS,h x (by simp),mE λy hy=>h y (by simp[hy])]
theorem z_ {α:Type}(xs:List α):((WK xs.length).filterMap λk=>xs[xs.length-1-k]?)=xs.reverse:=by
 have h:=pick_run xs.reverse.toArray 0 xs.length;rw[List.filterMap_map]at h;have e:((WK xs.length).filterMap λk=>xs[xs.length-1-k]?)=(WK xs.length).filterMap ((λx=>xs.reverse.toArray[x]?) ∘ λx=>0+x):=by
  refine mE λk hk=>?_;have Ga:=X8.mp hk;show _=xs.reverse.toArray[0+k]?;rw[List.getElem?_toArray,Yk,List.getElem?_reverse Ga]
 rw[e,h];simp only[List.drop_zero];exact Yp (by simp)
theorem nj (items:Array WC):slicePick items none none (some (-1))=items.toList.reverse.toArray:=by
 have e:(sliceRange (YY none none (some (-1)) items.size).1 (YY none none (some (-1)) items.size).2.1 (YY none none (some (-1)) items.size).2.2)=(WK items.size).map λk=>items.size-1-k:=by
  show sliceRange ((items.size:Int)-1) (-1) (-1)=_;unfold sliceRange;have c:(if (-1:Int)>0 then (if (items.size:Int)-1 < -1 then ((-1)-((items.size:Int)-1)+-1-1) / -1 else 0) else (if (items.size:Int)-1 > -1 then ((items.size:Int)-1-(-1)-(-1)-1) / (-(-1)) else 0)).toNat=items.size:=by
   rw[if_neg (by lia)]
   split
   ·rw[show (-(-1):Int)=1 by rfl,Int.ediv_one];lia
   ·lia
  simp only[c];refine Xe λk hk=>?_;have:=X8.mp hk;lia
 unfold slicePick;rw[e,List.filterMap_map]
 congr 1
 have:=z_ items.toList;rw[WM]at this;rw[<- this];refine mE λk hk=>?_;show items[items.size-1-k]?=_;rw[W9]
section
end
end HT
namespace L2
open PySem PySem.Spec PySem.SeqAt PyProof.Rows
theorem ah.rev {P:WI}{w:W6}{W:Addr->Prop}{H:Hp}:∀{ds:List D} {vs:List V},ah P w W H ds vs->ah P w W H ds.reverse vs.reverse
 |[],_,h=>by rw[show _=[] from h];rfl
 |d::ds,_,⟨v,r,e,h1,h2⟩=>by
  subst e;rw[Z8,Z8];exact(ah.rev h2).append (.one h1)
theorem Vals.rev:∀{xs:List V} {us:List WC},Vals xs us->Vals xs.reverse us.reverse
 |_,_,.nil=>.nil
 |_,_,.cons r t=>by
  rw[Z8,Z8];exact(Vals.rev t).append (.cons r .nil)
section
end
end L2
namespace L2.Q
open PySem PySem.Spec PySem.SeqAt PyProof.Rows
def allB (β:a7):zd:=β.map λb=>match b with|some (.val _ d)=>some d|some (.own d)=>some d|_=>none
def GV (β:a7):zd:=β.map λb=>match b with|some (.val _ d)=>some d|_=>none
section
variable {P:WI}{w:W6}{C:Cfg}{σ:St}{H:Hp}{β:a7}{own:Nat->List Addr}{i:Nat}
theorem bY.O1 (s:bY P w C σ H β own):Kl P w (λ_=>False) σ H (allB β):=⟨λa z=>z.elim,λi d e=>by
 unfold allB at e;rw[WU]at e;cases q:β[i]? with
 |none=>rw[q]at e;cases e
 |some x =>
  rw[q]at e;cases x with
  |none=>cases e
  |some x =>
   cases x with
   |val y d'=>cases e;obtain⟨v,h1,h2⟩:=s.val i y d q;exact⟨v,h1,h2.aV λ_ z=>z.elim⟩
   |own d'=>cases e;obtain⟨v,h1,h2,_⟩:=s.ow i d q;exact⟨v,h1,h2.rep λ_ _ z=>z⟩
   |hand ok=>cases e
   |shl y d=>cases e⟩
theorem bY.O0 (s:bY P w C σ H β own):Kl P w (av C (Wn own) .old) σ H (GV β):=⟨s.za .old,λi d e=>by
 unfold GV at e;rw[WU]at e;cases q:β[i]? with
 |none=>rw[q]at e;cases e
 |some x =>
  rw[q]at e;cases x with
  |none=>cases e
  |some x =>
   cases x with
   |val y d'=>cases e;obtain⟨v,h1,h2⟩:=s.val i y d q;exact⟨v,h1,h2.aV λa z=>by cases y <;> first|exact .inl z|exact .inl (.inl z)⟩
   |own d'=>cases e
   |hand ok=>cases e
   |shl y d=>cases e⟩
end
section
variable {X:Cx}{C:Cfg}{e tg it:Expr}{φ:JS}{ι:JR}
theorem fM (h:PV X e φ):PQ X C true e (λβ R=>φ (allB β) λd=>d.flat=true/\R d .own β) :=
 ⟨λβ R R' k q=>h.mono _ _ _ (λd q=>⟨q.1,k _ _ _ q.2⟩) q,h.pe.pre λσ H Q vj=>by obtain⟨β,own,s,q⟩:=vj;exact tD.of h s.O1 q λd v H1 vh s1 r1=>by obtain⟨f,q⟩:=vh;exact q v H1 own ((Out.refl s true).same s1) (KV.flat f r1)⟩
theorem DE (h:Tu X tg it ι):xn X C true tg it (λβ R=>ι (GV β) λds=>R ds .old β) :=
 ⟨λβ R R' k q=>h.mono _ _ _ (λd q=>k _ _ _ q) q,h.pi.pre λσ H R Bw=>by obtain⟨β,own,s,q⟩:=Bw;exact⟨_,_,s.O0,h.mono _ _ _ (λds q J H' s1 it=>q J H' own ((Out.refl s true).same s1) it) q⟩⟩
end
section
variable {P:WI}{w:W6}{C:Cfg}{σ:St}{H:Hp}{β:a7}{own:Nat->List Addr}{i:Nat}{ok:List Int->Prop}{ns:List Int}
theorem oq:∀{ns:List Int} {vs:List V} {A:List Addr},aI P w H (ns.map D.int) vs A->vs=ns.map V.int/\A=[]
 |[],_,_,h=>h
 |n::ns,_,_,⟨v,r,A1,A2,e,eA,h1,h2⟩=>by
  obtain⟨rfl,rfl⟩:=oq h2;obtain⟨rfl,rfl⟩:=h1;exact⟨e,by rw[eA];rfl⟩
theorem bY.toHand (s:bY P w C σ H β own)(e:β[i]?=some (some (.own (.lst (ns.map D.int)))))(ho:ok ns)(io:∀b,¬ C.IO b):bY P w C σ H (β.set i (some (.hand ok))) own:=by
 obtain⟨v,h1,⟨a,vs,A',rfl,h2,h3,h4⟩,h5⟩:=s.ow i _ e;obtain⟨rfl,rfl⟩:=oq h4;refine⟨by simp[s.len],λj y d q=>?_,λj d q=>?_,λj yY q=>?_,s.dm,s.mQ,s.m9,s.kp,s.iu,λj y d q=>by
  by_cases aF:i=j
  ·subst aF;obtain⟨e',_⟩:=bD q;cases e'
  ·rw[bw aF]at q;exact s.shl j y d q⟩
 ·by_cases aF:i=j
  ·subst aF;obtain⟨e',_⟩:=bD q;cases e'
  ·rw[bw aF]at q;exact s.val j y d q
 ·by_cases aF:i=j
  ·subst aF;obtain⟨e',_⟩:=bD q;cases e'
  ·rw[bw aF]at q;exact s.ow j d q
 ·by_cases aF:i=j
  ·subst aF;obtain⟨e',_⟩:=bD q;cases e';exact⟨a,ns,h1,h2,ho,h3,.inl io⟩
  ·rw[bw aF]at q;exact s.nC j yY q
end
section
variable {X:Cx}{C:Cfg}{e:Expr}{φ:aQ}{p:Bool}{i:Nat}{x:Str}{pos pos' px ap cp:Pos}{ok:List Int->Prop}
theorem DL (ok:List Int->Prop)(QX:∀b,¬ C.IO b)(he:∀U,PQ X (C.u U) p e φ)(hN:X.N.Nodup)(hi:X.N[i]?=some x:=by rfl)(hx:Loc X.env.scope x:=by first|exact .inl rfl|exact .inr rfl)
  (hs:Zl e (some (.Name x pos')) pos.line X.env=pure false:=by rfl) (hf:X.fn x=true\/X.env.scope.names.lookup x=some .local:=by first|exact .inl rfl|exact .inr rfl|assumption) :
  PB X C (.Assign [.Name x pos'] e pos) (λE β=>φ β λd k β'=>Ew k d/\i<β'.length/\∃ns:List Int,d=.lst (ns.map D.int)/\ok ns/\E.nx (β'.set i (some (.hand ok)))):=by
 have B:=fh (C:=C) (i:=i) (pos:=pos) (pos':=pos') he hN hi hx hs hf;refine⟨λE E' β l q=>(he λ_=>False).mono _ _ _ (λd k β' IP=>by obtain⟨f,h,ns,e,o,q⟩:=IP;exact⟨f,h,ns,e,o,l.nx _ q⟩) q,B.ps.pre λDe σ H ⟨Z,E,β,sb,q,yY⟩=>?_⟩
 refine⟨Z,{E with nx:=λβ'=>∃(ns:List Int) (β2:a7),i<β2.length/\β'=β2.set i (some (.own (.lst (ns.map D.int))))/\ok ns/\E.nx (β2.set i (some (.hand ok)))},β,sb,(he λ_=>False).mono _ _ _ (λd k β' IL=>by obtain⟨f,h,ns,e,o,q⟩:=IL;exact⟨f,ns,β',h,by rw[e],o,q⟩) q,⟨λσ' H' β' Ds ⟨ns,β2,hl,e,o,q⟩=>?_,yY.rt,yY.bk,yY.ct⟩⟩
 subst e;obtain⟨own,s,n⟩:=Ds;have:=s.toHand (i:=i) (ok:=ok) (get_set hl) o QX;rw[List.set_set]at this;exact yY.nx _ _ _ ⟨own,this,n⟩ q
theorem bY.putL {P:WI}{w:W6}{σ:St}{H:Hp}{β:a7}{own:Nat->List Addr}{U U2:Addr->Prop}{ds ds':List D}{vs':List V}{a:Addr}{vs:List V}{A A':List Addr}(s:bY P w (C.u U) σ H β own)(e:β[i]?=some (some (.own (.lst ds))))(h1:σ[i]?=some (some (.ref a)))(h2:H a=some (.lst vs))(h3:own i=a::A)
  (r:aI P w H ds' vs' A') (nd:A'.Nodup) (hA:∀c∈A',c∈A\/(C.H0 c=none/\¬ Wn own c/\U c)) (hU:∀a,U2 a->U a) (Ri:∀c∈A',c∉A->¬ U2 c) :
  bY P w (C.u U2) σ (upd H a (.lst vs')) (β.set i (some (.own (.lst ds')))) (aR own i (a::A'))/\∀c∈a::A',c∈own i\/(C.H0 c=none/\¬ Wn own c/\U c):=by
 have ha:a∈own i:=by rw[h3];simp
 have nA:a∉A:=by have:=s.m9 i;rw[h3]at this;exact(Xg.mp this).1
 have na:∀c∈A',c≠a:=λc hc z=>by
  subst z;rcases hA c hc with z|z
  ·exact nA z
  ·exact z.2.1 ⟨i,ha⟩
 have kt:∀b xs,H b=some (.tup xs)->upd H a (.lst vs') b=some (.tup xs):=λb xs z=>by rw[ar (λz'=>by rw[z',h2]at z;cases z)];exact z
 have Of:∀c∈a::A',c∈own i\/(C.H0 c=none/\¬ Wn own c/\U c):=λc hc=>by
  rcases WG.mp hc with rfl|hc
  ·exact .inl ha
  ·exact(hA c hc).imp (λz=>by rw[h3];simp[z]) id
 refine⟨s.K5 e h1 ha ⟨a,vs',A',rfl,aw,rfl,r.keep kt λc hc oc ec=>by rw[ar (na c hc)];exact ec⟩ (Xg.mpr ⟨λz=>na a z rfl,nd⟩) Of hU (λc hc z=>?_),Of⟩
 rcases WG.mp hc with rfl|hc
 ·exact(s.dm i c ha).2.2.2 (hU c z)
 ·by_cases q:c∈A
  ·exact(s.dm i c (by rw[h3];simp[q])).2.2.2 (hU c z)
  ·exact Ri c hc q z
theorem AB {own:Nat->List Addr}{i:Nat}{A':List Addr}(h:∀c∈A',c∈own i):∀c,Wn (aR own i A') c->Wn own c:=λc L8=>by
 obtain⟨j,hj⟩:=L8
 by_cases aF:i=j
 ·rw[<- aF,os_eq]at hj;exact⟨i,h c hj⟩
 ·rw[bF aF]at hj;exact⟨j,hj⟩
theorem Hw {P:WI}{w:W6}{H:Hp}{own:Nat->List Addr}{Z:Hp×(Addr->Prop)}{d:D}{v:V}{A:List Addr}(r:Own P w H d v A)(h:∀c∈A,¬ Wn own c/\C.H0 c=none):KV P w C Z own H (sk .eW d) d v:=by
 have q:az P w (av C (Wn own) .eW) H d v:=r.rep λc hc z=>z.elim (h c hc).1 λz=>z (h c hc).2;cases d with
 |int i=>exact KV.flat rfl q
 |bl i=>exact KV.flat rfl q
 |bU=>exact KV.flat rfl q
 |str i=>exact KV.flat rfl q
 |_=>exact q
theorem aI.concat {P:WI}{w:W6}{H:Hp}{ds:List D}{d:D}{vs:List V}{A:List Addr}(h:aI P w H (ds++[d]) vs A):∃us v A1 A2,vs=us++[v]/\A=A1++A2/\aI P w H ds us A1/\Own P w H d v A2:=by
 obtain⟨v,A1,A2,A3,g1,g2,g3,g4,g5⟩:=h.split (i:=ds.length) (d:=d) (by simp)
 rw[List.take_left]at g3;have e3:aI P w H [] (vs.drop (ds.length+1)) A3:=by simpa using g5
 have hl:=h.length;rw[Xi,Y9]at hl;refine⟨vs.take ds.length,v,A1,A2,?_,by rw[g2,e3.2,XY],g3,g4⟩
 have eV:ds.length<vs.length:=by lia
 have e1:vs=vs.take ds.length++vs.drop ds.length:=(YL _ _).symm;rw[XE eV,e3.1]at e1;have:vs[ds.length]=v:=by
  have:=WR eV;rw[g1]at this;exact(Xp this).symm
 rw[this]at e1;exact e1
theorem Ht (hN:X.N[i]?=some x:=by rfl)(hv:xm X.env.scope x:=by first|exact .inl rfl|exact .inr (.inl rfl)|exact .inr (.inr rfl))(hd:(x==("__debug__" : Str))=false:=by decide)(ir:(x==("__classdict__" : Str))=false:=by decide)
  (dO:Y8 (.Name x px) "pop" X.env (eval (.Name x px) X.env)=eval (.Name x px) X.env:=by rfl) (dN:(ap.endLine==cp.line)=true:=by rfl) :
  PQ X C false (.Call (.Attribute (.Name x px) "pop" ap) [] [] cp) (λβ R=>∃ds d,β[i]?=some (some (.own (.lst (ds++[d]))))/\R d (sk .eW d) (β.set i (some (.own (.lst ds))))) :=
 ⟨λβ R R' k L7=>by obtain⟨ds,d,h1,q⟩:=L7;exact⟨ds,d,h1,k _ _ _ q⟩,(HD (apos:=ap) (cpos:=cp) PySem.F.plainAttrs_list PySem.F.slot_list_pop PySem.F.type_list_pop Ie (dG (pos:=px) hN hv hd ir) dO dN).pre λσ H Q vi=>by
  obtain⟨β,own,s,ds,d,hb,q⟩:=vi;obtain⟨a,vs,A,h1,h2,h3,h4⟩:=s.sv hb;obtain⟨us,v,A1,A2,rfl,rfl,g3,g4⟩:=h4.concat;have nd:=s.m9 i;rw[h3]at nd;obtain⟨Ej,H_,Lq⟩:=XF.mp (Xg.mp nd).2;obtain⟨s2,hA⟩:=s.putL (C:=C) (U:=C.U) (U2:=C.U) (ds':=ds) (vs':=us) (A':=A1) hb h1 h2 h3 g3 Ej (λc hc=>.inl (by simp[hc])) (λ_ z=>z) (λc hc n=>absurd (by simp[hc]) n)
  have h0:∀c∈own i,C.H0 c=none:=by obtain⟨_,_,_,h⟩:=s.ow i _ hb;exact h
  have kt:∀b xs,H b=some (.tup xs)->upd H a (.lst us) b=some (.tup xs):=λb xs z=>by rw[ar (λz'=>by rw[z',h2]at z;cases z)];exact z
  have na:∀c∈A2,c≠a:=λc hc z=>(Xg.mp nd).1 (by rw[<- z];simp[hc])
  have le:∀c,Wn (aR own i (a::A1)) c->Wn own c:=AB λc hc=>by rw[h3];rcases WG.mp hc with rfl|hc <;> simp[*]
  refine⟨.ref a,h1,.inl ⟨rfl,_,c0.of h2⟩,a,_,v,rfl,rfl,h2,by simp,?_⟩
  rw[List.dropLast_concat];refine q v _ _ ⟨s2,?_,λz=>(nomatch z),le⟩ (Hw (C:=C) (g4.keep kt λc hc oc ec=>by rw[ar (na c hc)];exact ec) λc hc=>⟨λ⟨j,hj⟩=>?_,h0 c (by rw[h3];simp[hc])⟩)
  ·have u:=Sn.upd (Z:=(H,Wn own)) (o':=.lst us) (Sn.refl (H:=H) (W:=Wn own)) h2 (λxs z=>by cases z) ⟨i,by rw[h3];simp⟩
   exact⟨λb z=>.inl (le b z),u.k,u.d⟩
  ·by_cases aF:i=j
   ·rw[<- aF,os_eq]at hj;rcases WG.mp hj with rfl|hj
    ·exact na _ hc rfl
    ·exact Lq _ hj _ hc rfl
   ·rw[bF aF]at hj;exact aF (s.mQ i j c (by rw[h3];simp[hc]) hj)⟩
end
section
variable {X:Cx}{C:Cfg}{e k:Expr}{φ:aQ}{p:Bool}{i:Nat}{x:Str}{pos px ap cp:Pos}
theorem IE {n:Nat}{j:Int}{k:Nat}(h:wN n j=some k):k<n:=by
 unfold wN at h
 by_cases h0:0<=j
 ·rw[if_pos h0]at h
  by_cases h1:j<n
  ·rw[if_pos h1]at h;cases h;lia
  ·rw[if_neg h1]at h;cases h
 ·rw[if_neg h0]at h
  by_cases h1:-(n:Int)<=j
  ·rw[if_pos h1]at h;cases h;lia
  ·rw[if_neg h1]at h;cases h
theorem Dj {Z:Hp×(Addr->Prop)}{H:Hp}{own:Nat->List Addr}{a:Addr}{o oa:HO}{A':List Addr}{U:Addr->Prop}(n:Sn Z H (Wn own))(m:∀a,U a->Z.1 a=none)(h2:H a=some oa)(ht:∀xs,oa≠.tup xs)(ha:Wn own a)(hA:∀c∈A',c∈own i\/(C.H0 c=none/\¬ Wn own c/\U c)):Sn Z (upd H a o) (Wn (aR own i A')) :=
 pR n m ha ⟨oa,h2,ht⟩ hA
theorem xY (he:PQ X C.z p e φ)(hN:X.N[i]?=some x:=by rfl)(hv:xm X.env.scope x:=by first|exact .inl rfl|exact .inr (.inl rfl)|exact .inr (.inr rfl))(hd:(x==("__debug__" : Str))=false:=by decide)(ir:(x==("__classdict__" : Str))=false:=by decide)
  (dO:Y8 (.Name x px) "extend" X.env (eval (.Name x px) X.env)=eval (.Name x px) X.env:=by rfl)
  (my:((YM cp (WZ [e] X.env)).all (λx=>!x.1)&&(backToKw cp (Z5 [] X.env)).all (λx=>x.1.isSome)&&decide ([e].length+([]:List ZH).length+(if ([]:List ZH).isEmpty then 0 else 1)<30))=true:=by rfl)
  (dN:(ap.endLine==cp.line)=true:=by rfl) (hs:WZ [e] X.env=(false,eval e X.env)::WZ [] X.env:=by rfl) (dJ:(YM cp (WZ [] X.env)).any (·.1)=false:=by rfl)
  (wQ:Zl (.Call (.Attribute (.Name x px) "extend" ap) [e] [] cp) none pos.line X.env=pure false:=by rfl) :
  PB X C (.Expr (.Call (.Attribute (.Name x px) "extend" ap) [e] [] cp) pos) (λE β=>(∃ds,β[i]?=some (some (.own (.lst ds))))/\φ β λd _ β'=>∃ds es,d=.lst es/\D.bR es=true/\β'[i]?=some (some (.own (.lst ds)))/\ds.length+es.length<=W7/\E.nx (β'.set i (some (.own (.lst (ds++es)))))):=by
 refine⟨λE E' β l IL=>by obtain⟨h1,q⟩:=IL;exact⟨h1,he.mono _ _ _ (λd k β' Qi=>by obtain⟨ds,es,h1,h2,h3,h4,q⟩:=Qi;exact⟨ds,es,h1,h2,h3,h4,l.nx _ q⟩) q⟩,
  (pX (pos:=pos) (wy (apos:=ap) (cpos:=cp) PySem.F.plainAttrs_list PySem.F.slot_list_extend PySem.F.type_list_extend yc (dG (pos:=px) hN hv hd ir) (bf he.pe cN hs) dO my dN hs dJ) wQ).pre λD σ H ⟨Z,E,β,⟨own,s0,n⟩,⟨⟨VE,J9⟩,q⟩,ok⟩=>?_⟩
 obtain⟨a0,V_,A0,z1,z2,z3,z4⟩:=s0.sv J9;refine⟨.ref a0,z1,.inl ⟨rfl,_,c0.of z2⟩,tQ.of he s0 q λd kk β' v H1 aE ⟨ds,es,e1,f,hb,hl,q⟩ o r=>?_⟩;subst e1;obtain⟨b,us,rfl,Vk,_,rb⟩:=r.rep;obtain⟨a,vs,A,h1,h2,h3,h4⟩:=o.sq.sv hb;rw[z1]at h1;cases h1;have nd:=o.sq.m9 i;rw[h3]at nd;obtain⟨s2,hA⟩:=o.sq.putL (C:=C) (U:=λ_=>False) (U2:=λ_=>False) (ds':=ds++es) (vs':=vs++us) (A':=A) hb z1 h2 h3 (by simpa using h4.append (gv f rb)) (Xg.mp nd).2 (λc hc=>.inl hc) (λ_ z=>z) (λc hc n=>absurd hc n)
 exact⟨a0,b,vs,us,rfl,rfl,h2,Vk,by rw[h4.length,rb.length];exact hl,ok.nx _ _ _ ⟨_,s2,Dj (n.trans o.sn) (λ_ z=>z.elim) h2 (λxs z=>by cases z) ⟨i,by rw[h3];simp⟩ hA⟩ q⟩
end
end L2.Q
namespace L2
open PySem PySem.Spec PySem.SeqAt PyProof.Rows
section
end
namespace Q
section
variable {P:WI}{w:W6}{C:Cfg}{σ:St}{H:Hp}{β:a7}{own:Nat->List Addr}{lk:List (Option Nat)}{a:Addr}
theorem bY.Jx {o:HO}(ho:∀xs,o≠.tup xs)(s:bY P w C σ H β own)(ha:H a=none)(inj:∀(i i' j:Nat),lk[i]?=some (some j)->lk[i']?=some (some j)->i=i'):
  bY P w (C.u λc=>c=a) (dZ lk σ) (upd H a o) (cE lk β) (bu lk β own):=by
 have h0:C.H0 a=none:=XG λz=>s.iu a z ha;have q:=(s.enter ha inj).Hg (o:=o) aw (λxs z=>by cases z) h0
 have e:upd (upd H a (.lst [])) a o=upd H a o:=by
  funext b
  by_cases hb:b=a
  ·rw[hb,aw,aw]
  ·rw[ar hb,ar hb,ar hb]
 rwa [e]at q
end
section
end
end Q
end L2
namespace L2.Q
open PySem PySem.Spec PySem.SeqAt PyProof.Rows
abbrev LB (l:Bool)(ds:List D):D:=match l with|true=>.lst ds|false=>.tup ds
section
variable {P:WI}{w:W6}{H:Hp}{A:List Addr}{v:V}{ds:List D}{l:Bool}
theorem iP {m:Nat}{es:List D}(r:Own P w H (LB l ds) v A)(nd:A.Nodup)(hm:ds[m]?=some (.lst es)):∃a vs c us B,v=.ref a/\H a=some (match l with|true=>.lst vs|false=>.tup vs)/\vs.length=ds.length/\vs[m]?=some (.ref c)/\H c=some (.lst us)/\c∈A/\aI P w H es us B/\(∀x∈B,x∈A/\x≠c)/\B.Nodup /\
  ∀eC uC B',aI P w H eC uC B'->B'.Nodup->(∀x∈B',x∈B\/x∉A)->(∀x∈B',x≠c)->∃A',Own P w (upd H c (.lst uC)) (LB l (ds.set m (.lst eC))) v A'/\A'.Nodup/\∀x∈A',x∈A\/x∈B':=by
 have core:∀{vs:List V} {A:List Addr},A.Nodup->aI P w H ds vs A->∃c us B,vs[m]?=some (.ref c)/\H c=some (.lst us)/\c∈A/\aI P w H es us B/\(∀x∈B,x∈A/\x≠c)/\B.Nodup /\
   ∀eC uC B',aI P w H eC uC B'->B'.Nodup->(∀x∈B',x∈B\/x∉A)->(∀x∈B',x≠c)->∃A',aI P w (upd H c (.lst uC)) (ds.set m (.lst eC)) vs A'/\A'.Nodup/\(∀x∈A',x∈A\/x∈B'):=λ{vs A} nd os=>by
  have hl:=os.length;have U9:m<ds.length:=(W3.mp hm).1;obtain⟨u,A1,A2,A3,g1,rfl,g3,⟨c,us,B,rfl,h2,rfl,h4⟩,g5⟩:=os.split hm;obtain⟨Ej,H_,Lq⟩:=XF.mp nd;obtain⟨SJ,UB,SI⟩:=XF.mp H_;have UE:=(Xg.mp SJ).1;refine⟨c,us,B,g1,h2,by simp,h4,λx hx=>⟨by simp[hx],λz=>UE (by rw[<- z];exact hx)⟩,(Xg.mp SJ).2,λeC uC B' o' n' kL oS=>?_⟩
  have kt:∀b xs,H b=some (.tup xs)->upd H c (.lst uC) b=some (.tup xs):=λb xs z=>by rw[ar (λz'=>by rw[z',h2]at z;cases z)];exact z
  have n1:∀x∈A1,x≠c:=λx hx z=>Lq x hx c (by simp) z
  have n3:∀x∈A3,x≠c:=λx hx z=>SI c (by simp) x hx z.symm
  have off:∀x∈B',x∉A1/\x∉A3:=λx hx=>by
   rcases kL x hx with z|z
   ·exact⟨λq=>Lq x q x (by simp[z]) rfl,λq=>SI x (by simp[z]) x q rfl⟩
   ·exact⟨λq=>z (by simp[q]),λq=>z (by simp[q])⟩
  have N5:m<vs.length:=by lia
  have ev:vs=vs.take m++V.ref c::vs.drop (m+1):=by
   have e1:vs=vs.take m++vs.drop m:=(YL _ _).symm;rw[XE N5]at e1;have:vs[m]=V.ref c:=by
    have:=WR N5;rw[g1]at this;exact(Xp this).symm
   rwa [this]at e1
  refine⟨A1++((c::B')++A3),?_,XF.mpr ⟨Ej,XF.mpr ⟨Xg.mpr ⟨λz=>oS c z rfl,n'⟩,UB,λx hx y hy=>?_⟩,λx hx y hy z=>?_⟩,λx hx=>?_⟩
  ·rw[Zy,if_pos U9];have q:aI P w (upd H c (.lst uC)) (ds.take m++.lst eC::ds.drop (m+1)) (vs.take m++.ref c::vs.drop (m+1)) (A1++((c::B')++A3)) :=
    (g3.keep kt λx hx oc ec=>by rw[ar (n1 x hx)];exact ec).append ⟨.ref c,_,c::B',A3,rfl,rfl,⟨c,uC,B',rfl,aw,rfl,o'.keep kt λx hx oc ec=>by rw[ar (oS x hx)];exact ec⟩,g5.keep kt λx hx oc ec=>by rw[ar (n3 x hx)];exact ec⟩
   rw[<- ev]at q;exact q
  ·intro z;subst z;rcases WG.mp hx with rfl|hx
   ·exact n3 _ hy rfl
   ·exact(off x hx).2 hy
  ·subst z;rcases W4.mp hy with hy|hy
   ·rcases WG.mp hy with rfl|hy
    ·exact n1 _ hx rfl
    ·exact(off x hy).1 hx
   ·exact Lq x hx x (by simp[hy]) rfl
  ·rcases W4.mp hx with hx|hx
   ·exact .inl (by simp[hx])
   ·rcases W4.mp hx with hx|hx
    ·rcases WG.mp hx with rfl|hx
     ·exact .inl (by simp)
     ·exact .inr hx
    ·exact .inl (by simp[hx])
 cases l with
 |true =>
  obtain⟨a,vs,A',rfl,h2,rfl,h4⟩:=r;obtain⟨na,UD⟩:=Xg.mp nd;obtain⟨c,us,B,q1,q2,q3,q4,q5,q6,q7⟩:=core UD h4;have ca:c≠a:=λz=>na (by rw[<- z];exact q3)
  refine⟨a,vs,c,us,B,rfl,h2,h4.length,q1,q2,by simp[q3],q4,λx hx=>⟨by simp[(q5 x hx).1],(q5 x hx).2⟩,q6,λeC uC B' o' n' kL oS=>?_⟩
  obtain⟨A2,g1,g2,g3⟩:=q7 eC uC B' o' n' (λx hx=>(kL x hx).imp id λz q=>z (by simp[q])) oS
  refine⟨a::A2,⟨a,vs,A2,rfl,by rw[ar ca.symm];exact h2,rfl,g1⟩,Xg.mpr ⟨λz=>?_,g2⟩,λx hx=>?_⟩
  ·rcases g3 a z with z|z
   ·exact na z
   ·rcases kL a z with z|z
    ·exact na (q5 a z).1
    ·exact z (by simp)
  ·rcases WG.mp hx with rfl|hx
   ·exact .inl (by simp)
   ·exact(g3 x hx).imp (λz=>by simp[z]) id
 |false =>
  obtain⟨a,vs,rfl,h2,h4⟩:=r;obtain⟨c,us,B,q1,q2,q3,q4,q5,q6,q7⟩:=core nd h4;have ca:a≠c:=λz=>by rw[z,q2]at h2;cases h2
  refine⟨a,vs,c,us,B,rfl,h2,h4.length,q1,q2,q3,q4,q5,q6,λeC uC B' o' n' kL oS=>?_⟩;obtain⟨A2,g1,g2,g3⟩:=q7 eC uC B' o' n' kL oS;exact⟨A2,⟨a,vs,rfl,by rw[ar ca];exact h2,g1⟩,g2,g3⟩
end
section
variable {X:Cx}{C:Cfg}{e k:Expr}{φ φk:aQ}{i:Nat}{x:Str}{pos px kp ap cp:Pos}
theorem d7 (l:Bool)(he:∀U,PQ X (C.u U) true e φ)(hk:∀U,PQ X (C.u U) true k φk)(hN:X.N[i]?=some x:=by rfl)(hv:xm X.env.scope x:=by first|exact .inl rfl|exact .inr (.inl rfl)|exact .inr (.inr rfl))(hd:(x==("__debug__" : Str))=false:=by decide)(ir:(x==("__classdict__" : Str))=false:=by decide)
  (QW:k9 k:=by exact λ_ _=>rfl)
  (dO:Y8 (.Subscript (.Name x px) k kp) "append" X.env (eval (.Subscript (.Name x px) k kp) X.env)=eval (.Subscript (.Name x px) k kp) X.env:=by rfl)
  (my:((YM cp (WZ [e] X.env)).all (λx=>!x.1)&&(backToKw cp (Z5 [] X.env)).all (λx=>x.1.isSome)&&decide ([e].length+([]:List ZH).length+(if ([]:List ZH).isEmpty then 0 else 1)<30))=true:=by rfl)
  (dN:(ap.endLine==cp.line)=true:=by rfl) (hs:WZ [e] X.env=(false,eval e X.env)::WZ [] X.env:=by rfl) (dJ:(YM cp (WZ [] X.env)).any (·.1)=false:=by rfl)
  (wQ:Zl (.Call (.Attribute (.Subscript (.Name x px) k kp) "append" ap) [e] [] cp) none pos.line X.env=pure false:=by rfl) :
  PB X C (.Expr (.Call (.Attribute (.Subscript (.Name x px) k kp) "append" ap) [e] [] cp) pos) (λE β=>(∃d0,β[i]?=some (some (.own d0)))/\φk β λjd _ β1=>∃ds j m es,jd=.int j/\β1[i]?=some (some (.own (LB l ds)))/\wN ds.length j=some m/\ds[m]?=some (.lst es)/\φ β1 λd kd β2=>Ew kd d/\β2[i]?=some (some (.own (LB l ds)))/\es.length<W7/\E.nx (β2.set i (some (.own (LB l (ds.set m (.lst (es++[d]))))))) ):=by
 refine⟨λE E' β l MC=> by obtain⟨q0,q⟩ := MC;exact⟨q0,(hk λ_=>False).mono _ _ _ (λjd _ β1 MB=> by obtain⟨ds,j,m,es,h1,h2,h3,h4,q⟩ := MB;exact⟨ds,j,m,es,h1,h2,h3,h4,(he λ_=>False).mono _ _ _ (λd kd β2 MA=> by obtain⟨g1,g2,g3,q⟩ := MA;exact⟨g1,g2,g3,l.nx _ q⟩) q⟩) q⟩,λpins s σ H De I ⟨Z,E,β,⟨own,sq,n⟩,⟨⟨d0,Vi⟩,q⟩,ok⟩=>?_⟩
 have ix:GF X (λx y H Q=>KU X.K x y H Q\/KS X.K x y H Q):=λvalue slice pins s σ H x y v u Q I rx ry h hs=>h.elim (λh=>d9 value slice pins s σ H x y v u Q I rx ry h hs) λh=>Bl value slice pins s σ H x y v u Q I rx ry h hs;refine pX (pos:=pos) (wy (apos:=ap) (cpos:=cp) PySem.F.plainAttrs_list PySem.F.slot_list_append PySem.F.type_list_append jz (j4 (pos:=kp) ix (dG (pos:=px) hN hv hd ir) (hk λa=>H a=none).pe QW) (bf (he λa=>H a=none).pe cN hs) dO my dN hs dJ) wQ pins s σ H De I ?_;have Ub:=sq.qV (C:=C.z) (U:=λa=>H a=none) λa z=>z;obtain⟨v0,EE,_,_⟩:=sq.ow i d0 Vi;refine⟨v0,EE,tQ.of (hk λa=>H a=none) Ub q λjd kk β1 kv H1 aE ⟨ds,j,m,es,e1,hb,hj,hm,q⟩ o r=>?_⟩;subst e1;cases r.rep;obtain⟨v,LX,ow,h0⟩:=o.sq.ow i _ hb;rw[EE]at LX;cases LX;obtain⟨a,vs,c,us,B,rfl,q1,q2,q3,q4,q5,q6,q7,q8,q9⟩:=iP ow (o.sq.m9 i) hm;have Oo:nN vs j=some (.ref c):=by unfold nN;rw[q2,hj];exact q3
 have SA:NA X.K "list" (.ref c) H1/\FG (tQ X (C.u λa=>H a=none) true φ) Ky σ H1 λxs H2=>vZ (.ref c) xs H2 λ_ H1=>De.nx σ H1:=by
  refine⟨.inl ⟨rfl,us,c0.of q4⟩,tQ.of (he λa=>H a=none) o.sq q λd kd β2 v2 H2 aX ⟨f,Tf,hl,q⟩ o2 r2=>?_⟩;obtain⟨s2,e2⟩:=o2.pu rfl;obtain⟨v',S0,Pu,Wx⟩:=o2.sq.ow i _ Tf;rw[EE]at S0;cases S0;obtain⟨a',vs',c',uC,B',ea,p1,p2,p3,p4,p5,p6,p7,p8,p9⟩:=iP Pu (o2.sq.m9 i) hm;cases ea;have e3:=s2 _ _ q1;rw[p1]at e3;have ev:vs'=vs:=by cases l <;> (cases e3;rfl)
  subst ev;rw[q3]at p3;cases p3;have e4:=s2 _ _ q4;rw[p4]at e4;cases e4;obtain⟨A,r1,rn,r3⟩:=r2.fl f;have HY:∀x∈A,x∉aX i:=λx hx z=>(r3 x hx).2.1 ⟨i,z⟩;obtain⟨A',g1,g2,g3⟩:=p9 (es++[d]) (us++[v2]) (B'++A) (p6.append (aI.one r1)) (XF.mpr ⟨p8,rn,λx hx y hy z=>HY y hy (by rw[<- z];exact(p7 x hx).1)⟩)
   (λx hx=>(W4.mp hx).imp id (HY x)) (λx hx z=>by
    rcases W4.mp hx with hx|hx
    ·exact(p7 x hx).2 z
    ·exact HY x hx (by rw[z];exact p5))
  have hA:∀x∈A',x∈aX i\/(C.H0 x=none/\¬ Wn aX x/\H x=none):=λx hx=>by
   rcases g3 x hx with z|z
   ·exact .inl z
   ·rcases W4.mp z with z|z
    ·exact .inl (p7 x z).1
    ·exact .inr ⟨(r3 x z).2.2,(r3 x z).2.1,o.sn.free (r3 x z).1⟩
  exact⟨c,us,v2,rfl,rfl,p4,by rw[p6.length];exact hl,ok.nx _ _ _ ⟨_,o2.sq.putIn (C:=C) (U:=λa=>H a=none) Tf EE p5 g1 g2 hA,pR ((n.trans o.sn).trans o2.sn) (λb z=>n.free z) ⟨i,p5⟩ ⟨_,p4,λxs z=>by cases z⟩ hA⟩ q⟩
 cases l with
 |true=>exact .inl ⟨a,vs,j,.ref c,rfl,rfl,c0.of q1,Oo,SA⟩
 |false=>exact .inr ⟨a,vs,j,.ref c,rfl,rfl,t9.of q1,Oo,SA⟩
end
end L2.Q
namespace L2
open PySem PySem.Spec PySem.SeqAt PyProof.Rows
theorem SV {b:Bool}{p q:Prop}(h1:b=true->p)(h2:b=false->q):(if b=true then p else q):=by
 cases b
 ·exact iX rfl (h2 rfl)
 ·exact yZ rfl (h1 rfl)
def fX (a b c d:Int):Bool:=(decide (a<c)&&(decide (c<b)&&decide (b<d))) || (decide (c<a)&&(decide (a<d)&&decide (d<b)))
structure Bs2 (mg:Str->Option WC):Prop extends Bs mg where
 F2:mg "isinstance" = none
 tuple:mg "tuple" = none
 str:mg "str" = none
 bool:mg "bool" = none
 zip:mg "zip" = none
 enumerate:mg "enumerate" = none
theorem Cr:XC "str" = some (.type "str"):=by decide +kernel
theorem nQ {ds:List D}{d:D}(h:d∈iw ds ds):∃a∈ds,d=.tup [a,a]:=by
 obtain⟨i,hi⟩:=List.mem_iff_getElem?.mp h;obtain⟨a,b,h1,h2,rfl⟩:=k_ hi;rw[h1]at h2;cases h2;exact⟨a,XB h1,rfl⟩
inductive FA:D->Prop
 |int (i:Int):FA (.int i)
 |str (s:Str) (h:PyData.strOk s=true):FA (.str s)
 |bU:FA .bU
theorem xF (x:Str)(h:PyData.strOk x=true):(D.str x).pd.canLay0=true/\(D.str x).pd.depth<=1:=⟨by simp[D.pd,Yb,h],by simp[D.pd,Y0]⟩
theorem i7 {d:D}{n:Nat}(h:d.pd.canLay0=true/\d.pd.depth<=n)(hn:n<=64:=by decide):JC d d=some (.bl true):=vz (c9 h hn) (c9 h hn) (eqv_refl _ h.1)
theorem eT {d:D}{n:Nat}(h:d.pd.canLay0=true/\d.pd.depth<=n)(hn:n<=64:=by decide):M8 d d=some (.bl false):=Ca (c9 h hn) (c9 h hn) (eqv_refl _ h.1)
end L2
namespace L2.Q
open PySem PySem.Spec PySem.SeqAt PyProof.Rows
structure uc (X:Cx)(C:Cfg)(p:Bool)(ifs:List Expr)(τ:bb):Prop where
 mono:∀β R R',(∀d β,R d β->R' d β)->τ β R->τ β R'
 pt:ub X ifs (jS X C p τ)
theorem c7 {X:Cx}{C:Cfg}:uc X C true [] Kr:=⟨λ_ _ _ k h=>k _ _ h,An⟩
theorem jo {X:Cx}{C:Cfg}{p:Bool}{c:Expr}{τ:bb}(h:yR X C p c τ):uc X C p [c] τ:=⟨h.mono,Am h⟩
section
variable {X:Cx}{C:Cfg}{lk:List (Option Nat)}{γ:df}{τ:bb}{φ:aQ}{T:List Nat}{pc pe pi:Bool}{scope:Zv}{N':List Str}{tg cy elt:Expr}{ifs:List Expr}{ι:cH}{pos pos' rh:Pos}{y:Str}{i:Nat}
theorem LG (N':List Str)(lk:List (Option Nat))(L:hV X.env.scope.names X.N scope N' lk=true)(sS:N'.Nodup)(hc:X.calm=true)(hi:xn X C pi tg cy ι)
  (oQ:∀U cl c s H ex,xp (aB X scope N' cl c s H ex) (C.u U) tg T γ) (kZ:∀U cl c s H ex,uc (aB X scope N' cl c s H ex) (C.u U) pc ifs τ) (mz:∀U cl c s H ex,PQ (aB X scope N' cl c s H ex) (C.u U) pe elt φ)
  (hT:T.all (λi=>match lk[i]? with|some (some _)=>false|_=>true)=true:=by rfl) (hs:∀x,XI cy X.env x=pure x:=by intro _;rfl):PQ X C (pi&&(pc&&pe)) (.ListComp elt [⟨tg,cy,ifs,0⟩] scope pos) (v3 lk ι γ τ φ) :=
 K9 (Links.of L) sS hT hc hi (λa=>oQ _) (λa cl c s H ex=>(kZ _ cl c s H ex).pt) (kZ (λ_=>False) [] 0 X.s₀ X.H₀ []).mono (λa=>mz _) (oQ (λ_=>False) [] 0 X.s₀ X.H₀ []).mono (mz (λ_=>False) [] 0 X.s₀ X.H₀ []).mono hs
theorem rF (o:Bool)(N':List Str)(lk:List (Option Nat))(L:hV X.env.scope.names X.N scope N' lk=true)(sS:N'.Nodup)(hc:X.calm=true)(hi:∀U,xn X (C.u U) pi tg cy ι)
  (oQ:∀U cl c s H ex,xp (aB X scope N' cl c s H ex) (C.u U) tg T γ) (kZ:∀U cl c s H ex,uc (aB X scope N' cl c s H ex) (C.u U) pc ifs τ) (mz:∀U cl c s H ex,PQ (aB X scope N' cl c s H ex) (C.u U) pe elt φ)
  (hN:X.N.Nodup) (hT:T.all (λi=>match lk[i]? with|some (some _)=>false|_=>true)=true:=by rfl) (hy:X.N[i]?=some y:=by rfl) (hx:Loc X.env.scope y:=by first|exact .inl rfl|exact .inr rfl) (hf:X.fn y=true\/X.env.scope.names.lookup y=some .local:=by first|exact .inl rfl|exact .inr rfl|assumption)
  (wQ:Zl (.ListComp elt [⟨tg,cy,ifs,0⟩] scope pos) (some (.Name y pos')) rh.line X.env=pure true:=by rfl)
  (Jk:evalThenUse (.ListComp elt [⟨tg,cy,ifs,0⟩] scope pos) X.env (assign (.Name y pos') X.env)=(do let _ <- comprehension (.ListComp elt [⟨tg,cy,ifs,0⟩] scope pos) scope X.env (firstIterPos [⟨tg,cy,ifs,0⟩] pos) (newList []) false (eval cy X.env) (some (assign (.Name y pos') X.env));pure ()):=by first|rfl|exact arm_evalThenUse_ListComp ..)
  (hs:∀x,XI cy X.env x=pure x:=by intro _;rfl) :
  PB X C (.Assign [.Name y pos'] (.ListComp elt [⟨tg,cy,ifs,0⟩] scope pos) rh) (λE β=>v3 lk ι γ τ φ β λd _ β'=>E.nx (β'.set i (some (match o with|true=>.own d|false=>.val true d)))) :=
 K6 (K:=λ_ _ _=>True) (Links.of L) sS hT hc hi oQ (λU cl c s H ex=>(kZ U cl c s H ex).pt) (kZ (λ_=>False) [] 0 X.s₀ X.H₀ []).mono mz (oQ (λ_=>False) [] 0 X.s₀ X.H₀ []).mono (mz (λ_=>False) [] 0 X.s₀ X.H₀ []).mono o hN hy hx hf wQ Jk hs
theorem br:GF X (xS X tN NF):=λvalue slice pins s σ H x y v u Q I rx ry ⟨W,d1,d2,d,hd,r1,r2,e,q⟩ hs =>
 ID value slice pins s σ H x y v u Q I rx ry ⟨W,d1,d2,d,hd,r1,r2,e,λv H' s r=>q v H' s r λf=>az.flat f r⟩ hs
end
section
variable {P:WI}{w:W6}{K:PySem.W.Frag}{mg:Str->Option WC}{base:Heap}{k:Nat}{f:Addr}{fd:Xx}{ps:List Str}
def tE:FD:=λds R=>∃c:Int,ds=[.int c]/\∀ns,jk ns->R (.lst (ns.map D.int))
theorem tE.mono:c5 tE:=λds R R' k ⟨c,e,q⟩=>⟨c,e,λns o=>k _ (q ns o)⟩
theorem Jn (G:aM P w K mg base bZ k f fd ps zO):aM P w K mg base bZ k f fd ps (dX P w true tE):=G.imp λvs H Q E h=>by
 obtain⟨ds,r,c,rfl,q⟩:=h;obtain⟨x,rr,rfl,hx,hr⟩:=r;cases (show rr=[] from hr)
 cases (show x=V.int c from hx)
 refine⟨c,rfl,λp H' hp hd sm=>?_⟩;obtain⟨ns,e,o⟩:=hd.ok;have rep:∀ns:List Int,aI P w H' (ns.map D.int) (ns.map V.int) []:=λns=>by
  induction ns with
  |nil=>exact⟨rfl,rfl⟩
  |cons n ns ih=>exact⟨_,_,[],[],rfl,rfl,⟨rfl,rfl⟩,ih⟩
 exact q ns o _ H' sm ⟨[p],⟨p,_,[],rfl,e,rfl,rep ns⟩,by simp,λc hc=>by rw[WN.mp hc];exact hp⟩
theorem uE {ro:Bool}(G:aM P w K mg base bZ k f fd ps zM):aM P w K mg base bZ k f fd ps (kB P w jk ro cZ):=G.imp λvs H Q E h=>by
 obtain⟨h,vs',ds,ns,rfl,e,o,r,n,rfl,n1,n2,q⟩:=h;obtain⟨x,rr,rfl,hx,hr⟩:=r;cases (show rr=[] from hr)
 cases (show x=V.int n from hx)
 refine⟨h,n,rfl,o.hand e,n1,n2,λr H' r0 r1 hd fm=>?_⟩;obtain⟨ou,e',o'⟩:=hd.ok;refine q r r0 r1 _ H' ou ⟨λb u hb nb=>fm b u hb nb,λb xs hb=>fm b _ hb λz=>by rw[z,e]at hb;cases hb⟩ (λc hc z=>?_) e' o' (eQ (W:=λ_=>False) rfl rfl)
 by_cases sQ:c=h
 ·rw[sQ,e']at z;cases z
 ·cases q:H c with
  |none=>exact hc q
  |some u=>rw[fm c u q sQ]at z;cases z
end
end L2.Q
namespace ku
open PySem L2 L2.Q
def top (i:Nat):Stmt:=PySem.Challenge.pw_archrow_k10_sets_with_the_most.main.body.getD i (.Pass ⟨0,0,0,0⟩)
abbrev bI:Stmt:=top 1
abbrev cS:Stmt:=top 2
abbrev dk:Stmt:=top 3
abbrev b5:Stmt:=top 4
abbrev cT:Stmt:=top 5
abbrev cA:Stmt:=top 6
abbrev cB:Stmt:=top 7
abbrev gf:Stmt:=top 8
abbrev gg:Stmt:=top 9
abbrev e9:Stmt:=top 11
abbrev cf:Stmt:=top 12
abbrev e_:Stmt:=top 13
abbrev dE:Stmt:=top 15
abbrev dD:Stmt:=top 16
abbrev ff:Stmt:=top 17
abbrev fb:Stmt:=top 18
abbrev gh:Stmt:=top 19
abbrev d4:Stmt:=top 20
abbrev fc:Stmt:=top 21
abbrev d3:Stmt:=top 22
abbrev fe:Stmt:=top 23
abbrev gj:Stmt:=top 24
abbrev dq:Stmt:=top 25
abbrev lH:Stmt:=top 26
abbrev D0 (K:PySem.W.Frag)(mg:Str->Option WC)(f:Addr)(fd:Xx):Prop:=Df K mg "_law_arcs" ff ["hand","many"] f fd
abbrev D1 (K:PySem.W.Frag)(mg:Str->Option WC)(f:Addr)(fd:Xx):Prop:=Df K mg "_law_take" dD ["hand","many"] f fd
abbrev D2 (K:PySem.W.Frag)(mg:Str->Option WC)(f:Addr)(fd:Xx):Prop:=Df K mg "_law_ties" fb ["hand","many"] f fd
abbrev D3 (K:PySem.W.Frag)(mg:Str->Option WC)(f:Addr)(fd:Xx):Prop:=Df K mg "_law_row" gh ["hand"] f fd
abbrev D4 (K:PySem.W.Frag)(mg:Str->Option WC)(f:Addr)(fd:Xx):Prop:=Df K mg "stretches_rising" bI ["many"] f fd
abbrev D5 (K:PySem.W.Frag)(mg:Str->Option WC)(f:Addr)(fd:Xx):Prop:=Df K mg "partners_of" cS ["row"] f fd
abbrev D6 (K:PySem.W.Frag)(mg:Str->Option WC)(f:Addr)(fd:Xx):Prop:=Df K mg "number_with" cT ["worth","table","i","k","j"] f fd
abbrev D7 (K:PySem.W.Frag)(mg:Str->Option WC)(f:Addr)(fd:Xx):Prop:=Df K mg "least_number" cA ["partners","worth","table","i","j"] f fd
abbrev D8 (K:PySem.W.Frag)(mg:Str->Option WC)(f:Addr)(fd:Xx):Prop:=Df K mg "greatest_table" b5 ["row","worth"] f fd
abbrev D9 (K:PySem.W.Frag)(mg:Str->Option WC)(f:Addr)(fd:Xx):Prop:=Df K mg "one_each" e_ ["row"] f fd
abbrev RZ (K:PySem.W.Frag)(mg:Str->Option WC)(f:Addr)(fd:Xx):Prop:=Df K mg "table_of" e9 ["row"] f fd
abbrev OD (K:PySem.W.Frag)(mg:Str->Option WC)(f:Addr)(fd:Xx):Prop:=Df K mg "parts_left" dk ["i","k","j"] f fd
abbrev RY (K:PySem.W.Frag)(mg:Str->Option WC)(f:Addr)(fd:Xx):Prop:=Df K mg "best_choices" cB ["partners","worth","table","i","j"] f fd
abbrev OC (K:PySem.W.Frag)(mg:Str->Option WC)(f:Addr)(fd:Xx):Prop:=Df K mg "ways_in" gf ["counts","parts"] f fd
abbrev RX (K:PySem.W.Frag)(mg:Str->Option WC)(f:Addr)(fd:Xx):Prop:=Df K mg "ways_by" gg ["counts","choices","i","j"] f fd
abbrev TC (K:PySem.W.Frag)(mg:Str->Option WC)(f:Addr)(fd:Xx):Prop:=Df K mg "how_many_most" cf ["row"] f fd
abbrev TB (K:PySem.W.Frag)(mg:Str->Option WC)(f:Addr)(fd:Xx):Prop:=Df K mg "_law_table" d3 ["row"] f fd
abbrev OB (K:PySem.W.Frag)(mg:Str->Option WC)(f:Addr)(fd:Xx):Prop:=Df K mg "_law_cross" d4 ["one","other"] f fd
abbrev RW (K:PySem.W.Frag)(mg:Str->Option WC)(f:Addr)(fd:Xx):Prop:=Df K mg "_law_meet" fe ["one","other"] f fd
abbrev Tz (K:PySem.W.Frag)(mg:Str->Option WC)(f:Addr)(fd:Xx):Prop:=Df K mg "_law_all" gj ["row"] f fd
abbrev RV (K:PySem.W.Frag)(mg:Str->Option WC)(f:Addr)(fd:Xx):Prop:=Df K mg "_law_same" fc ["found","due"] f fd
abbrev Tx (K:PySem.W.Frag)(mg:Str->Option WC)(f:Addr)(fd:Xx):Prop:=Df K mg "_law_copied" dq ["row"] f fd
abbrev V5 (K:PySem.W.Frag)(mg:Str->Option WC)(f:Addr)(fd:Xx):Prop:=Df K mg "_law_hand" dE ["cell"] f fd
section
variable {P:WI}{w:W6}{K:PySem.W.Frag}{mg:Str->Option WC}{base:Heap}
theorem rD:aK ["cell"] ["cell"] (ay dE):=⟨rfl,rfl,rfl,by decide +kernel,rfl,by decide +kernel,by decide +kernel⟩
theorem DX {f:Addr} {fd:Xx} (F:CW K "_law_hand" "_law_hand" dE f fd) (B:V6 mg):aM P w K mg base bZ 1 f fd ["cell"] zO:=by
 refine F.ok rD (λvs H Q E h=>?_) (λcJ A outer s H vs Q E hr h=>?_)
 ·obtain⟨c,rfl,_⟩:=h;rfl
 ·obtain⟨c,rfl,k⟩:=h;refine⟨_,iH (jw (uW (bf (iM (pz rfl) (by rfl) B.max mY (bf a8 (bf (cW AD (pv 0) (cW qe a8 a8)) cN)))
   (bf (cW uX (cW uY (cW lS (pv 0) a8) a8) (om jL (by rfl) B.int vD (bf (wu Lc (pv 0) (cW qe a8 a8) (AR _)) cN))) cN)))),?_⟩
  refine⟨_,rfl,_,_,rfl,rfl,Av,_,_,rfl,rfl,_,_,rfl,?_⟩;have m1:=kU (a:=c) (b:=2147483629) (by decide)
  refine⟨_,rfl,_,_,rfl,rfl,(by show (0:Int)<2147483629;decide),_,_,rfl,rfl,_,rfl,_,_,rfl,rfl,Av,rfl,.inr ⟨_,rfl,_,_,rfl,rfl,.inl ⟨by lia,by lia⟩,?_⟩⟩
  refine⟨(by show 2<=W7;decide),λp hp=>k p _ hp ⟨_,_,aw,?_,?_⟩ (au.new hp)⟩
  ·split <;> lia
  ·split <;> constructor <;> lia
theorem jV:aK ["hand","many","taken"] ["hand","many"] (ay dD):=⟨rfl,rfl,rfl,by decide +kernel,rfl,by decide +kernel,by decide +kernel⟩
theorem Pr {y:Int}(h:0<=y)(h':y<2147483647):CJ (y+1) 7:=⟨by decide,by decide,by lia⟩
theorem qh {f:Addr} {fd:Xx} (F:CW K "_law_take" "_law_take" dD f fd):aM P w K mg base bZ 1 f fd ["hand","many"] zM:=by
 refine F.ok jV (λvs H Q E h=>?_) (λcJ A outer s H vs Q E hr h=>?_)
 ·obtain⟨h,n,rfl,_⟩:=h;rfl
 ·obtain⟨h,n,rfl,⟨x,y,hx,x0,y0,y1⟩,n0,n1,k⟩:=h;refine⟨_,dF (FJ (v8 FP (j4 d9 (pv 0) a8 (λ_ _=>rfl)) a8 (AR _))
    (dF (uR (i:=2) jV.nd rfl (Or.inl rfl) (cW lS (j4 d9 (pv 0) a8 (λ_ _=>rfl)) (pv 1)))
    (dF (pY (cW rT (j4 d9 (pv 0) a8 (λ_ _=>rfl)) (pv 1)) (uV (pv 0) a8 set_list))
    (iH (jw (pv 2))))) v9)
   (dF (pY (cW lS (cW uX (j4 d9 (pv 0) a8 (λ_ _=>rfl)) a8) a8) (uV (pv 0) a8 set_list))
   (iH (jw (cW lS (cW rT (cW qe (cW uY (j4 d9 (pv 0) a8 (λ_ _=>rfl)) a8) a8) a8) (pv 1))))),?_⟩
  refine⟨_,rfl,h,_,_,_,rfl,rfl,c0.of hx,rfl,_,_,rfl,rfl,_,rfl,?_⟩;refine PZ (λhp=>?_) (λhp=>?_)
  ·refine⟨_,rfl,h,_,_,_,rfl,rfl,c0.of hx,rfl,_,rfl,_,_,rfl,rfl,n0,?_⟩;refine⟨_,rfl,h,_,_,_,rfl,rfl,c0.of hx,rfl,_,rfl,_,_,rfl,rfl,ug.of n0 n1,?_⟩;refine⟨_,rfl,h,_,_,0,rfl,rfl,hx,rfl,?_⟩;have m:=kU (a:=x) n0;exact⟨_,rfl,k _ _ m.1 m.2 ⟨_,_,aw,Int.ediv_nonneg x0 (Int.le_of_lt n0),y0,y1⟩ Fm.upd⟩
  ·have m1:=kU (a:=y*48271) (b:=2147483647) (by decide)
   refine⟨_,rfl,h,_,_,_,rfl,rfl,c0.of hx,rfl,_,_,rfl,rfl,.inr ⟨by decide,by decide⟩,_,_,rfl,rfl,(by show (0:Int)<2147483647;decide),?_⟩
   refine⟨_,rfl,h,_,_,1,rfl,rfl,hx,rfl,?_⟩;refine⟨_,rfl,h,_,_,_,rfl,rfl,c0.of aw,rfl,_,_,rfl,rfl,_,_,rfl,rfl,Pr m1.1 m1.2,_,_,rfl,rfl,ug.of (by decide) (by decide),_,rfl,_,_,rfl,rfl,n0,?_⟩
   have m:=kU (a:=(y*48271 % 2147483647+1) ^ (7:Int).toNat / 8) n0;exact k _ _ m.1 m.2 ⟨_,_,aw,x0,m1.1,m1.2⟩ Fm.upd
theorem cV:aK ["hand","many","found","piled","point","way"] ["hand","many"] (ay ff):=⟨rfl,rfl,rfl,by decide +kernel,rfl,by decide +kernel,by decide +kernel⟩
theorem DZ {Gk s_} (dA:D0 K mg Gk s_) {Ju vp} (dT:D1 K mg Ju vp) (B:Bs mg):aM P w K mg base bZ 2 Gk s_ ["hand","many"] (kB P w jk true tH):=by
 have GT:aM P w K mg base bZ 1 _ _ _ (kB P w jk true cZ):=uE (qh dT.F);refine HX dA.F cV (λds R Mz=> by obtain⟨n,e,_⟩ := Mz;subst e;rfl) λcJ A outer s H E IO hr=>⟨_,(aj (fh (i:=2) (λ_=>(bh ae)) cV.nd)
    (aj (fh (i:=3) (λ_=>(bh ae)) cV.nd)
    (aj (b9 XM rfl (bg B.range (aa (ab (i:=1)) ae)) (ak (i:=4) cV.nd) (aj (a9 (i:=5) (bO (ih:=0) cZ.mono GT (hr.mono (by decide)) dT.m dT.F.kp dT.b (aa ag ae)) cV.nd)
    (aj (cv (aS af (b8.m (cq hr.units)) (ab (i:=5)) ag) (ao (cM (i:=3) (λ_=>(ab (i:=4))))) a5)
    (ao (cv (yQ.t (v_ (aS af (b8.m (cq hr.units)) (ab (i:=5)) ag) (rN (aS af (b8.m (lT hr.units)) (ab (i:=3)) (bh ae))))) (ao (cM (i:=2) (λ_=>(cn (aa (Ht (i:=3)) (aa (ab (i:=4)) ae)))))) a5)))))
    (ao (aY (ba aL qJ B.sorted jN (aa (ab (i:=2)) ae))))))),λds R h=>?_⟩
 obtain⟨n,rfl,n0,n1,q⟩:=h;refine⟨WV _,trivial,WV _,trivial,_,rfl,trivial,n,rfl,by omega,by omega,trivial,?_⟩
 refine⟨λi β=>∃(fs:List (List Int)) (ps:List Int) (x4 x5:Option Q.B),β=[some (.hand jk),some (.val false (.int n)),some (.own (.lst (fs.map kD))),some (.own (.lst (ps.map D.int))),x4,x5]/\fs.length<=i/\ps.length<=i/\i<=n.toNat/\bz n fs/\(∀p∈ps,0<=p/\p<i),⟨[],[],_,_,rfl,WD _,WD _,WV _,bz.nil,λ_ z=>(nomatch z)⟩,?_,?_⟩
 ·rintro i d β hd ⟨fs,ps,x4,x5,rfl,h1,h2,h3,h4,h5⟩;obtain⟨hi,rfl⟩:=cb hd;refine⟨rfl,trivial,rfl,trivial,3,rfl,by omega,by omega,λr r0 r1=>?_⟩
  refine⟨_,rfl,trivial,_,ck _ _,_,rfl,?_⟩;have fin:∃(yx:List (List Int)) (Pp:List Int) (x4 x5:Option Q.B),[some (.hand jk),some (.val false (.int n)),some (.own (.lst (fs.map kD))),some (.own (.lst (ps.map D.int))),some (.val true (.int (0+(i:Int)))),some (.val true (.int r))]=[some (.hand jk),some (.val false (.int n)),some (.own (.lst (yx.map kD))),some (.own (.lst (Pp.map D.int))),x4,x5]/\yx.length<=i+1/\Pp.length<=i+1/\i+1<=n.toNat/\bz n yx/\(∀p∈Pp,0<=p/\p<((i+1:Nat):Int)) :=
    ⟨fs,ps,_,_,rfl,by omega,by omega,by omega,h4,λp hp=>by have:=h5 p hp;omega⟩
  refine m_ (λDz=>?_) (λDz=>?_)
  ·refine⟨⟨_,rfl⟩,_,rfl,trivial,_,rfl,by rw[WB,XO];omega,?_⟩
   refine⟨_,rfl,trivial,_,ck _ _,_,rfl,iX (by simp[Dz]) (iX rfl ?_)⟩
   refine⟨fs,ps++[0+(i:Int)],_,_,by rw[zQ];rfl,by omega,by simp;omega,by omega,h4,λp hp=>?_⟩
   rcases W4.mp hp with z|z
   ·have:=h5 p z;omega
   ·rw[WN.mp z];omega
  ·refine⟨_,rfl,trivial,_,ck _ _,_,rfl,m_ (λr2=>?_) (λr2=>iX rfl fin)⟩;refine⟨_,rfl,trivial,WV _,_,Cb ps [],_,rfl,UQ (λhp=>?_) (λhp=>fin)⟩;obtain⟨qs,p,rfl⟩:∃qs p,ps=qs++[p]:=⟨ps.dropLast,ps.getLast hp,(List.dropLast_concat_getLast hp).symm⟩;have J4:=h5 p (by simp)
   rw[Xi,Y9]at h2;refine⟨⟨_,rfl⟩,qs.map D.int,.int p,by simp,trivial,_,rfl,trivial,qZ,trivial,fs.map kD,rfl,by rw[WB,XO];omega,?_⟩
   refine⟨fs++[[p,0+(i:Int)]],qs,_,_,by rw[kS];rfl,by simp;omega,by omega,by omega,h4.app (bz.one (by omega) (by omega) (by omega)),λx hx=>?_⟩
   have:=h5 x (by simp[hx])
   omega
 ·rintro β ⟨fs,ps,x4,x5,rfl,h1,h2,h3,h4,h5⟩;rw[cC]at h1;refine⟨_,rfl,trivial,_,uL h4.ne (by omega),.inl ⟨dP _,trivial,rfl,q _ ?_ (zI h4)⟩⟩
  rw[(eO fs).length_eq];exact h1
end
section
variable {P:WI}{w:W6}{K:PySem.W.Frag}{mg:Str->Option WC}{base:Heap}
theorem aT:aK ["hand","many","way","found","k","one","other","reach","kinds","wide"] ["hand","many"] (ay fb):=⟨rfl,rfl,rfl,by decide +kernel,rfl,by decide +kernel,by decide +kernel⟩
def T9 (n way:Int)(f:Q.B)(β:Q.a7):Prop:=∃x4 x5 x6 x7 x8 x9:Option Q.B,β=[some (.hand jk),some (.val false (.int n)),some (.val true (.int way)),some f,x4,x5,x6,x7,x8,x9]
theorem DU {Kb yy} (dI:D2 K mg Kb yy) {Ju vp} (dT:D1 K mg Ju vp) {Gk s_} (dA:D0 K mg Gk s_) (B:Bs mg):aM P w K mg base bZ 3 Kb yy ["hand","many"] (kB P w jk true tw):=by
 have GT:aM P w K mg base bZ 1 _ _ _ (kB P w jk true cZ):=uE (qh dT.F);have GA:aM P w K mg base bZ 2 _ _ _ (kB P w jk true tH):=DZ dA dT B;refine HX dI.F aT (λds R My=> by obtain⟨n,e,_⟩ := My;subst e;rfl) λcJ A outer s H E IO hr=>⟨_,(aj (a9 (i:=2) (bO (ih:=0) cZ.mono GT (hr.mono (by decide)) dT.m dT.F.kp dT.b (aa ag ae)) aT.nd)
    (aj (fh (i:=3) (λ_=>(bh ae)) aT.nd)
    (fg (cv (yQ.t (uS (aS af (b8.m (cq hr.units)) (ab (i:=2)) ag) (pZ (aS af (b8.m (cq hr.units)) (ab (i:=2)) ag)))) (ao (b9 XM rfl (bg B.range (aa (bO (ih:=0) cZ.mono GT (hr.mono (by decide)) dT.m dT.F.kp dT.b (aa (aO af br (bh (aa ag (aa ag (aa ag ae)))) (bO (ih:=0) cZ.mono GT (hr.mono (by decide)) dT.m dT.F.kp dT.b (aa ag ae))) ae)) ae)) (ak (i:=4) aT.nd) (aj (a9 (i:=5) (bO (ih:=0) cZ.mono GT (hr.mono (by decide)) dT.m dT.F.kp dT.b (aa (ab (i:=1)) ae)) aT.nd)
    (aj (a9 (i:=6) (aH af (b8.m DT) (aH aL aC (aH aL aC (ab (i:=5)) ag) (bO (ih:=0) cZ.mono GT (hr.mono (by decide)) dT.m dT.F.kp dT.b (aa (aH af (b8.m bA) (ab (i:=1)) ag) ae))) (ab (i:=1))) aT.nd)
    (ao (cM (i:=3) (λ_=>(cn (aa (ba af (bH.m (ij rfl)) B.min vC (aa (ab (i:=5)) (aa (ab (i:=6)) ae))) (aa (ba af (bH.m (vA rfl)) B.max mY (aa (ab (i:=5)) (aa (ab (i:=6)) ae))) ae)))))))))) a5)
    (aj (a9 (i:=7) (aH aL aC ag (bO (ih:=0) cZ.mono GT (hr.mono (by decide)) dT.m dT.F.kp dT.b (aa ag ae))) aT.nd)
    (fg (cv (aS af (b8.m (cq hr.units)) (ab (i:=2)) ag) (ao (b9 XM rfl (bg B.range (aa (ab (i:=1)) ae)) (ak (i:=5) aT.nd) (ao (b9 XM rfl (g9 B.range (aa (aH aL aC (ab (i:=5)) ag) (aa (ba af (bH.m (ij rfl)) B.min vC (aa (ab (i:=1)) (aa (aH aL aC (aH aL aC (ab (i:=5)) ag) (ab (i:=7))) ae))) ae))) (ak (i:=6) aT.nd) (ao (cv (aS af (b8.m AH) (bO (ih:=0) cZ.mono GT (hr.mono (by decide)) dT.m dT.F.kp dT.b (aa ag ae)) ag) (ao (cM (i:=3) (λ_=>(cn (aa (ab (i:=5)) (aa (ab (i:=6)) ae)))))) a5)))))) a5)
    (fg (cv (aS af (b8.m (cq hr.units)) (ab (i:=2)) ag) (aj (a9 (i:=8) (LG ["point","hand"] [none,some 0] (by rfl) (by decide:(["point","hand"]:List Str).Nodup) rfl (bg B.range (aa (ab (i:=1)) ae)) (λ_ _ _ _ _ _=>(ak (i:=0) (by decide:(["point","hand"]:List Str).Nodup))) (λ_ _ _ _ _ _=>c7) (λ_ _ _ _ _ _=>(bO (ih:=1) cZ.mono GT (hr.mono (by decide)) dT.m dT.F.kp dT.b (aa ag ae)))) aT.nd)
    (aj (a9 (i:=9) (aO af br (bh (aa (ab (i:=1)) (aa ag ae))) (jx af (bH.m yM) B.int vD (aa (g_ af (b8.m AH) (ab (i:=1)) ag) ae))) aT.nd)
    (ao (b9 XM rfl (bg B.range (aa (ab (i:=1)) ae)) (ak (i:=5) aT.nd) (ao (xY (i:=3) (LG ["k","one","kinds"] [none,some 5,some 8] (by rfl) (by decide:(["k","one","kinds"]:List Str).Nodup) rfl (g9 B.range (aa (aH aL aC (ab (i:=5)) ag) (aa (ba af (bH.m (ij rfl)) B.min vC (aa (ab (i:=1)) (aa (aH aL aC (ab (i:=5)) (ab (i:=9))) ae))) ae))) (λ_ _ _ _ _ _=>(ak (i:=0) (by decide:(["k","one","kinds"]:List Str).Nodup))) (λ_ _ _ _ _ _=>(jo (aS af (b8.m (cq hr.units)) (aH aL aC (aO af br (ab (i:=2)) (ab (i:=1))) (aO af br (ab (i:=2)) (ab (i:=0)))) ag))) (λ_ _ _ _ _ _=>(cn (aa (ab (i:=1)) (aa (ab (i:=0)) ae))))))))))) a5)
    (fg (cv (aS af (b8.m (cq hr.units)) (ab (i:=2)) ag) (ao (fh (i:=3) (λ_=>(aH aL aC (As (i:=3)) (bO (ih:=0) tH.mono GA (hr.mono (by decide)) dA.m dA.F.kp dA.b (aa (ab (i:=1)) ae)))) aT.nd)) a5)
    (ao (aY (K7 (ba aL (qI rfl) B.sorted jN (aa (jx af (bH.m (yL rfl hr.vK)) B.set JM (aa (ab (i:=3)) ae)) ae)) Aq (Ao ag))))))))))),λds R h=>?_⟩
 obtain⟨n,rfl,n0,n1,q⟩:=h;refine⟨rfl,trivial,rfl,trivial,5,rfl,by lia,by lia,λway w0 w1=>?_⟩
 refine⟨WV _,trivial,?_⟩;refine⟨λβ=>∃fs:List (List Int),T9 n way (.own (.lst (fs.map kD))) β/\bz n fs/\fs.length<=300/\(way≠1->way≠4->fs=[]),?_,?_⟩
 ·-- drawn TX
  have no:∃fs:List (List Int),T9 n way (.own (.lst (fs.map kD))) [some (.hand jk),some (.val false (.int n)),some (.val true (.int way)),some (.own (.lst [])),none,none,none,none,none,none]/\bz n fs/\fs.length<=300/\(way≠1->way≠4->fs=[]) :=
   ⟨[],⟨_,_,_,_,_,_,rfl⟩,bz.nil,by simp,λ_ _=>rfl⟩
  refine(λ(key:way=1\/way=4->_)=>⟨_,rfl,trivial,_,ck _ _,_,rfl,m_ (λh1=>yZ rfl (key (.inl h1))) (λh1=>⟨_,rfl,trivial,_,ck _ _,_,rfl,m_ (λh4=>key (.inr h4)) (λh4=>no)⟩)⟩) ?_
  ·intro V9;refine⟨rfl,trivial,trivial,trivial,T7,trivial,rfl,trivial,rfl,trivial,3,rfl,by lia,by lia,λr r0 r1=>pick r0 (by simpa using r1) λd hd=>?_⟩
   obtain⟨m,rfl,m0,m1⟩:∃m:Int,d=.int m/\0<m/\m<=301:=by
    simp only[WG,XU,or_false]at hd;rcases hd with rfl|rfl|rfl
    ·exact⟨5,rfl,by lia,by lia⟩
    ·exact⟨12,rfl,by lia,by lia⟩
    ·exact⟨301,rfl,by lia,by lia⟩
   refine⟨trivial,rfl,trivial,m,rfl,m0,by lia,λj j0 j1=>⟨trivial,j,rfl,by lia,by lia,trivial,?_⟩⟩
   refine⟨λi β=>∃fs:List (List Int),T9 n way (.own (.lst (fs.map kD))) β/\bz n fs/\fs.length<=i,⟨[],⟨_,_,_,_,_,_,rfl⟩,bz.nil,by simp⟩,?_,?_⟩
   ·rintro i d β hd ⟨fs,⟨x4,x5,x6,x7,x8,x9,rfl⟩,ht,hl⟩;obtain⟨hi,rfl⟩:=cb hd;refine⟨rfl,_,rfl,trivial,rfl,trivial,n,rfl,by lia,by lia,λone o0 o1=>?_⟩
    refine⟨_,rfl,trivial,_,rfl,trivial,rfl,_,rfl,trivial,_,rfl,trivial,rfl,trivial,n-1,rfl,by lia,by lia,λr' Wd Dz=>?_⟩
    have QP:M_ (.int (one+1+r')) (.int n)=some (.int ((one+1+r') % n)):=if_pos (by lia)
    refine⟨_,rfl,trivial,_,rfl,_,QP,?_⟩;refine⟨⟨_,rfl⟩,_,rfl,trivial,_,rfl,trivial,_,rfl,trivial,_,rfl,trivial,_,rfl,trivial,_,rfl,trivial,qZ,trivial,_,rfl,by rw[WB,XO];lia,?_⟩
    have EH:(one+1+r') % n≠one/\0<=(one+1+r') % n/\(one+1+r') % n<n:=by
     by_cases eV:one+1+r'<n
     ·rw[Int.emod_eq_of_lt (by lia) eV];lia
     ·rw[show one+1+r'=(one+1+r' - n)+n by lia,Int.add_emod_right,Int.emod_eq_of_lt (by lia) (by lia)];lia
    generalize (one+1+r') % n=NQ at EH;refine⟨fs++[[if NQ<one then NQ else one,if NQ>one then NQ else one]],⟨_,_,_,_,_,_,by rw[kS];rfl⟩,ht.app (bz.one ?_ ?_ ?_),by simp;lia⟩
    all_goals (split <;> (try split) <;> lia)
   ·rintro β ⟨fs,h9,ht,hl⟩;rw[cC]at hl;exact⟨fs,h9,ht,by lia,λa b=>by lia⟩
 ·rintro β ⟨fs,⟨x4,x5,x6,x7,x8,x9,rfl⟩,ht,hl,hz⟩;refine⟨trivial,rfl,trivial,rfl,trivial,6,rfl,by lia,by lia,λreach e0 e1=>⟨_,rfl,?_⟩⟩
  refine⟨λβ=>∃fs:List (List Int),T9 n way (.own (.lst (fs.map kD))) β/\bz n fs/\fs.length<=300/\(way=3->fs=[]),?_,?_⟩
  ·have no:∃yx:List (List Int),T9 n way (.own (.lst (yx.map kD))) [some (.hand jk),some (.val false (.int n)),some (.val true (.int way)),some (.own (.lst (fs.map kD))),x4,x5,x6,some (.val true (.int (1+reach))),x8,x9]/\bz n yx/\yx.length<=300/\(way=3->yx=[]) :=
    ⟨fs,⟨_,_,_,_,_,_,rfl⟩,ht,hl,λh=>hz (by lia) (by lia)⟩
   refine⟨_,rfl,trivial,_,ck _ _,_,rfl,m_ (λw2=>?_) (λw2=>no)⟩;have II:fs=[]:=hz (by lia) (by lia)
   subst II;refine⟨_,rfl,trivial,n,rfl,by lia,by lia,trivial,?_⟩
   refine⟨λi β=>∃(fs:List (List Int)) (y4 y5 y6 y8 y9:Option Q.B),β=[some (.hand jk),some (.val false (.int n)),some (.val true (.int way)),some (.own (.lst (fs.map kD))),y4,y5,y6,some (.val true (.int (1+reach))),y8,y9]/\bz n fs/\fs.length<=i*6,⟨[],_,_,_,_,_,rfl,bz.nil,by simp⟩,?_,?_⟩
   ·rintro i d β hd ⟨fs,y4,y5,y6,y8,y9,rfl,ht,hl⟩;obtain⟨hi,rfl⟩:=cb hd;refine⟨_,rfl,trivial,_,rfl,trivial,_,rfl,trivial,_,rfl,trivial,_,rfl,trivial,_,rfl,_,rfl,trivial,_,rfl,trivial,_,_,rfl,⟨by lia,by lia,by split <;> lia,by split <;> lia⟩,trivial,?_⟩
    generalize N7:(0:Int)+(i:Int)+1=lo;have QZ:((if lo+(1+reach)<n then lo+(1+reach) else n)-lo).toNat<=6/\(if lo+(1+reach)<n then lo+(1+reach) else n)<=n:=by split <;> lia
    generalize (if lo+(1+reach)<n then lo+(1+reach) else n)=fF at QZ
    refine⟨λk β=>∃(fs:List (List Int)) (y4 y6 y8 y9:Option Q.B),β=[some (.hand jk),some (.val false (.int n)),some (.val true (.int way)),some (.own (.lst (fs.map kD))),y4,some (.val true (.int (0+(i:Int)))),y6,some (.val true (.int (1+reach))),y8,y9]/\bz n fs/\fs.length<=i*6+k,⟨fs,_,_,_,_,rfl,ht,by lia⟩,?_,?_⟩
    ·rintro k d β hd ⟨fs,y4,y6,y8,y9,rfl,ht,hl⟩;obtain⟨hk,rfl⟩:=cb hd;refine⟨rfl,trivial,rfl,trivial,3,rfl,by lia,by lia,λr r0 r1=>⟨trivial,_,rfl,_,rfl,m_ (λhp=>?_) (λhp=>?_)⟩⟩
     ·refine⟨⟨_,rfl⟩,_,rfl,trivial,_,rfl,trivial,qZ,trivial,_,rfl,by rw[WB,XO];lia,?_⟩
      exact⟨fs++[[0+(i:Int),lo+(k:Int)]],_,_,_,_,by rw[kS];rfl,ht.app (bz.one (by lia) (by lia) (by lia)),by simp;lia⟩
     ·exact⟨fs,_,_,_,_,rfl,ht,by lia⟩
    ·rintro β ⟨fs,y4,y6,y8,y9,rfl,ht,hl⟩;rw[cC]at hl;exact⟨fs,_,_,_,_,_,rfl,ht,by lia⟩
   ·rintro β ⟨fs,y4,y5,y6,y8,y9,rfl,ht,hl⟩;rw[cC]at hl;exact⟨fs,⟨_,_,_,_,_,_,rfl⟩,ht,by lia,λh=>by lia⟩
  ·rintro β ⟨fs,⟨x4,x5,x6,x7,x8,x9,rfl⟩,ht,hl,hz⟩;refine⟨λβ=>∃fs:List (List Int),T9 n way (.own (.lst (fs.map kD))) β/\bz n fs/\fs.length<=960/\(way=4->fs.length<=300),?_,?_⟩
   ·have no:∃yx:List (List Int),T9 n way (.own (.lst (yx.map kD))) [some (.hand jk),some (.val false (.int n)),some (.val true (.int way)),some (.own (.lst (fs.map kD))),x4,x5,x6,x7,x8,x9]/\bz n yx/\yx.length<=960/\(way=4->yx.length<=300) :=
     ⟨fs,⟨_,_,_,_,_,_,rfl⟩,ht,by lia,λh=>hl⟩
    refine⟨_,rfl,trivial,_,ck _ _,_,rfl,m_ (λw3=>?_) (λw3=>no)⟩;have II:fs=[]:=hz w3;subst II;refine⟨_,rfl,trivial,n,rfl,by lia,by lia,trivial,?_⟩
    refine⟨λi β o=>(∃x0,β=[x0,some (.hand jk)])/\∃ks:List Int,o=ks.map D.int/\ks.length=i/\∀k∈ks,0<=k/\k<3,⟨⟨_,rfl⟩,[],rfl,rfl,λ_ z=>(nomatch z)⟩,?_,?_⟩
    ·rintro i d β o hd ⟨⟨x0,rfl⟩,ks,rfl,hk,Tb⟩;obtain⟨hi,rfl⟩:=cb hd;refine⟨rfl,trivial,rfl,trivial,3,rfl,by lia,by lia,λr r0 r1=>⟨trivial,by rw[WB,XO];lia,⟨_,rfl⟩,ks++[r],by simp,by simp[hk],λk hk=>?_⟩⟩
     rcases W4.mp hk with z|z
     ·exact Tb k z
     ·rw[WN.mp z];exact⟨r0,r1⟩
    rintro β o ⟨⟨x0,rfl⟩,ks,rfl,ho,Tb⟩;rw[cC]at ho;refine⟨⟨rfl,trivial⟩,?_⟩;obtain⟨wd,Vz,V8,V7⟩:∃wd:Int,tN (.lst [.int n,.int 14]) (.int (if decide (n>24)=true then 1 else 0))=some (.int wd)/\0<=wd/\wd<=24:=by
     by_cases hn:n>24
     ·exact⟨14,by rw[if_pos (by simpa using hn)];rfl,by lia,by lia⟩
     ·exact⟨n,by rw[if_neg (by simpa using hn)];rfl,by lia,by lia⟩
    refine⟨_,rfl,trivial,trivial,qZ,trivial,_,rfl,trivial,_,rfl,trivial,_,rfl,_,Vz,?_⟩;refine⟨_,rfl,trivial,n,rfl,by lia,by lia,trivial,?_⟩
    refine⟨λi β=>∃(fs:List (List Int)) (y4 y5 y6 y7:Option Q.B),β=[some (.hand jk),some (.val false (.int n)),some (.val true (.int way)),some (.own (.lst (fs.map kD))),y4,y5,y6,y7,some (.val true (.lst (ks.map D.int))),some (.val true (.int wd))]/\bz n fs/\fs.length<=i*24,⟨[],_,_,_,_,rfl,bz.nil,by simp⟩,?_,?_⟩
    ·rintro i d β hd ⟨fs,y4,y5,y6,y7,rfl,ht,hl⟩;obtain⟨hi,rfl⟩:=cb hd;refine⟨⟨_,rfl⟩,_,rfl,trivial,_,rfl,trivial,_,rfl,trivial,_,rfl,trivial,_,rfl,_,rfl,trivial,_,rfl,trivial,_,_,rfl,⟨by lia,by lia,by split <;> lia,by split <;> lia⟩,trivial,?_⟩
     have QZ:((if 0+(i:Int)+wd<n then 0+(i:Int)+wd else n)-(0+(i:Int)+1)).toNat<=24/\(if 0+(i:Int)+wd<n then 0+(i:Int)+wd else n)<=n:=by split <;> lia
     generalize (if 0+(i:Int)+wd<n then 0+(i:Int)+wd else n)=fF at QZ
     refine⟨λj β o=>(∃x0,β=[x0,some (.val true (.int (0+(i:Int)))),some (.val true (.lst (ks.map D.int)))])/\∃us:List (List Int),o=us.map kD/\us.length<=j/\bz n us,⟨⟨_,rfl⟩,[],rfl,WD _,bz.nil⟩,?_,?_⟩
     ·rintro j d β o hd ⟨⟨x0,rfl⟩,us,rfl,hj,Bu⟩;obtain⟨Ga,rfl⟩:=cb hd;obtain⟨r1,_,e1⟩:=tM (ks:=ks) (i:=0+(i:Int)) (by lia) (by lia)
      obtain⟨r2,_,e2⟩:=tM (ks:=ks) (i:=0+(i:Int)+1+(j:Int)) (by lia) (by lia)
      refine⟨_,rfl,trivial,_,rfl,_,e1,trivial,_,rfl,trivial,_,rfl,_,e2,_,rfl,trivial,_,ck _ _,_,rfl,m_ (λh=>?_) (λh=>⟨⟨_,rfl⟩,us,rfl,by lia,Bu⟩)⟩
      refine⟨_,rfl,trivial,_,rfl,trivial,qZ,trivial,by rw[WB,XO];lia,⟨_,rfl⟩,us++[[0+(i:Int),0+(i:Int)+1+(j:Int)]],by rw[kS];rfl,by simp;lia,Bu.app (bz.one (by lia) (by lia) (by lia))⟩
     ·rintro β o ⟨⟨x0,rfl⟩,us,rfl,hlen,Bu⟩;rw[cC]at hlen;refine⟨trivial,_,us.map kD,rfl,dP us,rfl,by rw[WB,WB,XO];lia,?_⟩
      exact⟨fs++us,_,_,_,_,by rw[Xl];rfl,ht.app Bu,by simp;lia⟩
    ·rintro β ⟨fs,y4,y5,y6,y7,rfl,ht,hl⟩;rw[cC]at hl;exact⟨fs,⟨_,_,_,_,_,_,rfl⟩,ht,by lia,λh=>by lia⟩
   ·rintro β ⟨fs,⟨x4,x5,x6,x7,x8,x9,rfl⟩,ht,hl,hz⟩;refine⟨λβ=>∃fs:List (List Int),T9 n way (.own (.lst (fs.map kD))) β/\bz n fs/\fs.length<1000,?_,?_⟩
    ·refine⟨_,rfl,trivial,_,ck _ _,_,rfl,m_ (λw4=>?_) (λw4=>⟨fs,⟨_,_,_,_,_,_,rfl⟩,ht,by lia⟩)⟩
     have:=hz w4;refine⟨_,rfl,trivial,rfl,_,rfl,trivial,rfl,trivial,n,rfl,by lia,by lia,λts tl tt=>?_⟩
     have ea:Cg (.lst (fs.map kD)) (.lst (ts.map kD))=some (.lst ((fs++ts).map kD)):=by
      rw[Xl];exact if_pos (by rw[WB,WB,XO];lia)
     exact⟨_,ea,.inl ⟨dP _,trivial,fs++ts,⟨_,_,_,_,_,_,rfl⟩,ht.app tt,by simp;lia⟩⟩
    ·rintro β ⟨fs,⟨x4,x5,x6,x7,x8,x9,rfl⟩,ht,hl⟩;obtain⟨ts,e,kZ⟩:=B9 ht;refine⟨_,rfl,trivial,_,zV ht.ne hl,.inr ⟨trivial,_,uK ht.ne hl,.inl ⟨dP _,300,rfl,_,rfl,?_⟩⟩⟩;rw[e];exact .inl ⟨dP _,trivial,rfl,q _ kZ⟩
theorem lG:aK ["hand","many"] ["hand"] (ay gh):=⟨rfl,rfl,rfl,by decide +kernel,rfl,by decide +kernel,by decide +kernel⟩
theorem HR {Oh EW} (dR:D3 K mg Oh EW) {Ju vp} (dT:D1 K mg Ju vp) {Gk s_} (dA:D0 K mg Gk s_) {Kb yy} (dI:D2 K mg Kb yy) (B:Bs mg):aM P w K mg base bZ 4 Oh EW ["hand"] (kB P w jk true BR):=by
 have GT:aM P w K mg base bZ 1 _ _ _ (kB P w jk true cZ):=uE (qh dT.F);have GI:aM P w K mg base bZ 3 _ _ _ (kB P w jk true tw):=DU dI dT dA B;refine HX dR.F lG (λds R Mw=> by obtain⟨e,_⟩ := Mw;subst e;rfl) λcJ A outer s H E IO hr=>⟨_,(aj (a9 (i:=1) (bO (ih:=0) cZ.mono GT (hr.mono (by decide)) dT.m dT.F.kp dT.b (aa (aO af br (bh (aa ag (aa ag (aa ag (aa ag ae))))) (bO (ih:=0) cZ.mono GT (hr.mono (by decide)) dT.m dT.F.kp dT.b (aa ag ae))) ae)) lG.nd)
    (aj (cv (aS af (b8.m eG) (ab (i:=1)) ag) (ao (aY (cn (aa (ab (i:=1)) (aa (bh ae) ae))))) a5)
    (ao (aY (cn (aa (ab (i:=1)) (aa (bO (ih:=0) tw.mono GI (hr.mono (by decide)) dI.m dI.F.kp dI.b (aa (ab (i:=1)) ae)) ae))))))),λds R h=>?_⟩
 obtain⟨rfl,q⟩:=h;refine⟨rfl,trivial,trivial,trivial,trivial,(by show 4<=W7;decide),trivial,rfl,trivial,rfl,trivial,4,rfl,by lia,by lia,λr r0 r1=>pick r0 (by simpa using r1) λd hd=>?_⟩
 obtain⟨m,rfl,m0,m1⟩:∃m:Int,d=.int m/\0<m/\m<=41:=by
  simp only[WG,XU,or_false]at hd;rcases hd with rfl|rfl|rfl|rfl
  ·exact⟨7,rfl,by lia,by lia⟩
  ·exact⟨7,rfl,by lia,by lia⟩
  ·exact⟨11,rfl,by lia,by lia⟩
  ·exact⟨41,rfl,by lia,by lia⟩
 refine⟨trivial,rfl,trivial,m,rfl,m0,by lia,λn j0 j1=>?_⟩
 refine⟨_,rfl,trivial,_,rfl,_,rfl,m_ (λh=>?_) (λh=>?_)⟩
 ·exact⟨_,rfl,trivial,WV _,trivial,qZ,trivial,rfl,q n [] j0 (by lia) ⟨by simp,bz.nil,List.Pairwise.nil,XR⟩⟩
 ·exact⟨_,rfl,trivial,rfl,_,rfl,trivial,rfl,trivial,n,rfl,by lia,by lia,λts kZ=>⟨trivial,qZ,trivial,rfl,q n ts j0 (by lia) kZ⟩⟩
end
end ku
namespace L2.Q
open PySem PySem.Spec PySem.SeqAt PyProof.Rows
inductive Dp:Nat->D->Prop
 |leaf {n:Nat} {d:D} (h:FA d):Dp n d
 |tup {n:Nat} {es:List D} (l:es.length<=1000) (h:∀x∈es,Dp n x):Dp (n+1) (.tup es)
 |lst {n:Nat} {es:List D} (l:es.length<=1000) (h:∀x∈es,Dp n x):Dp (n+1) (.lst es)
theorem Dp.int {n:Nat}{i:Int}:Dp n (.int i):=.leaf (.int i)
def ib (n:Nat):FD:=λds R=>∃d,ds=[d,d]/\Dp n d/\R (.bl true)
theorem ib.mono {n:Nat}:c5 (ib n):=λds R R' k ⟨d,e,h,q⟩=>⟨d,e,h,k _ q⟩
theorem yF (ns:List Int)(lo hi:Option Int):∃ms:List Int,tP (ns.map V.int) lo hi=ms.map V.int/\ms.length<=ns.length:=by
 refine⟨(ns.drop (HT.lI (ns.map V.int).length 0 lo)).take (HT.lI (ns.map V.int).length (ns.map V.int).length hi-HT.lI (ns.map V.int).length 0 lo),?_,?_⟩
 ·unfold tP;rw[List.map_take,List.map_drop]
 ·rw[Xj,Zm];lia
section
variable {P:WI}{w:W6}
theorem bM {W:Addr->Prop}{H:Hp}:∀ns:List Int,ah P w W H (ns.map D.int) (ns.map V.int)
 |[]=>rfl
 |n::ns=>⟨_,_,rfl,rfl,bM ns⟩
theorem Di {N:List Str}{vs:List V}{H H':Hp}{n:Nat}{ro:Bool}{U:Addr->Prop}(hl:(L2.start N vs).length=n)(sm:au H H'):bY P w ⟨H,λ_=>False,ro,U⟩ (L2.start N vs) H' (Xs n none) (λ_=>[]) :=
 ⟨by rw[hl,List.length_replicate],λi y d h=>(fK h).elim,λi d h=>(fK h).elim,λi ok h=>(fK h).elim,λi a h=>(nomatch h),λi j a h=>(nomatch h),λi=>XR,sm.kp,λa z e=>z (sm.free e),λi y d h=>(fK h).elim⟩
theorem KQ {ro:Bool}{H H':Hp}{b:Bool}{v:V}(h:ud P w ro H H' (.bl b) v):v=.bl b:=by
 cases ro with
 |true=>obtain⟨A,h1,_⟩:=h;exact h1.1
 |false=>exact h
end
end L2.Q
namespace L2
open PySem PySem.Spec PySem.SeqAt PyProof.Rows
abbrev Hk (n:Int)(rows:List (List Int)):D:=.tup [.int n,.lst (rows.map kD)]
theorem xG (n:Int)(rows:List (List Int)):(Hk n rows).pd.canLay0=true/\(Hk n rows).pd.depth<=4:=nY λd hd=>by
 rcases WG.mp hd with rfl|hd
 ·exact⟨(bC n).1,Xo (bC n).2 (by decide)⟩
 ·rw[WN.mp hd];exact gY rows
end L2
namespace L2.Q
open PySem PySem.Spec PySem.SeqAt PyProof.Rows
theorem Cm {β:a7}{i j k l:Nat}{y1 y2 y3 y4:Bool}{a b c d:Int}{R:D->Kd->a7->Prop}(h1:β[i]?=some (some (.val y1 (.int a))))(h2:β[j]?=some (some (.val y2 (.int b))))(h3:β[k]?=some (some (.val y3 (.int c))))(h4:β[l]?=some (some (.val y4 (.int d))))
  (q:R (.bl (decide (a<b)&&(decide (b<c)&&decide (c<d)))) .own β):Ae (Ab i) (Hn Om (Ab j) (Hn Om (Ab k) (K3 Om (Ab l)))) β R:=by
 refine⟨_,h1,_,h2,_,rfl,m_ (λz1=>⟨_,h3,_,rfl,m_ (λz2=>⟨_,h4,_,rfl,?_⟩) (λz2=>?_)⟩) (λz1=>?_)⟩
 ·simpa[z1,z2] using q
 ·simpa[z1,z2] using q
 ·simpa[z1] using q
end L2.Q
namespace L2
open PySem PySem.Spec PyProof.Rows
section
variable {κ:Type}[DecidableEq κ]
def fC (kvs:List (κ×V))(k:κ):Option V:=(kvs.find? λkv=>decide (kv.1=k)).map (·.2)
def putK (kvs:List (κ×V))(k:κ)(v:V):List (κ×V) :=
 if (kvs.any λkv=>decide (kv.1=k))=true then kvs.map (λkv=>if kv.1=k then (kv.1,v) else kv) else kvs++[(k,v)]
theorem lg {p:κ×V}{r:List (κ×V)}{k:κ}(e:p.1=k):fC (p::r) k=some p.2:=by simp[fC,Yl,e]
theorem lh {p:κ×V}{r:List (κ×V)}{k:κ}(e:¬ p.1=k):fC (p::r) k=fC r k:=by simp[fC,Yl,e]
theorem lj (k:κ):∀kvs:List (κ×V),(kvs.any λkv=>decide (kv.1=k))=(fC kvs k).isSome
 |[]=>rfl
 |p::r=>by
  rw[List.any_cons]
  by_cases e:p.1=k
  ·simp only[lg e,decide_eq_true e,Bool.true_or,Option.isSome_some]
  ·rw[lh e,decide_eq_false e,Bool.false_or];exact lj k r
theorem sD (kvs:List (κ×V))(k:κ)(v:V):(putK kvs k v).length<=kvs.length+1:=by
 unfold putK
 split
 ·rw[WB];lia
 ·rw[Xi,WS,ZM];lia
theorem Ag {kvs:List (κ×V)}{k:κ}(v:V)(h:fC kvs k=none):putK kvs k v=kvs++[(k,v)]:=by
 unfold putK;rw[lj,h];exact if_neg (by decide)
theorem m7.yq {o:Option V}{u:Option WC}(r:m7 o u):o.isSome=u.isSome:=by
 cases o with
 |none=>cases u with
  |none=>rfl
  |some _=>exact(show False from r).elim
 |some _=>cases u with
  |none=>exact(show False from r).elim
  |some _=>rfl
theorem KV.val {kvs:List (κ×V)}{vs:List (κ×WC)}(r:KV kvs vs)(k:κ):m7 (fC kvs k) (valueAt vs k):=by
 unfold KV at r
 induction r with
 |nil=>exact YK
 | @cons p q ps qs h t ih =>
  obtain⟨h1,h2⟩:=h
  by_cases e:p.1=k
  ·have e':q.1=k:=h1.symm.trans e;have b:valueAt (q::qs) k=some q.2:=by simp[valueAt,Yl,e']
   rw[lg e,b];exact h2
  ·have e':¬ q.1=k:=λz=>e (h1.trans z);have b:valueAt (q::qs) k=valueAt qs k:=by simp[valueAt,Yl,e']
   rw[lh e,b];exact ih
end
theorem FZ {P:WI}{w:W6}{k:Key}{u:WC}(r:RelV (kV k) u):(cj P w).is k u=true:=by
 cases k with
 |inl i=>obtain⟨t,e⟩:=(show ∃t,u=Value.int i t from r);subst e;exact r9 P w i t
 |inr x=>obtain⟨t,e⟩:=(show ∃t,u=Value.str x t from r);subst e;exact rZ P w x t
theorem oM {P:WI}{w:W6}:∀{ks:List Key} {us:List WC},Vals (ks.map kV) us->ItemsAre (cj P w) ks us
 |[],_,r=>by rw[List.map_nil]at r;cases r;exact .nil
 |k::ks,_,r=>by
  rw[W_]at r;cases r with
  |cons h t=>exact .cons (FZ h) (oM t)
abbrev KT (H:Hp):List (List Key×V)->List (List Key×Addr×WC)->Prop:=Paired λp q=>p.1=q.1/\H q.2.1=some (.tup (p.1.map kV))/\RelV p.2 q.2.2
theorem KT.val {H:Hp}{kvs:List (List Key×V)}{xs:List (List Key×Addr×WC)}(r:KT H kvs xs)(k:List Key):m7 (fC kvs k) ((atKey xs k).map (·.2)):=by
 induction r with
 |nil=>exact YK
 | @cons p q ps qs h t ih =>
  obtain⟨h1,_,h2⟩:=h
  by_cases e:p.1=k
  ·have e':q.1=k:=h1.symm.trans e;have b:atKey (q::qs) k=some q.2:=by simp[atKey,Yl,e']
   rw[lg e,b];exact h2
  ·have e':¬ q.1=k:=λz=>e (h1.trans z);have b:atKey (q::qs) k=atKey qs k:=by simp[atKey,Yl,e']
   rw[lh e,b];exact ih
theorem KT.O7 {H:Hp}{kvs:List (List Key×V)}{xs:List (List Key×Addr×WC)}(r:KT H kvs xs)(k:List Key){y:V}{u:WC}(ry:RelV y u):
  KT H (kvs.map λkv=>if kv.1=k then (kv.1,y) else kv) (xs.map (putAt k u)):=by
 induction r with
 |nil=>exact .nil
 | @cons p q ps qs h t ih =>
  rw[W_,W_];refine .cons ?_ ih;obtain⟨h1,h2,h3⟩:=h;unfold putAt
  by_cases e:p.1=k
  ·rw[if_pos e,if_pos (h1.symm.trans e)];exact⟨h1,h2,ry⟩
  ·rw[if_neg e,if_neg (λz=>e (h1.trans z))];exact⟨h1,h2,h3⟩
theorem KT.put {H:Hp}{kvs:List (List Key×V)}{xs:List (List Key×Addr×WC)}(r:KT H kvs xs)(k:List Key){b:Addr}{y:V}{u:WC}(hb:H b=some (.tup (k.map kV)))(ry:RelV y u):
  KT H (putK kvs k y) (storedH xs k b u):=by
 have e:(kvs.any λkv=>decide (kv.1=k))=(atKey xs k).isSome:=by
  rw[lj,(r.val k).yq,Option.isSome_map]
 unfold putK storedH;rw[e]
 by_cases q:(atKey xs k).isSome=true
 ·rw[if_pos q,if_pos q];exact r.O7 k ry
 ·rw[if_neg q,if_neg q];exact Paired.snoc r ⟨rfl,hb,ry⟩
theorem KT.keeps {H H':Hp}{kvs:List (List Key×V)}{xs:List (List Key×Addr×WC)}(r:KT H kvs xs)(ht:∀b ys,H b=some (.tup ys)->H' b=some (.tup ys)):KT H' kvs xs :=
 Paired.Ig r λ_ _ z=>⟨z.1,ht _ _ z.2.1,z.2.2⟩
section
variable {P:WI}{w:W6}{H:Hp}{h:Heap}{a:Addr}
theorem FH {u:HO}(ok:ip P w H h)(e:Rd H a u):a6 P w H h a u:=e.ok ok
theorem Gp {kvs:List (Key×V)}(ok:ip P w H h)(e:Rd H a (.dK kvs)):kvs.length<=W7/\(a==ZU)=false/\∃vs,KV kvs vs/\h.DictOf (cj P w) a vs :=
 show a6 P w H h a (.dK kvs) from FH ok e
theorem vc {ks:List Key}(ok:ip P w H h)(e:H a=some (.tup (ks.map kV))):(aae (cj P w)).is h ks a:=by
 obtain⟨_,its,r,o,h1,h2,n,h3⟩:=(show a6 P w H h a (.tup (ks.map kV)) from ok a _ e)
 exact⟨o,its.toArray,n,h1,h2,h3,by simpa using oM r⟩
theorem B6 {kvs:List (List Key×V)}(ok:ip P w H h)(e:Rd H a (.dT kvs)):kvs.length<=W7/\(a==ZU)=false /\
  ∃xs,KT H kvs xs/\h.DictOfH (aae (cj P w)) a xs:=by
 obtain⟨z,y,xs,r,o,es,ep,h1,h2,h3,h4,h5⟩:=(show a6 P w H h a (.dT kvs) from FH ok e)
 refine⟨z,y,xs,r,o,es,ep,h1,h2,h3,h4,λx hx=>?_,h5⟩;have all:∀{l:List (List Key×V)} {m:List (List Key×Addr×WC)},KT H l m->∀x∈m,(aae (cj P w)).is h x.1 x.2.1:=by
  intro l m q
  induction q with
  |nil=>intro x hx;exact nomatch hx
  | @cons p q ps qs hq t ih =>
   intro x hx;rcases WG.mp hx with e|hx
   ·subst e;exact vc ok (by rw[<- hq.1];exact hq.2.1)
   ·exact ih x hx
 exact all r x hx
theorem M6 {kvs:List (List Key×V)}(ok:ip P w H h)(e:H a=some (.dT kvs)):kvs.length<=W7/\(a==ZU)=false /\
  ∃xs,KT H kvs xs/\h.DictOfH (aae (cj P w)) a xs:=B6 ok (.inl e)
end
def yU (H:Hp)(a:Addr)(y:V)(r:Option V):Prop :=
 (∃kvs k,Rd H a (.dK kvs)/\y=kV k/\r=fC kvs k)\/∃kvs k b,Rd H a (.dT kvs)/\y=.ref b/\H b=some (.tup (k.map kV))/\r=fC kvs k
theorem yU.t {H:Hp}{a b:Addr}{kvs:List (List Key×V)}{k:List Key}(e:H a=some (.dT kvs))(eb:H b=some (.tup (k.map kV))):yU H a (.ref b) (fC kvs k):=.inr ⟨kvs,k,b,.inl e,rfl,eb,rfl⟩
section
variable {X:Cx}{pins:List (Addr×Obj)}{σ:St}{H:Hp}{s:WE}{a:Addr}{y v:V}{u:WC}{o:Option V}{A:XA}{E:WC->WE->Prop}
theorem Inv.big (I:Inv X pins σ H s):ZU<s.heap.objs.size:=by
 have h:YO<s.heap.objs.size:=(I.mod.glob.keeps I.bk).lt;exact Nat.lt_trans (by decide) h
theorem yE {Q:WC->WE->Prop}(hu:A.units+1<Y4)(I:Inv X pins σ H s)(g:yU H a y (some v))(ry:RelV y u)(h:∀w' s',Inv X pins σ H s'->RelV v w'->Q w' s'):
  Xb (model X.prog X.w) A (getItem (.ref a) u) Q E s:=by
 rcases g with⟨kvs,k,e,ey,l⟩|⟨kvs,k,b,e,ey,eb,l⟩
 ·subst ey;obtain⟨z,hd,vs,rel,dd⟩:=Gp I.bx e;obtain⟨w',hw,CM⟩:=m7.some_of (v:=v) (o:=valueAt vs k) (by rw[l];exact rel.val k)
  exact wpAny_getItem_of (FZ ry) dd.mapOf hw (h w' _ (I.tok _) CM)
 ·subst ey;cases (show u=Value.ref b from ry)
  obtain⟨z,hd,xs,rel,dd⟩:=B6 I.bx e;obtain⟨w',hw,CM⟩:=m7.some_of (v:=v) (o:=(atKey xs k).map (·.2)) (by rw[l];exact rel.val k)
  obtain⟨p,hp,N3⟩:=W8.mp hw;refine wpAny_getItem_heap (tupleKind_room_in1 hu) (vc I.bx eb) dd hp ?_;rw[N3];exact h w' _ (I.tok _) CM
theorem E8 {h':Heap}{t':Nat}{ob:HO}(I:Inv X pins σ H s)(mu:Nt (H a))(hs:Yw a s.heap h')(he:∃q,h'.get? a=some q)(new:a6 X.prog X.w (upd H a ob) h' a ob):
  Inv X pins σ (upd H a ob) {s with heap:=h',toks:=t'} :=
 I.write (x:=a) (e:=a) mu (.inl rfl) (λb q hb z=>(hs.2 b hb).trans z) he new
end
section
end
theorem tL {X:Cx} {pins:List (Addr×Obj)} {σ:St} {H:Hp} {s:WE} {a:Addr} {y:V} {o:Option V} (I:Inv X pins σ H s) (g:yU H a y o):s.TypeIs (.ref a) "dict" := by
 rcases g with⟨kvs,k,e,_,_⟩|⟨kvs,k,b,e,_,_,_⟩
 ·obtain⟨_,_,vs,_,dd⟩:=Gp I.bx e;exact dd.typeIs
 ·obtain⟨_,_,xs,_,dd⟩:=B6 I.bx e;exact dd.typeIs
section
end
theorem B7 {P:WI}{w:W6}{H:Hp}(h:Heap)(hb:ZU<h.objs.size):a6 P w H (h.push {cls:=.type "dict",data:=.dict #[]}) h.objs.size (.dT []) :=
 ⟨WV _,beq_eq_false_iff_ne.mpr (X6 (Xk hb)),[],.nil,_,#[],0,Xc _ rfl,⟨rfl,rfl,rfl⟩,rfl,rfl,XR⟩
section
end
section
end
section
end
section
end
section
end
section
end
section
variable {κ:Type}[DecidableEq κ]
end
end L2
namespace L2.Q
open PySem PySem.Spec PySem.SeqAt PyProof.Rows
theorem _root_.L2.cQ.zq {k:Nat}{A:XA}(r:cQ k A):A.units+1<Y4:=by have:=r.un;lia
def iK (t:List Int):List Key:=t.map Sum.inl
theorem IH {t u:List Int}(h:iK t=iK u):t=u:=by
 unfold iK at h
 induction t generalizing u with
 |nil=>cases u with|nil=>rfl|cons _ _=>cases h
 |cons a t ih =>
  cases u with
  |nil=>cases h
  |cons b u =>
   rw[W_,W_]at h;injection h with h1 h2
   injection h1 with h1
   rw[h1,ih h2]
theorem F4 (t:List Int):(iK t).map kV=t.map V.int:=by
 unfold iK;rw[XD];rfl
section
end
section
end
end L2.Q
namespace L2
open PySem PySem.Spec PySem.SeqAt PyProof.Rows
theorem Cq:XC "sum" = some (.builtin "sum"):=by decide +kernel
def D.int?:D->Option Int
 |.int i=>some i
 |_=>none
def D.sA:D->Option (List D)
 |.lst ds=>some ds
 |_=>none
theorem D.qu {d:D}{i:Int}(h:d.int?=some i):d=.int i:=by
 cases d <;> first|(cases h;rfl)|cases h
theorem D.iR {d:D}{ds:List D}(h:d.sA=some ds):d=.lst ds:=by
 cases d <;> first|(cases h;rfl)|cases h
def gR:List D->Option (List Int)
 |[]=>some []
 |d::ds=>d.int?.bind λi=>(gR ds).map (i::·)
theorem i4:∀{ds:List D} {ns:List Int},gR ds=some ns->ds=ns.map D.int
 |[],_,h=>by cases h;rfl
 |d::ds,ns,h=>by
  obtain⟨i,h1,h2⟩:=Xu.mp h;obtain⟨ms,h3,rfl⟩:=W8.mp h2;rw[D.qu h1,i4 h3];rfl
theorem gE:∀ns:List Int,gR (ns.map D.int)=some ns
 |[]=>rfl
 |n::ns=>by
  show (some n).bind (λi=>(gR (ns.map D.int)).map (i::·))=_;rw[gE ns];rfl
def cU (f:List Int->Option Int):List D->Option D
 |[d]=>d.sA.bind λds=>(gR ds).bind λns=>(f ns).map D.int
 |_=>none
theorem mR {f:List Int->Option Int}{ds:List D}{d:D}(h:cU f ds=some d):∃ns i,ds=[.lst (ns.map D.int)]/\f ns=some i/\d=.int i:=by
 cases ds with
 |nil=>cases h
 |cons x r =>
  cases r with
  |cons _ _=>cases h
  |nil =>
   obtain⟨es,h1,h2⟩:=Xu.mp h;obtain⟨ns,h3,h4⟩:=Xu.mp h2;obtain⟨i,h5,rfl⟩:=W8.mp h4;exact⟨ns,i,by rw[D.iR h1,i4 h3],h5,rfl⟩
theorem ic {f:List Int->Option Int}{ns:List Int}{i:Int}(h:f ns=some i):cU f [.lst (ns.map D.int)]=some (.int i):=by
 show (some (ns.map D.int)).bind (λds=>(gR ds).bind λns=>(f ns).map D.int)=_;rw[Yu,gE,Yu,h];rfl
def fo:List Int->Option Int
 |[]=>none
 |n::ns=>some (ns.foldl max n)
theorem bW:∀(ns:List Int) (n:Int),(ns.foldl max n∈n::ns)/\∀x∈n::ns,x<=ns.foldl max n
 |[],n=>⟨by simp,λx hx=>by simp at hx;rw[hx];exact Int.le_refl _⟩
 |m::ns,n=>by
  obtain⟨h1,h2⟩:=bW ns (max n m);have hm:max n m<=ns.foldl max (max n m):=h2 _ (by simp)
  refine⟨?_,λx hx=>?_⟩
  ·rw[Y5];rcases WG.mp h1 with h|h
   ·rw[h]
    by_cases q:n<=m
    ·rw[show max n m=m by lia];simp
    ·rw[show max n m=n by lia];simp
   ·simp[h]
  ·rw[Y5];rcases WG.mp hx with rfl|hx
   ·lia
   ·rcases WG.mp hx with rfl|hx
    ·lia
    ·exact h2 x (by simp[hx])
section
variable {X:Cx}
theorem gV:∀{ns:List Int} {us:List WC},Vals (ns.map V.int) us->∃xs:Array (Int×Tok),us.toArray=intItems xs/\xs.toList.map (·.1)=ns
 |[],_,h=>by cases h;exact⟨#[],by simp[intItems],rfl⟩
 |n::ns,_,h=>by
  cases h with
  |cons h1 h2 =>
   obtain⟨t,rfl⟩:=h1;obtain⟨xs,e1,e2⟩:=gV h2;refine⟨⟨(n,t)::xs.toList⟩,?_,by simp[e2]⟩
   have:=congrArg Array.toList e1;simp[intItems]at this ⊢
   exact this
theorem jy {xs:Array (Int×Tok)}{ns:List Int}(e:xs.toList.map (·.1)=ns)(i:Nat):numAt xs i=ns.getD i 0:=by
 subst e;unfold numAt;rw[Yc,WU,W9]
theorem Ft {xs:Array (Int×Tok)}{ns:List Int}(e:xs.toList.map (·.1)=ns){i:Nat}{v:WC}(h:(intItems xs)[i]?=some v):RelV (.int (ns.getD i 0)) v:=by
 obtain⟨t,rfl⟩:=intItems_at h;exact⟨t,by rw[jy e]⟩
theorem ints_size {xs:Array (Int×Tok)}{ns:List Int}(e:xs.toList.map (·.1)=ns):xs.size=ns.length:=by rw[<- e];simp
theorem pA (hc:X.calm=true):bH X (.builtin "sum") (cU λns=>some ns.sum):=by
 intro pins s σ H xs us Q I r h;obtain⟨W,ds,d,hd,r1,e,q⟩:=h;obtain⟨ns,i,rfl,e1,rfl⟩:=mR e;cases e1;obtain⟨x,rfl,p,vs,rfl,h1,n1,q1⟩:=jh r1;obtain⟨u,rfl,ru⟩:=vals1 r;cases ru;rw[bM q1]at h1;obtain⟨its,r2,ht,hz⟩:=I.list (c0.of h1);obtain⟨ys,e1,e2⟩:=gV r2;refine sum_intListG (I.ok.hd hc) (xs:=ys) (by rw[<- e1];exact ht.isList) λh' tk t' k=>⟨.int ns.sum,H,I.kept k,⟨t',?_⟩,q _ _ (au.refl _) rfl⟩
 rw[preSum_eq,Yp (by simp),e2]
theorem jM (hc:X.calm=true):bH X (.builtin "max") (cU fo):=by
 intro pins s σ H xs us Q I r h;obtain⟨W,ds,d,hd,r1,e,q⟩:=h;obtain⟨ns,i,rfl,e1,rfl⟩:=mR e;obtain⟨x,rfl,p,vs,rfl,h1,n1,q1⟩:=jh r1;obtain⟨u,rfl,ru⟩:=vals1 r;cases ru;rw[bM q1]at h1;obtain⟨its,r2,ht,hz⟩:=I.list (c0.of h1);obtain⟨ys,Rz,e2⟩:=gV r2;have hs:=ints_size e2;cases ns with
 |nil=>cases e1
 |cons n ns =>
  rw[WS]at hs;refine max_intList (I.ok.hd hc) (xs:=ys) (by rw[<- Rz];exact ht.isList) (by lia) λv h' tk hv k=>⟨.int i,H,I.kept k,?_,q _ _ (au.refl _) rfl⟩
  have hr:=Ft e2 hv;obtain⟨g1,g2⟩:=argBest_gt (numAt ys) (ys.size-1);generalize argBest (λi j=>decide (numAt ys i>numAt ys j)) (ys.size-1)=b at *
  have hb:b<(n::ns).length:=by rw[WS];lia
  have:(n::ns).getD b 0=i:=by
   cases e1;obtain⟨f1,f2⟩:=bW ns n;have hle:∀x∈n::ns,x<=(n::ns).getD b 0:=λx hx=>by
    obtain⟨j,hj,rfl⟩:=List.getElem_of_mem hx;have:=g2 j (by rw[WS]at hj;lia)
    rw[jy e2,jy e2]at this;rw[Yc,WR hj]at this;exact this
   have BD:(n::ns).getD b 0∈n::ns:=by
    rw[Yc,WR hb];exact YV hb
   have:=hle _ f1;have:=f2 _ BD;lia
  rw[<- this];exact hr
end
end L2
namespace L2.Q
open PySem PySem.Spec PySem.SeqAt PyProof.Rows
def dA (kvs:List (List Int×D)):D:=.dT (kvs.map λp=>iK p.1) (kvs.map (·.2))
def kz (kvs:List (List Int×D))(t:List Int):Option D:=(kvs.find? λp=>decide (p.1=t)).map (·.2)
def _root_.L2.D.LO:D->Option (List (List Key)×List D)
 |.dT ks ds=>some (ks,ds)
 |_=>none
theorem EA {d:D}{ks:List (List Key)}{ds:List D}(h:d.LO=some (ks,ds)):d=.dT ks ds:=by
 cases d <;> first|(cases h;rfl)|cases h
def uB (ks:List (List Key))(ds:List D)(k:List Key):Option D:=((ks.zip ds).find? λp=>decide (p.1=k)).map (·.2)
theorem Ey {d:D}{es:List D}(h:d.LN=some es):d=.tup es:=by
 cases d <;> first|(cases h;rfl)|cases h
def Fb (a b:D):Option ((List (List Key)×List D)×List Int):=a.LO.bind λp=>b.LN.bind λes=>(gR es).map λt=>(p,t)
theorem E_ {a b:D}{ks:List (List Key)}{ds:List D}{t:List Int}(h:Fb a b=some ((ks,ds),t)):a=.dT ks ds/\b=.tup (t.map D.int):=by
 obtain⟨p,h1,h2⟩:=Xu.mp h;obtain⟨es,h3,h4⟩:=Xu.mp h2;obtain⟨t',h5,h6⟩:=W8.mp h4;cases h6;exact⟨EA h1,by rw[Ey h3,i4 h5]⟩
theorem E9 {kvs:List (List Int×D)}{t:List Int}:Fb (dA kvs) (.tup (t.map D.int))=some ((kvs.map λp=>iK p.1,kvs.map (·.2)),t):=by
 show (some _).bind (λp=>(some (t.map D.int)).bind λes=>(gR es).map λt=>(p,t))=_;rw[Yu,Yu,gE];rfl
theorem uA {t:List Int}:∀{kvs:List (List Int×D)},uB (kvs.map λp=>iK p.1) (kvs.map (·.2)) (iK t)=kz kvs t
 |[]=>rfl
 |p::kvs=>by
  have ih:=uA (t:=t) (kvs:=kvs);unfold uB kz at *
  rw[W_,W_,Y1,Yl,Yl]
  by_cases h:p.1=t
  ·rw[decide_eq_true (congrArg iK h),decide_eq_true h];rfl
  ·rw[decide_eq_false (λz=>h (IH z)),decide_eq_false h];exact ih
def xc (a b:D):Option D:=(Fb a b).bind λz=>uB z.1.1 z.1.2 (iK z.2)
theorem Fe {kvs:List (List Int×D)}{t:List Int}:xc (dA kvs) (.tup (t.map D.int))=kz kvs t:=by
 unfold xc;rw[E9,Yu];exact uA
section
variable {P:WI}{w:W6}{W:Addr->Prop}{H:Hp}
theorem pW {k:List Key}:∀{ks:List (List Key)} {ds:List D} {vs:List V},ks.length=vs.length->ah P w W H ds vs->(fC (ks.zip vs) k).isSome=(uB ks ds k).isSome/\∀d,uB ks ds k=some d->∃v,fC (ks.zip vs) k=some v/\az P w W H d v
 |[],ds,vs,_,_=>by
  unfold fC uB;rw[Z7,Z7];exact⟨rfl,λd h=>by cases h⟩
 |k'::ks,[],_,l,h=>by rw[show _=([]:List V) from h]at l;cases l
 |k'::ks,d::ds,_,l,⟨v,r,e,h1,h2⟩=>by
  subst e;obtain⟨i1,i2⟩:=pW (k:=k) (ks:=ks) (Nat.succ.inj l) h2;unfold fC uB at *
  rw[Y1,Y1,Yl,Yl]
  by_cases hk:k'=k
  ·rw[decide_eq_true hk];exact⟨rfl,λd' e=>by cases e;exact⟨v,rfl,h1⟩⟩
  ·rw[decide_eq_false hk];exact⟨i1,i2⟩
end
section
variable {X:Cx}
theorem IC {W:Addr->Prop}{H:Hp}{a b:D}{x y:V}{ks:List (List Key)}{ds:List D}{t:List Int}(h:Fb a b=some ((ks,ds),t))(r1:Rp X W H a x)(r2:Rp X W H b y):∃p vs,x=.ref p/\yU H p y (fC (ks.zip vs) (iK t))/\ks.length=vs.length/\ah X.prog X.w W H ds vs:=by
 obtain⟨rfl,rfl⟩:=E_ h;obtain⟨p,vs,rfl,e1,l,n,rs⟩:=r1;obtain⟨q,us,rfl,e2,rt⟩:=r2;rw[L2.bM rt]at e2;exact⟨p,vs,rfl,yU.t e1 (by rw[F4];exact e2),l,rs⟩
theorem LH (hu:X.A.units+1<Y4):GF X (xS X xc NF):=by
 intro value slice pins s σ H x y v u Q I rx ry h hs;obtain⟨W,d1,d2,d,hd,r1,r2,e,q⟩:=h;obtain⟨⟨⟨ks,ds⟩,t⟩,h1,h2⟩:=Xu.mp e;obtain⟨p,vs,rfl,g,l,rs⟩:=IC h1 r1 r2;obtain⟨w',hw,CM⟩:=(pW l rs).2 d h2;rw[hw]at g;cases (show v=Value.ref p from rx)
 exact tail_any (tL I g) PySem.F.slot_dict_getitem.lookup (yE hu I g ry λu' s' I' r'=>⟨w',H,I',r',q w' H (au.refl _) CM λf=>az.flat f CM⟩) hs
end
theorem HG {P:WI}{w:W6}{H:Hp}{kvs:List (List Int×D)}{a:Addr}{vs:List V}{A:List Addr}(h:H a=some (.dT ((kvs.map λp=>iK p.1).zip vs)))(o:aI P w H (kvs.map (·.2)) vs A):Own P w H (dA kvs) (.ref a) (a::A) :=
 ⟨a,vs,A,rfl,h,by rw[WB,o.length,WB],rfl,o⟩
theorem GU {P:WI}{w:W6}{H:Hp}{kvs:List (List Int×D)}{vs:List V}{A:List Addr}{t:List Int}(o:aI P w H (kvs.map (·.2)) vs A)(h:kz kvs t=none):fC ((kvs.map λp=>iK p.1).zip vs) (iK t)=none:=by
 have:=(pW (k:=iK t) (ks:=kvs.map λp=>iK p.1) (W:=λ_=>False) (by rw[WB,o.length,WB]) (o.rep λc _ z=>z)).1
 rw[uA,h]at this;exact Option.isNone_iff_eq_none.mp (by rw[<- Option.not_isSome,this];rfl)
section
end
end L2.Q
namespace L2
open PySem PySem.Spec PySem.SeqAt PyProof.Rows
def Oz (lo:Int)(n:Nat):It:=⟨λi _=>i<n,λi H x H'=>H'=H/\x=.int (lo-i),λi _=>n<=i⟩
theorem qX {P:WI}{w:W6}{K:PySem.W.Frag}{tg:Expr}(it:Addr)(lo:Int)(n:Nat):Turn P w K tg (Oz lo n) [it] it (λi h=>IsRangeIter h it (lo+(i:Nat)*(-1)) ((n:Int)-(i:Nat)) (-1)) where
 mem:=by simp
 obj:=λi h st b hb=>by
  have e:b=it:=by simpa using hb
  subst e;exact⟨_,st,λv z=>by
   have z':Data.fields _=Data.cell v:=z;cases z'⟩
 keep:=λi h h' st k=>k it (by simp) _ st
 item:=by
  intro X hP hw hK hc i pins s σ H E I hf st hg;subst hP hw hK;obtain⟨f0,f1,f2,f3,f4,f5⟩:=hf it (by simp)
  have W:=Walks.range (prog:=X.prog) (w:=X.w) (I.ok.hd hc) it lo (-1) n;refine W.item i s _ _ hg st λv h' tk hv aA kk=>?_;obtain⟨t,rfl⟩:=hv;have I1:Inv X pins σ H {s with heap:=h',toks:=tk}:=I.turned (λb o hb e=>kk b o (by simpa using hb) e) f0 f1 f3 f4 f5
  refine⟨_,rfl,BK (s:={s with heap:=h',toks:=tk}) (n:="range_iterator") aA rfl rfl (by decide) ⟨.int (lo-i),H,I1,⟨t,?_⟩,⟨rfl,rfl⟩,aA,λb hb=>(hf b hb).1⟩⟩
  rw[Int.mul_neg,Int.mul_one];rfl
 done:=by
  intro X hP hw hK hc i pins s σ H E I hf st hg;subst hP hw hK;obtain⟨f0,f1,f2,f3,f4,f5⟩:=hf it (by simp)
  exact wpAny_pyNext_range_end (I.ok.hd hc) st (by have:n<=i:=hg;lia) λh' eb=>⟨rfl,I.turned (t':=s.toks) (λb o hb e=>eb b o hb e) f0 f1 f3 f4 f5⟩
 self:=λ_ _ _ _ _ st h=>wpAny_pyIter_rangeiter st h
theorem gK (a b:Int):Zx a b (-1)=if b<a then a-b else 0:=by
 unfold Zx;rw[if_neg (by decide)]
 by_cases h:b<a
 ·rw[if_pos h,if_pos h,show -(-1:Int)=1 by decide,Int.ediv_one];lia
 ·rw[if_neg h,if_neg h]
theorem xH {a b:Int}(ha:-(2 ^ 62)<=a)(wR:a<2 ^ 62)(hb:-(2 ^ 62)<=b)(kL:b<2 ^ 62):Builtin.Range.small a b (-1)=true:=by
 unfold Builtin.Range.small;rw[gK];simp only[Builtin.Range.rangeFitsLong,Xz,Bool.or_eq_true,decide_eq_true_eq,beq_iff_eq,show ¬ ((-1:Int)>0) by decide,if_false]
 split <;> lia
section
variable {X:Cx}{tg:Expr}
theorem xR {pins:List (Addr×Obj)}{σ:St}{H:Hp}{s:WE}{R:It->Hp->Prop}{E:WC->WE->Prop}{lo hi:Int}{t u v:Tok}{tk:Nat}(I:Inv X pins σ H s)(h1:-(2 ^ 62)<=lo)(h2:lo<2 ^ 62)(h3:-(2 ^ 62)<=hi)(h4:hi<2 ^ 62)
  (q:R (Oz lo (lo-hi).toNat) H):Xb (model X.prog X.w) X.A (pyIter (.ref s.heap.objs.size)) (Kn X pins σ tg R) E {s with heap:=s.heap.push {cls:=.type "range",data:=.fields #[.int lo t,.int hi u,.int (-1) v]},toks:=tk}:=by
 refine wpAny_pyIter_range (IsRange.new ..) (xH h1 h2 h3 h4) ?_;have I1:Inv X pins σ H {s with heap:=s.heap.push {cls:=.type "range",data:=.fields #[.int lo t,.int hi u,.int (-1) v]},toks:=tk}:=I.kept λb o e=>WH _ e
 refine⟨(s.heap.push {cls:=.type "range",data:=.fields #[.int lo t,.int hi u,.int (-1) v]}).objs.size,[(s.heap.push {cls:=.type "range",data:=.fields #[.int lo t,.int hi u,.int (-1) v]}).objs.size],_,_,H,rfl,
  I1.kept (t':=tk) λb o e=>WH _ e,qX _ lo (lo-hi).toNat,?_,λb hb=>?_,q⟩
 ·have e1:lo+((0:Nat):Int)*(-1)=lo:=by simp
  have e2:(((lo-hi).toNat:Nat):Int)-((0:Nat):Int)=Zx lo hi (-1):=by rw[gK];split <;> lia
  show IsRangeIter _ _ (lo+((0:Nat):Int)*(-1)) ((((lo-hi).toNat:Nat):Int)-((0:Nat):Int)) (-1);rw[e1,e2];exact Xc _ rfl
 ·have e:b=(s.heap.push {cls:=.type "range",data:=.fields #[.int lo t,.int hi u,.int (-1) v]}).objs.size:=by simpa using hb
  subst e;exact I1.BO (WD _) (I1.bx.fresh (WD _))
def LP (ta:TA):TI:=λσ H R=>ta σ H λvs H1=>∃i j:Int,vs=[.int i,.int j,.int (-1)]/\(-(2 ^ 62)<=i/\i<2 ^ 62/\-(2 ^ 62)<=j/\j<2 ^ 62)/\R (Oz i (i-j).toNat) H1
theorem xV {a b c:Expr} {ta:TA} {p pos:Pos} (hg:Gl X "range") (hm:X.mg "range" = none) (ha:PA X [a,b,c] ta) (hs:WZ [a,b,c] X.env=[(false,eval a X.env),(false,eval b X.env),(false,eval c X.env)]:=by rfl) (uh:WZ [b,c] X.env=[(false,eval b X.env),(false,eval c X.env)]:=by rfl) :
  PI X tg (.Call (.Name "range" p) [a,b,c] [] pos) (LP ta):=by
 intro pins s σ H R I h;refine Call_ (h7 I hg hm boot_range (YF (bJ (ha pos pins s σ H _ I h) λus s1 ⟨vs,H1,I1,r1,q1⟩=>?_) (by rw[hs,uh]) (by rw[uh];rfl)))
 obtain⟨i,j,e,⟨q1,q2,q3,q4⟩,q⟩:=q1;subst e;cases r1 with
 |cons r rr =>
  cases rr with
  |cons r' rr =>
   cases rr with
   |cons Sk rr =>
    cases rr;obtain⟨t,rfl⟩:=r;obtain⟨t',rfl⟩:=r';obtain⟨Wc,rfl⟩:=Sk;exact call_range_3 (by decide) (xR I1 q1 q2 q3 q4 q) (.inl (PyProof.noPylong_of_log2 (by decide +kernel)))
def xP (hi:Int)(n:Nat):List D:=(WK n).map λ(k:Nat)=>D.int (hi-(k:Int))
theorem lK {hi:Int}{n i:Nat}{d:D}(h:(xP hi n)[i]?=some d):i<n/\d=.int (hi-i):=by
 unfold xP at h;rw[WU]at h
 by_cases hi:i<n
 ·rw[YD hi]at h;cases h;exact⟨hi,rfl⟩
 ·rw[Xw (by simpa using hi)]at h;cases h
theorem lJ {hi:Int}{n:Nat}:(xP hi n).length=n:=by unfold xP;simp
theorem vd {W:Addr->Prop}{H:Hp}{lo:Int}{n:Nat}:yT X W (Oz lo n) (xP lo n) H:=λ_ _ i H' k=>by
 constructor
 ·intro d hd;obtain⟨hi,rfl⟩:=lK hd;refine⟨hi,λx H1 y=>?_⟩;obtain⟨rfl,rfl⟩:=y;exact⟨au.refl _,rfl⟩
 ·intro hl;rw[lJ]at hl;exact hl
end
end L2
namespace L2.Q
open PySem PySem.Spec PySem.SeqAt PyProof.Rows
section
variable {X:Cx}{C:Cfg}{tg a b c:Expr}{φs:cG}{p:Bool}{pp pos:Pos}
def EB (φs:cG):cH:=λβ R=>φs β λds _ β'=>∃i j:Int,ds=[.int i,.int j,.int (-1)]/\(-(2 ^ 62)<=i/\i<2 ^ 62/\-(2 ^ 62)<=j/\j<2 ^ 62)/\R (xP i (i-j).toNat) .eW β'
theorem Nl {W:Addr->Prop}{H:Hp}{a b c:D}{xs:List V}(h:ji X W H [a,b,c] xs):∃x y z,xs=[x,y,z]/\Rp X W H a x/\Rp X W H b y/\Rp X W H c z:=by
 obtain⟨x,r,rfl,hx,y,r',rfl,hy,z,Sk,rfl,hz,hr⟩:=h;cases hr;exact⟨x,y,z,rfl,hx,hy,hz⟩
theorem lN (hm:X.mg "range" = none) (ha:uq X C p [a,b,c] φs) (hg:Gl X "range" := by rfl) (hs:WZ [a,b,c] X.env=[(false,eval a X.env),(false,eval b X.env),(false,eval c X.env)]:=by rfl) (uh:WZ [b,c] X.env=[(false,eval b X.env),(false,eval c X.env)]:=by rfl) :
  xn X C p tg (.Call (.Name "range" pp) [a,b,c] [] pos) (EB φs) :=
 ⟨λβ R R' k q=>ha.mono β _ _ (λd kd β' h=>by obtain⟨i,j,e,h1,q⟩:=h;exact⟨i,j,e,h1,k _ _ _ q⟩) q,(xV hg hm ha.pa hs uh).pre λσ H R h=>by
  obtain⟨β,own,s,q⟩:=h;refine vO.of ha s q λds ks β' vs H1 aE h o1 r1=>?_;obtain⟨i,j,e,h1,q1⟩:=h;subst e;obtain⟨x,y,z,rfl,hx,hy,hz⟩:=Nl r1.jt;cases hx;cases hy;cases hz;exact⟨i,j,rfl,h1,q1 _ _ aE o1 vd⟩⟩
end
structure Tv (X:Cx)(C:Cfg)(tg iter:Expr)(ι:cH):Prop where
 mono:∀β R R',(∀d k β,R d k β->R' d k β)->ι β R->ι β R'
 pi:PI X tg iter λσ H R=>∃β own,SQ X C σ H β own/\ι β λds k β'=>∀J H',au H H'->SQ X C σ H' β' own->yT X (fZ C (Wn own) k) J ds H'->R J H'
section
variable {X:Cx}{C:Cfg}{tg a b:Expr}{φs:cG}{pp pos:Pos}{i:Nat}{x:Str}
theorem uT (hm:X.mg "range" = none) (ha:uq X C true [a,b] φs) (hg:Gl X "range" := by rfl) (hs:WZ [a,b] X.env=[(false,eval a X.env),(false,eval b X.env)]:=by rfl) (uh:WZ [b] X.env=[(false,eval b X.env)]:=by rfl) :
  Tv X C tg (.Call (.Name "range" pp) [a,b] [] pos) (wO φs) :=
 ⟨λβ R R' k q=>ha.mono β _ _ (λd kd β' h=>by obtain⟨i,j,e,h1,q⟩:=h;exact⟨i,j,e,h1,k _ _ _ q⟩) q,(oh hg hm ha.pa hs uh).pre λσ H R h=>by
  obtain⟨β,own,s,q⟩:=h;refine vO.of ha s q λds ks β' vs H1 aE h o1 r1=>?_;obtain⟨i,j,e,h1,q1⟩:=h;subst e;obtain⟨s1,rfl⟩:=o1.pu rfl;obtain⟨x,y,rfl,hx,hy⟩:=pF r1.jt;cases hx;cases hy;exact⟨i,j,rfl,h1,q1 _ _ s1 o1.sq jE⟩⟩
end
structure SC (X:Cx)(C:Cfg)(W0:Addr->Prop)(T:List Nat)(σ0:St)(H1:Hp)(a:Addr)(Hb:Hp)(Wb:Addr->Prop)(Ac:Hp->Prop)(β:a7)(σ':St)(H':Hp)(own:Nat->List Addr):Prop where
 sq:SQ X (C.u λc=>c=a) σ' H' β own
 sn:Sn (H1,W0) H' (Wn own)
 le:∀c,Wn own c->Wb c
 ac:Ac H'
 pu:au H1 H'
 bs:∀b ob,b≠a->Hb b=some ob->H' b=some ob
 st:∀j,j∉T->σ'[j]?=σ0[j]?
abbrev t_ {α:Type}(X:Cx)(C:Cfg)(W0:Addr->Prop)(T:List Nat)(σ0:St)(H1:Hp)(a:Addr)(Hb:Hp)(Wb:Addr->Prop)(Ac:α->Hp->Prop)(β:a7)(o:α)(σ':St)(H':Hp):Prop:=∃own,SC X C W0 T σ0 H1 a Hb Wb (Ac o) β σ' H' own
structure yV {α:Type}(a:Addr)(Ac:α->Hp->Prop):Prop where
 same:∀o H H',au H H'->Ac o H->Ac o H'
 Lm:∀o H xs,Ac o H->H a≠some (.tup xs)
abbrev JX (X:Cx)(C:Cfg)(a:Addr)(T:List Nat)(γ:df):TG:=λv σ H Q=>∃own β d k,SQ X (C.u λc=>c=a) σ H β own/\Rp X (fZ (C.u λc=>c=a) (Wn own) k) H d v/\γ d k β λβ'=>∀σ' aP,SQ X (C.u λc=>c=a) σ' H β' aP->(∀a,Wn aP a->Wn own a)->(∀j,j∉T->σ'[j]?=σ[j]?)->Q σ' H
abbrev R7 (X:Cx)(C:Cfg)(a:Addr)(φ:aQ):m6:=λN σ H=>tQ X (C.u λc=>c=a) true φ σ H λv H1=>∃xs,H1 a=some (.lst xs)/\xs.length<W7/\N σ (upd H1 a (.lst (xs++[v])))
section
variable {α:Type}{X:Cx}{C:Cfg}{W0:Addr->Prop}{T Tg:List Nat}{σ0:St}{H1:Hp}{a:Addr}{Hb:Hp}{Wb:Addr->Prop}{γ:df}{τ:bb}{φ:aQ}{Ac:α->Hp->Prop}
theorem SC.next {o:α}(hA:yV a Ac){β β':a7}{σ σ':St}{H H':Hp}{own aP:Nat->List Addr}(s:SC X C W0 T σ0 H1 a Hb Wb (Ac o) β σ H own)(sq:SQ X (C.u λc=>c=a) σ' H' β' aP)(w:∀c,Wn aP c->Wn own c)(sm:au H H')(t:∀j,j∉T->σ'[j]?=σ[j]?):
  SC X C W0 T σ0 H1 a Hb Wb (Ac o) β' σ' H' aP :=
 ⟨sq,iF (s.sn.same sm) w,λc z=>s.le c (w c z),hA.same o _ _ sm s.ac,s.pu.trans sm,λb ob n e=>sm _ _ (s.bs b ob n e),λj hj=>(t j hj).trans (s.st j hj)⟩
theorem SC.put {A:Hp->Prop}{A':Hp->Prop}(h0:C.H0 a=none)(ha:H1 a=none){β:a7}{σ:St}{H:Hp}{own:Nat->List Addr}{oa ob:HO}(s:SC X C W0 T σ0 H1 a Hb Wb A β σ H own)(e:H a=some oa)(nt:∀xs,oa≠.tup xs)(q:A' (upd H a ob)):
  SC X C W0 T σ0 H1 a Hb Wb A' β σ (upd H a ob) own:=by
 refine⟨s.sq.Hg e nt h0,⟨s.sn.w,s.sn.k.trans ((mh e nt).mono λb z=>.inr (by rw[z];exact ha)),λb z e=>?_⟩,s.le,q,λb o e=>?_,λb o n e=>?_,s.st⟩
 ·by_cases hb:b=a
  ·rw[hb,aw]at e;cases e
  ·rw[ar hb]at e;exact s.sn.d b z e
 ·rw[ar (λz'=>by rw[z',ha]at e;cases e)]
  exact s.pu b o e
 ·rw[ar n];exact s.bs b o n e
def OE (P:WI)(w:W6)(H1:Hp)(a:Addr)(o:List D)(H:Hp):Prop:=∃vs A,H a=some (.lst vs)/\aI P w H o vs A/\A.Nodup/\∀c∈A,H1 c=none/\c≠a
theorem vE {P:WI}{w:W6}:yV a (OE P w H1 a):=⟨λo H H' s h=>by
  obtain⟨vs,A,h1,h2,h3,h4⟩:=h;exact⟨vs,A,s _ _ h1,h2.keep (λb xs e=>s _ _ e) λc _ oc e=>s _ _ e,h3,h4⟩,λo H xs h z=>by
  obtain⟨vs,A,h1,_⟩:=h;rw[h1]at z;cases z⟩
def Gm (φ:aQ)(o:List D)(β:a7)(N:a7->List D->Prop):Prop:=φ β λx kx β3=>Ew kx x/\o.length<W7/\N β3 (o++[x])
theorem Dr (h0:C.H0 a=none)(ha:H1 a=none)(φm:∀β R R',(∀d k β,R d k β->R' d k β)->φ β R->φ β R'){β:a7}{o:List D}{σ:St}{H:Hp}{N:a7->List D->Prop}(s:t_ X C W0 T σ0 H1 a Hb Wb (OE X.prog X.w H1 a) β o σ H)(q:Gm φ o β N):
  R7 X C a φ (λσ' H'=>∃β' o',t_ X C W0 T σ0 H1 a Hb Wb (OE X.prog X.w H1 a) β' o' σ' H'/\N β' o') σ H:=by
 obtain⟨own,s⟩:=s;refine⟨β,own,s.sq,φm _ _ _ (λxd kx β6 ⟨f,hz,q⟩ v H6 DP o6 r6=>?_) q⟩;obtain⟨sm,rfl⟩:=o6.pu rfl;have s6:=s.next vE (o6.sq) (λ_ z=>z) sm (λ_ _=>rfl)
 obtain⟨B',r1,r2,r3⟩:=r6.fl f;obtain⟨vs,A,at',os,nd,nw⟩:=s.ac;have sR:H6 a=some (.lst vs):=sm _ _ at';have Lp:∀c∈B',c≠a:=λc hc z=>by rw[z]at hc;exact absurd (at'.symm.trans (r3 a hc).1) (λz=>(nomatch z))
 have kt:∀b xs,H6 b=some (.tup xs)->upd H6 a (.lst (vs++[v])) b=some (.tup xs):=λb xs z=>by rw[ar (λz'=>by rw[z',sR]at z;cases z)];exact z
 refine⟨vs,sR,by rw[os.length];exact hz,β6,o++[xd],⟨DP,s6.put h0 ha sR (λxs z=>by cases z) ⟨vs++[v],A++B',aw,?_,?_,λc hc=>?_⟩⟩,q⟩
 ·exact(os.keep (λb xs e=>kt b xs (sm _ _ e)) λc hc oc e=>by rw[ar (nw c hc).2];exact sm _ _ e).append (aI.one (r1.keep kt λc hc oc e=>by rw[ar (Lp c hc)];exact e))
 ·refine XF.mpr ⟨nd,r2,λx hx y hy e=>?_⟩;subst e;exact(os.nc x hx).1 (r3 x hy).1
 ·rcases W4.mp hc with hc|hc
  ·exact nw c hc
  ·exact⟨s.sn.free (r3 c hc).1,Lp c hc⟩
def j7 {α:Type}(γ:df)(τ:bb)(Af:α->a7->(a7->α->Prop)->Prop)(ds:List D)(k:Kd)(β0:a7)(o0:α)(F:a7->α->Prop):Prop:=∃I:Nat->a7->α->Prop,I 0 β0 o0 /\
 (∀i d β o,ds[i]?=some d->I i β o->γ d (sk k d) β λβ1=>τ β1 λt β2=>if t=true then Af o β2 (I (i+1)) else I (i+1) β2 o)/\∀β o,I ds.length β o->F β o
theorem j7.mono {Af:α->a7->(a7->α->Prop)->Prop}{ds:List D}{k:Kd}{β0:a7}{o0:α}{F F':a7->α->Prop}(h:∀β o,F β o->F' β o)(q:j7 γ τ Af ds k β0 o0 F):j7 γ τ Af ds k β0 o0 F':=by
 obtain⟨I,h0,h1,h2⟩:=q;exact⟨I,h0,h1,λβ o z=>h _ _ (h2 β o z)⟩
theorem vY (hA:yV a Ac)(hT:∀j∈Tg,j∈T)(γm:∀d k β R R',(∀r,R r->R' r)->γ d k β R->γ d k β R')(τm:∀β R R',(∀d β,R d β->R' d β)->τ β R->τ β R'){J:It}{ds:List D}{k:Kd}{Af:α->a7->(a7->α->Prop)->Prop}{ta:m6}{F:a7->α->Prop}{End:St->Hp->Prop}{β0:a7}{o0:α}{σ1:St}{Hs:Hp}
  (it:∀i β o σ' H',t_ X C W0 T σ0 H1 a Hb Wb Ac β o σ' H'->(∀d,ds[i]?=some d->J.go i H'/\∀x H3,J.Ko i H' x H3->au H' H3/\∀own,(∀c,Wn own c->Wb c)->az X.prog X.w (fZ (C.u λc=>c=a) (Wn own) k) H3 d x)/\(ds.length<=i->J.stop i H'))
  (L3:∀β o σ' H' N,t_ X C W0 T σ0 H1 a Hb Wb Ac β o σ' H'->Af o β N->ta (λzf CG=>∃β' o',t_ X C W0 T σ0 H1 a Hb Wb Ac β' o' zf CG/\N β' o') σ' H')
  (s0:t_ X C W0 T σ0 H1 a Hb Wb Ac β0 o0 σ1 Hs) (q:j7 γ τ Af ds k β0 o0 F) (fin:∀β o σ' H',t_ X C W0 T σ0 H1 a Hb Wb Ac β o σ' H'->F β o->End σ' H') :
  fH J (JX X C a Tg γ) (jS X (C.u λc=>c=a) true τ) ta End σ1 Hs:=by
 obtain⟨I,i0,i1,i2⟩:=q;refine⟨λi m σ' H'=>i<=ds.length/\m=ds.length-i/\∃β o,t_ X C W0 T σ0 H1 a Hb Wb Ac β o σ' H'/\I i β o,⟨_,WV _,rfl,β0,o0,s0,i0⟩,?_⟩;rintro i m σ2 H2 ⟨hi,rfl,β,o,sE,hl⟩;obtain⟨cy,qt⟩:=it i β o σ2 H2 sE
 by_cases eV:i<ds.length
 ·right
  have hd:ds[i]?=some ds[i]:=WR eV;obtain⟨go,yl⟩:=cy _ hd;refine⟨go,λσ' H'=>∃β' o',t_ X C W0 T σ0 H1 a Hb Wb Ac β' o' σ' H'/\I (i+1) β' o',λσ' H' h=>⟨_,by omega,eV,rfl,h⟩,λx H3 y=>?_⟩
  obtain⟨s3,r3⟩:=yl x H3 y;obtain⟨own,s⟩:=sE;refine⟨own,β,_,_,s.sq.same s3,pT (r3 own s.le),γm _ _ _ _ _ (λβ4 q σ4 rS s4 w4 t4=>?_) (i1 i _ β o hd hl)⟩;have Ug:=s.next hA s4 w4 s3 λj hj=>t4 j λz=>hj (hT j z)
  refine⟨β4,rS,s4,τm _ _ _ (λt β5 q H5 nv o5=>?_) q⟩;obtain⟨OZ,rfl⟩:=o5.pu rfl;have Sf:=Ug.next hA o5.sq (λ_ z=>z) OZ λ_ _=>rfl
  cases t with
  |false=>exact⟨β5,o,⟨_,Sf⟩,q⟩
  |true=>exact L3 β5 o σ4 H5 _ ⟨_,Sf⟩ q
 ·left
  have e:i=ds.length:=by omega
  subst e;exact⟨qt (WD _),fin β o σ2 H2 sE (i2 β o hl)⟩
def FT {α:Type}(ι:cH)(γ:df)(τ:bb)(Af:α->a7->(a7->α->Prop)->Prop)(o:α)(β:a7)(N:a7->α->Prop):Prop:=ι β λds k β1=>j7 γ τ Af ds k β1 o N
theorem Dq (hA:yV a Ac){ι:cH}(hT:∀j∈Tg,j∈T)(γm:∀d k β R R',(∀r,R r->R' r)->γ d k β R->γ d k β R')(τm:∀β R R',(∀d β,R d β->R' d β)->τ β R->τ β R'){Af:α->a7->(a7->α->Prop)->Prop}{ta:m6}
  (L3:∀Hb Wb β o σ' H' N,t_ X C W0 T σ0 H1 a Hb Wb Ac β o σ' H'->Af o β N->ta (λzf CG=>∃β' o',t_ X C W0 T σ0 H1 a Hb Wb Ac β' o' zf CG/\N β' o') σ' H')
  (ιm:∀β R R',(∀d k β,R d k β->R' d k β)->ι β R->ι β R') {β:a7} {o:α} {σ:St} {H:Hp} {N:a7->α->Prop} (s:t_ X C W0 T σ0 H1 a Hb Wb Ac β o σ H) (q:FT ι γ τ Af o β N) :
  ∃β own,SQ X (C.u λc=>c=a) σ H β own/\ι β λds k β'=>∀J H',au H H'->SQ X (C.u λc=>c=a) σ H' β' own->yT X (fZ (C.u λc=>c=a) (Wn own) k) J ds H' ->
   fH J (JX X C a Tg γ) (jS X (C.u λc=>c=a) true τ) ta (λσ' H'=>∃β' o',t_ X C W0 T σ0 H1 a Hb Wb Ac β' o' σ' H'/\N β' o') σ H':=by
 obtain⟨own,s⟩:=s;refine⟨β,own,s.sq,ιm _ _ _ (λds k β1 q J H' sm sq UP=>?_) q⟩;have s1:=s.next hA sq (λ_ z=>z) sm λ_ _=>rfl
 have hu:fZ (C.u λc=>c=a) (Wn own) k a:=.inr rfl;refine vY (Hb:=H') (Wb:=Wn own) hA hT γm τm (λi βx ox σx Hx sx=>?_) (λβx ox σx Hx Nx sx qx=>L3 _ _ _ _ _ _ _ sx qx) ⟨own,⟨s1.sq,s1.sn,λ_ z=>z,s1.ac,s1.pu,λ_ _ _ e=>e,s1.st⟩⟩ q λβx ox σx Hx sx hx=>?_
 ·obtain⟨DO,sx⟩:=sx;have kp:Kp (λb=>fZ (C.u λc=>c=a) (Wn own) k b\/H' b=none) H' Hx:=⟨λb ob e n=>sx.bs b ob (λz=>n (.inl (by rw[z];exact hu))) e,λb xs e=>sx.bs b _ (λz=>hA.Lm _ _ _ s1.ac (by rw[<- z];exact e)) e⟩
  obtain⟨g1,g2⟩:=UP (λb=>fZ (C.u λc=>c=a) (Wn own) k b\/H' b=none) (λb z=>z) i Hx kp;refine⟨λd hd=>?_,g2⟩;obtain⟨go,yl⟩:=g1 d hd;refine⟨go,λx H3 y=>?_⟩;obtain⟨s3,r3⟩:=yl x H3 y;exact⟨s3,λaP PN=>az.aV (λb z=>.inl (jg PN k b z)) r3⟩
 ·obtain⟨DO,sx⟩:=sx;exact⟨βx,ox,⟨DO,⟨sx.sq,sx.sn,λc z=>s.le c (sx.le c z),sx.ac,sx.pu,λb ob n e=>sx.bs b ob n (s1.bs b ob n e),sx.st⟩⟩,hx⟩
theorem rE {lk:List (Option Nat)}{σ:St}{β:a7}{own:Nat->List Addr}{oa:HO}(hA:yV a Ac){Af:α->a7->(a7->α->Prop)->Prop}{ta:m6}{J:It}{ds:List D}{k:Kd}{o0:α}{K:α->Prop}{End:Hp->Prop}
  (γm:∀d k β R R',(∀r,R r->R' r)->γ d k β R->γ d k β R') (τm:∀β R R',(∀d β,R d β->R' d β)->τ β R->τ β R') (Vn:∀j∈Tg,j∈T)
  (inj:∀(i i' j:Nat),lk[i]?=some (some j)->lk[i']?=some (some j)->i=i') (hT:∀i∈T,∀j,lk[i]?≠some (some j))
  (s1:SQ X C σ H1 β own) (ha:H1 a=none) (hk:hold k false) (it:yT X (av C (Wn own) k) J ds H1) (a0:Ac o0 (upd H1 a oa)) (ent:SQ X (C.u λc=>c=a) (dZ lk σ) (upd H1 a oa) (cE lk β) (bu lk β own))
  (L3:∀Hb Wb β' o σ' H' N,C.H0 a=none->t_ X C (Wn (bu lk β own)) T (dZ lk σ) H1 a Hb Wb Ac β' o σ' H'->Af o β' N->ta (λzf CG=>∃β' o',t_ X C (Wn (bu lk β own)) T (dZ lk σ) H1 a Hb Wb Ac β' o' zf CG/\N β' o') σ' H')
  (q:j7 γ τ Af ds k (cE lk β) o0 λβf o=>eS (cE lk β) βf/\K o)
  (fin:∀o H',K o->Out X C σ H1 own true β H' own->Ac o H'->End H') :
  fH J (JX X C a Tg γ) (jS X (C.u λc=>c=a) true τ) ta (λ_ H'=>End H') (dZ lk σ) (upd H1 a oa):=by
 have h0:C.H0 a=none:=XG λz=>s1.iu a z ha;have sm:au H1 (upd H1 a oa):=au.new ha;refine vY (W0:=Wn (bu lk β own)) (T:=T) (σ0:=dZ lk σ) (H1:=H1) (Hb:=H1) (Wb:=Wn (bu lk β own)) hA Vn γm τm (λi βx ox σx Hx sx=>?_) (λβx ox σx Hx Nx sx qx=>L3 _ _ _ _ _ _ _ h0 sx qx)
  ⟨bu lk β own,⟨ent,⟨λb z=>.inl z,sm.kp,λb z e=>z (sm.free e)⟩,λ_ z=>z,a0,sm,λb ob n e=>sm _ _ e,λ_ _=>rfl⟩⟩ q λβx ox σx Hx sx hx=>?_
 ·obtain⟨DO,sx⟩:=sx;have kI:Kp (λb=>av C (Wn own) k b\/H1 b=none) H1 Hx:=sx.pu.kp;obtain⟨g1,g2⟩:=it (λb=>av C (Wn own) k b\/H1 b=none) (λb z=>z) i Hx kI;refine⟨λd hd=>?_,g2⟩;obtain⟨go,yl⟩:=g1 d hd;refine⟨go,λx H3 y=>?_⟩;obtain⟨s3,r3⟩:=yl x H3 y;exact⟨s3,λaP PN=>az.aV (λc z=>z.elim (λz=>.inl (k8 (λc z=>bq c (PN c z)) k c z)) λz=>.inr (by rw[z];exact ha)) r3⟩
 ·obtain⟨DO,sx⟩:=sx;obtain⟨hh,hK⟩:=hx;have lv:SQ X C σ Hx β own:=s1.leave sx.sq sx.sn sx.le hh λj ok i' e1 e2=>sx.st i' λz=>hT i' z j e2;exact fin ox Hx hK ⟨lv,⟨λb z=>.inl z,sx.sn.k.mono λb z=>z.imp (bq b) id,sx.sn.d⟩,λz=>⟨sx.pu,rfl⟩,λ_ z=>z⟩ sx.ac
end
theorem JO {X:Cx}{C:Cfg}{σ:St}{H1 H':Hp}{β:a7}{own:Nat->List Addr}{a:Addr}{o:List D}(s1:SQ X C σ H1 β own)(ha:H1 a=none)(h:OE X.prog X.w H1 a o H'):KV X.prog X.w C (H1,Wn own) own H' .own (.lst o) (.ref a):=by
 obtain⟨vs,A,at',os,nd,nw⟩:=h;refine⟨a::A,⟨a,vs,A,rfl,at',rfl,os⟩,Xg.mpr ⟨λz=>(nw a z).2 rfl,nd⟩,λc hc=>?_⟩;have nE:H1 c=none:=by
  rcases WG.mp hc with rfl|hc
  ·exact ha
  ·exact(nw c hc).1
 exact⟨nE,λh=>by obtain⟨j,hj⟩:=h;exact(s1.dm j c hj).1 nE,XG λz=>s1.iu c z nE⟩
def Hm (lk:List (Option Nat))(ι:cH)(γ:df)(τ:bb)(ι2:cH)(γ2:df)(τ2:bb)(φ:aQ):aQ:=λβ R=>ι β λds k β1=>hold k false/\j7 γ τ (FT ι2 γ2 τ2 (Gm φ)) ds k (cE lk β1) [] λβf o=>eS (cE lk β1) βf/\R (.lst o) .own β1
section
variable {X:Cx}{C:Cfg}{lk:List (Option Nat)}{γ γ2:df}{τ τ2:bb}{φ:aQ}{T T2:List Nat}
variable {scope:Zv}{tg cy zw qt elt:Expr}{ifs nB:List Expr}{ι ι2:cH}{pi:Bool}{pos:Pos}{i:Nat}
theorem UJ (N':List Str)(lk:List (Option Nat))(L:hV X.env.scope.names X.N scope N' lk=true)(sS:N'.Nodup)(hc:X.calm=true)(hi:xn X C pi tg cy ι)
  (oQ:∀a cl c s H ex,xp (aB X scope N' cl c s H ex) (C.u λc=>c=a) tg T γ) (kZ:∀a cl c s H ex,uc (aB X scope N' cl c s H ex) (C.u λc=>c=a) true ifs τ)
  (J7:∀a cl c s H ex,Tv (aB X scope N' cl c s H ex) (C.u λc=>c=a) zw qt ι2)
  (L1:∀a cl c s H ex,xp (aB X scope N' cl c s H ex) (C.u λc=>c=a) zw T2 γ2) (L0:∀a cl c s H ex,uc (aB X scope N' cl c s H ex) (C.u λc=>c=a) true nB τ2)
  (mz:∀a cl c s H ex,PQ (aB X scope N' cl c s H ex) (C.u λc=>c=a) true elt φ) (hT:(T++T2).all (λi=>match lk[i]? with|some (some _)=>false|_=>true)=true:=by rfl)
  (hs:∀x,XI cy X.env x=pure x:=by intro _;rfl) (uh:∀cl c s H ex x,XI qt (aB X scope N' cl c s H ex).env x=pure x:=by intro _ _ _ _ _ _;rfl):PQ X C pi (.ListComp elt [⟨tg,cy,ifs,0⟩,⟨zw,qt,nB,0⟩] scope pos) (Hm lk ι γ τ ι2 γ2 τ2 φ):=by
 have L:=Links.of L;have EO:∀i∈T++T2,∀j,lk[i]?≠some (some j):=λi hi j e=>by
  have:=YW.mp hT i hi;rw[e]at this;cases this
 have ax:Addr:=0;have Wy:List (Str×Addr):=[];have γm:=(oQ 0 [] 0 X.s₀ X.H₀ []).mono;have τm:=(kZ 0 [] 0 X.s₀ X.H₀ []).mono;have OG:=(L1 0 [] 0 X.s₀ X.H₀ []).mono;have OF:=(L0 0 [] 0 X.s₀ X.H₀ []).mono;have φm:=(mz 0 [] 0 X.s₀ X.H₀ []).mono;have ιm:=(J7 0 [] 0 X.s₀ X.H₀ []).mono;refine⟨λβ R R' k h=>hi.mono β _ _ (λds kd β1 q=>⟨q.1,q.2.mono λ_ _ z=>⟨z.1,k _ _ _ z.2⟩⟩) h,?_⟩;refine(iL (g:=⟨tg,cy,ifs,0⟩) (gs:=[⟨zw,qt,nB,0⟩]) (tg:=λa=>JX X C a T γ) (tt:=λa=>jS X (C.u λc=>c=a) true τ)
  (ta:=λa N σ H=>∃β own,SQ X (C.u λc=>c=a) σ H β own/\ι2 β λds k β'=>∀J H',au H H'->SQ X (C.u λc=>c=a) σ H' β' own->yT X (fZ (C.u λc=>c=a) (Wn own) k) J ds H' ->
   fH J (JX X C a T2 γ2) (jS X (C.u λc=>c=a) true τ2) (R7 X C a φ) N σ H')
  L hc iQ rfl rfl (λ_ _=>JI) hi.pi (λa cl c s H ex=>⟨(oQ a cl c s H ex).pg,(kZ a cl c s H ex).pt,DM (X:=aB X scope N' cl c s H ex) (g':=⟨zw,qt,nB,0⟩) rfl hc JH (J7 a cl c s H ex).pi (L1 a cl c s H ex).pg (L0 a cl c s H ex).pt (iN (X:=aB X scope N' cl c s H ex) rfl (mz a cl c s H ex).pe) (uh cl c s H ex)⟩) hs).pre λσ H Q h=>?_
 obtain⟨β,own,s,h⟩:=h;refine⟨β,own,s,hi.mono β _ _ (λds k β1 h J H1 aE o1 it a ha=>?_) h⟩;obtain⟨hk,q⟩:=h;refine rE (T:=T++T2) (vE (P:=X.prog) (w:=X.w) (H1:=H1)) γm τm (λj hj=>X1 _ hj) (cP L sS) EO o1.sq ha hk it ⟨[],[],aw,(show aI _ _ _ [] [] [] from ⟨rfl,rfl⟩),XR,λc hc=>(nomatch hc)⟩ (o1.sq.enter ha (cP L sS))
  (λHb Wb βx ox σx Hx Nx h0 sx qx=>Dq vE (λj hj=>Xm _ hj) OG OF (λHb Wb βy oy σy Hy Ny sy qy=>Dr h0 ha φm sy qy) ιm sx qx) q λo H' q o2 r=>?_
 refine q _ _ aE ⟨o2.sq,o1.sn.trans o2.sn,λz=>⟨(o1.pu z).1.trans (o2.pu rfl).1,(o1.pu z).2⟩,o1.le⟩ ((JO o1.sq ha r).later o1.sn)
end
end L2.Q
namespace L2
open PySem PySem.Spec PySem.SeqAt PyProof.Rows
section
variable {X:Cx}
theorem yb:m8 X newDict (.dT []) :=
 ⟨λpins s σ H Q E I h=>YN (h _ _ (WD _) I.fresh (λb o e=>WH _ e) (I.laid (t':=s.toks) (λ_ _ q=>WH _ q) (WD _) (B7 _ I.big)))⟩
theorem AA {k v:Expr}{tk tv:TE}{a:Addr}(hx:X.xe=λ_ _=>False)(hu:X.A.units<Y4)(hk:PE X k tk)(hv:PE X v tv):
  qO X (lr (B5 k v (.ref a) X.env)) (λN σ H=>tk σ H λy H1=>tv σ H1 λv H2=>∃kvs key b,H2 a=some (.dT kvs)/\y=.ref b/\H2 b=some (.tup (key.map kV))/\kvs.length<W7/\N σ (upd H2 a (.dT (putK kvs key v)))):=by
 intro pins s σ H N kk Q E I h hN;unfold lr B5;refine WA (WA (bJ (d8 hx (hk pins s σ H _ I h)) λu s1 ⟨y,H1,I1,r1,q⟩=>?_));refine WA (Yd (bJ (d8 hx (hv pins s1 σ H1 _ I1 q)) λw' s2 ⟨v,H2,I2,r2,kvs,key,b,e,ey,eb,l,q2⟩=>?_));subst ey;cases (show u=Value.ref b from r1)
 refine WA (Y6 (Yd ?_));obtain⟨z,hd,xs,rel,dd⟩:=M6 I2.bx e;have hz:xs.length<=W7:=by rw[<- Paired.length rel];exact z
 have hl:(putK kvs key v).length<=W7:=by have:=sD kvs key v;lia
 refine wpAny_dictSet_heap (hsz:=hz) (knd:=aae (cj X.prog X.w)) hu (vc I2.bx eb) dd λh' VF hs=>hN σ _ _ ?_ q2;obtain⟨q,es,ep,hq,h2,h3,h4,_,h5⟩:=VF;refine E8 I2 (by rw[e];exact YK) hs ⟨q,hq⟩ ⟨hl,hd,_,(rel.put key eb r2).keeps λc ys ec=>?_,q,es,ep,hq,h2,h3,h4,h5⟩
 rw[ar (FU ec e (λz=>nomatch z))];exact ec
end
end L2
namespace L2.Q
open PySem PySem.Spec PySem.SeqAt PyProof.Rows
def R5 (P:WI)(w:W6)(a:Addr)(o:List (List Int×D))(H:Hp):Prop:=∃vs,H a=some (.dT ((o.map λp=>iK p.1).zip vs))/\aI P w H (o.map (·.2)) vs []
theorem CB {P:WI}{w:W6}{a:Addr}:yV a (R5 P w a):=⟨λo H H' s h=>by
  obtain⟨vs,h1,h2⟩:=h;exact⟨vs,s _ _ h1,h2.keep (λb xs e=>s _ _ e) λc hc=>(nomatch hc)⟩,λo H xs h z=>by
  obtain⟨vs,h1,_⟩:=h;rw[h1]at z;cases z⟩
abbrev R8 (X:Cx)(C:Cfg)(a:Addr)(φk φ:aQ):m6:=λN σ H=>tQ X (C.u λc=>c=a) true φk σ H λy H1=>tQ X (C.u λc=>c=a) true φ σ H1 λv H2=>∃kvs key b,H2 a=some (.dT kvs)/\y=.ref b/\H2 b=some (.tup (key.map kV))/\kvs.length<W7/\N σ (upd H2 a (.dT (putK kvs key v)))
def B4 (φk φ:aQ)(o:List (List Int×D))(β:a7)(N:a7->List (List Int×D)->Prop):Prop:=φk β λkd _ β2=>φ β2 λx _ β3=>∃t,kd=.tup (t.map D.int)/\x.flat=true/\kz o t=none/\o.length<W7/\N β3 (o++[(t,x)])
section
variable {X:Cx}{C:Cfg}{W0:Addr->Prop}{T:List Nat}{σ0:St}{H1:Hp}{a:Addr}{Hb:Hp}{Wb:Addr->Prop}{φ φk:aQ}
theorem zY (h0:C.H0 a=none)(ha:H1 a=none)(GG:∀β R R',(∀d k β,R d k β->R' d k β)->φk β R->φk β R')(φm:∀β R R',(∀d k β,R d k β->R' d k β)->φ β R->φ β R'){β:a7}{o:List (List Int×D)}{σ:St}{H:Hp}{N:a7->List (List Int×D)->Prop}(s:t_ X C W0 T σ0 H1 a Hb Wb (R5 X.prog X.w a) β o σ H)(q:B4 φk φ o β N):
  R8 X C a φk φ (λσ' H'=>∃β' o',t_ X C W0 T σ0 H1 a Hb Wb (R5 X.prog X.w a) β' o' σ' H'/\N β' o') σ H:=by
 obtain⟨own,s⟩:=s;refine⟨β,own,s.sq,GG _ _ _ (λkd kk β5 q v5 H5 nv o5 r5=>?_) q⟩;obtain⟨OZ,rfl⟩:=o5.pu rfl;refine⟨β5,_,o5.sq,φm _ _ _ (λxd kx β6 ⟨t,e1,f,hn,hz,q2⟩ v H6 DP o6 r6=>?_) q⟩;obtain⟨sm,rfl⟩:=o6.pu rfl;have s6:=s.next CB o6.sq (λ_ z=>z) (OZ.trans sm) (λ_ _=>rfl)
 subst e1;obtain⟨b,us,rfl,hb,rt⟩:=r5.rep;rw[L2.bM rt]at hb;obtain⟨vs,at',os⟩:=s6.ac;have Ul:Own X.prog X.w H6 xd v []:=cX f r6.rep;have l:(o.map λp=>iK p.1).length=vs.length:=by rw[WB,os.length,WB]
 have Jd:putK ((o.map λp=>iK p.1).zip vs) (iK t) v=((o++[(t,xd)]).map λp=>iK p.1).zip (vs++[v]):=by
  rw[Ag v (GU os hn),Xl,List.zip_append l];rfl
 have kt:∀c xs,H6 c=some (.tup xs)->upd H6 a (.dT (putK ((o.map λp=>iK p.1).zip vs) (iK t) v)) c=some (.tup xs):=λc xs z=>by rw[ar (λz'=>by rw[z',at']at z;cases z)];exact z
 refine⟨_,iK t,b,at',rfl,by rw[F4];exact sm _ _ hb,by rw[List.length_zip,<- l,Nat.min_self,WB];exact hz,β6,o++[(t,xd)],⟨_,s6.put h0 ha at' (λxs z=>by cases z) ⟨vs++[v],by rw[aw,Jd],?_⟩⟩,q2⟩
 rw[Xl];exact(os.keep kt (A:=[]) λc hc=>by cases hc).append (aI.one (Ul.keep kt (A:=[]) λc hc=>by cases hc))
end
def Hl (lk:List (Option Nat))(ι:cH)(γ:df)(τ:bb)(φk φ:aQ):aQ:=λβ R=>ι β λds k β1=>hold k false/\j7 γ τ (B4 φk φ) ds k (cE lk β1) [] λβf o=>eS (cE lk β1) βf/\R (dA o) .own β1
section
variable {X:Cx}{C:Cfg}{lk:List (Option Nat)}{γ:df}{τ:bb}{φ φk:aQ}{T:List Nat}
variable {scope:Zv}{tg cy ke elt:Expr}{ifs:List Expr}{ι:cH}{pi:Bool}{pos:Pos}{i:Nat}
theorem VG (hu:X.A.units<Y4)(N':List Str)(lk:List (Option Nat))(L:hV X.env.scope.names X.N scope N' lk=true)(sS:N'.Nodup)(hc:X.calm=true)(hi:xn X C pi tg cy ι)
  (oQ:∀a cl c s H ex,xp (aB X scope N' cl c s H ex) (C.u λc=>c=a) tg T γ) (kZ:∀a cl c s H ex,uc (aB X scope N' cl c s H ex) (C.u λc=>c=a) true ifs τ)
  (Tc:∀a cl c s H ex,PQ (aB X scope N' cl c s H ex) (C.u λc=>c=a) true ke φk) (mz:∀a cl c s H ex,PQ (aB X scope N' cl c s H ex) (C.u λc=>c=a) true elt φ) (hT:T.all (λi=>match lk[i]? with|some (some _)=>false|_=>true)=true:=by rfl)
  (hs:∀x,XI cy X.env x=pure x:=by intro _;rfl):PQ X C pi (.DictComp ke elt [⟨tg,cy,ifs,0⟩] scope pos) (Hl lk ι γ τ φk φ):=by
 have L:=Links.of L;have EO:∀i∈T,∀j,lk[i]?≠some (some j):=λi hi j e=>by
  have:=YW.mp hT i hi;rw[e]at this;cases this
 have γm:=(oQ 0 [] 0 X.s₀ X.H₀ []).mono;have τm:=(kZ 0 [] 0 X.s₀ X.H₀ []).mono;have φm:=(mz 0 [] 0 X.s₀ X.H₀ []).mono;have GG:=(Tc 0 [] 0 X.s₀ X.H₀ []).mono;refine⟨λβ R R' k h=>hi.mono β _ _ (λds kd β1 q=>⟨q.1,q.2.mono λ_ _ z=>⟨z.1,k _ _ _ z.2⟩⟩) h,?_⟩;refine(iL (g:=⟨tg,cy,ifs,0⟩) (gs:=[]) (tg:=λa=>JX X C a T γ) (tt:=λa=>jS X (C.u λc=>c=a) true τ) (ta:=λa=>R8 X C a φk φ)
  L hc yb rfl rfl (λ_ _=>Ng) hi.pi (λa cl c s H ex=>⟨(oQ a cl c s H ex).pg,(kZ a cl c s H ex).pt,AA (X:=aB X scope N' cl c s H ex) rfl hu (Tc a cl c s H ex).pe (mz a cl c s H ex).pe⟩) hs).pre λσ H Q h=>?_
 obtain⟨β,own,s,h⟩:=h;refine⟨β,own,s,hi.mono β _ _ (λds k β1 h J H1 aE o1 it a ha=>?_) h⟩;obtain⟨hk,q⟩:=h;refine rE (T:=T) (CB (P:=X.prog) (w:=X.w)) γm τm (λj hj=>hj) (cP L sS) EO o1.sq ha hk it ⟨[],aw,(show aI _ _ _ [] [] [] from ⟨rfl,rfl⟩)⟩ (o1.sq.Jx (λxs z=>by cases z) ha (cP L sS))
  (λHb Wb βx ox σx Hx Nx h0 sx qx=>zY h0 ha GG φm sx qx) q λo H' q o2 r=>?_
 refine q _ _ aE ⟨o2.sq,o1.sn.trans o2.sn,λz=>⟨(o1.pu z).1.trans (o2.pu rfl).1,(o1.pu z).2⟩,o1.le⟩ ?_;obtain⟨vs,at',os⟩:=r;refine⟨[a],HG at' os,by simp,λc hc=>?_⟩
 rw[WN.mp hc];exact⟨XG λz=>o1.sn.d a z ha,λh=>by obtain⟨j,hj⟩:=h;exact(o1.sq.dm j a hj).1 ha,XG λz=>o1.sq.iu a z ha⟩
end
end L2.Q
namespace Mx
structure Sr (α:Type) where
 zero:α
 one:α
 add:α->α->α
 mul:α->α->α
section
variable {α:Type}(S:Sr α)
def C_ (n:Nat)(f:Nat->α):α:=match n with
 |0=>S.zero
 |n+1=>S.add (C_ n f) (f n)
end
section
end
section
end
end Mx
namespace L2
open PySem PySem.Spec PySem.SeqAt PyProof.Rows
theorem wV (t:List Int):(kD t).flat=true:=by
 have:=dP [t];show D.bR (t.map D.int)=true;have h:(D.bR (t.map D.int)&&true)=true:=this
 rwa [Bool.and_true]at h
end L2
namespace L2.Q
open PySem PySem.Spec PySem.SeqAt PyProof.Rows
structure ze (mg:Str->Option WC):Prop extends Bs2 mg where
 sum:mg "sum" = none
def tI (p:Nat×Nat):List Int:=[(p.1:Int),(p.2:Int)]
theorem zC {p q:Nat×Nat}(h:tI p=tI q):p=q:=by
 unfold tI at h;injection h with h1 h2
 injection h2 with h2 _
 exact Prod.ext (Int.ofNat.inj h1) (Int.ofNat.inj h2)
def pM (ps:List (Nat×Nat)):D:=.lst (ps.map λp=>kD (tI p))
def kG (n:Nat)(ps:List (Nat×Nat)):D:=.tup [.int n,pM ps]
structure CF (n:Nat)(ps:List (Nat×Nat)):Prop where
 lt:∀p∈ps,p.1<p.2/\p.2<n
 nd:ps.Nodup
 le:n<=80
 sm:ps.length<=400
theorem zv {n:Int}{ts:List (List Int)}(n0:0<=n)(h:bz n ts):∃ps:List (Nat×Nat),ts=ps.map tI/\∀p∈ps,p.1<p.2/\p.2<n.toNat:=by
 induction ts with
 |nil=>exact⟨[],rfl,λ_ z=>(nomatch z)⟩
 |cons t ts ih =>
  obtain⟨ps,e,q⟩:=ih λu hu=>h u (by simp[hu])
  obtain⟨a,b,rfl,h1,h2,h3⟩:=h t (by simp)
  refine⟨(a.toNat,b.toNat)::ps,?_,λp hp=>?_⟩
  ·rw[W_,<- e]
   congr 1
   show [a,b]=[((a.toNat:Nat):Int),((b.toNat:Nat):Int)];rw[Int.toNat_of_nonneg h1,Int.toNat_of_nonneg (by lia)]
  ·rcases WG.mp hp with rfl|hp
   ·exact⟨by show a.toNat<b.toNat;lia,by show b.toNat<n.toNat;lia⟩
   ·exact q p hp
theorem Du {n:Int}{ts:List (List Int)}(n0:0<=n)(n1:n<=80)(l:ts.length<=400)(h:bz n ts)(nd:ts.Nodup):∃(m:Nat) (ps:List (Nat×Nat)),CF m ps/\n=m/\ts=ps.map tI/\D.tup [.int n,.lst (ts.map kD)]=kG m ps:=by
 obtain⟨ps,e,q⟩:=zv n0 h;refine⟨n.toNat,ps,⟨q,?_,by lia,by rw[e,WB]at l;exact l⟩,by lia,e,?_⟩
 ·rw[e]at nd;exact(XW.mp nd).imp λz e=>z (congrArg tI e)
 ·unfold kG pM;rw[e,XD,Int.toNat_of_nonneg n0];rfl
def bp (l:List Nat):List D:=l.map λ(k:Nat)=>D.int (k:Int)
def iq (ps:List (Nat×Nat))(i:Nat):List Nat:=(ps.filter λp=>decide (p.1=i)).map (·.2)
theorem bB {ps:List (Nat×Nat)}{i k:Nat}:k∈iq ps i↔(i,k)∈ps:=by
 unfold iq;rw[WT];constructor
 ·rintro⟨p,hp,rfl⟩;obtain⟨h1,h2⟩:=WW.mp hp;rw[<- of_decide_eq_true h2];exact h1
 ·intro h;exact⟨(i,k),WW.mpr ⟨h,by simp⟩,rfl⟩
def Hr (n:Nat)(ps:List (Nat×Nat)):D:=.lst ((WK n).map λi=>.lst (bp (iq ps i)))
def wD (ps:List (Nat×Nat))(w:Nat×Nat->Int):D:=dA (ps.map λp=>(tI p,.int (w p)))
theorem GS {ps:List (Nat×Nat)}{w:Nat×Nat->Int}{p:Nat×Nat}(h:p∈ps):kz (ps.map λp=>(tI p,.int (w p))) (tI p)=some (.int (w p)):=by
 unfold kz
 induction ps with
 |nil=>cases h
 |cons q ps ih =>
  rw[W_,Yl]
  by_cases e:q=p
  ·rw[e,decide_eq_true rfl];rfl
  ·rw[decide_eq_false λz=>e (zC z)];exact ih ((WG.mp h).resolve_left λz=>e z.symm)
theorem Eb {ps:List (Nat×Nat)}{w:Nat×Nat->Int}{p:Nat×Nat}(h:p∉ps):kz (ps.map λp=>(tI p,.int (w p))) (tI p)=none:=by
 unfold kz;rw[Option.map_eq_none_iff,List.find?_eq_none];intro x hx;obtain⟨q,hq,rfl⟩:=WT.mp hx;simp only[decide_eq_true_eq];intro e;exact h (zC e▸hq)
theorem Jp {ps:List (Nat×Nat)}{w:Nat×Nat->Int}{i k:Nat}(h:(i,k)∈ps):xc (wD ps w) (.tup [.int (i:Int),.int (k:Int)])=some (.int (w (i,k))):=by
 have:=Fe (kvs:=ps.map λp=>(tI p,D.int (w p))) (t:=tI (i,k));rw[GS h]at this;exact this
theorem bc {α:Type}{n i:Nat}{f:Nat->α}(h:i<n):((WK n).map f)[i]?=some (f i):=by
 rw[WU,YD h];rfl
theorem j9 {ds:List D}{x:Int}{i:Nat}{d:D}(hx:x=(i:Int))(h:ds[i]?=some d):tN (.lst ds) (.int x)=some d:=by rw[hx];exact Fc h
theorem LI {n:Nat}{ps:List (Nat×Nat)}{x:Int}{i:Nat}(hx:x=(i:Int))(h:i<n):tN (Hr n ps) (.int x)=some (.lst (bp (iq ps i))):=j9 hx (bc h)
def pO (L:Nat)(T:Nat->Int):List D:=(WK L).map λl=>.int (T l)
def fD (n:Nat)(L:Nat->Nat)(T:Nat->Nat->Int):D:=.lst ((WK (n+1)).map λi=>.lst (pO (L i) λl=>T l i))
theorem mm {L:Nat}{T:Nat->Int}{x:Int}{l:Nat}(hx:x=(l:Int))(h:l<L):tN (.lst (pO L T)) (.int x)=some (.int (T l)):=j9 hx (bc h)
theorem ml {n:Nat}{L:Nat->Nat}{T:Nat->Nat->Int}{x:Int}{i:Nat}(hx:x=(i:Int))(h:i<=n):tN (fD n L T) (.int x)=some (.lst (pO (L i) λl=>T l i)):=j9 hx (bc (by lia))
def iS (ps:List (Nat×Nat))(w:Nat×Nat->Int)(T:Nat->Nat->Int)(i j:Nat):Int:=(fo ((((iq ps i).filter λk=>decide (k<j)).map λk=>w (i,k)+T (k-i-1) (i+1)+T (j-k-1) (k+1))++[T (j-i-1) (i+1)])).getD 0
theorem oE {l:List Int}{x:Int}:fo (l++[x])=some ((fo (l++[x])).getD 0):=by
 cases l with
 |nil=>rfl
 |cons a l=>rfl
theorem l3 {ps:List (Nat×Nat)}{w:Nat×Nat->Int}{T T':Nat->Nat->Int}{i j:Nat}(hp:∀p∈ps,p.1<p.2)(hj:i<j)(h:∀l,l<j-i->∀a,T l a=T' l a):iS ps w T i j=iS ps w T' i j:=by
 unfold iS;have e:((iq ps i).filter λk=>decide (k<j)).map (λk=>w (i,k)+T (k-i-1) (i+1)+T (j-k-1) (k+1))=((iq ps i).filter λk=>decide (k<j)).map λk=>w (i,k)+T' (k-i-1) (i+1)+T' (j-k-1) (k+1):=by
  refine Xe λk hk=>?_;obtain⟨h1,h2⟩:=WW.mp hk;have h3:=hp _ (bB.mp h1);have h4:=of_decide_eq_true h2;dsimp only at h3;rw[h _ (by lia),h _ (by lia)]
 rw[e,h (j-i-1) (by lia)]
def G5 (ps:List (Nat×Nat))(w:Nat×Nat->Int):Nat->Nat->Nat->Int
 |0,_,_=>0
 |_+1,0,_=>0
 |n+1,l+1,i=>iS ps w (G5 ps w n) i (i+l+1)
theorem qY {ps:List (Nat×Nat)}{w:Nat×Nat->Int}(hp:∀p∈ps,p.1<p.2):∀{n m l i:Nat},l<=n->l<=m->G5 ps w n l i=G5 ps w m l i
 |0,0,_,_,_,_=>rfl
 |0,m+1,0,_,_,_=>rfl
 |0,m+1,l+1,_,h,_=>by lia
 |n+1,0,0,_,_,_=>rfl
 |n+1,0,l+1,_,_,h=>by lia
 |n+1,m+1,0,_,_,_=>rfl
 |n+1,m+1,l+1,i,h1,h2=>by
  unfold G5;exact l3 hp (by lia) λl' hl a=>qY hp (by lia) (by lia)
def tW (ps:List (Nat×Nat))(w:Nat×Nat->Int)(l i:Nat):Int:=G5 ps w l l i
theorem kQ {ps:List (Nat×Nat)}{w:Nat×Nat->Int}(hp:∀p∈ps,p.1<p.2){l i:Nat}:tW ps w (l+1) i=iS ps w (tW ps w) i (i+l+1):=by
 show G5 ps w (l+1) (l+1) i=_;unfold G5;exact l3 hp (by lia) λl' hl a=>qY hp (by lia) (by lia)
def dY (n a:Nat):List (Nat×Nat):=(WK (a+1)).map λb=>(n-1-a,n-a+b)
def pQ (n:Nat):List (Nat×Nat):=(WK n).flatMap (dY n)
def JZ (p:Nat×Nat):D:=.tup [.int (p.1:Int),.int (p.2:Int)]
def d6 (n a b:Nat):List (Nat×Nat):=(dY n a).drop b++((WK n).drop (a+1)).flatMap (dY n)
theorem gZ {n a b:Nat}(h:b<=a):d6 n a b=(n-1-a,n-a+b)::d6 n a (b+1):=by
 unfold d6 dY;rw[XE (by rw[WB,Xh];lia)]
 simp
theorem ph {n a:Nat}(h:a<n):((WK n).drop a).flatMap (dY n)=d6 n a 0:=by
 unfold d6;rw[XE (by rw[Xh];exact h)]
 simp
theorem n_ {n a:Nat}(h:a+1<n):d6 n a (a+1)=d6 n (a+1) 0:=by
 rw[<- ph h];unfold d6 dY;simp
theorem uP {n a:Nat}(h:n<=a+1):d6 n a (a+1)=[]:=by
 unfold d6 dY;rw[List.drop_eq_nil_of_le (by simp),List.drop_eq_nil_of_le (by simpa using h)]
 rfl
theorem xx {n:Nat}(h:0<n):pQ n=d6 n 0 0:=by rw[<- ph h];rfl
theorem eK {α:Type}{γ:df}{τ:bb}{φ:aQ}{l:List α}{f:α->D}{k:Kd}{tS:a7}{K:List D->Prop}(t:α->Bool)(g:α->D)(h0:eS tS tS)(hl:l.length<=W7)
  (h:∀x∈l,∀(x0:Option B) (o:List D) (J:a7->List D->Prop),o.length<W7->(t x=true->∀x0,J (x0::tS) (o++[g x]))->(t x=false->∀x0,J (x0::tS) o)->γ (f x) (sk k (f x)) (x0::tS) λβ1=>τ β1 λt β2=>if t=true then φ β2 λx kx β3=>Ew kx x/\o.length<W7/\J β3 (o++[x]) else J β2 o)
  (q:K ((l.filter t).map g)):j6 γ τ φ (l.map f) k (none::tS) K:=by
 refine⟨λi β o=>i<=l.length/\(∃x0,β=x0::tS)/\o=((l.take i).filter t).map g,⟨WV _,⟨_,rfl⟩,rfl⟩,?_,?_⟩
 ·rintro i d β o hd ⟨hi,⟨x0,rfl⟩,rfl⟩;rw[WU]at hd;obtain⟨x,hx,rfl⟩:=W8.mp hd;have eV:i<l.length:=(W3.mp hx).1;have hle:(((l.take i).filter t).map g).length<W7:=by
   rw[WB];have:=X2 t (l.take i);rw[Xj]at this;lia
  have e:l.take (i+1)=l.take i++[x]:=by rw[X_,hx];rfl
  refine h x (XB hx) x0 _ (λβ o=>i+1<=l.length/\(∃x0,β=x0::tS)/\o=((l.take (i+1)).filter t).map g) hle (λht x0=>?_) λht x0=>?_
  ·exact⟨eV,⟨_,rfl⟩,by rw[e,XN,Xl,Xr,if_pos ht];rfl⟩
  ·exact⟨eV,⟨_,rfl⟩,by rw[e,XN,Xl,Xr,if_neg (by rw[ht];simp)];simp⟩
 ·rintro β o ⟨_,⟨x0,rfl⟩,rfl⟩;rw[WB,Yv];exact⟨h0,q⟩
theorem Ba {α:Type}{γ:df}{τ:bb}{φ:aQ}{l:List α}{f:α->D}{k:Kd}{tS:a7}{K:List D->Prop}(t:α->Bool)(g:α->D)(h0:eS tS tS)(hl:l.length<=W7)
  (h:∀x∈l,∀(x0 x1:Option B) (o:List D) (J:a7->List D->Prop),o.length<W7->(t x=true->∀x0 x1,J (x0::x1::tS) (o++[g x]))->(t x=false->∀x0 x1,J (x0::x1::tS) o)->γ (f x) (sk k (f x)) (x0::x1::tS) λβ1=>τ β1 λt β2=>if t=true then φ β2 λx kx β3=>Ew kx x/\o.length<W7/\J β3 (o++[x]) else J β2 o)
  (q:K ((l.filter t).map g)):j6 γ τ φ (l.map f) k (none::none::tS) K:=by
 refine⟨λi β o=>i<=l.length/\(∃x0 x1,β=x0::x1::tS)/\o=((l.take i).filter t).map g,⟨WV _,⟨_,_,rfl⟩,rfl⟩,?_,?_⟩
 ·rintro i d β o hd ⟨hi,⟨x0,x1,rfl⟩,rfl⟩;rw[WU]at hd;obtain⟨x,hx,rfl⟩:=W8.mp hd;have eV:i<l.length:=(W3.mp hx).1;have hle:(((l.take i).filter t).map g).length<W7:=by
   rw[WB];have:=X2 t (l.take i);rw[Xj]at this;lia
  have e:l.take (i+1)=l.take i++[x]:=by rw[X_,hx];rfl
  refine h x (XB hx) x0 x1 _ (λβ o=>i+1<=l.length/\(∃x0 x1,β=x0::x1::tS)/\o=((l.take (i+1)).filter t).map g) hle (λht x0 x1=>?_) λht x0 x1=>?_
  ·exact⟨eV,⟨_,_,rfl⟩,by rw[e,XN,Xl,Xr,if_pos ht];rfl⟩
  ·exact⟨eV,⟨_,_,rfl⟩,by rw[e,XN,Xl,Xr,if_neg (by rw[ht];simp)];simp⟩
 ·rintro β o ⟨_,⟨x0,x1,rfl⟩,rfl⟩;rw[WB,Yv];exact⟨h0,q⟩
theorem bG {α:Type}{l:List α}:l.filter (λ_=>true)=l:=List.filter_eq_self.mpr λ_ _=>rfl
theorem mS {a b:List D}(h:a.length+b.length<=1000000):Cg (.lst a) (.lst b)=some (.lst (a++b)):=by
 show (if a.length+b.length<=W7 then _ else _)=_
 rw[if_pos (Xo h (by decide))]
theorem oX {α:Type}{f:α->Int}:∀{l:List α},D.bR (l.map λx=>D.int (f x))=true
 |[]=>rfl
 |_::l=>oX (l:=l)
theorem oY:∀{a b:List D},D.bR a=true->D.bR b=true->D.bR (a++b)=true
 |[],_,_,h=>h
 |d::a,b,h,h'=>by
  have f':(d.flat&&D.bR a)=true:=h;rw[Xz]at f';show (d.flat&&D.bR (a++b))=true;rw[f'.1,oY f'.2 h'];rfl
theorem A4 {α:Type}{f:α->Int}{l:List α}{x:Int}:cU fo [.lst ((l.map λk=>D.int (f k))++[D.int x])]=some (.int ((fo (l.map f++[x])).getD 0)):=by
 have e:(l.map λk=>D.int (f k))++[D.int x]=(l.map f++[x]).map D.int:=by simp
 rw[e];exact ic oE
theorem Eh {α:Type}{l:List α}{m:Nat}{x:α}(h:l.Nodup)(hx:l[m]?=some x):x∉l.take m:=λz=>by
 obtain⟨i,hi⟩:=List.mem_iff_getElem?.mp z;rw[List.getElem?_take]at hi
 split at hi
 ·next eV =>
  have:=(List.getElem?_inj (W3.mp hi).1 h).mp (hi.trans hx.symm);lia
 ·cases hi
def vt:FD:=λds R=>∃n:Nat,ds=[.int n]/\n<=80/\R (.lst ((pQ n).map JZ))
theorem vt.mono:c5 vt:=λds R R' k h=>by obtain⟨n,e,h1,q⟩:=h;exact⟨n,e,h1,k _ q⟩
def mI:FD:=λds R=>∃n ps,ds=[kG n ps]/\CF n ps/\R (Hr n ps)
theorem mI.mono:c5 mI:=λds R R' k h=>by obtain⟨n,ps,e,h1,q⟩:=h;exact⟨n,ps,e,h1,k _ q⟩
def mJ:FD:=λds R=>∃(n:Nat) (ps:List (Nat×Nat)) (w:Nat×Nat->Int) (L:Nat->Nat) (T:Nat->Nat->Int) (i k j:Nat),ds=[wD ps w,fD n L T,.int i,.int k,.int j]/\(i,k)∈ps/\i<k/\k<j/\j<=n/\k-i-1<L (i+1)/\j-k-1<L (k+1) /\
 R (.int (w (i,k)+T (k-i-1) (i+1)+T (j-k-1) (k+1)))
theorem mJ.mono:c5 mJ:=λds R R' k h=>by obtain⟨n,ps,w,L,T,i,k',j,e,h1,h2,h3,h4,h5,h6,q⟩:=h;exact⟨n,ps,w,L,T,i,k',j,e,h1,h2,h3,h4,h5,h6,k _ q⟩
def mK:FD:=λds R=>∃(n:Nat) (ps:List (Nat×Nat)) (w:Nat×Nat->Int) (L:Nat->Nat) (T:Nat->Nat->Int) (i j:Nat),ds=[Hr n ps,wD ps w,fD n L T,.int i,.int j]/\CF n ps/\i<j/\j<=n/\(∀a,i<a->a<=n->n+1-a<=L a)/\R (.int (iS ps w T i j))
theorem mK.mono:c5 mK:=λds R R' k h=>by obtain⟨n,ps,w,L,T,i,j,e,h1,h2,h3,h4,q⟩:=h;exact⟨n,ps,w,L,T,i,j,e,h1,h2,h3,h4,k _ q⟩
abbrev oT (n:Nat)(T:Nat->Nat->Int):D:=fD n (λi=>n+1-i) T
def mL:FD:=λds R=>∃(n:Nat) (ps:List (Nat×Nat)) (w:Nat×Nat->Int),ds=[kG n ps,wD ps w]/\CF n ps/\R (oT n (tW ps w))
theorem mL.mono:c5 mL:=λds R R' k h=>by obtain⟨n,ps,w,e,h1,q⟩:=h;exact⟨n,ps,w,e,h1,k _ q⟩
def w1:Nat×Nat->Int:=λ_=>1
def vw:FD:=λds R=>∃(n:Nat) (ps:List (Nat×Nat)),ds=[kG n ps]/\CF n ps/\R (wD ps w1)
theorem vw.mono:c5 vw:=λds R R' k h=>by obtain⟨n,ps,e,h1,q⟩:=h;exact⟨n,ps,e,h1,k _ q⟩
def mG:FD:=λds R=>∃(n:Nat) (ps:List (Nat×Nat)),ds=[kG n ps]/\CF n ps/\R (oT n (tW ps w1))
theorem mG.mono:c5 mG:=λds R R' k h=>by obtain⟨n,ps,e,h1,q⟩:=h;exact⟨n,ps,e,h1,k _ q⟩
theorem fx {n:Nat}(h:n<=1000):n<=W7:=Xo h (by decide)
theorem jT {n:Nat}(h:n<=1000):n<W7:=Nat.lt_of_le_of_lt h (by decide)
theorem yo {n i:Nat}{x:Int}(hx:x=(i:Int))(h:i<n):wN n x=some i:=by
 subst hx;unfold wN;rw[if_pos (by lia),if_pos (by lia)]
 simp
theorem vX {α:Type}{n i:Nat}{f:Nat->α}{y:α}(h:i<n):((WK n).map f).set i y=(WK n).map λk=>if k=i then y else f k:=by
 refine YB λk=>?_;rw[Zc]
 by_cases hk:k<n
 ·rw[bc hk,bc hk,WB,Xh]
  by_cases e:i=k
  ·rw[if_pos e,if_pos (e▸hk),if_pos e.symm]
  ·rw[if_neg e,if_neg (X6 e)]
 ·rw[Xw (l:=(WK n).map f) (by simpa using hk),Xw (l:=(WK n).map λk=>if k=i then y else f k) (by simpa using hk),if_neg (by lia)]
theorem Hf {n i k:Nat}{ps:List (Nat×Nat)}(h:i<n):((WK n).map λj=>D.lst (bp (iq ps j))).set i (.lst (bp (iq ps i)++[D.int k]))=(WK n).map λj=>D.lst (bp (iq (ps++[(i,k)]) j)):=by
 rw[vX h];refine Xe λj _=>?_;unfold iq bp;rw[XN,Xl,Xl]
 by_cases e:j=i
 ·rw[if_pos e,e];simp
 ·rw[if_neg e,Xr,if_neg (by simpa using X6 e)];simp
theorem iI {ps:List (Nat×Nat)}{i:Nat}:(iq ps i).length<=ps.length:=by
 unfold iq;rw[WB];exact X2 _ _
def dc (n a b:Nat)(i:Nat):Nat:=if n-1-a<i then n+1-i else if i=n-1-a then b+1 else 1
theorem vW {n a b:Nat}{T:Nat->Nat->Int}(ha:a<n)(hb:b<=a):
  ((WK (n+1)).map λi=>D.lst (pO (dc n a b i) λl=>T l i)).set (n-1-a) (.lst (pO (b+1) (λl=>T l (n-1-a))++[D.int (T (b+1) (n-1-a))]))=(WK (n+1)).map λi=>D.lst (pO (dc n a (b+1) i) λl=>T l i):=by
 rw[vX (by lia)]
 refine Xe λi _=>?_;unfold dc
 by_cases e:i=n-1-a
 ·rw[if_pos e,e,if_neg (by lia),if_pos rfl]
  unfold pO;rw[List.range_succ (n:=b+1),Xl];rfl
 ·rw[if_neg e,if_neg e,if_neg e]
theorem yi {n a:Nat}(h:a+1<n)(i:Nat)(hi:i<=n):dc n a (a+1) i=dc n (a+1) 0 i:=by
 unfold dc
 by_cases h1:n-1-a<i
 ·rw[if_pos h1,if_pos (by omega)]
 ·rw[if_neg h1]
  by_cases h2:i=n-1-a
  ·rw[if_pos h2,if_pos (by omega)];omega
  ·rw[if_neg h2,if_neg (by omega)]
   split <;> rfl
theorem Bd {n a:Nat}(h:n=a+1)(i:Nat)(hi:i<=n):dc n a (a+1) i=n+1-i:=by
 unfold dc
 split
 ·rfl
 ·split <;> lia
theorem va {n:Nat}(h:0<n)(i:Nat)(hi:i<=n):dc n 0 0 i=1:=by
 unfold dc
 split
 ·lia
 ·split <;> rfl
theorem f_ {n:Nat}{L L':Nat->Nat}{T:Nat->Nat->Int}(h:∀i,i<=n->L i=L' i):fD n L T=fD n L' T:=by
 unfold fD
 congr 1
 refine Xe λi hi=>?_;rw[h i (by have:=X8.mp hi;lia)]
def uf (n idx:Nat)(L:Nat->Nat):Prop:=(n=0/\L 0=1)\/∃a b,a<n/\b<=a+1/\(∀i,i<=n->L i=dc n a b i)/\(pQ n).drop idx=d6 n a b
theorem kn {n:Nat}:uf n 0 λ_=>1:=by
 rcases Nat.eq_zero_or_pos n with h|h
 ·exact .inl ⟨h,rfl⟩
 ·exact .inr ⟨0,0,h,WV _,λi hi=>(va h i hi).symm,xx h⟩
theorem pj {n:Nat}{L:Nat->Nat}(h:uf n (pQ n).length L):∀i,i<=n->L i=n+1-i:=by
 rcases h with⟨rfl,h⟩|⟨a,b,h1,h2,h3,h4⟩
 ·intro i hi;rw[show i=0 by lia,h]
 ·intro i hi;rw[List.drop_length]at h4;have hb:b=a+1:=by
   rcases X0 a b with q|q
   ·lia
   ·rw[gZ q]at h4;cases h4
  have ha:n=a+1:=by
   rcases X0 (a+1) n with q|q
   ·rw[hb,n_ q,gZ (WV _)]at h4;cases h4
   ·lia
  rw[h3 i hi,hb];exact Bd ha i hi
theorem mP {n idx:Nat}{L:Nat->Nat}{p:Nat×Nat}(h:uf n idx L)(hp:(pQ n)[idx]?=some p):∃a b,a<n/\b<=a/\p=(n-1-a,n-a+b)/\(∀i,i<=n->L i=dc n a b i)/\(pQ n).drop (idx+1)=d6 n a (b+1):=by
 have hd:(pQ n).drop idx=p::(pQ n).drop (idx+1):=by
  obtain⟨h1,h2⟩:=W3.mp hp;rw[XE h1,h2]
 rcases h with⟨rfl,h⟩|⟨a,b,h1,h2,h3,h4⟩
 ·cases hp
 ·have key:∃a b,a<n/\b<=a/\(∀i,i<=n->L i=dc n a b i)/\(pQ n).drop idx=d6 n a b:=by
   rcases X0 a b with q|q
   ·have e:b=a+1:=by lia
    rcases X0 (a+1) n with q2|q2
    ·exact⟨a+1,0,q2,WV _,λi hi=>by rw[h3 i hi,e,yi q2 i hi],by rw[h4,e,n_ q2]⟩
    ·rw[h4,e,uP q2]at hd;cases hd
   ·exact⟨a,b,h1,q,h3,h4⟩
  obtain⟨a,b,h1,h2,h3,h4⟩:=key;rw[h4,gZ h2]at hd;injection hd with e1 e2
  exact⟨a,b,h1,h2,e1.symm,h3,e2.symm⟩
theorem rG {n a:Nat}:(dY n a).length=a+1:=by unfold dY;simp
theorem xO {n a b:Nat}(h:b<a+1):(dY n a).take (b+1)=(dY n a).take b++[(n-1-a,n-a+b)]:=by
 rw[X_];unfold dY;rw[bc h];rfl
theorem z9 {n a:Nat}:(dY n a).take (a+1)=dY n a:=Yp (by rw[rG];exact WD _)
theorem sW {n:Nat}:∀a:Nat,a<=n->(((WK n).take a).flatMap (dY n)).length<=a*a
 |0,_=>by simp
 |a+1,h=>by
  have:=sW (n:=n) a (by lia)
  rw[X_,YD (show a<n by lia),List.flatMap_append,Xi]
  have e:((some a).toList.flatMap (dY n)).length=a+1:=by simp[rG]
  rw[e,Nat.mul_add,Nat.add_mul];lia
theorem zF {n a b:Nat}(hn:n<=80)(ha:a<n)(hb:b<a+1):(((WK n).take a).flatMap (dY n)).length+((dY n a).take b).length<W7:=by
 have h1:=sW (n:=n) a (by lia)
 have h2:((dY n a).take b).length<=b:=by rw[Xj];exact Nat.min_le_left _ _
 have h3:a*a<=80*80:=ZW (by lia) (by lia)
 have h4:80*80+80<W7:=by decide
 lia
end L2.Q
namespace ku
open PySem L2 L2.Q
section
variable {P:WI}{w:W6}{K:PySem.W.Frag}{mg:Str->Option WC}{base:Heap}
theorem gH:aK ["many"] ["many"] (ay bI):=⟨rfl,rfl,rfl,by decide +kernel,rfl,by decide +kernel,by decide +kernel⟩
theorem wA {nH gO} (uk:D4 K mg nH gO) (B:ze mg):aM P w K mg base bZ 1 nH gO ["many"] (dX P w true vt):=by
 refine qQ uk.F gH (λds R Mv=> by obtain⟨n,e,_⟩ := Mv;subst e;rfl) λcJ A outer s H E hr=>⟨_,(ao (aY (UJ ["i","j","many"] [none,none,some 0] (by rfl) (by decide:(["i","j","many"]:List Str).Nodup) rfl (lN B.range (aa (aH af (b8.m bA) (ab (i:=0)) ag) (aa (we kP ag) (aa (we kP ag) ae)))) (λ_ _ _ _ _ _=>(ak (i:=0) (by decide:(["i","j","many"]:List Str).Nodup))) (λ_ _ _ _ _ _=>c7) (λ_ _ _ _ _ _=>(uT B.range (aa (aH aL aC (ab (i:=0)) ag) (aa (aH aL aC (ab (i:=2)) ag) ae)))) (λ_ _ _ _ _ _=>(ak (i:=1) (by decide:(["i","j","many"]:List Str).Nodup))) (λ_ _ _ _ _ _=>c7) (λ_ _ _ _ _ _=>(cn (aa (ab (i:=0)) (aa (ab (i:=1)) ae))))))),λds R h=>?_⟩
 obtain⟨n,rfl,hn,q⟩:=h;refine⟨_,rfl,trivial,_,rfl,trivial,_,rfl,rfl,trivial,_,rfl,rfl,trivial,(n:Int)-1,-1,rfl,⟨by lia,by lia,by lia,by lia⟩,trivial,?_⟩
 have en:((n:Int)-1 - -1).toNat=n:=by lia
 rw[en];refine⟨λa β o=>a<=n/\(∃x0 x1,β=[x0,x1,some (.val false (.int n))])/\o=(((WK n).take a).flatMap (dY n)).map JZ,⟨WV _,⟨_,_,rfl⟩,rfl⟩,?_,?_⟩
 ·rintro a d β o hd ⟨ha,⟨x0,x1,rfl⟩,rfl⟩;obtain⟨wR,rfl⟩:=lK hd;have e1:(n:Int)-1-a=((n-1-a:Nat):Int):=by lia
  rw[e1];refine⟨_,rfl,trivial,_,rfl,trivial,_,rfl,trivial,_,rfl,trivial,((n-1-a:Nat):Int)+1,(n:Int)+1,rfl,⟨by lia,by lia,by lia,by lia⟩,?_⟩
  have e2:((n:Int)+1-(((n-1-a:Nat):Int)+1)).toNat=a+1:=by lia
  rw[e2];refine⟨λb β o=>b<=a+1/\(∃x1,β=[some (.val true (.int ((n-1-a:Nat):Int))),x1,some (.val false (.int n))])/\o=(((WK n).take a).flatMap (dY n)++(dY n a).take b).map JZ,⟨WV _,⟨_,rfl⟩,by simp⟩,?_,?_⟩
  ·rintro b d β o hd ⟨hb,⟨x1,rfl⟩,rfl⟩;obtain⟨kL,rfl⟩:=cb hd;refine⟨_,rfl,trivial,_,rfl,trivial,qZ,trivial,?_,kL,⟨_,rfl⟩,?_⟩
   ·rw[WB,Xi];exact zF hn wR kL
   ·rw[show ((n-1-a:Nat):Int)+1+(b:Int)=((n-a+b:Nat):Int) by lia,xO kL,<- X4,Xl,Xl,Xl]
    rfl
  ·rintro β o ⟨_,⟨x1,rfl⟩,rfl⟩;refine⟨wR,⟨_,_,rfl⟩,?_⟩;rw[cC,z9,X_,YD wR,List.flatMap_append];simp
 ·rintro β o ⟨_,⟨x0,x1,rfl⟩,rfl⟩;rw[lJ,Yp (by simp)]
  exact⟨trivial,trivial,q⟩
theorem bE:aK ["row","many","ties","partners","a","b"] ["row"] (ay cS):=⟨rfl,rfl,rfl,by decide +kernel,rfl,by decide +kernel,by decide +kernel⟩
theorem wB {nJ gP} (um:D5 K mg nJ gP) (B:ze mg):aM P w K mg base bZ 1 nJ gP ["row"] (dX P w true mI):=by
 refine qQ um.F bE (λds R Mu=> by obtain⟨n,ps,e,_⟩ := Mu;subst e;rfl) λcJ A outer s H E hr=>⟨_,(aj (qc (ab (i:=0)) (cg (n:=2) rfl (aG (ak (i:=1) bE.nd) (aG (ak (i:=2) bE.nd) bK))))
    (aj (rF (i:=3) true ["point"] [none] (by rfl) (by decide:(["point"]:List Str).Nodup) rfl (λ_=>(bg B.range (aa (ab (i:=1)) ae))) (λ_ _ _ _ _ _=>(ak (i:=0) (by decide:(["point"]:List Str).Nodup))) (λ_ _ _ _ _ _=>c7) (λ_ _ _ _ _ _=>(bh ae)) bE.nd)
    (aj (b9 XM rfl (a_ (ab (i:=2))) (cg (n:=2) rfl (aG (ak (i:=4) bE.nd) (aG (ak (i:=5) bE.nd) bK))) (ao (d7 (i:=3) true (λ_=>(ab (i:=5))) (λ_=>(ab (i:=4))))))
    (ao (kT (i:=3)))))),λds R h=>?_⟩
 obtain⟨n,ps,rfl,ok,q⟩:=h;have hn:=ok.le;refine⟨_,rfl,_,rfl,rfl,_,_,rfl,_,_,rfl,rfl,_,rfl,trivial,n,rfl,by lia,by lia,trivial,?_⟩
 rw[Zd];refine eK (λ_=>true) (λ_=>.lst []) trivial (by rw[Xh];exact fx (by lia)) (λx hx x0 o J ho h1 _=>⟨WV _,trivial,ho,h1 rfl _⟩) ?_
 rw[bG];refine⟨_,rfl,_,rfl,trivial,?_⟩;refine⟨λm β=>∃x4 x5,β=[some (.val false (kG n ps)),some (.val true (.int n)),some (.val false (pM ps)),some (.own (Hr n (ps.take m))),x4,x5],⟨_,_,rfl⟩,?_,?_⟩
 ·rintro m d β hd ⟨x4,x5,rfl⟩;rw[WU]at hd;obtain⟨p,hp,rfl⟩:=W8.mp hd;obtain⟨h1,h2⟩:=ok.lt p (XB hp);refine⟨_,rfl,rfl,_,_,rfl,_,_,rfl,rfl,⟨_,rfl⟩,_,rfl,_,_,_,_,rfl,rfl,by rw[WB,Xh];exact yo rfl (show p.1<n by lia),bc (show p.1<n by lia),_,rfl,trivial,rfl,?_,?_⟩
  ·unfold Q.bp;rw[WB];have:=iI (ps:=ps.take m) (i:=p.1);rw[Xj]at this;have:=ok.sm;exact jT (by lia)
  ·refine⟨some (.val true (.int p.1)),some (.val true (.int p.2)),?_⟩;have e:ps.take (m+1)=ps.take m++[(p.1,p.2)]:=by rw[X_,hp];rfl
   rw[Hf (show p.1<n by lia),e]
   rfl
 ·rintro β ⟨x4,x5,rfl⟩;rw[WB,Yv];exact⟨_,rfl,q⟩
theorem lF:aK ["worth","table","i","k","j"] ["worth","table","i","k","j"] (ay cT):=⟨rfl,rfl,rfl,by decide +kernel,rfl,by decide +kernel,by decide +kernel⟩
theorem wC {iZ ee} (pk:D6 K mg iZ ee):aM P w K mg base bZ 1 iZ ee ["worth","table","i","k","j"] (dX P w true mJ):=by
 refine qQ pk.F lF (λds R Mt=> by obtain⟨n,ps,w,L,T,i,k,j,e,_⟩ := Mt;subst e;rfl) λcJ A outer s H E hr=>⟨_,(ao (aY (aH aL aC (aH aL aC (aO af (LH hr.zq) (ab (i:=0)) (cn (aa (ab (i:=2)) (aa (ab (i:=3)) ae)))) (aO af br (aO af br (ab (i:=1)) (aH aL aC (ab (i:=2)) ag)) (aH af (b8.m bA) (aH af (b8.m bA) (ab (i:=3)) (ab (i:=2))) ag))) (aO af br (aO af br (ab (i:=1)) (aH aL aC (ab (i:=3)) ag)) (aH af (b8.m bA) (aH af (b8.m bA) (ab (i:=4)) (ab (i:=3))) ag))))),λds R h=>?_⟩
 obtain⟨n,ps,w,L,T,i,k,j,rfl,hm,h1,h2,h3,h4,h5,q⟩:=h;exact⟨_,rfl,trivial,_,rfl,trivial,_,rfl,trivial,qZ,_,Jp hm,trivial,_,rfl,trivial,_,rfl,trivial,_,rfl,_,ml (i:=i+1) (by lia) (by lia),.inr ⟨trivial,_,rfl,trivial,_,rfl,_,rfl,trivial,_,rfl,_,mm (l:=k-i-1) (by lia) h4,_,rfl,trivial,
  _,rfl,trivial,_,rfl,trivial,_,rfl,_,ml (i:=k+1) (by lia) (by lia),.inr ⟨trivial,_,rfl,trivial,_,rfl,_,rfl,trivial,_,rfl,_,mm (l:=j-k-1) (by lia) h5,_,rfl,trivial,q⟩⟩⟩
theorem fz:aK ["partners","worth","table","i","j","numbers"] ["partners","worth","table","i","j"] (ay cA):=⟨rfl,rfl,rfl,by decide +kernel,rfl,by decide +kernel,by decide +kernel⟩
theorem AN {nK gQ} (zb:D7 K mg nK gQ) {iZ ee} (pk:D6 K mg iZ ee) (B:ze mg):aM P w K mg base bZ 2 nK gQ ["partners","worth","table","i","j"] (dX P w true mK):=by
 have RU:aM P w K mg base bZ 1 _ _ _ (dX P w true mJ):= wC pk;refine qQ zb.F fz (λds R Ms=> by obtain⟨n,ps,w,L,T,i,j,e,_⟩ := Ms;subst e;rfl) λcJ A outer s H E hr=>⟨_,(aj (rF (i:=5) false ["k","worth","table","i","j"] [none,some 1,some 2,some 3,some 4] (by rfl) (by decide:(["k","worth","table","i","j"]:List Str).Nodup) rfl (λ_=>(a_ (aO af br (ab (i:=0)) (ab (i:=3))))) (λ_ _ _ _ _ _=>(ak (i:=0) (by decide:(["k","worth","table","i","j"]:List Str).Nodup))) (λ_ _ _ _ _ _=>(jo (aS af (b8.m eG) (ab (i:=0)) (ab (i:=4))))) (λ_ _ _ _ _ _=>(aW mJ.mono RU (hr.mono (by decide)) pk.m pk.F.kp pk.b (aa (ab (i:=1)) (aa (ab (i:=2)) (aa (ab (i:=3)) (aa (ab (i:=0)) (aa (ab (i:=4)) ae))))))) fz.nd)
    (ao (aY (ba af (bH.m (jM rfl)) B.max mY (aa (aH aL aC (ab (i:=5)) (bh (aa (aO af br (aO af br (ab (i:=2)) (aH aL aC (ab (i:=3)) ag)) (aH af (b8.m bA) (aH af (b8.m bA) (ab (i:=4)) (ab (i:=3))) ag)) ae))) ae))))),λds R h=>?_⟩
 obtain⟨n,ps,w,L,T,i,j,rfl,ok,h1,h2,h3,q⟩:=h;have F7:=ok.sm;have hle:=ok.le;have hl:((iq ps i).filter λk=>decide (k<j)).length<=400:=Xo (X2 _ _) (Xo iI F7);refine⟨_,rfl,trivial,_,rfl,_,LI rfl (by lia),.inr ⟨_,rfl,trivial,?_⟩⟩
 refine eK (λk=>decide (k<j)) (λk=>.int (w (i,k)+T (k-i-1) (i+1)+T (j-k-1) (k+1))) trivial (fx (Xo iI (by lia))) (λk hk x0 o J ho j1 j2=>?_) ?_
 ·have hm:=bB.mp hk;obtain⟨g1,g2⟩:=ok.lt _ hm;dsimp only at g1 g2;refine⟨_,rfl,trivial,_,rfl,_,rfl,_,rfl,m_ (λQT=>?_) (λQT=>j2 (by simp;lia) _)⟩
  have BF:k<j:=by lia
  have a1:=h3 (i+1) (by lia) (by lia)
  have a2:=h3 (k+1) (by lia) (by lia)
  exact⟨_,rfl,trivial,_,rfl,trivial,_,rfl,trivial,_,rfl,trivial,_,rfl,trivial,n,ps,w,L,T,i,k,j,rfl,hm,g1,BF,h2,by lia,by lia,trivial,ho,j1 (by simpa using BF) _⟩
 ·have a1:=h3 (i+1) (by lia) (by lia)
  refine⟨_,rfl,trivial,_,rfl,trivial,_,rfl,trivial,_,rfl,_,ml (i:=i+1) (by lia) (by lia),.inr ⟨trivial,_,rfl,trivial,_,rfl,_,rfl,trivial,_,rfl,_,mm (l:=j-i-1) (by lia) (by lia),trivial,CK,_,mS (by rw[WB];show _+1<=_;lia),.inl ⟨oY oX rfl,trivial,_,A4,trivial,q⟩⟩⟩
theorem aZ:aK ["row","worth","many","partners","table","i","j"] ["row","worth"] (ay b5):=⟨rfl,rfl,rfl,by decide +kernel,rfl,by decide +kernel,by decide +kernel⟩
theorem AO {tm ki} (zc:D8 K mg tm ki) {nJ gP} (um:D5 K mg nJ gP) {nH gO} (uk:D4 K mg nH gO) {nK gQ} (zb:D7 K mg nK gQ) {iZ ee} (pk:D6 K mg iZ ee) (B:ze mg):aM P w K mg base bZ 3 tm ki ["row","worth"] (dX P w true mL):=by
 have RS:aM P w K mg base bZ 1 _ _ _ (dX P w true mI):= wB um B;have RQ:aM P w K mg base bZ 1 _ _ _ (dX P w true vt):= wA uk B;have VX:aM P w K mg base bZ 2 _ _ _ (dX P w true mK):= AN zb pk B;refine qQ zc.F aZ (λds R Mr=> by obtain⟨n,ps,w,e,_⟩ := Mr;subst e;rfl) λcJ A outer s H E hr=>⟨_,(aj (a9 (i:=2) (aO af br (ab (i:=0)) ag) aZ.nd)
    (aj (a9 (i:=3) (aW mI.mono RS (hr.mono (by decide)) um.m um.F.kp um.b (aa (ab (i:=0)) ae)) aZ.nd)
    (aj (rF (i:=4) true ["i"] [none] (by rfl) (by decide:(["i"]:List Str).Nodup) rfl (λ_=>(bg B.range (aa (aH aL aC (ab (i:=2)) ag) ae))) (λ_ _ _ _ _ _=>(ak (i:=0) (by decide:(["i"]:List Str).Nodup))) (λ_ _ _ _ _ _=>c7) (λ_ _ _ _ _ _=>(bh (aa ag ae))) aZ.nd)
    (aj (b9 XM rfl (a_ (aW vt.mono RQ (hr.mono (by decide)) uk.m uk.F.kp uk.b (aa (ab (i:=2)) ae))) (cg (n:=2) rfl (aG (ak (i:=5) aZ.nd) (aG (ak (i:=6) aZ.nd) bK))) (ao (d7 (i:=4) true (λ_=>(aW mK.mono VX (hr.mono (by decide)) zb.m zb.F.kp zb.b (aa (ab (i:=3)) (aa (ab (i:=1)) (aa (ab (i:=4)) (aa (ab (i:=5)) (aa (ab (i:=6)) ae))))))) (λ_=>(ab (i:=5))))))
    (ao (kT (i:=4))))))),λds R h=>?_⟩
 obtain⟨n,ps,w,rfl,ok,q⟩:=h;have hn:=ok.le;have hp:∀p∈ps,p.1<p.2:=λp hp=>(ok.lt p hp).1;refine⟨_,rfl,trivial,_,rfl,_,rfl,trivial,n,ps,rfl,ok,_,rfl,trivial,_,rfl,trivial,(n:Int)+1,rfl,by lia,by lia,trivial,?_⟩
 rw[show ((n:Int)+1).toNat=n+1 by lia]
 refine eK (λ_=>true) (λ_=>.lst [.int 0]) trivial (by rw[Xh];exact fx (by lia)) (λx hx x0 o J ho h1 _=>⟨trivial,CK,trivial,ho,h1 rfl _⟩) ?_
 rw[bG];refine⟨_,rfl,trivial,n,rfl,hn,_,rfl,trivial,?_⟩;refine⟨λidx β=>∃L x5 x6,β=[some (.val false (kG n ps)),some (.val false (wD ps w)),some (.val true (.int n)),some (.val true (Hr n ps)),some (.own (fD n L (tW ps w))),x5,x6]/\uf n idx L,⟨λ_=>1,_,_,rfl,kn⟩,?_,?_⟩
 ·rintro idx d β hd ⟨L,x5,x6,rfl,dn⟩;rw[WU]at hd;obtain⟨p,jl,rfl⟩:=W8.mp hd;obtain⟨a,b,ha,hb,rfl,hL,sL⟩:=mP dn jl;have eL:fD n L (tW ps w)=fD n (dc n a b) (tW ps w):=f_ hL;have e0:dc n a b (n-1-a)=b+1:=by unfold dc;rw[if_neg (by lia),if_pos rfl]
  rw[eL];refine⟨_,rfl,rfl,_,_,rfl,_,_,rfl,rfl,⟨_,rfl⟩,_,rfl,_,_,_,_,rfl,rfl,by rw[WB,Xh];exact yo rfl (show n-1-a<n+1 by lia),bc (show n-1-a<n+1 by lia),
   _,rfl,trivial,_,rfl,trivial,_,rfl,trivial,_,rfl,trivial,_,rfl,trivial,n,ps,w,dc n a b,tW ps w,n-1-a,n-a+b,rfl,ok,by lia,by lia,λa' h1 h2=>by unfold dc;rw[if_pos h1];exact WD _,trivial,rfl,?_,?_⟩
  ·rw[e0];unfold pO;rw[WB,Xh];exact jT (by lia)
  ·refine⟨dc n a (b+1),some (.val true (.int ((n-1-a:Nat):Int))),some (.val true (.int ((n-a+b:Nat):Int))),?_,.inr ⟨a,b+1,ha,by lia,λ_ _=>rfl,sL⟩⟩
   have ev:iS ps w (tW ps w) (n-1-a) (n-a+b)=tW ps w (b+1) (n-1-a):=by rw[kQ hp,show n-1-a+b+1=n-a+b by lia]
   rw[ev,e0,vW ha hb];rfl
 ·rintro β ⟨L,x5,x6,rfl,dn⟩;rw[WB]at dn;have e:fD n L (tW ps w)=oT n (tW ps w):=f_ (pj dn);rw[e];exact⟨_,rfl,q⟩
theorem rA:aK ["row"] ["row"] (ay e_):=⟨rfl,rfl,rfl,by decide +kernel,rfl,by decide +kernel,by decide +kernel⟩
theorem AM {tj kh} (xb:D9 K mg tj kh):aM P w K mg base bZ 1 tj kh ["row"] (dX P w true vw):=by
 refine qQ xb.F rA (λds R Mq=> by obtain⟨n,ps,e,_⟩ := Mq;subst e;rfl) λcJ A outer s H E hr=>⟨_,(ao (aY (VG (Nat.lt_of_succ_lt hr.zq) ["tie"] [none] (by rfl) (by decide:(["tie"]:List Str).Nodup) rfl (a_ (aO af br (ab (i:=0)) ag)) (λ_ _ _ _ _ _=>(ak (i:=0) (by decide:(["tie"]:List Str).Nodup))) (λ_ _ _ _ _ _=>c7) (λ_ _ _ _ _ _=>(ab (i:=0))) (λ_ _ _ _ _ _=>ag)))),λds R h=>?_⟩
 obtain⟨n,ps,rfl,ok,q⟩:=h;have F7:=ok.sm;refine⟨_,rfl,trivial,_,rfl,.inr ⟨_,rfl,trivial,?_⟩⟩;refine⟨λm β o=>m<=ps.length/\(∃x0,β=[x0])/\o=(ps.take m).map λp=>(tI p,D.int (w1 p)),⟨WV _,⟨_,rfl⟩,rfl⟩,?_,?_⟩
 ·rintro m d β o hd ⟨hm,⟨x0,rfl⟩,rfl⟩;rw[WU]at hd;obtain⟨p,hp,rfl⟩:=W8.mp hd;have eV:=(W3.mp hp).1;refine⟨_,rfl,tI p,rfl,rfl,Eb (Eh ok.nd hp),?_,eV,⟨_,rfl⟩,?_⟩
  ·rw[WB,Xj];exact jT (by lia)
  ·rw[X_,hp,Xl];rfl
 ·rintro β o ⟨_,⟨x0,rfl⟩,rfl⟩;rw[WB,Yv];exact⟨trivial,trivial,q⟩
theorem rq:aK ["row"] ["row"] (ay e9):=⟨rfl,rfl,rfl,by decide +kernel,rfl,by decide +kernel,by decide +kernel⟩
theorem AJ {yA o7} (Gr:RZ K mg yA o7) {tm ki} (zc:D8 K mg tm ki) {nJ gP} (um:D5 K mg nJ gP) {nH gO} (uk:D4 K mg nH gO) {nK gQ} (zb:D7 K mg nK gQ) {iZ ee} (pk:D6 K mg iZ ee) {tj kh} (xb:D9 K mg tj kh) (B:ze mg):aM P w K mg base bZ 4 yA o7 ["row"] (dX P w true mG):=by
 have VZ:aM P w K mg base bZ 3 _ _ _ (dX P w true mL):= AO zc um uk zb pk B;have RT:aM P w K mg base bZ 1 _ _ _ (dX P w true vw):= AM xb;refine qQ Gr.F rq (λds R Mp=> by obtain⟨n,ps,e,_⟩ := Mp;subst e;rfl) λcJ A outer s H E hr=>⟨_,(ao (aY (aW mL.mono VZ (hr.mono (by decide)) zc.m zc.F.kp zc.b (aa (ab (i:=0)) (aa (aW vw.mono RT (hr.mono (by decide)) xb.m xb.F.kp xb.b (aa (ab (i:=0)) ae)) ae))))),λds R h=>?_⟩
 obtain⟨n,ps,rfl,ok,q⟩:=h;exact⟨_,rfl,trivial,_,rfl,trivial,n,ps,rfl,ok,trivial,n,ps,w1,rfl,ok,trivial,q⟩
end
end ku
namespace L2.Q
open Mx
def Ia:Sr Nat:=⟨0,1,(·+·),(· * ·)⟩
theorem yd {l:List Int}{x:Int}:(fo (l++[x])).getD 0∈l++[x]/\∀y∈l++[x],y<=(fo (l++[x])).getD 0:=by
 cases l with
 |nil=>exact bW [] x
 |cons a l=>exact bW (l++[x]) a
theorem oH {ps:List (Nat×Nat)}{w:Nat×Nat->Int}{T:Nat->Nat->Int}{i j:Nat}:
  (iS ps w T i j=T (j-i-1) (i+1)\/∃k,(i,k)∈ps/\k<j/\iS ps w T i j=w (i,k)+T (k-i-1) (i+1)+T (j-k-1) (k+1)) /\
  T (j-i-1) (i+1)<=iS ps w T i j/\∀k,(i,k)∈ps->k<j->w (i,k)+T (k-i-1) (i+1)+T (j-k-1) (k+1)<=iS ps w T i j:=by
 obtain⟨h1,h2⟩:=yd (l:=((iq ps i).filter λk=>decide (k<j)).map λk=>w (i,k)+T (k-i-1) (i+1)+T (j-k-1) (k+1)) (x:=T (j-i-1) (i+1));refine⟨?_,h2 _ (by simp),λk hk hj=>h2 _ (X1 _ (WT.mpr ⟨k,WW.mpr ⟨bB.mpr hk,decide_eq_true hj⟩,rfl⟩))⟩
 rcases W4.mp h1 with h|h
 ·obtain⟨k,hk,e⟩:=WT.mp h;obtain⟨q1,q2⟩:=WW.mp hk;exact .inr ⟨k,bB.mp q1,of_decide_eq_true q2,e.symm⟩
 ·exact .inl (WN.mp h)
open PySem PySem.Spec PySem.SeqAt PyProof.Rows
section
variable {X:Cx}{C:Cfg}{e a:Expr}{φ:aQ}{p:Bool}{pos p2 p3 p4:Pos}{j:Nat}
theorem DJ {te:TE}(he:PE X e te):PE X (.Subscript e (.Slice none none (some (.UnaryOp .USub (.Constant (.int 1) j p3) p4)) p2) pos) (λσ H Q=>te σ H λx H1=>∃a xs,x=.ref a/\H1 a=some (.lst xs)/\∀p,H1 p=none->Q (.ref p) (upd H1 p (.lst xs.reverse))):=by
 intro pins s σ H Q I h;refine Subscript_ (bJ (he pins s σ H _ I h) λv s1 ⟨x,H1,I1,r1,q1⟩=>?_);refine wpAny_Slice ?_;rw[evalPart_none];refine WJ (WJ ?_);rw[evalPart_some];refine bJ (FL (X:=X) (pos:=p4) zr (a8 (i:=1) (j:=j) (pos:=p3)) pins s1 σ H1 (λv H'=>v=.int (-1)/\H'=H1) I1 ⟨1,rfl,rfl,rfl⟩) λu s3 ⟨y,H3,I3,r3,ey,eH⟩=>?_;subst ey eH;obtain⟨tk,rfl⟩:=(show ∃t,u=Value.int (-1) t from r3)
 have I4:Inv X pins σ H3 {s3 with heap:=s3.heap.push {cls:=.type "slice",data:=.fields #[.none,.none,.int (-1) tk]}}:=I3.kept (t':=s3.toks) λb ob q=>WH _ q
 have J3:(s3.heap.push {cls:=.type "slice",data:=.fields #[.none,.none,.int (-1) tk]}).IsSliceOf s3.heap.objs.size .none .none (.int (-1) tk):=Heap.IsSliceOf.new ..
 generalize UW:({s3 with heap:=s3.heap.push {cls:=.type "slice",data:=.fields #[.none,.none,.int (-1) tk]}}:WE)=s4 at I4 ⊢
 have Qc:s4.heap.IsSliceOf s3.heap.objs.size .none .none (.int (-1) tk):=by rw[<- UW];exact J3
 have main:∃T id,typeLookup (.type T) "__getitem__" = pure (some (.builtin id))/\s4.TypeIs v T/\Xb (model X.prog X.w) X.A (getItem v (.ref s3.heap.objs.size)) (EP X pins σ Q) X.xe s4:=by
  obtain⟨a,xs,rfl,hx,q⟩:=q1;cases (show v=Value.ref a from r1)
  obtain⟨its,r,ht,hz⟩:=I4.list (c0.of hx);have hlen:=r.length;refine⟨"list",_,slot_list_getitem.lookup,ht.isList.typeIs,?_⟩;refine wpAny_getItem_list_slice ht.isList Qc .none .none (.int (-1) tk) (by simp) ?_ (by rw[Xd] <;> lia)
  rw[HT.nj];refine⟨.ref s4.heap.objs.size,_,I4.laid (t':=s4.toks) (o:=.lst xs.reverse) (λb ob q=>WH _ q) (WD _) ?_,rfl,q _ (I4.bx.fresh (WD _))⟩;exact⟨by rw[List.length_reverse];lia,_,0,by simpa using Vals.rev r,Xc _ rfl⟩
 obtain⟨T,id,hT,ht,hg⟩:=main;show Xb (model X.prog X.w) X.A (subscriptTail e (.Slice none none (some (.UnaryOp .USub (.Constant (.int 1) j p3) p4)) p2) v (.ref s3.heap.objs.size)) (EP X pins σ Q) X.xe s4;exact tail_any (ops:=[v,.ref s3.heap.objs.size]) ht hT hg (by with_unfolding_all rfl)
def M7:D->Option D
 |.lst ds=>some (.lst ds.reverse)
 |_=>none
def KZ (φ:aQ):aQ:=λβ R=>φ β λx k β1=>∃d,M7 x=some d/\kN NL d k.wk λk'=>R d k' β1
theorem DF {j:Nat}(ha:PQ X C p a φ):PQ X C p (.Subscript a (.Slice none none (some (.UnaryOp .USub (.Constant (.int 1) j p3) p4)) p2) pos) (KZ φ) :=
 ⟨λβ R R' k h=>ha.mono β _ _ (λx kx β1 h=>by obtain⟨d,e,q⟩:=h;exact⟨d,e,q.mono λ_ z=>k _ _ _ z⟩) h,
  (DJ ha.pe).pre λσ H Q h=>by
    obtain⟨β,own,s,h⟩:=h;refine tQ.of ha s h λd k β1 v H1 aE h o1 r1=>?_;obtain⟨d',e,q⟩:=h;have rr:=az.aV Cw r1.rep;cases d with
    |lst ds =>
      cases e;obtain⟨c,vs,rfl,h1,n1,rs⟩:=rr;refine⟨c,vs,rfl,h1,λp hp=>?_⟩;have sm:au H1 (upd H1 p (.lst vs.reverse)):=au.new hp;have hw:¬ av C (Wn aE) k.wk p:=λz=>o1.sq.za _ p z hp;have r2:az X.prog X.w (av C (Wn aE) k.wk) (upd H1 p (.lst vs.reverse)) (.lst ds.reverse) (.ref p):=⟨p,_,rfl,aw,hw,(ah.rev rs).same sm⟩;obtain⟨k',q,r⟩:=KV.kN (Z:=(H,Wn own)) FE r2 (λn=>gw (H:=H1) o1.sq.y_ o1.sq.iu (λa z e=>o1.sn.d a z e) n ⟨p,_,rfl,aw,λz=>z hp,ah.flat n ((ah.rev rs).same sm)⟩) q;exact q _ _ aE (o1.same sm) r
    |_=>cases e⟩
end
def oD:Option Nat->D
 |none=>.bU
 |some k=>.int (k:Int)
def parts (i:Nat)(k:Option Nat)(j:Nat):List (Nat×Nat):=match k with
 |none=>[(i+1,j)]
 |some k=>[(i+1,k),(k+1,j)]
def bS (ps:List (Nat×Nat))(w:Nat×Nat->Int)(T:Nat->Nat->Int)(i j:Nat):List (Option Nat) :=
 ((iq ps i).filter λk=>decide (k<j)&&decide (w (i,k)+T (k-i-1) (i+1)+T (j-k-1) (k+1)=T (j-i) i)).map some++(if T (j-i-1) (i+1)=T (j-i) i then [none] else [])
def Uw (ps:List (Nat×Nat))(w:Nat×Nat->Int)(T:Nat->Nat->Int)(i j:Nat):Option Nat->Prop
 |none=>T (j-i-1) (i+1)=T (j-i) i
 |some k=>(i,k)∈ps/\k<j/\w (i,k)+T (k-i-1) (i+1)+T (j-k-1) (k+1)=T (j-i) i
theorem cO {ps:List (Nat×Nat)}{w:Nat×Nat->Int}{T:Nat->Nat->Int}{i j:Nat}{c:Option Nat}(h:c∈bS ps w T i j):Uw ps w T i j c:=by
 unfold bS at h;rcases W4.mp h with h|h
 ·obtain⟨k,hk,rfl⟩:=WT.mp h;obtain⟨h1,h2⟩:=WW.mp hk;rw[Xz,decide_eq_true_eq,decide_eq_true_eq]at h2;exact⟨bB.mp h1,h2.1,h2.2⟩
 ·split at h
  ·next e=>rw[WN.mp h];exact e
  ·cases h
theorem Cv {ps:List (Nat×Nat)}{w:Nat×Nat->Int}(hp:∀p∈ps,p.1<p.2){i j:Nat}(h:i<j):bS ps w (tW ps w) i j≠[]:=by
 have e:tW ps w (j-i) i=iS ps w (tW ps w) i j:=by rw[show j-i=(j-i-1)+1 by lia,kQ hp,show i+(j-i-1)+1=j by lia]
 obtain⟨h1,_,_⟩:=oH (ps:=ps) (w:=w) (T:=tW ps w) (i:=i) (j:=j);rw[<- e]at h1;unfold bS;intro z;obtain⟨z1,z2⟩:=List.append_eq_nil_iff.mp z;rcases h1 with q|⟨k,hk,hj,q⟩
 ·rw[if_pos q.symm]at z2;cases z2
 ·have:k∈(iq ps i).filter λk=>decide (k<j)&&decide (w (i,k)+tW ps w (k-i-1) (i+1)+tW ps w (j-k-1) (k+1)=tW ps w (j-i) i):=WW.mpr ⟨bB.mpr hk,by rw[Xz,decide_eq_true_eq,decide_eq_true_eq];exact⟨hj,q.symm⟩⟩
  rw[List.map_eq_nil_iff.mp z1]at this;cases this
def fT (ps:List (Nat×Nat))(w:Nat×Nat->Int)(i j:Nat):Option Nat:=(bS ps w (tW ps w) i j).headD none
theorem fu {ps:List (Nat×Nat)}{w:Nat×Nat->Int}(hp:∀p∈ps,p.1<p.2){i j:Nat}(h:i<j):fT ps w i j∈bS ps w (tW ps w) i j:=by
 have:=Cv (w:=w) hp h;unfold fT;cases q:bS ps w (tW ps w) i j with
 |nil=>exact absurd q this
 |cons a l=>simp
def nF (ps:List (Nat×Nat))(w:Nat×Nat->Int):Nat->Nat->Nat->List (Nat×Nat)
 |0,_,_=>[]
 |n+1,i,j=>if i<j then match fT ps w i j with
   |none=>nF ps w n (i+1) j
   |some k=>(i,k)::(nF ps w n (i+1) k++nF ps w n (k+1) j)
  else []
theorem dB {ps:List (Nat×Nat)}{w:Nat×Nat->Int}(hp:∀p∈ps,p.1<p.2):∀{n m i j:Nat},j-i<=n->j-i<=m->nF ps w n i j=nF ps w m i j
 |0,0,_,_,_,_=>rfl
 |0,m+1,i,j,h,_=>by unfold nF;rw[if_neg (by omega)]
 |n+1,0,i,j,_,h=>by unfold nF;rw[if_neg (by omega)]
 |n+1,m+1,i,j,h1,h2=>by
  unfold nF
  by_cases h:i<j
  ·rw[if_pos h,if_pos h];have hm:=cO (fu (w:=w) hp h);cases q:fT ps w i j with
   |none=>exact dB hp (by omega) (by omega)
   |some k =>
    rw[q]at hm;have:=hp _ hm.1;dsimp only at this;have h3:=hm.2.1;dsimp only;rw[dB hp (n:=n) (m:=m) (i:=i+1) (j:=k) (by omega) (by omega),dB hp (n:=n) (m:=m) (i:=k+1) (j:=j) (by omega) (by omega)]
  ·rw[if_neg h,if_neg h]
def mD (ps:List (Nat×Nat))(w:Nat×Nat->Int)(i j:Nat):List (Nat×Nat):=nF ps w (j-i) i j
theorem iY {ps:List (Nat×Nat)}{w:Nat×Nat->Int}{i j:Nat}(h:¬ i<j):mD ps w i j=[]:=by
 unfold mD;rw[show j-i=0 by lia]
 rfl
theorem oU {ps:List (Nat×Nat)}{w:Nat×Nat->Int}(hp:∀p∈ps,p.1<p.2){i j:Nat}(h:i<j):mD ps w i j=match fT ps w i j with
  |none=>mD ps w (i+1) j
  |some k=>(i,k)::(mD ps w (i+1) k++mD ps w (k+1) j):=by
 unfold mD;rw[show j-i=(j-i-1)+1 by lia]
 conv=>lhs;unfold nF
 rw[if_pos h];have hm:=cO (fu (w:=w) hp h);cases q:fT ps w i j with
 |none=>exact dB hp (by lia) (by lia)
 |some k =>
  rw[q]at hm;have:=hp _ hm.1;dsimp only at this;have h3:=hm.2.1;dsimp only;rw[dB hp (n:=j-i-1) (m:=k-(i+1)) (i:=i+1) (j:=k) (by lia) (by lia),dB hp (n:=j-i-1) (m:=j-(k+1)) (i:=k+1) (j:=j) (by lia) (by lia)]
def mH:FD:=λds R=>∃(i:Nat) (k:Option Nat) (j:Nat),ds=[.int i,oD k,.int j]/\R (.lst ((parts i k j).map JZ))
theorem mH.mono:c5 mH:=λds R R' k h=>by obtain⟨i,c,j,e,q⟩:=h;exact⟨i,c,j,e,k _ q⟩
def tG:FD:=λds R=>∃(n:Nat) (ps:List (Nat×Nat)) (w:Nat×Nat->Int) (T:Nat->Nat->Int) (i j:Nat),ds=[Hr n ps,wD ps w,oT n T,.int i,.int j]/\CF n ps/\i<j/\j<=n/\R (.lst ((bS ps w T i j).map oD))
theorem tG.mono:c5 tG:=λds R R' k h=>by obtain⟨n,ps,w,T,i,j,e,h1,h2,h3,q⟩:=h;exact⟨n,ps,w,T,i,j,e,h1,h2,h3,k _ q⟩
theorem sV {ps:List (Nat×Nat)}:D.bR (ps.map λp=>kD (tI p))=true:=by
 have:=dP (ps.map tI);rw[XD]at this;exact this
def tF:FD:=λds R=>∃n ps,ds=[kG n ps]/\R (kG n ps)
theorem tF.mono:c5 tF:=λds R R' k h=>by obtain⟨n,ps,e,q⟩:=h;exact⟨n,ps,e,k _ q⟩
def near (ps:List (Nat×Nat))(b:Nat):List Nat:=(ps.filter λp=>decide (p.2=b)).map (·.1)
theorem bo {ps:List (Nat×Nat)}{a b:Nat}:a∈near ps b↔(a,b)∈ps:=by
 unfold near;rw[WT];constructor
 ·rintro⟨p,hp,rfl⟩;obtain⟨h1,h2⟩:=WW.mp hp;rw[<- of_decide_eq_true h2];exact h1
 ·intro h;exact⟨(a,b),WW.mpr ⟨h,by simp⟩,rfl⟩
theorem Eg {ps:List (Nat×Nat)}{b:Nat}(h:ps.Nodup):(near ps b).Nodup:=by
 unfold near;refine XW.mpr ((h.filter _).imp_of_mem λ{p q} hp hq n e=>n ?_);have h1:=of_decide_eq_true (WW.mp hp).2;have h2:=of_decide_eq_true (WW.mp hq).2;exact Prod.ext e (h1.trans h2.symm)
theorem lV {ps:List (Nat×Nat)}{b:Nat}:(near ps b).length<=ps.length:=by
 unfold near;rw[WB];exact X2 _ _
theorem vP {f:Nat->Nat}{p:Nat->Bool}{x:Nat}(hx:p x=false):∀{l:List Nat},l.Nodup->((l.filter λa=>p a || decide (a=x)).map f).sum=((l.filter p).map f).sum+if x∈l then f x else 0
 |[],_=>by simp
 |a::l,h=>by
  obtain⟨h1,h2⟩:=Xg.mp h;have ih:=vP (f:=f) hx h2
  by_cases e:a=x
  ·subst e;rw[Xr,if_pos (by simp),Xr,if_neg (by rw[hx];simp),W_,Yn,ih,if_neg h1,if_pos (by simp)]
   lia
  ·have e':(if x∈a::l then f x else 0)=if x∈l then f x else 0:=by
    by_cases q:x∈l
    ·rw[if_pos q,if_pos (by simp[q])]
    ·rw[if_neg q,if_neg (by simp[q];exact λz=>e z.symm)]
   rw[e',Xr,Xr];cases q:p a
   ·rw[if_neg (by simp[e]),if_neg (by simp)];exact ih
   ·rw[if_pos (by simp),if_pos rfl,W_,Yn,W_,Yn,ih];lia
theorem nV {f:Nat->Nat}{l:List Nat}(h:l.Nodup){i:Nat}:∀len:Nat,((l.filter λa=>decide (i<=a)&&decide (a<i+len)).map f).sum=Mx.C_ Ia len λr=>(if i+r∈l then 1 else 0)*f (i+r)
 |0=>by
  have:(l.filter λa=>decide (i<=a)&&decide (a<i+0))=[]:=Y2.mpr λa _=>by simp
  rw[this];rfl
 |len+1=>by
  have e:(λa=>decide (i<=a)&&decide (a<i+(len+1)))=λa=>(decide (i<=a)&&decide (a<i+len)) || decide (a=i+len):=by
   funext a
   rw[ZO];simp;lia
  rw[e,vP (by simp) h,nV h len]
  show _+_=_+(if i+len∈l then 1 else 0)*f (i+len)
  congr 1
  split
  ·rw[Zg]
  ·rw[Nat.zero_mul]
theorem lx {α:Type}{f:α->Nat}:∀{l:List α},(l.map λa=>((f a:Nat):Int)).sum=((l.map f).sum:Nat)
 |[]=>rfl
 |a::l=>by rw[W_,Yn,W_,Yn,lx];lia
def jm:Nat->Nat
 |0=>1
 |n+1=>(n+1)*jm n
theorem qE (a:Nat):∀b,jm a*jm b<=jm (a+b)
 |0=>by show jm a*1<=jm a;lia
 |b+1=>by
  show jm a*((b+1)*jm b)<=(a+b+1)*jm (a+b);rw[Nat.mul_left_comm];exact ZW (by lia) (qE a b)
theorem tu {a b:Nat}(h:a<=b):jm a<=jm b:=by
 induction b with
 |zero=>rw[show a=0 by lia];exact WD _
 |succ b ih =>
  rcases X0 b a with q|q
  ·rw[show a=b+1 by lia];exact WD _
  ·exact Xo (ih q) (Nat.le_mul_of_pos_left _ (by lia))
theorem vR {f:Nat->Nat}{c:Nat}:∀{n:Nat},(∀r,r<n->f r<=c)->Mx.C_ Ia n f<=n*c
 |0,_=>WV _
 |n+1,h=>by
  show Mx.C_ Ia n f+f n<=_;have:=vR (f:=f) (n:=n) λr hr=>h r (by lia)
  have:=h n (by lia)
  rw[Nat.add_mul,Zg];lia
theorem Cc {a b:Int}(h:kM a b):M9 (.int a) (.int b)=some (.int (a*b)):=by
 show (if kM a b then _ else _)=_
 rw[if_pos h]
theorem sum_ints {α:Type}{f:α->Int}{l:List α}:cU (λns=>some ns.sum) [.lst (l.map λk=>D.int (f k))]=some (.int (l.map f).sum):=by
 have e:(l.map λk=>D.int (f k))=(l.map f).map D.int:=by simp
 rw[e];exact ic rfl
theorem zR (n:Nat)(ps:List (Nat×Nat)):(kG n ps).pd.canLay0=true/\(kG n ps).pd.depth<=4:=by
 have:=xG (n:Int) (ps.map tI);unfold Hk at this;rw[XD]at this;exact this
end L2.Q
namespace ku
open PySem L2 L2.Q
section
variable {P:WI}{w:W6}{K:PySem.W.Frag}{mg:Str->Option WC}{base:Heap}
theorem nr:aK ["i","k","j"] ["i","k","j"] (ay dk):=⟨rfl,rfl,rfl,by decide +kernel,rfl,by decide +kernel,by decide +kernel⟩
theorem AK {tf kg} (CS:OD K mg tf kg):aM P w K mg base bZ 1 tf kg ["i","k","j"] (dX P w true mH):=by
 refine qQ CS.F nr (λds R Mo=> by obtain⟨i,k,j,e,_⟩ := Mo;subst e;rfl) λcJ A outer s H E hr=>⟨_,(fg (cv (aS af (b8.m qf) (ab (i:=1)) qa) (ao (aY (bh (aa (cn (aa (aH aL aC (ab (i:=0)) ag) (aa (ab (i:=2)) ae))) ae)))) a5)
    (ao (aY (bh (aa (cn (aa (aH aL aC (ab (i:=0)) ag) (aa (ab (i:=1)) ae))) (aa (cn (aa (aH aL aC (ab (i:=1)) ag) (aa (ab (i:=2)) ae))) ae)))))),λds R h=>?_⟩
 obtain⟨i,k,j,rfl,q⟩:=h;cases k with
 |none=>exact⟨λ_=>False,⟨_,rfl,trivial,_,rfl,_,rfl,yZ rfl ⟨_,rfl,trivial,_,rfl,trivial,_,rfl,trivial,qZ,trivial,CK,trivial,q⟩⟩,λ_ z=>z.elim⟩
 |some k =>
  refine⟨λβ=>β=[some (.val false (.int i)),some (.val false (.int k)),some (.val false (.int j))],⟨_,rfl,trivial,_,rfl,_,rfl,iX rfl rfl⟩,?_⟩;rintro β rfl;exact⟨_,rfl,trivial,_,rfl,trivial,_,rfl,trivial,qZ,trivial,_,rfl,trivial,_,rfl,trivial,_,rfl,trivial,qZ,trivial,qZ,trivial,q⟩
theorem c_:aK ["partners","worth","table","i","j","best","choices"] ["partners","worth","table","i","j"] (ay cB):=⟨rfl,rfl,rfl,by decide +kernel,rfl,by decide +kernel,by decide +kernel⟩
theorem DY {yC o9} (Gv:RY K mg yC o9) {iZ ee} (pk:D6 K mg iZ ee) (B:ze mg):aM P w K mg base bZ 2 yC o9 ["partners","worth","table","i","j"] (dX P w true tG):=by
 have RU:aM P w K mg base bZ 1 _ _ _ (dX P w true mJ):= wC pk;refine qQ Gv.F c_ (λds R Mn=> by obtain⟨n,ps,w,T,i,j,e,_⟩ := Mn;subst e;rfl) λcJ A outer s H E hr=>⟨_,(aj (a9 (i:=5) (aO af br (aO af br (ab (i:=2)) (ab (i:=3))) (aH af (b8.m bA) (ab (i:=4)) (ab (i:=3)))) c_.nd)
    (aj (rF (i:=6) true ["k","j","best","worth","table","i"] [none,some 4,some 5,some 1,some 2,some 3] (by rfl) (by decide:(["k","j","best","worth","table","i"]:List Str).Nodup) rfl (λ_=>(a_ (aO af br (ab (i:=0)) (ab (i:=3))))) (λ_ _ _ _ _ _=>(ak (i:=0) (by decide:(["k","j","best","worth","table","i"]:List Str).Nodup))) (λ_ _ _ _ _ _=>(jo (yQ.t (v_ (aS af (b8.m eG) (ab (i:=0)) (ab (i:=1))) (rN (aS af (b8.m (cq hr.units)) (aW mJ.mono RU (hr.mono (by decide)) pk.m pk.F.kp pk.b (aa (ab (i:=3)) (aa (ab (i:=4)) (aa (ab (i:=5)) (aa (ab (i:=0)) (aa (ab (i:=1)) ae)))))) (ab (i:=2)))))))) (λ_ _ _ _ _ _=>(ab (i:=0))) c_.nd)
    (fg (cv (aS af (b8.m (cq hr.units)) (aO af br (aO af br (ab (i:=2)) (aH aL aC (ab (i:=3)) ag)) (aH af (b8.m bA) (aH af (b8.m bA) (ab (i:=4)) (ab (i:=3))) ag)) (ab (i:=5))) (ao (cM (i:=6) (λ_=>qa))) a5)
    (ao (kT (i:=6)))))),λds R h=>?_⟩
 obtain⟨n,ps,w,T,i,j,rfl,ok,h1,h2,q⟩:=h;have F7:=ok.sm;have hle:=ok.le;refine⟨_,rfl,trivial,_,rfl,_,ml rfl (by lia),.inr ⟨trivial,_,rfl,trivial,_,rfl,_,rfl,_,mm (l:=j-i) (by lia) (by lia),?_⟩⟩
 refine⟨_,rfl,trivial,_,rfl,_,LI rfl (by lia),.inr ⟨_,rfl,trivial,?_⟩⟩
 refine eK (λk=>decide (k<j)&&decide (w (i,k)+T (k-i-1) (i+1)+T (j-k-1) (k+1)=T (j-i) i)) (λk=>.int (k:Int)) trivial (fx (Xo iI (by lia))) (λk hk x0 o J ho j1 j2=>?_) ?_
 ·have hm:=bB.mp hk;obtain⟨g1,g2⟩:=ok.lt _ hm;dsimp only at g1 g2;refine⟨_,rfl,trivial,_,rfl,_,rfl,_,rfl,m_ (λQT=>?_) (λQT=>iX rfl (j2 ?_ _))⟩
  ·have BF:k<j:=by lia
   refine⟨_,rfl,trivial,_,rfl,trivial,_,rfl,trivial,_,rfl,trivial,_,rfl,trivial,n,ps,w,(λi=>n+1-i),T,i,k,j,rfl,hm,g1,BF,h2,by show _<n+1-(i+1);lia,by show _<n+1-(k+1);lia,trivial,_,rfl,_,ck _ _,_,rfl,m_ (λe=>?_) (λe=>j2 ?_ _)⟩
   ·exact⟨_,rfl,trivial,ho,j1 (by rw[Xz,decide_eq_true_eq,decide_eq_true_eq];exact⟨BF,e⟩) _⟩
   ·rw[Bool.and_eq_false_iff];exact .inr (decide_eq_false e)
  ·rw[Bool.and_eq_false_iff];exact .inl (decide_eq_false (by lia))
 ·have eb:bS ps w T i j=((iq ps i).filter λk=>decide (k<j)&&decide (w (i,k)+T (k-i-1) (i+1)+T (j-k-1) (k+1)=T (j-i) i)).map some++(if T (j-i-1) (i+1)=T (j-i) i then [none] else []):=rfl
  have em:(((iq ps i).filter λk=>decide (k<j)&&decide (w (i,k)+T (k-i-1) (i+1)+T (j-k-1) (k+1)=T (j-i) i)).map λ(k:Nat)=>D.int (k:Int))=(((iq ps i).filter λk=>decide (k<j)&&decide (w (i,k)+T (k-i-1) (i+1)+T (j-k-1) (k+1)=T (j-i) i)).map some).map oD:=by rw[XD];rfl
  have hl:(((iq ps i).filter λk=>decide (k<j)&&decide (w (i,k)+T (k-i-1) (i+1)+T (j-k-1) (k+1)=T (j-i) i)).map some).length<=400:=by rw[WB];exact Xo (X2 _ _) (Xo iI F7)
  rw[em];generalize ((iq ps i).filter λk=>decide (k<j)&&decide (w (i,k)+T (k-i-1) (i+1)+T (j-k-1) (k+1)=T (j-i) i)).map some=cs at eb hl ⊢
  refine⟨λβ=>β[6]?=some (some (.own (.lst ((bS ps w T i j).map oD)))),?_,λβ hβ=>⟨_,hβ,q⟩⟩;refine⟨_,rfl,trivial,_,rfl,trivial,_,rfl,_,ml (i:=i+1) (by lia) (by lia),.inr ⟨trivial,_,rfl,trivial,_,rfl,_,rfl,trivial,_,rfl,_,mm (l:=j-i-1) (by lia) (by lia),trivial,_,rfl,_,ck _ _,_,rfl,m_ (λe=>?_) (λe=>?_)⟩⟩
  ·rw[if_pos e]at eb;refine⟨⟨_,rfl⟩,trivial,_,rfl,by rw[WB];exact jT (by lia),?_⟩
   rw[eb,Xl];rfl
  ·rw[if_neg e,XY]at eb;rw[eb];rfl
end
end ku
namespace L2.Q
open PySem PySem.Spec PySem.SeqAt PyProof.Rows Mx
theorem ft {α:Type}{f g:α->Nat}:∀{l:List α} {b:Nat},(∀p∈l,f p=g p)->l.foldl (λa p=>a*f p) b=l.foldl (λa p=>a*g p) b
 |[],_,_=>rfl
 |x::l,b,h=>by
  rw[Y5,Y5,h x (by simp)]
  exact ft λp hp=>h p (by simp[hp])
def N6 (ps:List (Nat×Nat)):Nat->Nat->Nat->Nat
 |0,_,_=>1
 |_+1,0,_=>1
 |n+1,l+1,i=>((bS ps w1 (tW ps w1) i (i+l+1)).map λc=>(parts i c (i+l+1)).foldl (λa p=>a*N6 ps n (p.2-p.1) p.1) 1).sum
def hm (ps:List (Nat×Nat))(l i:Nat):Nat:=N6 ps l l i
theorem qd {ps:List (Nat×Nat)}(hp:∀p∈ps,p.1<p.2){i l:Nat}{c:Option Nat}(hc:c∈bS ps w1 (tW ps w1) i (i+l+1)){p:Nat×Nat}(h:p∈parts i c (i+l+1)):i<p.1/\p.1<=p.2/\p.2<=i+l+1:=by
 have o:=cO hc;cases c with
 |none =>
  rw[WN.mp h];exact⟨aaf _,by show i+1<=i+l+1;lia,WD _⟩
 |some k =>
  obtain⟨o1,o2,_⟩:=o;have:=hp _ o1;dsimp only at this;rcases WG.mp h with rfl|h
  ·exact⟨aaf _,by show i+1<=k;lia,by show k<=_;lia⟩
  ·rw[WN.mp h];exact⟨by show i<k+1;lia,by show k+1<=_;lia,WD _⟩
theorem sN {ps:List (Nat×Nat)}(hp:∀p∈ps,p.1<p.2):∀{n m l i:Nat},l<=n->l<=m->N6 ps n l i=N6 ps m l i
 |0,m,l,i,h1,h2=>by
  rw[show l=0 by lia]
  cases m <;> rfl
 |n+1,m,0,i,h1,h2=>by cases m <;> rfl
 |n+1,0,l+1,i,h1,h2=>by lia
 |n+1,m+1,l+1,i,h1,h2=>by
  show ((bS ps w1 (tW ps w1) i (i+l+1)).map _).sum=((bS ps w1 (tW ps w1) i (i+l+1)).map _).sum
  congr 1
  refine Xe λc hc=>ft λp h=>?_;obtain⟨a,b,d⟩:=qd hp hc h;exact sN hp (by lia) (by lia)
theorem qz {ps:List (Nat×Nat)}(hp:∀p∈ps,p.1<p.2){l i:Nat}:hm ps (l+1) i=((bS ps w1 (tW ps w1) i (i+l+1)).map λc=>(parts i c (i+l+1)).foldl (λa p=>a*hm ps (p.2-p.1) p.1) 1).sum:=by
 show ((bS ps w1 (tW ps w1) i (i+l+1)).map _).sum=_
 congr 1
 refine Xe λc hc=>ft λp h=>?_;obtain⟨a,b,d⟩:=qd hp hc h;exact sN hp (by lia) (WD _)
theorem Ak {ps:List (Nat×Nat)}{i:Nat}(h:ps.Nodup):(iq ps i).Nodup:=by
 unfold iq;refine XW.mpr (List.Pairwise.imp_of_mem ?_ (List.Pairwise.filter _ h));intro a b ha hb Jo e;have h1:=(WW.mp ha).2;have h2:=(WW.mp hb).2;simp only[decide_eq_true_eq]at h1 h2;exact Jo (Prod.ext (by rw[h1,h2]) e)
theorem AV:∀{n i:Nat} {l:List Nat},l.Nodup->(∀x∈l,i<=x/\x<i+n)->l.length<=n
 |0,i,l,_,h=>by
  cases l with
  |nil=>exact WD _
  |cons x l=>have:=h x (by simp);lia
 |n+1,i,l,nd,h=>by
  have q:=AV (n:=n) (i:=i) (nd.erase (i+n)) λx hx=>by
   have:=nd.mem_erase_iff.mp hx;have:=h x this.2;lia
  have:=List.length_erase (a:=i+n) (l:=l)
  split at this <;> lia
theorem vQ {α:Type}{f:α->Nat}{c:Nat}:∀{l:List α},(∀x∈l,f x<=c)->(l.map f).sum<=l.length*c
 |[],_=>WV _
 |x::l,h=>by
  have h1:=h x (by simp)
  have h2:=vQ (l:=l) λy hy=>h y (by simp[hy])
  rw[W_,Yn,WS,Nat.add_mul,Zg];lia
theorem tX {ps:List (Nat×Nat)}(hp:∀p∈ps,p.1<p.2)(nd:ps.Nodup){l i:Nat}:(bS ps w1 (tW ps w1) i (i+l+1)).length<=l+1:=by
 have h:((iq ps i).filter λk=>decide (k<i+l+1)&&decide (w1 (i,k)+tW ps w1 (k-i-1) (i+1)+tW ps w1 (i+l+1-k-1) (k+1)=tW ps w1 (i+l+1-i) i)).length<=l:=by
  have q:=AV (i:=i+1) (n:=l) ((Ak (i:=i) nd).filter _) (l:=(iq ps i).filter λk=>decide (k<i+l+1)&&decide (w1 (i,k)+tW ps w1 (k-i-1) (i+1)+tW ps w1 (i+l+1-k-1) (k+1)=tW ps w1 (i+l+1-i) i)) λx hx=>by
   obtain⟨h1,h2⟩:=WW.mp hx;have:=hp _ (bB.mp h1);dsimp only at this;rw[Xz,decide_eq_true_eq]at h2;lia
  exact q
 unfold bS;rw[Xi,WB]
 split <;> simp <;> lia
def jZ (ps:List (Nat×Nat))(i j:Nat)(c:Option Nat):Nat:=(parts i c j).foldl (λa p=>a*hm ps (p.2-p.1) p.1) 1
theorem lM {ps:List (Nat×Nat)}{i j:Nat}:jZ ps i j none=hm ps (j-(i+1)) (i+1):=by
 show 1*_=_;rw[Zg]
theorem lL {ps:List (Nat×Nat)}{i j k:Nat}:jZ ps i j (some k)=hm ps (k-(i+1)) (i+1)*hm ps (j-(k+1)) (k+1):=by
 show 1*_*_=_;rw[Zg]
theorem MN {ps:List (Nat×Nat)}(hp:∀p∈ps,p.1<p.2)(nd:ps.Nodup):∀l i,hm ps l i<=jm (l+1):=by
 intro l
 induction l using Nat.strongRecOn with
 |_ l ih =>
 intro i;cases l with
 |zero=>exact WD _
 |succ l =>
  rw[qz hp];refine Xo (vQ (c:=jm (l+1)) λc hc=>?_) ?_
  ·show jZ ps i (i+l+1) c<=_;have o:=cO hc;cases c with
   |none =>
    rw[lM,show i+l+1-(i+1)=l by lia]
    exact ih l (by lia) _
   |some k =>
    obtain⟨o1,o2,_⟩:=o;have:=hp _ o1;dsimp only at this;rw[lL];have h1:=ih (k-(i+1)) (by lia) (i+1)
    have h2:=ih (i+l+1-(k+1)) (by lia) (k+1)
    have h3:=qE (k-(i+1)+1) (i+l+1-(k+1)+1);rw[show k-(i+1)+1+(i+l+1-(k+1)+1)=l+1 by lia]at h3
    exact Xo (ZW h1 h2) h3
  ·show _<=(l+2)*jm (l+1);exact ZW (Xo (tX hp nd) (by lia)) (WD _)
theorem sM {ps:List (Nat×Nat)}(hp:∀p∈ps,p.1<p.2)(nd:ps.Nodup){l i:Nat}(h:l<=19):((hm ps l i:Nat):Int)<2 ^ 64:=by
 have h1:=MN hp nd l i;have h2:=tu (show l+1<=20 by lia)
 have h3:jm 20<2 ^ 64:=by decide
 lia
theorem Jf {ps:List (Nat×Nat)}(hp:∀p∈ps,p.1<p.2)(nd:ps.Nodup){l m i j:Nat}(h:l+m<=39):kM (hm ps l i:Int) (hm ps m j:Int):=by
 rcases X0 19 l with q|q
 ·exact .inr ⟨by lia,sM hp nd (by lia)⟩
 ·exact .inl ⟨by lia,sM hp nd q⟩
abbrev hT (ps:List (Nat×Nat)):Nat->Nat->Int:=λl i=>((hm ps l i:Nat):Int)
def BP:FD:=λds R=>∃(n:Nat) (ps:List (Nat×Nat)) (L:Nat->Nat) (i j:Nat) (c:Option Nat),ds=[fD n L (hT ps),.lst ((parts i c j).map JZ)]/\c∈bS ps w1 (tW ps w1) i j/\CF n ps/\n<=40/\i<j/\j<=n/\(∀a,i<a->a<=n->n+1-a<=L a)/\R (.int (jZ ps i j c:Nat))
theorem BP.mono:c5 BP:=λds R R' k h=>by obtain⟨n,ps,L,i,j,c,e,h1,h2,h3,h4,h5,h6,q⟩:=h;exact⟨n,ps,L,i,j,c,e,h1,h2,h3,h4,h5,h6,k _ q⟩
def BQ:FD:=λds R=>∃(n:Nat) (ps:List (Nat×Nat)) (L:Nat->Nat) (i j:Nat),ds=[fD n L (hT ps),.lst ((bS ps w1 (tW ps w1) i j).map oD),.int i,.int j]/\CF n ps/\n<=40/\i<j/\j<=n/\(∀a,i<a->a<=n->n+1-a<=L a)/\R (.int (hT ps (j-i) i))
theorem BQ.mono:c5 BQ:=λds R R' k h=>by obtain⟨n,ps,L,i,j,e,h2,h3,h4,h5,h6,q⟩:=h;exact⟨n,ps,L,i,j,e,h2,h3,h4,h5,h6,k _ q⟩
def BU:FD:=λds R=>∃(n:Nat) (ps:List (Nat×Nat)),ds=[kG n ps]/\CF n ps/\n<=40/\R (.int (hT ps n 0))
theorem BU.mono:c5 BU:=λds R R' k h=>by obtain⟨n,ps,e,h2,h3,q⟩:=h;exact⟨n,ps,e,h2,h3,k _ q⟩
theorem xw {ps:List (Nat×Nat)}{l:List (Nat×Nat)}{m:Nat}{p:Nat×Nat}(h:l[m]?=some p):(l.take (m+1)).foldl (λa p=>a*hm ps (p.2-p.1) p.1) 1=(l.take m).foldl (λa p=>a*hm ps (p.2-p.1) p.1) 1*hm ps (p.2-p.1) p.1:=by
 rw[X_,h,List.foldl_append];rfl
theorem Az {ps:List (Nat×Nat)}(hp:∀p∈ps,p.1<p.2)(nd:ps.Nodup){i j m:Nat}{c:Option Nat}{p:Nat×Nat}(hj:j<=40)(hc:c∈bS ps w1 (tW ps w1) i j)(h:(parts i c j)[m]?=some p):
  kM ((((parts i c j).take m).foldl (λa p=>a*hm ps (p.2-p.1) p.1) 1:Nat):Int) ((hm ps (p.2-p.1) p.1:Nat):Int):=by
 cases m with
 |zero=>exact .inl ⟨by show -(2 ^ 64)<((1:Nat):Int);decide,by show ((1:Nat):Int)<2 ^ 64;decide⟩
 |succ m =>
  cases c with
  |none=>cases m <;> cases h
  |some k =>
   cases m with
   |succ m=>cases m <;> cases h
   |zero =>
    cases h;have o:=cO hc;obtain⟨o1,o2,_⟩:=o;have:=hp _ o1;dsimp only at this;show kM ((1*hm ps (k-(i+1)) (i+1):Nat):Int) _;rw[Zg];exact Jf hp nd (by show k-(i+1)+(j-(k+1))<=39;lia)
section
variable {X:Cx}{C:Cfg}{lk:List (Option Nat)}{γ:df}{τ:bb}{φ:aQ}{T:List Nat}{scope:Zv}{N':List Str}{tg cy elt:Expr}{ifs:List Expr}{ι:cH}{pos:Pos}
def Ad (lk:List (Option Nat))(ι:cH)(γ:df)(τ:bb)(φ:aQ):aQ:=λβ R=>ι β λds k β1=>hold k true/\j6 γ τ φ ds k (cE lk β1) λo=>R (.lst o) .own β1
theorem Hv (L:Links X scope N' lk)(sS:N'.Nodup)(hT:T.all (λi=>match lk[i]? with|some (some _)=>false|_=>true)=true)(hc:X.calm=true)(hi:xn X C true tg cy ι)
  (oQ:∀a cl c s H ex,xp (aB X scope N' cl c s H ex) (C.u λc=>c=a) tg T γ) (kZ:∀a cl c s H ex,ub (aB X scope N' cl c s H ex) ifs (jS (aB X scope N' cl c s H ex) (C.u λc=>c=a) true τ)) (τm:∀β R R',(∀d β,R d β->R' d β)->τ β R->τ β R')
  (mz:∀a cl c s H ex,PQ (aB X scope N' cl c s H ex) (C.u λc=>c=a) true elt φ) (γm:∀d k β R R',(∀r,R r->R' r)->γ d k β R->γ d k β R') (φm:∀β R R',(∀d k β,R d k β->R' d k β)->φ β R->φ β R')
  (hs:∀x,XI cy X.env x=pure x:=by intro _;rfl):PQ X C true (.ListComp elt [⟨tg,cy,ifs,0⟩] scope pos) (Ad lk ι γ τ φ):=by
 have EO:∀i∈T,∀j,lk[i]?≠some (some j):=λi hi j e=>by
  have:=YW.mp hT i hi;rw[e]at this;cases this
 refine⟨λβ R R' k h=>hi.mono β _ _ (λds kd β1 q=>⟨q.1,q.2.mono λo z=>k _ _ _ z⟩) h,?_⟩;refine(iL (g:=⟨tg,cy,ifs,0⟩) (gs:=[]) (tg:=λa v σ H Q=>∃own β d k,SQ X (C.u λc=>c=a) σ H β own/\Rp X (fZ (C.u λc=>c=a) (Wn own) k) H d v/\γ d k β λβ'=>∀σ' aP,SQ X (C.u λc=>c=a) σ' H β' aP->(∀a,Wn aP a->Wn own a)->(∀j,j∉T->σ'[j]?=σ[j]?)->Q σ' H)
  (tt:=λa=>jS X (C.u λc=>c=a) true τ) (ta:=λa N σ H=>tQ X (C.u λc=>c=a) true φ σ H λv H1=>∃xs,H1 a=some (.lst xs)/\xs.length<W7/\N σ (upd H1 a (.lst (xs++[v]))))
  L hc iQ rfl rfl (λ_ _=>Cn) hi.pi (λa cl c s H ex=>⟨(oQ a cl c s H ex).pg,kZ a cl c s H ex,iN rfl (mz a cl c s H ex).pe⟩) hs).pre λσ H Q ⟨β,own,s,h⟩=>?_
 refine⟨β,own,s,hi.mono β _ _ (λds k β1 ⟨hk,q⟩ J H1 aE o1 it a ha=>?_) h⟩;exact jJ γm τm φm (cP L sS) EO o1.sq ha (hp:=true) (λ_=>rfl) hk it q λo H' q o2 r=>q _ _ aE (o1.trans o2) (r.later o1.sn)
theorem SO (N':List Str)(lk:List (Option Nat))(L:hV X.env.scope.names X.N scope N' lk=true)(sS:N'.Nodup)(hc:X.calm=true)(hi:xn X C true tg cy ι)
  (oQ:∀U cl c s H ex,xp (aB X scope N' cl c s H ex) (C.u U) tg T γ) (kZ:∀U cl c s H ex,uc (aB X scope N' cl c s H ex) (C.u U) true ifs τ) (mz:∀U cl c s H ex,PQ (aB X scope N' cl c s H ex) (C.u U) true elt φ)
  (hT:T.all (λi=>match lk[i]? with|some (some _)=>false|_=>true)=true:=by rfl) (hs:∀x,XI cy X.env x=pure x:=by intro _;rfl):PQ X C true (.ListComp elt [⟨tg,cy,ifs,0⟩] scope pos) (Ad lk ι γ τ φ) :=
 Hv (Links.of L) sS hT hc hi (λa=>oQ _) (λa cl c s H ex=>(kZ _ cl c s H ex).pt) (kZ (λ_=>False) [] 0 X.s₀ X.H₀ []).mono (λa=>mz _) (oQ (λ_=>False) [] 0 X.s₀ X.H₀ []).mono (mz (λ_=>False) [] 0 X.s₀ X.H₀ []).mono hs
end
end L2.Q
namespace ku
open PySem L2 L2.Q
section
variable {P:WI}{w:W6}{K:PySem.W.Frag}{mg:Str->Option WC}{base:Heap}
theorem dC:aK ["counts","parts","ways","low","high"] ["counts","parts"] (ay gf):=⟨rfl,rfl,rfl,by decide +kernel,rfl,by decide +kernel,by decide +kernel⟩
theorem HP {td kc} (CQ:OC K mg td kc):aM P w K mg base bZ 1 td kc ["counts","parts"] (dX P w true BP):=by
 refine qQ CQ.F dC (λds R Mm=> by obtain⟨n,ps,L,i,j,c,e,_⟩ := Mm;subst e;rfl) λcJ A outer s H E hr=>⟨_,(aj (a9 (i:=2) ag dC.nd)
    (aj (b9 XM rfl (a_ (ab (i:=1))) (cg (n:=2) rfl (aG (ak (i:=3) dC.nd) (aG (ak (i:=4) dC.nd) bK))) (ao (a9 (i:=2) (aH af (b8.m wz) (ab (i:=2)) (aO af br (aO af br (ab (i:=0)) (ab (i:=3))) (aH af (b8.m bA) (ab (i:=4)) (ab (i:=3))))) dC.nd)))
    (ao (aY (ab (i:=2)))))),λds R h=>?_⟩
 obtain⟨n,ps,L,i,j,c,rfl,hc,ok,hn,h1,h2,h3,q⟩:=h;have hp:∀p∈ps,p.1<p.2:=λp hp=>(ok.lt p hp).1;refine⟨_,rfl,_,rfl,trivial,?_⟩;refine⟨λm β=>∃x3 x4,β=[some (.val false (fD n L (hT ps))),some (.val false (.lst ((parts i c j).map JZ))),some (.val true (.int ((((parts i c j).take m).foldl (λa p=>a*hm ps (p.2-p.1) p.1) 1:Nat):Int))),x3,x4],⟨_,_,rfl⟩,?_,?_⟩
 ·rintro m d β hd ⟨x3,x4,rfl⟩;rw[WU]at hd;obtain⟨p,J4,rfl⟩:=W8.mp hd;obtain⟨l,rfl⟩:∃l,j=i+l+1:=⟨j-i-1,by lia⟩
  obtain⟨b1,b2,b3⟩:=qd hp hc (XB J4);have hl:=h3 p.1 b1 (by lia)
  refine⟨_,rfl,rfl,_,_,rfl,_,_,rfl,rfl,?_⟩;refine⟨_,rfl,trivial,_,rfl,trivial,_,rfl,_,ml rfl (by lia),.inr ⟨trivial,_,rfl,trivial,_,rfl,_,rfl,_,mm (l:=p.2-p.1) (by lia) (by lia),_,Cc (Az hp ok.nd (by lia) hc J4),_,_,by rw[xw J4,Int.natCast_mul];rfl⟩⟩
 ·rintro β ⟨x3,x4,rfl⟩;rw[WB,Yv];exact⟨_,rfl,trivial,q⟩
theorem uO:aK ["counts","choices","i","j"] ["counts","choices","i","j"] (ay gg):=⟨rfl,rfl,rfl,by decide +kernel,rfl,by decide +kernel,by decide +kernel⟩
theorem HQ {yz o4} (Gq:RX K mg yz o4) {td kc} (CQ:OC K mg td kc) {tf kg} (CS:OD K mg tf kg) (B:ze mg):aM P w K mg base bZ 2 yz o4 ["counts","choices","i","j"] (dX P w true BQ):=by
 have VR:aM P w K mg base bZ 1 _ _ _ (dX P w true BP):= HP CQ;have VV:aM P w K mg base bZ 1 _ _ _ (dX P w true mH):= AK CS;refine qQ Gq.F uO (λds R Ml=> by obtain⟨n,ps,L,i,j,e,_⟩ := Ml;subst e;rfl) λcJ A outer s H E hr=>⟨_,(ao (aY (ba af (bH.m (pA rfl)) B.sum Cq (aa (LG ["k","counts","i","j"] [none,some 0,some 2,some 3] (by rfl) (by decide:(["k","counts","i","j"]:List Str).Nodup) rfl (a_ (ab (i:=1))) (λ_ _ _ _ _ _=>(ak (i:=0) (by decide:(["k","counts","i","j"]:List Str).Nodup))) (λ_ _ _ _ _ _=>c7) (λ_ _ _ _ _ _=>(aW BP.mono VR (hr.mono (by decide)) CQ.m CQ.F.kp CQ.b (aa (ab (i:=1)) (aa (aW mH.mono VV (hr.mono (by decide)) CS.m CS.F.kp CS.b (aa (ab (i:=2)) (aa (ab (i:=0)) (aa (ab (i:=3)) ae)))) ae))))) ae)))),λds R h=>?_⟩
 obtain⟨n,ps,L,i,j,rfl,ok,hn,h1,h2,h3,q⟩:=h;have hp:∀p∈ps,p.1<p.2:=λp hp=>(ok.lt p hp).1;have bl:(bS ps w1 (tW ps w1) i j).length<=41:=by
  obtain⟨l,rfl⟩:∃l,j=i+l+1:=⟨j-i-1,by lia⟩
  exact Xo (tX hp ok.nd) (by lia)
 refine⟨_,rfl,_,rfl,trivial,?_⟩;refine eK (λ_=>true) (λc=>.int ((jZ ps i j c:Nat):Int)) trivial (fx (by lia)) (λc hc x0 o J ho j1 _=>?_) ?_
 ·cases c with
  |none=>exact⟨_,rfl,trivial,_,rfl,trivial,_,rfl,trivial,_,rfl,trivial,i,none,j,rfl,trivial,n,ps,L,i,j,none,rfl,hc,ok,hn,h1,h2,h3,trivial,ho,j1 rfl _⟩
  |some k=>exact⟨_,rfl,trivial,_,rfl,trivial,_,rfl,trivial,_,rfl,trivial,i,some k,j,rfl,trivial,n,ps,L,i,j,some k,rfl,hc,ok,hn,h1,h2,h3,trivial,ho,j1 rfl _⟩
 ·rw[bG];refine⟨trivial,_,sum_ints,trivial,?_⟩;obtain⟨l,rfl⟩:∃l,j=i+l+1:=⟨j-i-1,by lia⟩
  have e:((bS ps w1 (tW ps w1) i (i+l+1)).map λc=>((jZ ps i (i+l+1) c:Nat):Int)).sum=hT ps (i+l+1-i) i:=by
   rw[lx,show i+l+1-i=l+1 by lia]
   show _=((hm ps (l+1) i:Nat):Int);rw[qz hp];rfl
  rw[e];exact q
theorem aU:aK ["row","many","partners","worth","table","counts","i","j"] ["row"] (ay cf):=⟨rfl,rfl,rfl,by decide +kernel,rfl,by decide +kernel,by decide +kernel⟩
theorem HV {EY wX} (Kf:TC K mg EY wX) {yA o7} (Gr:RZ K mg yA o7) {tm ki} (zc:D8 K mg tm ki) {nJ gP} (um:D5 K mg nJ gP) {nH gO} (uk:D4 K mg nH gO) {nK gQ} (zb:D7 K mg nK gQ) {iZ ee} (pk:D6 K mg iZ ee) {tj kh} (xb:D9 K mg tj kh) {yC o9} (Gv:RY K mg yC o9) {tf kg} (CS:OD K mg tf kg) {yz o4} (Gq:RX K mg yz o4) {td kc} (CQ:OC K mg td kc) (B:ze mg):aM P w K mg base bZ 5 EY wX ["row"] (dX P w true BU):=by
 have RS:aM P w K mg base bZ 1 _ _ _ (dX P w true mI):= wB um B;have RQ:aM P w K mg base bZ 1 _ _ _ (dX P w true vt):= wA uk B;have VS:aM P w K mg base bZ 2 _ _ _ (dX P w true BQ):= HQ Gq CQ CS B;have V2:aM P w K mg base bZ 2 _ _ _ (dX P w true tG):= DY Gv pk B;have RT:aM P w K mg base bZ 1 _ _ _ (dX P w true vw):= AM xb;have VT:aM P w K mg base bZ 4 _ _ _ (dX P w true mG):= AJ Gr zc um uk zb pk xb B;refine qQ Kf.F aU (λds R Mk=> by obtain⟨n,ps,e,_⟩ := Mk;subst e;rfl) λcJ A outer s H E hr=>⟨_,(aj (a9 (i:=1) (aO af br (ab (i:=0)) ag) aU.nd)
    (aj (a9 (i:=2) (aW mI.mono RS (hr.mono (by decide)) um.m um.F.kp um.b (aa (ab (i:=0)) ae)) aU.nd)
    (aj (a9 (i:=3) (aW vw.mono RT (hr.mono (by decide)) xb.m xb.F.kp xb.b (aa (ab (i:=0)) ae)) aU.nd)
    (aj (a9 (i:=4) (aW mG.mono VT (hr.mono (by decide)) Gr.m Gr.F.kp Gr.b (aa (ab (i:=0)) ae)) aU.nd)
    (aj (rF (i:=5) true ["i"] [none] (by rfl) (by decide:(["i"]:List Str).Nodup) rfl (λ_=>(bg B.range (aa (aH aL aC (ab (i:=1)) ag) ae))) (λ_ _ _ _ _ _=>(ak (i:=0) (by decide:(["i"]:List Str).Nodup))) (λ_ _ _ _ _ _=>c7) (λ_ _ _ _ _ _=>(bh (aa ag ae))) aU.nd)
    (aj (b9 XM rfl (a_ (aW vt.mono RQ (hr.mono (by decide)) uk.m uk.F.kp uk.b (aa (ab (i:=1)) ae))) (cg (n:=2) rfl (aG (ak (i:=6) aU.nd) (aG (ak (i:=7) aU.nd) bK))) (ao (d7 (i:=5) true (λ_=>(aW BQ.mono VS (hr.mono (by decide)) Gq.m Gq.F.kp Gq.b (aa (ab (i:=5)) (aa (aW tG.mono V2 (hr.mono (by decide)) Gv.m Gv.F.kp Gv.b (aa (ab (i:=2)) (aa (ab (i:=3)) (aa (ab (i:=4)) (aa (ab (i:=6)) (aa (ab (i:=7)) ae)))))) (aa (ab (i:=6)) (aa (ab (i:=7)) ae)))))) (λ_=>(ab (i:=6))))))
    (ao (aY (aO af br (aO af br (ab (i:=5)) ag) (ab (i:=1))))))))))),λds R h=>?_⟩
 obtain⟨n,ps,rfl,ok,QO,q⟩:=h;have hn:=ok.le;have hp:∀p∈ps,p.1<p.2:=λp hp=>(ok.lt p hp).1;refine⟨_,rfl,trivial,_,rfl,_,rfl,trivial,n,ps,rfl,ok,_,rfl,trivial,n,ps,rfl,ok,_,rfl,trivial,n,ps,rfl,ok,_,rfl,trivial,_,rfl,trivial,(n:Int)+1,rfl,by lia,by lia,trivial,?_⟩
 rw[show ((n:Int)+1).toNat=n+1 by lia]
 refine eK (λ_=>true) (λ_=>.lst [.int 1]) trivial (by rw[Xh];exact fx (by lia)) (λx hx x0 o J ho h1 _=>⟨trivial,CK,trivial,ho,h1 rfl _⟩) ?_
 rw[bG];refine⟨_,rfl,trivial,n,rfl,hn,_,rfl,trivial,?_⟩;refine⟨λidx β=>∃L x6 x7,β=[some (.val false (kG n ps)),some (.val true (.int n)),some (.val true (Hr n ps)),some (.val true (wD ps w1)),some (.val true (oT n (tW ps w1))),some (.own (fD n L (hT ps))),x6,x7]/\uf n idx L,⟨λ_=>1,_,_,rfl,kn⟩,?_,?_⟩
 ·rintro idx d β hd ⟨L,x6,x7,rfl,dn⟩;rw[WU]at hd;obtain⟨p,jl,rfl⟩:=W8.mp hd;obtain⟨a,b,ha,hb,rfl,hL,sL⟩:=mP dn jl;have eL:fD n L (hT ps)=fD n (dc n a b) (hT ps):=f_ hL;have e0:dc n a b (n-1-a)=b+1:=by unfold dc;rw[if_neg (by lia),if_pos rfl]
  rw[eL];refine⟨_,rfl,rfl,_,_,rfl,_,_,rfl,rfl,⟨_,rfl⟩,_,rfl,_,_,_,_,rfl,rfl,by rw[WB,Xh];exact yo rfl (show n-1-a<n+1 by lia),bc (show n-1-a<n+1 by lia),?_⟩
  refine⟨_,rfl,trivial,_,rfl,trivial,_,rfl,trivial,_,rfl,trivial,_,rfl,trivial,_,rfl,trivial,n,ps,w1,tW ps w1,n-1-a,n-a+b,rfl,ok,by lia,by lia,trivial,_,rfl,trivial,_,rfl,trivial,n,ps,dc n a b,n-1-a,n-a+b,rfl,ok,QO,by lia,by lia,λa' h1 h2=>by unfold dc;rw[if_pos h1];exact WD _,trivial,rfl,?_,?_⟩
  ·rw[e0];unfold pO;rw[WB,Xh];exact jT (by lia)
  ·refine⟨dc n a (b+1),some (.val true (.int ((n-1-a:Nat):Int))),some (.val true (.int ((n-a+b:Nat):Int))),?_,.inr ⟨a,b+1,ha,by lia,λ_ _=>rfl,sL⟩⟩
   rw[show n-a+b-(n-1-a)=b+1 by lia,e0,vW ha hb]
   rfl
 ·rintro β ⟨L,x6,x7,rfl,dn⟩;rw[WB]at dn;have e:fD n L (hT ps)=oT n (hT ps):=f_ (pj dn);rw[e];exact⟨_,rfl,trivial,_,ml (i:=0) rfl (WV _),.inr ⟨trivial,_,rfl,_,mm (l:=n) rfl (by lia),trivial,q⟩⟩
end
end ku
namespace L2.Q
open PySem
section
variable {ps:List (Nat×Nat)}
def mX (ps:List (Nat×Nat))(i j:Nat):Int:=tW ps w1 (j-i) i
theorem bQ {i j:Nat}(h:j<=i):mX ps i j=0:=by unfold mX;rw[show j-i=0 by lia];rfl
theorem kX {l:List Int}{m:Int}(h:fo l=some m):m∈l/\∀x∈l,x<=m:=by
 cases l with
 |nil=>cases h
 |cons a l=>cases h;exact bW l a
theorem wI {l:List Int}{m:Int}(h1:m∈l)(h2:∀x∈l,x<=m):fo l=some m:=by
 cases h:fo l with
 |none=>cases l with|nil=>cases h1|cons a l=>cases h
 |some k =>
  obtain⟨g1,g2⟩:=kX h;have:=h2 _ g1;have:=g2 _ h1;rw[show k=m by lia]
theorem qk (hp:∀p∈ps,p.1<p.2){i j:Nat}(h:i<j):fo ((((iq ps i).filter λk=>decide (k<j)).map λk=>1+mX ps (i+1) k+mX ps (k+1) j)++[mX ps (i+1) j])=some (mX ps i j):=by
 have e:mX ps i j=iS ps w1 (tW ps w1) i j:=by
  unfold mX;rw[show j-i=(j-i-1)+1 by lia,kQ hp,show i+(j-i-1)+1=j by lia]
 rw[e];unfold iS;rw[<- oE];have e2:(((iq ps i).filter λk=>decide (k<j)).map λk=>1+mX ps (i+1) k+mX ps (k+1) j)=((iq ps i).filter λk=>decide (k<j)).map λk=>w1 (i,k)+tW ps w1 (k-i-1) (i+1)+tW ps w1 (j-k-1) (k+1):=by
  refine Xe λk _=>?_;unfold mX;rw[show k-(i+1)=k-i-1 by lia,show j-(k+1)=j-k-1 by lia]
  rfl
 rw[e2];unfold mX;rw[show j-(i+1)=j-i-1 by lia]
theorem gx (hp:∀p∈ps,p.1<p.2){i j:Nat}(h:i<j):mX ps (i+1) j<=mX ps i j:=(kX (qk hp h)).2 _ (by simp)
theorem hG (hp:∀p∈ps,p.1<p.2){i j k:Nat}(h:(i,k)∈ps)(hk:k<j):1+mX ps (i+1) k+mX ps (k+1) j<=mX ps i j:=by
 have EK:=hp _ h;dsimp only at EK;refine(kX (qk hp (show i<j by lia))).2 _ (X1 _ (WT.mpr ⟨k,WW.mpr ⟨bB.mpr h,decide_eq_true hk⟩,rfl⟩))
theorem l0 (hp:∀p∈ps,p.1<p.2){i j:Nat}(h:i<j):mX ps i j=mX ps (i+1) j\/∃k,(i,k)∈ps/\k<j/\mX ps i j=1+mX ps (i+1) k+mX ps (k+1) j:=by
 rcases W4.mp (kX (qk hp h)).1 with z|z
 ·obtain⟨k,hk,e⟩:=WT.mp z;obtain⟨h1,h2⟩:=WW.mp hk;exact .inr ⟨k,bB.mp h1,of_decide_eq_true h2,e.symm⟩
 ·exact .inl (WN.mp z)
theorem FF (hp:∀p∈ps,p.1<p.2):∀len i,0<=tW ps w1 len i
 |0,_=>Int.le_refl 0
 |l+1,i=>by
  rw[kQ hp];have h:=(oH (ps:=ps) (w:=w1) (T:=tW ps w1) (i:=i) (j:=i+l+1)).2.1;rw[show i+l+1-i-1=l by lia]at h
  exact Int.le_trans (FF hp l (i+1)) h
theorem A9 (hp:∀p∈ps,p.1<p.2){i j:Nat}:0<=mX ps i j:=FF hp (j-i) i
theorem fN (hp:∀p∈ps,p.1<p.2):∀(n i j:Nat),j-i<=n->i<j->mX ps i (j-1)<=mX ps i j
 |0,i,j,h,aF=>by lia
 |n+1,i,j,h,aF=>by
  by_cases e:i=j-1
  ·rw[bQ (by lia)];exact A9 hp
  ·have s:=gx hp aF;rcases l0 hp (show i<j-1 by lia)with z|⟨k,h1,h2,z⟩
   ·have:=fN hp n (i+1) j (by lia) (by lia)
    lia
   ·have EK:=hp _ h1;dsimp only at EK;have:=fN hp n (k+1) j (by lia) (by lia)
    have:=hG hp h1 (show k<j by lia)
    lia
theorem gy (hp:∀p∈ps,p.1<p.2){a j:Nat}(ha:(a,j-1)∈ps)(hj:0<j):∀(n i:Nat),j-i<=n->i<=a->mX ps i a+1+mX ps (a+1) (j-1)<=mX ps i j
 |0,i,h,hi=>by have:=hp _ ha;dsimp only at this;lia
 |n+1,i,h,hi=>by
  have Vl:=hp _ ha;dsimp only at Vl
  by_cases e:i=a
  ·subst e;have t:=hG hp ha (show j-1<j by lia)
   rw[bQ (WD i)];rw[bQ (i:=j-1+1) (by lia)]at t
   lia
  ·have s:=gx hp (show i<j by lia)
   rcases l0 hp (show i<a by lia)with z|⟨k,h1,h2,z⟩
   ·have:=gy hp ha hj n (i+1) (by lia) (by lia)
    lia
   ·have EK:=hp _ h1;dsimp only at EK;have:=gy hp ha hj n (k+1) (by lia) (by lia)
    have:=hG hp h1 (show k<j by lia)
    lia
theorem jB (hp:∀p∈ps,p.1<p.2):∀(n i j:Nat),j-i<=n->i<j->mX ps i j=mX ps i (j-1)\/∃a,(a,j-1)∈ps/\i<=a/\mX ps i j=mX ps i a+1+mX ps (a+1) (j-1)
 |0,i,j,h,aF=>by lia
 |n+1,i,j,h,aF=>by
  have rs:=fN hp (j-i) i j (WD _) aF;rcases l0 hp aF with z|⟨k,h1,h2,z⟩
  ·by_cases e:i+1=j
   ·left
    rw[bQ (i:=i+1) (by lia)]at z
    rw[bQ (i:=i) (j:=j-1) (by lia)]
    exact z
   ·have s:=gx hp (show i<j-1 by lia)
    rcases jB hp n (i+1) j (by lia) (by lia)with y|⟨a,h1,h2,y⟩
    ·left;lia
    ·right
     have s2:=gx hp (show i<a by lia)
     have t:=gy hp h1 (by lia) (j-i) i (WD _) (by lia)
     exact⟨a,h1,by lia,by lia⟩
  ·have EK:=hp _ h1;dsimp only at EK
   by_cases e:k=j-1
   ·right
    subst e;refine⟨i,h1,WD _,?_⟩;rw[bQ (i:=j-1+1) (by lia)]at z
    rw[bQ (WD i)];lia
   ·rcases jB hp n (k+1) j (by lia) (by lia)with y|⟨a,g1,g2,y⟩
    ·left
     have:=hG hp h1 (show k<j-1 by lia)
     lia
    ·right
     have:=hG hp h1 (show k<a by lia)
     have t:=gy hp g1 (by lia) (j-i) i (WD _) (by lia)
     exact⟨a,g1,by lia,by lia⟩
theorem A8 (hp:∀p∈ps,p.1<p.2){i j:Nat}(h:i<j):fo ([mX ps i (j-1)]++(((near ps (j-1)).filter λa=>decide (i<=a)).map λa=>mX ps i a+1+mX ps (a+1) (j-1)))=some (mX ps i j):=by
 refine wI ?_ λx hx=>?_
 ·rcases jB hp (j-i) i j (WD _) h with z|⟨a,h1,h2,z⟩
  ·rw[z];simp
  ·exact Xm _ (WT.mpr ⟨a,WW.mpr ⟨bo.mpr h1,decide_eq_true h2⟩,z.symm⟩)
 ·rcases W4.mp hx with z|z
  ·rw[WN.mp z];exact fN hp (j-i) i j (WD _) h
  ·obtain⟨a,ha,rfl⟩:=WT.mp z;obtain⟨h1,h2⟩:=WW.mp ha;exact gy hp (bo.mp h1) (by lia) (j-i) i (WD _) (of_decide_eq_true h2)
end
section
end
theorem oC {l:List Int}{m:Int}(h:fo l=some m):cU fo [.lst (l.map D.int)]=some (.int m):=ic h
end L2.Q
namespace Oy
open PySem PySem.Spec PyProof.Rows
section
variable {A:XA}{s:WE}
theorem cY:∀{vs:List WC} {ns:List Int} {j:Nat},Yq vs ns->∀(h:j<vs.length),∃n t,ns[j]?=some n/\vs[j]=.int n t
 |_,_,_,.nil,h=>by cases h
 |_,_,0,.cons a t _,_=>⟨a,t,rfl,rfl⟩
 |_,_,j+1,.cons a t r,h=>by
  obtain⟨n,t',h1,h2⟩:=cY (j:=j) r (Nat.lt_of_succ_lt_succ h);exact⟨n,t',h1,h2⟩
theorem j_:∀{vs:List WC} {ns ms:List Int},Yq vs ns->Yq vs ms->ns=ms
 |_,_,_,.nil,.nil=>rfl
 |_,_,_,.cons a t r,.cons _ _ r'=>by rw[j_ r r']
theorem yD {l b:Addr}{items aD:Array WC}{ns ms:List Int}(hl:IsTup s.heap l items)(hb:IsTup s.heap b aD)(hi:Yq items.toList ns)(hj:Yq aD.toList ms)(ne:ns≠ms)(hu:A.units<Y4):SeqAt.EqAt A s (.ref l) (.ref b) false:=by
 have Uz:l≠b:=λz=>by
  subst z;obtain⟨o,g1,_,_,g2⟩:=id hl;obtain⟨o',J_,_,_,To⟩:=id hb;rw[g1]at J_;cases J_;rw[g2]at To;injection To with e
  subst e;exact ne (j_ hi hj)
 have q:=SeqAt.RcAt.tuples (e:=λj=>ns[j]?==ms[j]?) hl hb hu λj h1 h2=>by
  obtain⟨n,t,e1,e2⟩:=cY hi (j:=j) (by simpa using h1)
  obtain⟨m,t',e3,e4⟩:=cY hj (j:=j) (by simpa using h2)
  have Ry:items[j]=.int n t:=by simpa using e2
  have Rx:aD[j]=.int m t':=by simpa using e4
  rw[e1,e3,Ry,Rx];have:=SeqAt.EqAt.int_int (A:=A.in1) (s:=s) n t m t';simpa using this
 have z1:items.size=ns.length:=by rw[<- hi.length];simp
 have z2:aD.size=ms.length:=by rw[<- hj.length];simp
 have ef:((WK (min items.size aD.size)).all (λj=>ns[j]?==ms[j]?)&&items.size==aD.size)=false:=by
  cases h:((WK (min items.size aD.size)).all (λj=>ns[j]?==ms[j]?)&&items.size==aD.size)with
  |false=>rfl
  |true =>
   refine absurd ?_ ne;rw[Xz,YW,beq_iff_eq]at h;apply YB;intro j
   by_cases CN:j<ns.length
   ·exact beq_iff_eq.mp (h.1 j (X8.mpr (by lia)))
   ·rw[Xw (by lia),Xw (by lia)]
 rw[ef]at q;exact SeqAt.EqAt.of_refs Uz q
end
section
open PySem.SeqAt
open PySem.AutoSeq1 (wpAny_loadPart')
open PySem.MeetsSeq PySem.MeetsSeq2 PySem.MeetsSeq3
end
end Oy
namespace L2
open PySem PySem.Spec PySem.SeqAt PyProof.Rows
section
end
end L2
namespace L2.Q
open PySem PySem.Spec PySem.SeqAt PyProof.Rows
section
variable {X:Cx}{C:Cfg}{e k k2:Expr}{φ φk φj:aQ}{i:Nat}{x:Str}{pos pos' px kp:Pos}{p:Bool}
theorem rR (he:∀U,PQ X (C.u U) p e φ)(hk:∀U,PQ X (C.u U) true k φk)(hj:∀U,PQ X (C.u U) true k2 φj)(hN:X.N[i]?=some x:=by rfl)(hv:xm X.env.scope x:=by first|exact .inl rfl|exact .inr (.inl rfl)|exact .inr (.inr rfl))(hd:(x==("__debug__" : Str))=false:=by decide)(ir:(x==("__classdict__" : Str))=false:=by decide)
  (QW:k9 k:=by exact λ_ _=>rfl)
  (ha:∀v,assign (.Subscript (.Subscript (.Name x px) k kp) k2 pos') X.env v=(do
   let ov <- holding [v] (eval (.Subscript (.Name x px) k kp) X.env)
   let iv <- holding [v,ov] (eval k2 X.env)
   standAt pos'
   holding [v,ov,iv] (setItem ov iv v)
   release [v,ov,iv] []):=by intro _;rfl) (hs:swapsWithSole [.Subscript (.Subscript (.Name x px) k kp) k2 pos'] e pos.line X.env=pure false:=by rfl) (hw:swappedStores [.Subscript (.Subscript (.Name x px) k kp) k2 pos'] e X.env=pure none:=by rfl)
  (h1:(YS [.Subscript (.Subscript (.Name x px) k kp) k2 pos'] X.env).map (·.2)=[assign (.Subscript (.Subscript (.Name x px) k kp) k2 pos') X.env]:=by rfl) :
  PB X C (.Assign [.Subscript (.Subscript (.Name x px) k kp) k2 pos'] e pos) (λE β=>φ β λd kd β1=>d.flat=true/\(∃d0,β1[i]?=some (some (.own d0)))/\φk β1 λjd _ β2=>∃ds j m es,jd=.int j/\β2[i]?=some (some (.own (.lst ds)))/\wN ds.length j=some m/\ds[m]?=some (.lst es) /\
   φj β2 λid _ β3=>∃j2 m2,id=.int j2/\β3[i]?=some (some (.own (.lst ds)))/\wN es.length j2=some m2/\E.nx (β3.set i (some (.own (.lst (ds.set m (.lst (es.set m2 d)))))))):=by
 refine⟨λE E' β l q=>(he λ_=>False).mono _ _ _ (λd kd β1 h=>by
  obtain⟨f,h0,q⟩:=h;exact⟨f,h0,(hk λ_=>False).mono _ _ _ (λjd _ β2 h=>by
   obtain⟨ds,j,m,es,g1,g2,g3,g4,q⟩:=h;exact⟨ds,j,m,es,g1,g2,g3,g4,(hj λ_=>False).mono _ _ _ (λid _ β3 h=>by obtain⟨j2,m2,g5,g6,g7,q⟩:=h;exact⟨j2,m2,g5,g6,g7,l.nx _ q⟩) q⟩) q⟩) q,λpins s σ H De I ⟨Z,E,β,⟨own,sq,n⟩,q,ok⟩=>?_⟩
 refine pY (he λa=>H a=none).pe (uV (j4 (pos:=kp) d9 (dG (pos:=px) hN hv hd ir) (hk λa=>H a=none).pe QW) (hj λa=>H a=none).pe set_list ha) hs hw h1 pins s σ H De I ?_;refine tQ.of (he λa=>H a=none) (sq.qV (C:=C.z) (U:=λa=>H a=none) λa z=>z) q λd kd β1 v H1 aE ⟨f,⟨d0,J9⟩,q⟩ o r=>?_;obtain⟨v0,EE,_,_⟩:=o.sq.ow i d0 J9;refine⟨v0,EE,tQ.of (hk λa=>H a=none) o.sq q λjd kk β2 kv H2 aX ⟨ds,j,m,es,e1,hb,Vc,hm,q⟩ o2 r2=>?_⟩;subst e1;cases r2.rep;obtain⟨v1,LX,ow,h0⟩:=o2.sq.ow i _ hb;rw[EE]at LX;cases LX;obtain⟨a,vs,c,us,B,rfl,q1,q2,q3,q4,q5,q6,q7,q8,q9⟩:=iP (l:=true) ow (o2.sq.m9 i) hm;have Oo:nN vs j=some (.ref c):=by unfold nN;rw[q2,Vc];exact q3
 refine⟨a,vs,j,.ref c,rfl,rfl,c0.of q1,Oo,tQ.of (hj λa=>H a=none) o2.sq q λid kj β3 iv H3 La ⟨j2,m2,e2,MZ,Ji,q⟩ o3 r3=>?_⟩;subst e2;cases r3.rep;obtain⟨s3,e3⟩:=o3.pu rfl;subst e3;obtain⟨v2,SY,Uv,Ww⟩:=o3.sq.ow i _ MZ;rw[EE]at SY;cases SY;obtain⟨a',vs',c',uC,B',ea,p1,p2,p3,p4,p5,p6,p7,p8,p9⟩:=iP (l:=true) Uv (o3.sq.m9 i) hm;cases ea;have e4:=s3 _ _ q1;rw[p1]at e4;cases e4;rw[q3]at p3;cases p3;have e5:=s3 _ _ q4;rw[p4]at e5;cases e5;have Jg:m2<es.length:=IE Ji;have U8:es[m2]?=some es[m2]:=WR Jg;obtain⟨w0,B1,B2,B3,k1,rfl,k3,k4,k5⟩:=p6.split U8;have N5:m2<us.length:=by rw[p6.length];exact Jg
 have rf:Own X.prog X.w H3 d v []:=cX f (((az.flat (W':=λ_=>True) f r.rep).keep (o2.sn.k.mono λ_ _=>trivial)).same s3);have Pu:aI X.prog X.w H3 (es.set m2 d) (us.set m2 v) (B1++([]++B3)):=by
  rw[Zy,if_pos Jg,Zy,if_pos N5];exact k3.append ⟨v,_,[],B3,rfl,rfl,rf,k5⟩
 have nd:=p8;obtain⟨n1,n2,n3⟩:=XF.mp nd;obtain⟨n4,n5,n6⟩:=XF.mp n2;obtain⟨A',g1,g2,g3⟩:=p9 (es.set m2 d) (us.set m2 v) (B1++([]++B3)) Pu (XF.mpr ⟨n1,n5,λx hx y hy=>n3 x hx y (Xm _ hy)⟩)
  (λx hx=>.inl ((W4.mp hx).elim (λz=>by simp[z]) λz=>by simp[show x∈B3 from z])) (λx hx=>(p7 x ((W4.mp hx).elim (λz=>by simp[z]) λz=>by simp[show x∈B3 from z])).2)
 have hA:∀x∈A',x∈La i\/(C.H0 x=none/\¬ Wn La x/\H x=none):=λx hx=>by
  rcases g3 x hx with z|z
  ·exact .inl z
  ·exact .inl (p7 x ((W4.mp z).elim (λz=>by simp[z]) λz=>by simp[show x∈B3 from z])).1
 exact⟨c,us,j2,m2,rfl,rfl,p4,by rw[p6.length];exact Ji,ok.nx _ _ _ ⟨_,o3.sq.putIn (C:=C) (U:=λa=>H a=none) MZ EE p5 g1 g2 hA,pR (((n.trans o.sn).trans o2.sn).trans o3.sn) (λb z=>n.free z) ⟨i,p5⟩ ⟨_,p4,λxs z=>by cases z⟩ hA⟩ q⟩
end
theorem DK {X:Cx}{C:Cfg}{a:List Stmt}{ψ:JQ}(i:Nat)(h:xo X C a ψ):xo X C a (λE β=>∃d,β[i]?=some (some (.own d))/\ψ E (β.set i (some (.val true d)))) :=
 ⟨λE E' β l q=>by obtain⟨d,e,q⟩:=q;exact⟨d,e,h.mono E E' _ l q⟩,h.ps.pre λD σ H z=>by
  obtain⟨Z,E,β,⟨own,s,n⟩,⟨d,e,q⟩,ok⟩:=z;exact⟨Z,E,_,⟨_,s.freeze e,uM n⟩,q,ok⟩⟩
end L2.Q
namespace L2
open PySem PySem.Spec PySem.SeqAt PyProof.Rows
def JB (a b:D):Option D:=a.sA.bind λds=>b.int?.bind λk=>if 0<=k/\k<2 ^ 62/\ds.length*k.toNat<=W7 then some (.lst (Xs k.toNat ds).flatten) else none
theorem js {P:WI}{w:W6}{W:Addr->Prop}{H:Hp}{ds:List D}{vs:List V}(h:ah P w W H ds vs):∀k:Nat,ah P w W H (Xs k ds).flatten (Xs k vs).flatten
 |0=>rfl
 |k+1=>by
  rw[Yr,YR,Yr,YR];exact h.append (js h k)
theorem AE {X:Cx}:Nr X (YT .Mult) JB:=by
 intro pins s σ H x y v u Q I rx ry h;obtain⟨W,d1,d2,d,hd,r1,r2,e,q⟩:=h;obtain⟨ds,h1,e⟩:=Xu.mp e;obtain⟨k,h2,e⟩:=Xu.mp e;obtain⟨⟨k0,k1,hl⟩,rfl⟩:=de e;rw[D.iR h1]at r1;rw[D.qu h2]at r2;obtain⟨p,vs,rfl,g1,n1,q1⟩:=r1;exact HI pins s σ H _ _ v u Q I rx ry ⟨p,k,vs,rfl,r2,g1,by lia,by lia,by rw[q1.length];exact hl,λl vm=>q _ _ (au.new vm) (Rp.fO hd vm (js q1 _)) λf=>u0 vm f (js q1 _)⟩
namespace Q
def dj (n:Nat)(f:Nat->Nat->D):D:=.lst ((WK (n+1)).map λb=>.lst ((WK (n+1)).map λe=>f b e))
theorem lC {α:Type}{n m:Nat}{f g:Nat->α}(h:∀k,k<n->k≠m->f k=g k):((WK n).map f).set m (g m)=(WK n).map g:=by
 apply YB;intro k;rw[Zc]
 by_cases hk:k<n
 ·rw[bc hk]
  by_cases e:m=k
  ·subst e;rw[if_pos rfl,if_pos (by rw[WB,Xh];exact hk),bc hk]
  ·rw[if_neg e,bc hk,h k hk (X6 e)]
 ·have hn:((WK n).map g)[k]?=none:=Xw (by rw[WB,Xh];lia)
  have J6:((WK n).map f)[k]?=none:=Xw (by rw[WB,Xh];lia)
  rw[hn,J6]
  split
  ·rw[if_neg (by rw[WB,Xh];lia)]
  ·rfl
theorem zW {n b e:Nat}{f g:Nat->Nat->D}(h:∀x y,¬ (x=b/\y=e)->f x y=g x y):((WK (n+1)).map λx=>D.lst ((WK (n+1)).map λy=>f x y)).set b (.lst (((WK (n+1)).map λy=>f b y).set e (g b e)))=(WK (n+1)).map λx=>D.lst ((WK (n+1)).map λy=>g x y):=by
 have e1:((WK (n+1)).map λy=>f b y).set e (g b e)=(WK (n+1)).map λy=>g b y:=lC λk _ hk=>h b k λz=>hk z.2;rw[e1];exact lC (g:=λx=>D.lst ((WK (n+1)).map λy=>g x y)) λk _ hk=>by
  rw[show (λy=>f k y)=λy=>g k y from funext λy=>h k y λz=>hk z.1]
theorem oZ {α:Type}{f:α->D}(h:∀x,(f x).flat=true):∀l:List α,D.bR (l.map f)=true
 |[]=>rfl
 |x::l=>by
  show ((f x).flat&&D.bR (l.map f))=true;rw[h x,oZ h l];rfl
theorem Dw {d:D}{k:Nat}:(Xs k [d]).flatten=Xs k d:=by
 induction k with
 |zero=>rfl
 |succ k ih=>rw[Yr,YR,ih];rfl
theorem oz {l:List (Nat×Nat)}{p:Nat×Nat}{b:Nat}:near (l++[p]) b=near l b++if p.2=b then [p.1] else []:=by
 unfold near;rw[XN,Xl,Xr,List.filter_nil]
 by_cases h:p.2=b <;> simp[h]
section
variable {ps:List (Nat×Nat)}
def CU (ps:List (Nat×Nat)):Nat->Nat->Nat->Nat
 |0,_,_=>1
 |f+1,b,e=>if e<=b then 1 else (if mX ps b (e-1)=mX ps b e then CU ps f b (e-1) else 0)+(((near ps (e-1)).filter λa=>decide (b<=a)).map λa=>if 1+mX ps b a+mX ps (a+1) (e-1)=mX ps b e then CU ps f b a*CU ps f (a+1) (e-1) else 0).sum
theorem fY (hp:∀p∈ps,p.1<p.2):∀{f g b e:Nat},e-b<=f->e-b<=g->CU ps f b e=CU ps g b e
 |0,0,_,_,_,_=>rfl
 |0,g+1,b,e,h,_=>by unfold CU;rw[if_pos (by lia)]
 |f+1,0,b,e,_,h=>by unfold CU;rw[if_pos (by lia)]
 |f+1,g+1,b,e,h1,h2=>by
  unfold CU
  by_cases hb:e<=b
  ·rw[if_pos hb,if_pos hb]
  ·rw[if_neg hb,if_neg hb,fY hp (f:=f) (g:=g) (b:=b) (e:=e-1) (by lia) (by lia)]
   congr 2
   refine Xe λa ha=>?_;obtain⟨h3,h4⟩:=WW.mp ha;have h5:=of_decide_eq_true h4;have h6:=hp _ (bo.mp h3);dsimp only at h6;rw[fY hp (f:=f) (g:=g) (b:=b) (e:=a) (by lia) (by lia),fY hp (f:=f) (g:=g) (b:=a+1) (e:=e-1) (by lia) (by lia)]
def cL (ps:List (Nat×Nat))(b e:Nat):Nat:=CU ps (e-b) b e
theorem je {b e:Nat}(h:e<=b):cL ps b e=1:=by
 unfold cL;rw[show e-b=0 by lia]
 rfl
theorem qL (hp:∀p∈ps,p.1<p.2){b e:Nat}(h:b<e):cL ps b e=(if mX ps b (e-1)=mX ps b e then cL ps b (e-1) else 0)+(((near ps (e-1)).filter λa=>decide (b<=a)).map λa=>if 1+mX ps b a+mX ps (a+1) (e-1)=mX ps b e then cL ps b a*cL ps (a+1) (e-1) else 0).sum:=by
 unfold cL;rw[show e-b=(e-1-b)+1 by lia]
 conv=>lhs;unfold CU
 rw[if_neg (by lia)]
 congr 2
 refine Xe λa ha=>?_;obtain⟨h3,h4⟩:=WW.mp ha;have h5:=of_decide_eq_true h4;have h6:=hp _ (bo.mp h3);dsimp only at h6;rw[fY hp (f:=e-1-b) (g:=a-b) (b:=b) (e:=a) (by lia) (by lia),fY hp (f:=e-1-b) (g:=e-1-(a+1)) (b:=a+1) (e:=e-1) (by lia) (by lia)]
theorem xh (hp:∀p∈ps,p.1<p.2)(nd:ps.Nodup):∀(l b e:Nat),e-b<=l->cL ps b e<=jm (e-b)
 |0,b,e,h=>by rw[je (by lia),show e-b=0 by lia];decide
 |l+1,b,e,h=>by
  by_cases hb:e<=b
  ·rw[je hb,show e-b=0 by lia];decide
  ·obtain⟨m,hm⟩:∃m,e-b=m+1:=⟨e-b-1,by lia⟩
   rw[qL hp (by lia),hm]
   have h1:(if mX ps b (e-1)=mX ps b e then cL ps b (e-1) else 0)<=jm m:=by
    have:=xh hp nd l b (e-1) (by lia)
    rw[show e-1-b=m by lia]at this
    split <;> lia
   cases m with
   |zero =>
    have en:(near ps (e-1)).filter (λa=>decide (b<=a))=[]:=by
     rw[Y2];intro a ha z;have h5:=of_decide_eq_true z;have h6:=hp _ (bo.mp ha);dsimp only at h6;lia
    rw[en];show _+0<=_;have:jm 0=1:=rfl;have:jm (0+1)=1:=rfl;lia
   |succ m =>
    have ef:(near ps (e-1)).filter (λa=>decide (b<=a))=(near ps (e-1)).filter λa=>decide (b<=a)&&decide (a<b+(m+1)):=List.filter_congr λa ha=>by
     have h6:=hp _ (bo.mp ha);dsimp only at h6;rw[decide_eq_true (show a<b+(m+1) by lia),Bool.and_true]
    rw[ef,nV (Eg nd)];have h2:=vR (n:=m+1) (c:=jm m) (f:=λr=>(if b+r∈near ps (e-1) then 1 else 0)*(if 1+mX ps b (b+r)+mX ps (b+r+1) (e-1)=mX ps b e then cL ps b (b+r)*cL ps (b+r+1) (e-1) else 0)) (λr hr=>by
     have k1:=xh hp nd l b (b+r) (by lia)
     have k2:=xh hp nd l (b+r+1) (e-1) (by lia)
     rw[show b+r-b=r by lia]at k1
     rw[show e-1-(b+r+1)=m-r by lia]at k2
     have k3:=ZW k1 k2;have k4:=qE r (m-r);rw[show r+(m-r)=m by lia]at k4
     have k5:(if 1+mX ps b (b+r)+mX ps (b+r+1) (e-1)=mX ps b e then cL ps b (b+r)*cL ps (b+r+1) (e-1) else 0)<=jm m:=by split <;> lia
     split
     ·rw[Zg];exact k5
     ·rw[Nat.zero_mul];exact WV _)
    have e1:jm (m+1)=(m+1)*jm m:=rfl;have e2:jm (m+1+1)=(m+1+1)*jm (m+1):=rfl;rw[e2,Nat.succ_mul];have e3:jm (m+1)<=(m+1)*jm (m+1):=Nat.le_mul_of_pos_left _ (by lia)
    lia
end
theorem Dv {n:Nat}(hn:n<=40){d:D}:JB (.lst [d]) (.int ((n:Int)+1))=some (.lst ((WK (n+1)).map λ_=>d)):=by
 unfold JB D.sA D.int?;rw[Yu,Yu,if_pos ⟨by lia,by lia,by rw[Y9,Zg,show ((n:Int)+1).toNat=n+1 by lia];exact fx (by lia)⟩,Dw,show ((n:Int)+1).toNat=n+1 by lia,List.map_const',Xh]
def Al (ps:List (Nat×Nat))(b e:Nat):D:=.tup [.int (mX ps b e),.int (cL ps b e:Int)]
theorem rM {ps:List (Nat×Nat)}{b e:Nat}(h:e<=b):Al ps b e=.tup [.int 0,.int 1]:=by
 unfold Al;rw[bQ h,je h];rfl
def kA (ps:List (Nat×Nat))(J m b e:Nat):D:=if e<J\/(e=J/\J<=b+m) then Al ps b e else .tup [.int 0,.int 1]
theorem uH {ps:List (Nat×Nat)}{J m b e:Nat}(h:e<J\/(e=J/\J<=b+m)):kA ps J m b e=Al ps b e:=if_pos h
theorem h_ {n:Nat}{f g:Nat->Nat->D}(h:∀b e,b<=n->e<=n->f b e=g b e):dj n f=dj n g:=by
 unfold dj
 congr 1
 refine Xe λb hb=>?_
 congr 1
 exact Xe λe he=>h b e (by have:=X8.mp hb;lia) (by have:=X8.mp he;lia)
theorem xA {ps:List (Nat×Nat)}{n:Nat}:dj n (λ_ _=>.tup [.int 0,.int 1])=dj n (kA ps 1 0):=h_ λb e _ _=>by
 unfold kA
 split
 ·rw[rM (by lia)]
 ·rfl
theorem zH {ps:List (Nat×Nat)}{n J:Nat}:dj n (kA ps J J)=dj n (kA ps (J+1) 0):=h_ λb e _ _=>by
 unfold kA
 by_cases h1:e<J\/(e=J/\J<=b+J)
 ·rw[if_pos h1,if_pos (by lia)]
 ·rw[if_neg h1]
  split
  ·rw[rM (by lia)]
  ·rfl
theorem Dd {ps:List (Nat×Nat)}{n:Nat}:dj n (kA ps (n+1) 0)=dj n (Al ps):=h_ λb e _ he=>uH (.inl (by lia))
theorem Dc {ps:List (Nat×Nat)}{n J m b:Nat}(h:b+m+1=J):((WK (n+1)).map λx=>D.lst ((WK (n+1)).map λy=>kA ps J m x y)).set b (.lst (((WK (n+1)).map λy=>kA ps J m b y).set J (Al ps b J)))=(WK (n+1)).map λx=>D.lst ((WK (n+1)).map λy=>kA ps J (m+1) x y):=by
 have:=zW (n:=n) (b:=b) (e:=J) (f:=kA ps J m) (g:=kA ps J (m+1)) λx y LU=>by
  unfold kA
  by_cases h1:y<J\/(y=J/\J<=x+m)
  ·rw[if_pos h1,if_pos (by lia)]
  ·rw[if_neg h1]
   split
   ·next h2=>exact absurd (show x=b/\y=J by lia) LU
   ·rfl
 rw[show kA ps J (m+1) b J=Al ps b J from uH (.inr ⟨rfl,by lia⟩)]at this
 exact this
def xg (ps:List (Nat×Nat))(b J:Nat)(l:List Nat):List (Int×Int):=(mX ps b (J-1),(cL ps b (J-1):Int))::(l.filter λa=>decide (b<=a)).map λa=>(1+mX ps b a+mX ps (a+1) (J-1),(cL ps b a:Int)*(cL ps (a+1) (J-1):Int))
def Ut (p:Int×Int):D:=.tup [.int p.1,.int p.2]
theorem Cj {ps:List (Nat×Nat)}{b J:Nat}{l:List Nat}{a:Nat}:xg ps b J (l++[a])=xg ps b J l++if b<=a then [(1+mX ps b a+mX ps (a+1) (J-1),(cL ps b a:Int)*(cL ps (a+1) (J-1):Int))] else []:=by
 unfold xg;rw[XN,Xl,Xr,List.filter_nil,aai]
 by_cases h:b<=a <;> simp[h]
theorem Fi {ps:List (Nat×Nat)}(hp:∀p∈ps,p.1<p.2){b J:Nat}(h:b<J):fo ((xg ps b J (near ps (J-1))).map (·.1))=some (mX ps b J):=by
 have:=A8 hp h;unfold xg;rw[W_,XD];rw[show (((near ps (J-1)).filter λa=>decide (b<=a)).map λa=>mX ps b a+1+mX ps (a+1) (J-1))=((near ps (J-1)).filter λa=>decide (b<=a)).map ((λx:Int×Int=>x.1) ∘ λa=>(1+mX ps b a+mX ps (a+1) (J-1),(cL ps b a:Int)*(cL ps (a+1) (J-1):Int))) from Xe λa _=>by show _=1+mX ps b a+mX ps (a+1) (J-1);lia]at this
 exact this
theorem zD {α:Type}{q:α->Bool}{f:α->Int}:∀l:List α,((l.filter q).map f).sum=(l.map λx=>if q x=true then f x else 0).sum
 |[]=>rfl
 |x::l=>by
  rw[Xr,W_,Yn,<- zD l]
  split
  ·rw[W_,Yn]
  ·rw[Int.zero_add]
theorem Fh {ps:List (Nat×Nat)}(hp:∀p∈ps,p.1<p.2){b J:Nat}(h:b<J):(((xg ps b J (near ps (J-1))).filter λp=>decide (p.1=mX ps b J)).map (·.2)).sum=(cL ps b J:Int):=by
 rw[zD,qL hp h];unfold xg;rw[W_,Yn,XD,Int.natCast_add,<- lx]
 congr 1
 ·by_cases h1:mX ps b (J-1)=mX ps b J
  ·rw[if_pos (decide_eq_true h1),if_pos h1]
  ·rw[if_neg (by rw[decide_eq_false h1];simp),if_neg h1];rfl
 ·congr 1
  refine Xe λa _=>?_;show (if decide (1+mX ps b a+mX ps (a+1) (J-1)=mX ps b J)=true then _ else _)=_
  by_cases h1:1+mX ps b a+mX ps (a+1) (J-1)=mX ps b J
  ·rw[if_pos (decide_eq_true h1),if_pos h1,Int.natCast_mul]
  ·rw[if_neg (by rw[decide_eq_false h1];simp),if_neg h1];rfl
def tx:FD:=λds R=>∃(n:Nat) (ps:List (Nat×Nat)),ds=[kG n ps]/\CF n ps/\n<=40/\R (dj n (Al ps))
theorem tx.mono:c5 tx:=λds R R' k h=>by obtain⟨n,ps,e,h1,h2,q⟩:=h;exact⟨n,ps,e,h1,h2,k _ q⟩
theorem JJ {ps:List (Nat×Nat)}(hp:∀p∈ps,p.1<p.2)(nd:ps.Nodup){a b c d:Nat}(h:(b-a)+(d-c)<=40):kM (cL ps a b:Int) (cL ps c d:Int):=by
 have big:∀x y,y-x<=20->((cL ps x y:Nat):Int)<2 ^ 64:=λx y hl=>by
  have h1:=xh hp nd (y-x) x y (WD _);have h2:=tu hl;have h3:jm 20<2 ^ 64:=by decide
  lia
 rcases X0 20 (b-a)with q|q
 ·exact .inr ⟨by lia,big c d (by lia)⟩
 ·exact .inl ⟨by lia,big a b q⟩
end Q
end L2
namespace ku
open PySem L2 L2.Q
section
variable {P:WI}{w:W6}{K:PySem.W.Frag}{mg:Str->Option WC}{base:Heap}
theorem aJ:aK ["row","many","ties","lesser","one","other","found","end","begin","some","point","left","right","best"] ["row"] (ay d3):=⟨rfl,rfl,rfl,by decide +kernel,rfl,by decide +kernel,by decide +kernel⟩
theorem DV {EX wW} (Ke:TB K mg EX wW) (B:ze mg):aM P w K mg base bZ 1 EX wW ["row"] (dX P w true tx):=by
 refine qQ Ke.F aJ (λds R Mj=> by obtain⟨n,ps,e,_⟩ := Mj;subst e;rfl) λcJ A outer s H E hr=>⟨_,(aj (qc (ab (i:=0)) (cg (n:=2) rfl (aG (ak (i:=1) aJ.nd) (aG (ak (i:=2) aJ.nd) bK))))
    (aj (rF (i:=3) true ["point"] [none] (by rfl) (by decide:(["point"]:List Str).Nodup) rfl (λ_=>(bg B.range (aa (ab (i:=1)) ae))) (λ_ _ _ _ _ _=>(ak (i:=0) (by decide:(["point"]:List Str).Nodup))) (λ_ _ _ _ _ _=>c7) (λ_ _ _ _ _ _=>(bh ae)) aJ.nd)
    (aj (b9 XM rfl (a_ (ab (i:=2))) (cg (n:=2) rfl (aG (ak (i:=4) aJ.nd) (aG (ak (i:=5) aJ.nd) bK))) (ao (d7 (i:=3) true (λ_=>(ab (i:=4))) (λ_=>(ab (i:=5))))))
    (DK 3 (aj (rF (i:=6) true ["begin","many"] [none,some 1] (by rfl) (by decide:(["begin","many"]:List Str).Nodup) rfl (λ_=>(bg B.range (aa (aH aL aC (ab (i:=1)) ag) ae))) (λ_ _ _ _ _ _=>(ak (i:=0) (by decide:(["begin","many"]:List Str).Nodup))) (λ_ _ _ _ _ _=>c7) (λ_ _ _ _ _ _=>(aH aL AE (bh (aa (cn (aa ag (aa ag ae))) ae)) (aH aL aC (ab (i:=1)) ag))) aJ.nd)
    (aj (b9 XM rfl (g9 B.range (aa ag (aa (aH aL aC (ab (i:=1)) ag) ae))) (ak (i:=7) aJ.nd) (ao (b9 XM rfl (lN B.range (aa (aH af (b8.m bA) (ab (i:=7)) ag) (aa (we kP ag) (aa (we kP ag) ae)))) (ak (i:=8) aJ.nd) (aj (fh (i:=9) (λ_=>(bh (aa (aO af br (aO af br (ab (i:=6)) (ab (i:=8))) (aH af (b8.m bA) (ab (i:=7)) ag)) ae))) aJ.nd)
    (aj (b9 XM rfl (a_ (aO af br (ab (i:=3)) (aH af (b8.m bA) (ab (i:=7)) ag))) (ak (i:=10) aJ.nd) (ao (cv (aS af (b8.m HL) (ab (i:=10)) (ab (i:=8))) (aj (a9 (i:=11) (aO af br (aO af br (ab (i:=6)) (ab (i:=8))) (ab (i:=10))) aJ.nd)
    (aj (a9 (i:=12) (aO af br (aO af br (ab (i:=6)) (aH aL aC (ab (i:=10)) ag)) (aH af (b8.m bA) (ab (i:=7)) ag)) aJ.nd)
    (ao (cM (i:=9) (λ_=>(cn (aa (aH aL aC (aH aL aC ag (aO af br (ab (i:=11)) ag)) (aO af br (ab (i:=12)) ag)) (aa (aH af (b8.m wz) (aO af br (ab (i:=11)) ag) (aO af br (ab (i:=12)) ag)) ae)))))))) a5)))
    (aj (a9 (i:=13) (ba af (bH.m (jM rfl)) B.max mY (aa (SO ["most","sets"] [none,none] (by rfl) (by decide:(["most","sets"]:List Str).Nodup) rfl (a_ (ab (i:=9))) (λ_ _ _ _ _ _=>(cg (n:=2) rfl (aG (ak (i:=0) (by decide:(["most","sets"]:List Str).Nodup)) (aG (ak (i:=1) (by decide:(["most","sets"]:List Str).Nodup)) bK)))) (λ_ _ _ _ _ _=>c7) (λ_ _ _ _ _ _=>(ab (i:=0)))) ae)) aJ.nd)
    (ao (rR (i:=6) (λ_=>(cn (aa (ab (i:=13)) (aa (ba af (bH.m (pA rfl)) B.sum Cq (aa (SO ["most","sets","best"] [none,none,some 13] (by rfl) (by decide:(["most","sets","best"]:List Str).Nodup) rfl (a_ (ab (i:=9))) (λ_ _ _ _ _ _=>(cg (n:=2) rfl (aG (ak (i:=0) (by decide:(["most","sets","best"]:List Str).Nodup)) (aG (ak (i:=1) (by decide:(["most","sets","best"]:List Str).Nodup)) bK)))) (λ_ _ _ _ _ _=>(jo (aS af (b8.m (cq hr.units)) (ab (i:=0)) (ab (i:=2))))) (λ_ _ _ _ _ _=>(ab (i:=1)))) ae)) ae)))) (λ_=>(ab (i:=8))) (λ_=>(ab (i:=7)))))))))))
    (ao (kT (i:=6))))))))),λds R h=>?_⟩
 obtain⟨n,ps,rfl,ok,hn,q⟩:=h;have F7:=ok.sm;have hp:∀p∈ps,p.1<p.2:=λp hp=>(ok.lt p hp).1;refine⟨_,rfl,_,rfl,rfl,_,_,rfl,_,_,rfl,rfl,_,rfl,trivial,n,rfl,by lia,by lia,trivial,?_⟩
 rw[Zd];refine eK (λ_=>true) (λ_=>.lst []) trivial (by rw[Xh];exact fx (by lia)) (λx hx x0 o J ho h1 _=>⟨WV _,trivial,ho,h1 rfl _⟩) ?_
 rw[bG];refine⟨_,rfl,_,rfl,trivial,?_⟩;refine⟨λm β=>∃x4 x5 x6 x7 x8 x9 uw uv ur yW,β=[some (.val false (kG n ps)),some (.val true (.int n)),some (.val false (pM ps)),some (.own (.lst ((WK n).map λi=>D.lst (Q.bp (near (ps.take m) i))))),x4,x5,x6,x7,x8,x9,uw,uv,ur,yW],⟨_,_,_,_,_,_,_,_,_,_,rfl⟩,?_,?_⟩
 ·rintro m d β hd ⟨x4,x5,x6,x7,x8,x9,uw,uv,ur,yW,rfl⟩;rw[WU]at hd;obtain⟨p,I_,rfl⟩:=W8.mp hd;obtain⟨h1,h2⟩:=ok.lt p (XB I_);have et:ps.take (m+1)=ps.take m++[p]:=by rw[X_,I_];rfl
  have es:((WK n).map λi=>D.lst (Q.bp (near (ps.take m) i))).set p.2 (.lst (Q.bp (near (ps.take m) p.2)++[.int (p.1:Int)]))=(WK n).map λi=>D.lst (Q.bp (near (ps.take (m+1)) i)):=by
   rw[et];have e1:D.lst (Q.bp (near (ps.take m) p.2)++[.int (p.1:Int)])=D.lst (Q.bp (near (ps.take m++[p]) p.2)):=by
    rw[oz,if_pos rfl];unfold Q.bp;rw[Xl];rfl
   rw[e1];exact lC (g:=λi=>D.lst (Q.bp (near (ps.take m++[p]) i))) λk _ hk=>by rw[oz,if_neg (X6 hk),XY]
  refine⟨_,rfl,rfl,_,_,rfl,_,_,rfl,rfl,⟨_,rfl⟩,_,rfl,_,_,_,_,rfl,rfl,by rw[WB,Xh];exact yo rfl (show p.2<n by lia),bc (show p.2<n by lia),_,rfl,trivial,rfl,?_,?_⟩
  ·unfold Q.bp;rw[WB];have:=lV (ps:=ps.take m) (b:=p.2);rw[Xj]at this;exact jT (by lia)
  ·exact⟨_,_,_,_,_,_,_,_,_,_,by rw[es];rfl⟩
 ·rintro β ⟨x4,x5,x6,x7,x8,x9,uw,uv,ur,yW,rfl⟩;rw[WB,Yv];have Ru:=Dv hn (d:=.tup [.int 0,.int 1]);refine⟨_,rfl,_,rfl,trivial,_,rfl,trivial,(n:Int)+1,rfl,by lia,by lia,trivial,?_⟩
  rw[show ((n:Int)+1).toNat=n+1 by lia]
  refine eK (λ_=>true) (λ_=>.lst ((WK (n+1)).map λ_=>D.tup [.int 0,.int 1])) trivial (by rw[Xh];exact fx (by lia)) (λx hx x0 o J ho h1 _=>?_) ?_
  ·exact⟨trivial,trivial,qZ,trivial,CK,trivial,_,rfl,trivial,_,rfl,_,Ru,.inl ⟨oZ (λ_=>rfl) _,trivial,ho,h1 rfl _⟩⟩
  rw[bG];have e0:D.lst ((WK (n+1)).map λ_=>D.lst ((WK (n+1)).map λ_=>D.tup [.int 0,.int 1]))=dj n (kA ps 1 0):=xA;rw[e0];refine⟨trivial,_,rfl,trivial,_,rfl,trivial,1,(n:Int)+1,rfl,⟨by lia,by lia,by lia,by lia⟩,trivial,?_⟩
  rw[show ((n:Int)+1-1).toNat=n by lia]
  refine⟨λj β=>j<=n/\∃x7 x8 x9 uw uv ur yW,β=[some (.val false (kG n ps)),some (.val true (.int n)),some (.val false (pM ps)),some (.val true (.lst ((WK n).map λi=>D.lst (Q.bp (near ps i))))),x4,x5,some (.own (dj n (kA ps (j+1) 0))),x7,x8,x9,uw,uv,ur,yW],⟨WV _,_,_,_,_,_,_,_,rfl⟩,?_,?_⟩
  ·rintro j d β hd ⟨_,x7,x8,x9,uw,uv,ur,yW,rfl⟩;obtain⟨hj,rfl⟩:=cb hd;obtain⟨J,hJ⟩:∃J,J=j+1:=⟨_,rfl⟩;rw[show (1:Int)+(j:Int)=(J:Int) by lia,<- hJ]
   refine⟨_,rfl,trivial,_,rfl,trivial,_,rfl,rfl,trivial,_,rfl,rfl,trivial,(J:Int)-1,-1,rfl,⟨by lia,by lia,by lia,by lia⟩,trivial,?_⟩
   rw[show ((J:Int)-1 - -1).toNat=J by lia]
   refine⟨λm β=>m<=J/\∃x8 x9 uw uv ur yW,β=[some (.val false (kG n ps)),some (.val true (.int n)),some (.val false (pM ps)),some (.val true (.lst ((WK n).map λi=>D.lst (Q.bp (near ps i))))),x4,x5,some (.own (dj n (kA ps J m))),some (.val true (.int J)),x8,x9,uw,uv,ur,yW],⟨WV _,_,_,_,_,_,_,rfl⟩,?_,?_⟩
   ·rintro m d β hd ⟨_,x8,x9,uw,uv,ur,yW,rfl⟩;obtain⟨hm,rfl⟩:=lK hd;obtain⟨b,hb⟩:∃b,b+m+1=J:=⟨J-1-m,by lia⟩
    rw[show (J:Int)-1-(m:Int)=(b:Int) by lia]
    have Bv:∀x:Nat,x<=n->tN (dj n (kA ps J m)) (.int (x:Int))=some (.lst ((WK (n+1)).map λy=>kA ps J m x y)):=λx hx=>j9 rfl (bc (by lia))
    have Od:∀x y:Nat,y<=n->(y<J\/(y=J/\J<=x+m))->tN (.lst ((WK (n+1)).map λy=>kA ps J m x y)) (.int (y:Int))=some (.tup [.int (mX ps x y),.int (cL ps x y:Int)]):=λx y hy h=>j9 rfl (by rw[bc (by lia),uH h];rfl)
    have eJ:(J:Int)-1=((J-1:Nat):Int):=by lia
    have F_:∀x:Nat,tN (.lst ((WK (n+1)).map λy=>kA ps J m x y)) (.int ((J:Int)-1))=some (.tup [.int (mX ps x (J-1)),.int (cL ps x (J-1):Int)]):=λx=>by rw[eJ];exact Od x (J-1) (by lia) (.inl (by lia))
    refine⟨_,rfl,trivial,_,rfl,_,Bv b (by lia),.inr ⟨trivial,_,rfl,trivial,_,rfl,_,F_ b,trivial,CK,.inl ⟨⟨rfl,trivial⟩,trivial,?_⟩⟩⟩
    refine⟨_,rfl,trivial,_,rfl,trivial,_,rfl,_,j9 (i:=J-1) eJ (bc (by lia)),.inr ⟨_,rfl,trivial,?_⟩⟩
    refine⟨λk β=>k<=(near ps (J-1)).length/\∃uw uv ur,β=[some (.val false (kG n ps)),some (.val true (.int n)),some (.val false (pM ps)),some (.val true (.lst ((WK n).map λi=>D.lst (Q.bp (near ps i))))),x4,x5,some (.own (dj n (kA ps J m))),some (.val true (.int J)),some (.val true (.int b)),some (.own (.lst ((xg ps b J ((near ps (J-1)).take k)).map Ut))),uw,uv,ur,yW],⟨WV _,_,_,_,rfl⟩,?_,?_⟩
    ·rintro k d β hd ⟨_,uw,uv,ur,rfl⟩;have QL:=lV (ps:=ps) (b:=J-1);unfold Q.bp at hd;rw[WU]at hd;obtain⟨a,ha,rfl⟩:=W8.mp hd;have N8:=(W3.mp ha).1;have U0:=ok.lt _ (bo.mp (XB ha));dsimp only at U0;have et:(near ps (J-1)).take (k+1)=(near ps (J-1)).take k++[a]:=by rw[X_,ha];rfl
     have Ol:=Cj (ps:=ps) (b:=b) (J:=J) (l:=(near ps (J-1)).take k) (a:=a);refine⟨_,rfl,trivial,_,rfl,_,rfl,_,rfl,m_ (λh=>?_) (λh=>?_)⟩
     ·have Q_:b<=a:=by lia
      rw[if_pos Q_]at Ol;refine⟨_,rfl,trivial,_,rfl,_,Bv b (by lia),.inr ⟨trivial,_,rfl,_,Od b a (by lia) (.inl (by lia)),rfl,?_⟩⟩
      refine⟨_,rfl,trivial,_,rfl,trivial,_,rfl,_,Bv (a+1) (by lia),.inr ⟨trivial,_,rfl,trivial,_,rfl,_,F_ (a+1),rfl,?_⟩⟩
      refine⟨⟨_,rfl⟩,trivial,_,rfl,trivial,_,rfl,_,rfl,trivial,_,rfl,trivial,_,rfl,_,rfl,trivial,_,rfl,trivial,_,rfl,trivial,_,rfl,trivial,_,rfl,_,Cc (JJ hp ok.nd (by lia)),trivial,qZ,trivial,_,rfl,?_,N8,_,_,_,by rw[et,Ol,Xl];rfl⟩
      rw[WB];have e1:=X2 (λa=>decide (b<=a)) ((near ps (J-1)).take k);have e2:((near ps (J-1)).take k).length<=400:=by rw[Xj];lia
      unfold xg;rw[WS,WB];exact jT (by lia)
     ·rw[if_neg (by lia),XY]at Ol
      exact⟨N8,_,_,_,by rw[et,Ol];rfl⟩
    ·rintro β ⟨_,uw,uv,ur,rfl⟩;rw[show (Q.bp (near ps (J-1))).length=(near ps (J-1)).length by unfold Q.bp;rw[WB],Yv]
     have EM:(xg ps b J (near ps (J-1))).length<=1000:=by
      have e1:=X2 (λa=>decide (b<=a)) (near ps (J-1));have QL:=lV (ps:=ps) (b:=J-1);unfold xg;rw[WS,WB];lia
     have em:cU fo [.lst ((xg ps b J (near ps (J-1))).map λp=>D.int p.1)]=some (.int (mX ps b J)):=by
      have:=oC (Fi hp (show b<J by lia))
      rw[XD]at this;exact this
     refine⟨_,rfl,_,rfl,trivial,?_⟩;refine Ba (λ_=>true) (λp=>.int p.1) trivial (fx EM) (λp jl y0 y1 o J' ho j1 j2=>?_) ?_
     ·exact⟨_,rfl,rfl,_,_,rfl,_,_,rfl,rfl,_,rfl,trivial,ho,j1 rfl _ _⟩
     rw[bG];refine⟨trivial,_,em,?_⟩;have Rt:cU (λns=>some ns.sum) [.lst (((xg ps b J (near ps (J-1))).filter λp=>decide (p.1=mX ps b J)).map λp=>D.int p.2)]=some (.int (cL ps b J:Int)):=by
      have:=sum_ints (f:=λp:Int×Int=>p.2) (l:=(xg ps b J (near ps (J-1))).filter λp=>decide (p.1=mX ps b J));rw[Fh hp (show b<J by lia)]at this
      exact this
     refine⟨_,rfl,trivial,_,rfl,_,rfl,trivial,?_⟩;refine Ba (λp=>decide (p.1=mX ps b J)) (λp=>.int p.2) trivial (fx EM) (λp jl y0 y1 o J' ho j1 j2=>?_) ?_
     ·exact⟨_,rfl,rfl,_,_,rfl,_,_,rfl,rfl,_,rfl,trivial,_,rfl,_,ck _ _,_,rfl,m_ (λh=>⟨_,rfl,trivial,ho,j1 (decide_eq_true h) _ _⟩) (λh=>j2 (decide_eq_false h) _ _)⟩
     have Rv:((WK (n+1)).map λx=>D.lst ((WK (n+1)).map λy=>kA ps J m x y)).set b (.lst (((WK (n+1)).map λy=>kA ps J m b y).set J (.tup [.int (mX ps b J),.int (cL ps b J:Int)])))=(WK (n+1)).map λx=>D.lst ((WK (n+1)).map λy=>kA ps J (m+1) x y):=Dc hb;refine⟨trivial,_,Rt,trivial,qZ,rfl,⟨_,rfl⟩,_,rfl,_,(b:Int),b,_,rfl,rfl,by rw[WB,Xh];exact yo rfl (by lia),bc (show b<n+1 by lia),_,rfl,(J:Int),J,rfl,rfl,by rw[WB,Xh];exact yo rfl (by lia),hm,_,_,_,_,_,_,by rw[Rv];rfl⟩
   ·rintro β ⟨_,x8,x9,uw,uv,ur,yW,rfl⟩;rw[lJ,zH];exact⟨by lia,_,_,_,_,_,_,_,rfl⟩
  ·rintro β ⟨_,x7,x8,x9,uw,uv,ur,yW,rfl⟩;rw[cC,Dd];exact⟨_,rfl,q⟩
end
end ku
namespace L2.Q
open PySem
section
variable {ps:List (Nat×Nat)}(hp:∀p∈ps,p.1<p.2)
include hp
theorem gD:∀(l i j:Nat),j-i<=l->((mD ps w1 i j).length:Int)=mX ps i j
 |0,i,j,h=>by rw[iY (by lia),bQ (by lia)];rfl
 |l+1,i,j,h=>by
  by_cases aF:i<j
  ·rw[oU hp aF];have hm:=cO (fu (w:=w1) hp aF);cases q:fT ps w1 i j with
   |none =>
    rw[q]at hm;dsimp only;rw[gD l (i+1) j (by lia)]
    unfold mX;rw[show j-(i+1)=j-i-1 by lia]
    exact hm
   |some k =>
    rw[q]at hm;obtain⟨h1,h2,h3⟩:=hm;have EK:=hp _ h1;dsimp only at EK ⊢
    rw[WS,Xi];have e1:=gD l (i+1) k (by lia)
    have e2:=gD l (k+1) j (by lia)
    unfold mX at e1 e2 ⊢
    rw[show k-(i+1)=k-i-1 by lia]at e1
    rw[show j-(k+1)=j-k-1 by lia]at e2
    rw[<- h3,<- e1,<- e2];show _=(1:Int)+_+_;lia
  ·rw[iY aF,bQ (by lia)];rfl
theorem EU {i j:Nat}:((mD ps w1 i j).length:Int)=mX ps i j:=gD hp (j-i) i j (WD _)
end
section
variable {ps:List (Nat×Nat)}
variable (hp:∀p∈ps,p.1<p.2)
include hp
end
section
end
end L2.Q
namespace Oq
open PySem PySem.Spec PyProof.Rows TS
def kY:List (List Int)->List (List Int)->Bool
 |[],y=>decide (0<y.length)
 |_::_,[]=>false
 |a::x,b::y=>if a=b then kY x y else HT.lexLt a b
theorem gz {b:List Int}{y:List (List Int)}:kY [] (b::y)=true:=decide_eq_true (Nat.succ_pos _)
theorem fP {a b:List Int}{x y:List (List Int)}:kY (a::x) (b::y)=if a=b then kY x y else HT.lexLt a b:=rfl
theorem l4:∀{x y:List (List Int)},kY x y=true->kY y x=false
 |[],[],h=>by cases h
 |[],_::_,_=>rfl
 |_::_,[],h=>by cases h
 |a::x,b::y,h=>by
  rw[fP]at h ⊢
  by_cases e:a=b
  ·subst e;rw[if_pos rfl]at h ⊢;exact l4 h
  ·rw[if_neg e]at h;rw[if_neg (X6 e)];exact l9 h
theorem ql:∀{x z:List (List Int)} (y:List (List Int)),kY x z=true->kY x y=true\/kY y z=true
 |[],[],_,h=>by cases h
 |_::_,[],_,h=>by cases h
 |[],_::_,[],_=>.inr gz
 |[],_::_,_::_,_=>.inl gz
 |_::_,_::_,[],_=>.inr gz
 |a::x,c::z,b::y,h=>by
  rw[fP]at h ⊢
  rw[fP]
  by_cases e:a=c
  ·subst e;rw[if_pos rfl]at h
   by_cases e2:a=b
   ·subst e2;rw[if_pos rfl,if_pos rfl];exact ql y h
   ·rw[if_neg e2,if_neg (X6 e2)];cases h1:HT.lexLt a b with
    |true=>exact .inl rfl
    |false =>
     cases h2:HT.lexLt b a with
     |true=>exact .inr rfl
     |false=>exact absurd (jC h1 h2) e2
  ·rw[if_neg e]at h
   by_cases e2:a=b
   ·subst e2;rw[if_neg e];exact .inr h
   ·by_cases e3:b=c
    ·subst e3;rw[if_neg e2];exact .inl h
    ·rw[if_neg e2,if_neg e3];exact qo b h
theorem oI:∀{x y:List (List Int)},kY x y=false->kY y x=false->x=y
 |[],[],_,_=>rfl
 |[],_::_,h,_=>by rw[gz]at h;cases h
 |_::_,[],_,h=>by rw[gz]at h;cases h
 |a::x,b::y,h1,h2=>by
  rw[fP]at h1 h2
  by_cases e:a=b
  ·subst e;rw[if_pos rfl]at h1 h2;rw[oI h1 h2]
  ·rw[if_neg e]at h1;rw[if_neg (X6 e)]at h2;exact absurd (jC h1 h2) e
section
variable {A:XA}{s:WE}
theorem BZ {l b:Addr}{items aD:Array WC}{ns ms:List Int}(hl:IsTup s.heap l items)(hb:IsTup s.heap b aD)(hi:Yq items.toList ns)(hj:Yq aD.toList ms)(hu:A.units<Y4):SeqAt.EqAt A s (.ref l) (.ref b) (decide (ns=ms)):=by
 by_cases e:ns=ms
 ·rw[decide_eq_true e]
  by_cases z:l=b
  ·subst z;exact SeqAt.EqAt.same _
  subst e;have q:=SeqAt.RcAt.tuples (e:=λj=>true) hl hb hu λj h1 h2=>by
   obtain⟨n,t,e1,e2⟩:=Oy.cY hi (j:=j) (by simpa using h1)
   obtain⟨m,t',e3,e4⟩:=Oy.cY hj (j:=j) (by simpa using h2)
   have Ry:items[j]=.int n t:=by simpa using e2
   have Rx:aD[j]=.int m t':=by simpa using e4
   rw[e1]at e3;cases e3;rw[Ry,Rx];have:=SeqAt.EqAt.int_int (A:=A.in1) (s:=s) n t n t';simpa using this
  have z1:items.size=ns.length:=by rw[<- hi.length];simp
  have z2:aD.size=ns.length:=by rw[<- hj.length];simp
  have ef:((WK (min items.size aD.size)).all (λj=>true)&&items.size==aD.size)=true:=by
   rw[z1,z2];simp
  rw[ef]at q;exact SeqAt.EqAt.of_refs z q
 ·rw[decide_eq_false e];exact Oy.yD hl hb hi hj e hu
end
section
open PySem.SeqAt
open PySem.AutoSeq1 (wpAny_loadPart')
open PySem.MeetsSeq PySem.MeetsSeq2 PySem.MeetsSeq3
def R1 (A:XA)(s:WE)(items aD:Array WC)(ks ms:List (List Int)):Prop :=
 items.size=ks.length/\aD.size=ms.length/\∀(j:Nat) (h1:j<items.size) (h2:j<aD.size),EqAt A.in1 s items[j] aD[j] (decide (ks.getD j []=ms.getD j []))/\∀(prog:WI) (w:W6) (E:WC->WE->Prop) (Q:WC->WE->Prop),Q (.bool (HT.lexLt (ks.getD j []) (ms.getD j []))) s->Xb (model prog w) A.in1 (richCompare .Lt items[j] aD[j]) Q E s
theorem drop_getD {ks:List (List Int)}{i:Nat}(h:i<ks.length):ks.drop i=ks.getD i []::ks.drop (i+1):=by
 rw[XE h,Yc,WR h];rfl
theorem Bb (l b:Addr)(items aD:Array WC)(n n2:Nat)(dd CP:Option Addr)(sl CL:Array (Option WC))(ks ms:List (List Int))(k:Nat):
  ∀i:Nat,items.size-i=k->i<=items.size->Meets (Y3.«list.__eq__.loop» ⟨[.ref l,.ref b,rawInt i,rawInt 0],[]⟩)
   (λA R s=>s.heap.get? l=some {cls:=.type "list",dict:=dd,data:=.seq items n,slots:=sl}/\s.heap.get? b=some {cls:=.type "list",dict:=CP,data:=.seq aD n2,slots:=CL} /\
    i<=aD.size/\R1 A s items aD ks ms/\R (.ok (.ret (.bool (kY (ks.drop i) (ms.drop i))))) s):=by
 have fin:∀i:Nat,i<=items.size->i<=aD.size->(i=items.size\/i=aD.size)->items.size=ks.length->aD.size=ms.length->kY (ks.drop i) (ms.drop i)=decide (items.size<aD.size):=λi h1 h2 h z1 z2=>by
  rcases h with h|h
  ·rw[YG (l:=ks) (by lia)]
   by_cases q:i<ms.length
   ·rw[drop_getD q,gz,decide_eq_true (by lia)]
   ·rw[YG (l:=ms) (by lia),decide_eq_false (by lia)];rfl
  ·rw[YG (l:=ms) (by lia),decide_eq_false (by lia)]
   cases ks.drop i <;> rfl
 induction k with
 |zero =>
  intro i hk QY prog w A R s h;obtain⟨hp,g,d,tk,os⟩:=s;obtain⟨hl,hb,J7,⟨z1,z2,he⟩,h⟩:=h;rw[fin i QY J7 (.inl (by lia)) z1 z2]at h
  wp_walk using Xv hl,Xv hb
  have Ge:items[((i:Nat):Int).toNat]?=none:=by simp;lia
  rw[Ge]
  wp_walk using Xv hl,Xv hb
  exact h
 |succ k ih =>
  intro i hk QY prog w A R s h;obtain⟨hp,g,d,tk,os⟩:=s;obtain⟨hl,hb,J7,⟨z1,z2,he⟩,h⟩:=h;have eV:i<items.size:=by lia
  have Ge:items[((i:Nat):Int).toNat]?=some items[i]:=by simp[eV]
  by_cases Jh:i<aD.size
  ·have Ji:aD[((i:Nat):Int).toNat]?=some aD[i]:=by simp[Jh]
   have hc:((i:Int)+1)=((i+1:Nat):Int):=by push_cast;rfl
   wp_walk using Xv hl,Xv hb
   rw[Ge,Ji];obtain⟨e1,e2⟩:=he i eV Jh;refine WA (e1 prog w _ _ ?_);rw[drop_getD (ks:=ks) (z1▸eV),drop_getD (ks:=ms) (z2▸Jh),fP]at h
   by_cases q:ks.getD i []=ms.getD i []
   ·rw[if_pos q]at h;rw[decide_eq_true q]
    wp_walk
    rw[hc];exact⟨plainId_quiet plain_eq_loop _,Zu entry_eq_loop (by
     rw[Zk plain_eq_loop _];exact ih (i+1) (by lia) (by lia) prog w A R _ ⟨hl,hb,by lia,⟨z1,z2,he⟩,h⟩)⟩
   ·rw[if_neg q]at h;rw[decide_eq_false q]
    wp_walk using Xv hl,Xv hb
    rw[Ge,Ji];have Qd:=e2 prog w
    wp_walk using Qd
    exact h
  ·rw[fin i QY J7 (.inr (by lia)) z1 z2]at h
   have Ji:aD[((i:Nat):Int).toNat]?=none:=by simp;lia
   wp_walk using Xv hl,Xv hb
   rw[Ge,Ji]
   wp_walk using Xv hl,Xv hb
   exact h
theorem Eo (l b:Addr)(items aD:Array WC)(n n2:Nat)(dd CP:Option Addr)(sl CL:Array (Option WC))(ks ms:List (List Int)):
  Meets (Y3.«list.__lt__» ⟨[.ref l,.ref b],[]⟩)
   (λA R s=>s.heap.get? l=some {cls:=.type "list",dict:=dd,data:=.seq items n,slots:=sl}/\s.heap.get? b=some {cls:=.type "list",dict:=CP,data:=.seq aD n2,slots:=CL} /\
    R1 A s items aD ks ms/\R (.ok (.ret (.bool (kY ks ms)))) s):=by
 intro prog w A R s h;obtain⟨hp,g,d,tk,os⟩:=s;obtain⟨hl,hb,he,h⟩:=h;have f3:=AutoSeq1.sub_list_list
 wp_walk using Xv hl,Xv hb
 exact⟨plainId_quiet plain_eq_loop _,Zu entry_eq_loop (by
  rw[Zk plain_eq_loop _];exact Bb l b items aD n n2 dd CP sl CL ks ms _ 0 rfl (WV _) prog w A R _ ⟨hl,hb,WV _,he,h⟩)⟩
end
section
variable {prog:WI}{w:W6}{A:XA}{E:WC->WE->Prop}{s:WE}
theorem zP {x:WC}{vs:List WC}{κ:YU}{c:WC->WC->Bool}{Q:WC->WE->Prop}(hz:vs.length<=1000000)
  (col:∀(R:List WC->WE->Prop),(∀(h':Heap) (tk:Nat),(∀b o,s.heap.get? b=some o->h'.get? b=some o)->s.heap.objs.size<=h'.objs.size->R vs {s with heap:=h',toks:=tk})->Xb (model prog w) A.in1 (collect x) R E s)
  (O:cR λx y=>c x.1 y.1)
  (T:∀s':WE,(∀t o,s.heap.get? t=some o->s'.heap.get? t=some o)->(2<=vs.length->∀(Q:YU->WE->Prop),Q κ s'->Xb (model prog w) A.in1.in1 (keyKind' vs.toArray) Q E s')/\il prog w A.in1.in1 E s' κ (λx y=>c x.1 y.1) (·∈(vs.toArray.zip vs.toArray).toList))
  (h:∀(out:List WC) (l:Addr) (h':Heap) (tk:Nat) (n:Nat),out.Perm vs->out.Pairwise (λx y=>c y x=false)->s.heap.objs.size<=l->(∀b o,s.heap.get? b=some o->h'.get? b=some o)->h'.get? l=some (YE "list" out.toArray n)->Q (.ref l) {s with heap:=h',toks:=tk}) :
  Xb (model prog w) A (call (.builtin "sorted") [x]) Q E s:=by
 refine Z4 kind_sorted plain_sorted entry_sorted (args_sorted1 _) ?_;unfold Y3.«sorted»
 refine WA (m:=checkCount "sorted" 1 1 _) (WJ ?_);refine WA (col _ λh' tk kp PM=>?_);have nl:vs.length<=W7:=by rw[XO];lia
 refine WA (wpAny_newList ?_ nl);have hl:(h'.push (YE "list" vs.toArray 0)).get? h'.objs.size=some (YE "list" vs.toArray 0):=Xc _ rfl;refine WA (Yd (Ye slot_list_sort ⟨_,hl,rfl⟩ entry_list_sort (l8 (κ:=κ) (c:=c) (s:={s with heap:=h'.push (YE "list" vs.toArray 0),toks:=tk}) hl hz O (λs' k=>T s' λt o e=>k t o (Xk (W5 (kp _ _ e))) (WH _ (kp _ _ e))) λout hp hs=>⟨_,rfl,?_⟩) (args_list_sort _)))
 obtain⟨n,hn⟩:=sortedHeap_at (out:=out.toArray) hl;refine WJ ⟨_,rfl,h out h'.objs.size _ tk n hp hs PM (λb o e=>?_) hn⟩;have hb:=W5 (kp _ _ e);rw[sortedHeap_old (Xk hb) (by rw[size_push'];exact Zb hb)]
 exact WH _ (kp _ _ e)
def yS (h:Heap)(kl:WC->List (List Int))(vs:List WC):Prop :=
 ∀v∈vs,∃t its,v=.ref t/\h.IsList t its/\its.size=(kl v).length/\∀j (hj:j<its.size),∃q xs,its[j]=.ref q/\IsTup h q xs/\Yq xs.toList ((kl v).getD j [])
theorem yS.keep {h h':Heap}{kl:WC->List (List Int)}{vs:List WC}(L:yS h kl vs)(k:∀t o,h.get? t=some o->h'.get? t=some o):yS h' kl vs:=λv hv=>by
 obtain⟨t,its,e,⟨o,ho,r⟩,hz,hj⟩:=L v hv;refine⟨t,its,e,⟨o,k _ _ ho,r⟩,hz,λj CN=>?_⟩;obtain⟨q,xs,e1,⟨o2,F9,r2⟩,e3⟩:=hj j CN;exact⟨q,xs,e1,⟨o2,k _ _ F9,r2⟩,e3⟩
theorem JF {h:WE}{kl:WC->List (List Int)}{v v':WC}{its its':Array WC}(hu:A.units+1<Y4)(hz:its.size=(kl v).length)(II:its'.size=(kl v').length)
  (hj:∀j (hj:j<its.size),∃q xs,its[j]=.ref q/\IsTup h.heap q xs/\Yq xs.toList ((kl v).getD j [])) (CN:∀j (hj:j<its'.size),∃q xs,its'[j]=.ref q/\IsTup h.heap q xs/\Yq xs.toList ((kl v').getD j [])):R1 A h its its' (kl v) (kl v'):=by
 refine⟨hz,II,λj h1 h2=>?_⟩;obtain⟨q,xs,e1,t1,n1⟩:=hj j h1;obtain⟨q',Nz,Rz,R_,SM⟩:=CN j h2;rw[e1,Rz];exact⟨BZ t1 R_ n1 SM hu,λprog w E Q hQ=>HT.u9 t1 R_ n1 SM hu hQ⟩
theorem u7 {kl:WC->List (List Int)}{vs:List WC}{a₀:Array WX}(hu:A.units+1<Y4)(T:yS s.heap kl vs)(hm:∀z∈a₀.toList,z.1∈vs):il prog w A E s oneType' (λx y=>kY (kl x.1) (kl y.1)) (·∈a₀.toList):=by
 intro x y st Q hx hy hk q;obtain⟨t,its,e,l1,hz,hj⟩:=T _ (hm _ hx);obtain⟨t',its',e',UK,II,CN⟩:=T _ (hm _ hy);have cm:=JF (A:=A) hu hz II hj CN;rw[lt'_eq];refine WL (ZP ?_);rw[hk,keyLt'_oneType,oneLt'_eq,if_pos rfl,e,e'];have q:Q (some (kY (kl x.1) (kl y.1))) st:=q;rw[e,e']at cm q;obtain⟨⟨cls,dd,data,sl⟩,ho,oS,n,Ob⟩:=id l1;obtain⟨⟨RG,CP,data2,CL⟩,F9,nD,n',hd2⟩:=id UK;simp only at oS Ob nD hd2;subst oS Ob nD hd2;refine WL (aab (ZF (WA (wpAny_cRoomFor (Nat.lt_of_succ_lt hu) (WA (wpAny_callSpecialIfBound?_slot (T:="list") ⟨_,ho,rfl⟩ PySem.F.slot_list_lt
  (call_meets PySem.F.slot_list_lt ⟨_,ho,rfl⟩ PySem.F.entry_list_lt (PySem.F.args_list_lt_2 _ _) (Eo _ _ its its' n n' dd CP sl CL (kl (.ref t)) (kl (.ref t'))) ⟨ho,F9,cm,?_⟩)))))))
 exact Yo ⟨rfl,WY q⟩
theorem vb {kl:WC->List (List Int)}{vs:List WC}{Q:YU->WE->Prop}(T:yS s.heap kl vs)(h2:2<=vs.length)(q:Q oneType' s):Xb (model prog w) A (keyKind' vs.toArray) Q E s :=
 PySem.W.kas_kind (T:=.type "list") h2 (λv hv=>by
  obtain⟨t,its,rfl,⟨o,ho,hc,_⟩,_⟩:=T v hv;exact hc▸(PySem.W.Looks.ld ho).andThen .now) (by decide) (by decide) q
end
theorem DR (kl:WC->List (List Int)):cR λ(x y:WX)=>kY (kl x.1) (kl y.1):=⟨λ_ _ h=>l4 h,λ_ y _ h=>ql (kl y.1) h⟩
end Oq
namespace L2
open PySem PySem.Spec PyProof.Rows Oq
abbrev lD (ks:List (List Int)):D:=.lst (ks.map kD)
def su:List D->Option (List (List (List Int)))
 |[]=>some []
 |d::ds=>(d.sA.bind dh).bind λk=>(su ds).map (k::·)
theorem sj:∀{ds:List D} {kJ:List (List (List Int))},su ds=some kJ->ds=kJ.map lD/\∀ks∈kJ,∀k∈ks,k≠[]
 |[],_,h=>by cases h;exact⟨rfl,λ_ z=>nomatch z⟩
 |d::ds,kJ,h=>by
  obtain⟨k,h1,h2⟩:=Xu.mp h;obtain⟨es,h3,h4⟩:=Xu.mp h1;obtain⟨r,h5,rfl⟩:=W8.mp h2;obtain⟨e1,e2⟩:=sj h5;obtain⟨f1,f2⟩:=iU h4;rw[D.iR h3,e1,f1];refine⟨rfl,λks hk=>?_⟩;rcases WG.mp hk with rfl|hk
  ·exact f2
  ·exact e2 ks hk
theorem oG:∀{kJ:List (List (List Int))},(∀ks∈kJ,∀k∈ks,k≠[])->su (kJ.map lD)=some kJ
 |[],_=>rfl
 |ks::kJ,h=>by
  show (dh (ks.map kD)).bind _=_;rw[gB (h ks (WO ..)),Yu,oG λx hx=>h x (WQ _ hx)];rfl
def xD (kJ:List (List (List Int))):List (List (List Int)):=kJ.mergeSort λa b=>!kY b a
theorem gc (kJ:List (List (List Int))):(xD kJ).Perm kJ:=List.mergeSort_perm _ _
theorem xC (kJ:List (List (List Int))):(xD kJ).Pairwise λa b=>kY b a=false:=by
 refine(List.pairwise_mergeSort (le:=λa b=>!kY b a) (λa b c h1 h2=>?_) (λa b=>?_) kJ).imp λ{a b} h=>by simpa using h
 ·simp only[ZC]at h1 h2 ⊢
  cases q:kY c a with
  |false=>rfl
  |true =>
   rcases ql b q with z|z
   ·rw[z]at h2;cases h2
   ·rw[z]at h1;cases h1
 ·cases q:kY b a with
  |false=>rfl
  |true=>rw[l4 q];rfl
theorem Dg {a b:List (List (List Int))}(p:a.Perm b)(h:a.Pairwise λx y=>kY y x=false):a=xD b :=
 List.Perm.eq_of_pairwise (λx y _ _ h1 h2=>oI h2 h1) h (xC b) (p.trans (gc b).symm)
def B_:List D->Option D
 |[d]=>d.sA.bind λds=>(su ds).bind λkJ=>if kJ.length<=1000000 then some (.lst ((xD kJ).map lD)) else none
 |_=>none
abbrev AL:=Addr×List (List Int)
def sF (H:Hp):WC->List (List Int)
 |.ref t=>match H t with
  |some (.lst xs)=>xs.map fun
   |.ref q=>sG H (.ref q)
   |_=>[]
  |_=>[]
 |_=>[]
def gL (H:Hp):WC->AL
 |.ref t=>(t,sF H (.ref t))
 |_=>(0,[])
section
variable {P:WI}{w:W6}{W:Addr->Prop}{H:Hp}
theorem Bf {t:Addr}{ks:List (List Int)}(hk:∀k∈ks,k≠[])(r:az P w W H (lD ks) (.ref t)):sF H (.ref t)=ks/\∃ts:List (Addr×List Int),H t=some (.lst (ts.map pP))/\vF H ts/\ts.map (·.2)=ks:=by
 obtain⟨p,vs,e,hp,_,rs⟩:=r;cases e;obtain⟨ts,rfl,T,rfl⟩:=gA hk rs;refine⟨?_,ts,hp,T,rfl⟩;unfold sF;dsimp only;rw[hp];dsimp only;rw[XD];exact Xe λx hx=>iT (T x hx).1
theorem oF:∀{kJ:List (List (List Int))} {vs:List V},ah P w W H (kJ.map lD) vs->∃ts:List AL,vs=ts.map (λt=>V.ref t.1)/\ts.map (·.2)=kJ/\∀t∈ts,az P w W H (lD t.2) (.ref t.1)
 |[],_,h=>⟨[],h,rfl,λ_ z=>nomatch z⟩
 |ks::kJ,_,⟨v,r,e,h1,h2⟩=>by
  obtain⟨ts,q1,q2,q3⟩:=oF h2;obtain⟨a,us,rfl,_⟩:=id h1;refine⟨(a,ks)::ts,by rw[e,q1];rfl,by rw[W_,q2],λt ht=>?_⟩
  rcases WG.mp ht with rfl|ht
  ·exact h1
  ·exact q3 t ht
theorem og:∀{ts:List AL},(∀t∈ts,az P w W H (lD t.2) (.ref t.1))->ah P w W H ((ts.map (·.2)).map lD) (ts.map λt=>V.ref t.1)
 |[],_=>rfl
 |t::ts,h=>⟨_,_,rfl,h t (WO ..),og λx hx=>h x (WQ _ hx)⟩
end
theorem qW:∀{ts:List AL} {us:List WC},Vals (ts.map λt=>V.ref t.1) us->us=ts.map λt=>Value.ref t.1
 |[],_,.nil=>rfl
 |t::ts,_,.cons r q=>by
  rw[W_,<- qW q];cases r;rfl
theorem tZ:∀(ts:List AL),Vals (ts.map λt=>V.ref t.1) (ts.map λt=>Value.ref t.1)
 |[]=>.nil
 |t::ts=>.cons rfl (tZ ts)
section
variable {X:Cx}
theorem qK (hu:X.A.units+16<Y4):bH X (.builtin "sorted") B_:=by
 intro pins s σ H xs us Q I r h;obtain⟨W,ds,d,hd,r1,e,q⟩:=h
 match ds,e with
 |[x],e =>
  obtain⟨es,e1,e2⟩:=Xu.mp (show x.sA.bind _=some d from e)
  obtain⟨kJ,e3,e4⟩:=Xu.mp e2;obtain⟨hz,rfl⟩:=de e4;obtain⟨rfl,hk⟩:=sj e3;rw[D.iR e1]at r1;obtain⟨x,rfl,p,vs,rfl,hp,n1,q1⟩:=jh r1;obtain⟨ts,rfl,rfl,T⟩:=oF q1;obtain⟨u,rfl,rx⟩:=vals1 r;cases rx;obtain⟨its,r',pl,hl⟩:=I.list (c0.of hp);obtain rfl:=qW r';rw[WB]at hz;have nl:(ts.map λt=>Value.ref t.1).length<=W7:=by rw[WB,XO];lia
  have kt:∀t∈ts,∀k∈t.2,k≠[]:=λt ht=>hk t.2 (WT.mpr ⟨t,ht,rfl⟩);have kl:∀t∈ts,sF H (.ref t.1)=t.2:=λt ht=>(Bf (kt t ht) (T t ht)).1;have LL:yS s.heap (sF H) (ts.map λt=>Value.ref t.1):=λv hv=>by
   obtain⟨t,ht,rfl⟩:=WT.mp hv;obtain⟨e5,tt,h5,T5,e6⟩:=Bf (kt t ht) (T t ht);obtain⟨i5,r5,l5,_⟩:=I.list (c0.of h5);obtain rfl:=f9 r5;refine⟨t.1,_,rfl,l5.isList,by rw[e5,<- e6];simp,λj hj=>?_⟩
   have CN:j<tt.length:=by simpa using hj
   obtain⟨h6,_⟩:=T5 tt[j] (YV CN);obtain⟨i6,r6,l6,_⟩:=I.tuple (t9.of h6);refine⟨tt[j].1,_,by simp,l6,?_⟩
   rw[e5,<- e6,show (tt.map (·.2)).getD j []=tt[j].2 by simp[Yc,CN]]
   exact intsAre_of (by simpa using r6)
  refine zP (κ:=oneType') (c:=λx y=>kY (sF H x) (sF H y)) (by rw[WB];exact hz) (λR hR=>?_) (DR _) (λs' k=>⟨λh2 Q q=>vb (LL.keep k) h2 q,u7 (by
   show X.A.units+1+1+1<Y4;exact Nat.lt_of_le_of_lt (by lia) hu) (LL.keep k) λz hz=>by
   rw[aaj]at hz;exact(ZL hz).1⟩) λout l h' tk n hp hs hle kp ho=>?_
  ·refine collect_list pl.isList (hR _ s.toks (λb o e=>?_) ?_) nl
   ·have hb:=W5 e;rw[Heap.get?_update_ne _ _ _ _ (Xk hb)];exact WH _ e
   ·rw[Heap.size_update,size_push'];exact Nat.le_succ _
  ·have o1:out=(out.map (gL H)).map (λt=>Value.ref t.1):=by
    rw[XD];refine(Xe (g:=id) λv hv=>?_).trans (List.map_id _) |>.symm
    obtain⟨t,ht,rfl⟩:=WT.mp (hp.mem_iff.mp hv);rfl
   have o2:(out.map (gL H)).Perm ts:=by
    refine(hp.map (gL H)).trans (ZN ?_);rw[XD];refine(Xe (g:=id) λt ht=>?_).trans (List.map_id _);show (t.1,sF H (.ref t.1))=t;rw[kl t ht]
   have zl:out.length=ts.length:=by rw[hp.length_eq,WB]
   have hf:H l=none:=I.bx.fresh hle;have eq:(out.map (gL H)).map (·.2)=xD (ts.map (·.2)):=Dg (o2.map _) (by
    rw[XD,XW];refine hs.imp_of_mem λ{x y} hx hy hh=>?_;obtain⟨t,ht,rfl⟩:=WT.mp (hp.mem_iff.mp hx);obtain⟨t',N2,rfl⟩:=WT.mp (hp.mem_iff.mp hy);exact hh)
   rw[<- eq]at q;refine⟨.ref l,_,I.laid (t':=tk) (o:=.lst ((out.map (gL H)).map λt=>V.ref t.1)) kp hle ?_,rfl,q _ _ (au.new hf) (Rp.fO hd hf (og λt ht=>T t (o2.mem_iff.mp ht)))⟩;refine⟨by rw[WB,WB,zl,XO];lia,out,n,?_,ho⟩
   have:=tZ (out.map (gL H));rw[<- o1]at this;exact this
end
end L2
namespace L2.Q
open PySem
abbrev NN:=Nat×Nat
def Km (p q:NN):Prop:=p.1<q.1/\(p.2<q.1\/q.2<p.2)
structure pG (ps:List NN)(i j:Nat)(S:List NN):Prop where
 pw:S.Pairwise Km
 of:∀p∈S,p∈ps/\i<=p.1/\p.2<j
section
variable {ps:List NN}(hp:∀p∈ps,p.1<p.2){i j:Nat}{S A B:List NN}
theorem pG.nil:pG ps i j []:=⟨List.Pairwise.nil,λ_ z=>nomatch z⟩
include hp in
theorem eM (h:¬ i<j)(s:pG ps i j S):S=[]:=by
 cases S with
 |nil=>rfl
 |cons p S=>obtain⟨h1,h2,h3⟩:=s.of p WO;have:=hp p h1;lia
theorem xf {k:Nat}:∀{T:List NN},T.Pairwise Km->(∀q∈T,q.1<q.2/\(q.2<k\/k<q.1))->T=T.filter (λq=>decide (q.2<k))++T.filter (λq=>decide (k<q.1))
 |[],_,_=>rfl
 |q::T,hw,h=>by
  obtain⟨w1,w2⟩:=Xy.mp hw;obtain⟨a1,a2⟩:=h q WO;have ih:=xf w2 λx hx=>h x (WQ _ hx);rcases a2 with a2|a2
  ·rw[Xr,Xr,if_pos (decide_eq_true a2),if_neg (by rw[decide_eq_true_eq];lia),aai,<- ih]
  ·have e1:(q::T).filter (λq=>decide (q.2<k))=[]:=by
    rw[Y2];intro x hx;rw[decide_eq_true_eq];rcases WG.mp hx with rfl|hx
    ·lia
    ·have:=(w1 x hx).1;have:=(h x (WQ _ hx)).1;lia
   have e2:(q::T).filter (λq=>decide (k<q.1))=q::T:=by
    rw[List.filter_eq_self];intro x hx;rw[decide_eq_true_eq];rcases WG.mp hx with rfl|hx
    ·lia
    ·have:=(w1 x hx).1;lia
   rw[e1,e2,List.nil_append]
include hp in
theorem gb (h:i<j):pG ps i j S↔pG ps (i+1) j S\/∃k A B,(i,k)∈ps/\k<j/\S=(i,k)::(A++B)/\pG ps (i+1) k A/\pG ps (k+1) j B:=by
 constructor
 ·intro s;cases S with
  |nil=>exact .inl .nil
  |cons p T =>
   obtain⟨w1,w2⟩:=Xy.mp s.pw;obtain⟨h1,h2,h3⟩:=s.of p WO;have ot:∀q∈T,q∈ps/\i<=q.1/\q.2<j:=λq hq=>s.of q (WQ _ hq)
   by_cases e:p.1=i
   ·right
    obtain⟨a,k⟩:=p;dsimp only at e h2 h3;subst e;refine⟨k,T.filter (λq=>decide (q.2<k)),T.filter (λq=>decide (k<q.1)),h1,h3,?_,⟨w2.filter _,λq hq=>?_⟩,⟨w2.filter _,λq hq=>?_⟩⟩
    ·rw[<- xf w2 λq hq=>⟨hp q (ot q hq).1,(w1 q hq).2.symm⟩]
    ·obtain⟨g1,g2⟩:=WW.mp hq;have:=(w1 q g1).1;dsimp only at this;exact⟨(ot q g1).1,by lia,of_decide_eq_true g2⟩
    ·obtain⟨g1,g2⟩:=WW.mp hq;exact⟨(ot q g1).1,of_decide_eq_true g2,(ot q g1).2.2⟩
   ·left
    refine⟨s.pw,λq hq=>?_⟩;rcases WG.mp hq with rfl|hq
    ·exact⟨h1,by lia,h3⟩
    ·have:=(w1 q hq).1;exact⟨(ot q hq).1,by lia,(ot q hq).2.2⟩
 ·rintro (s|⟨k,A,B,h1,h2,rfl,a,b⟩)
  ·exact⟨s.pw,λp hp=>let ⟨a,b,c⟩:=s.of p hp;⟨a,by lia,c⟩⟩
  ·have hk:=hp _ h1;dsimp only at hk;refine⟨Xy.mpr ⟨λq hq=>?_,ZJ.mpr ⟨a.pw,b.pw,λx hx y hy=>?_⟩⟩,λq hq=>?_⟩
   ·rcases W4.mp hq with z|z
    ·obtain⟨g1,g2,g3⟩:=a.of q z;exact⟨by dsimp only;lia,.inr g3⟩
    ·obtain⟨g1,g2,g3⟩:=b.of q z;exact⟨by dsimp only;lia,.inl g2⟩
   ·obtain⟨g1,g2,g3⟩:=a.of x hx;obtain⟨f1,f2,f3⟩:=b.of y hy;have:=hp x g1;exact⟨by lia,.inl (by lia)⟩
   ·rcases WG.mp hq with rfl|hq
    ·exact⟨h1,WD _,h2⟩
    ·rcases W4.mp hq with z|z
     ·obtain⟨g1,g2,g3⟩:=a.of q z;exact⟨g1,by lia,by lia⟩
     ·obtain⟨g1,g2,g3⟩:=b.of q z;exact⟨g1,by lia,g3⟩
include hp in
theorem zE (h:i<j):pG ps i j S↔pG ps i (j-1) S\/∃a A B,(a,j-1)∈ps/\i<=a/\S=A++(a,j-1)::B/\pG ps i a A/\pG ps (a+1) (j-1) B:=by
 constructor
 ·intro s
  by_cases hx:∃p∈S,p.2=j-1
  ·right
   obtain⟨⟨a,b⟩,J5,e⟩:=hx;dsimp only at e;subst e;obtain⟨A,B,rfl⟩:=List.append_of_mem J5;obtain⟨w1,w2,w3⟩:=ZJ.mp s.pw;obtain⟨v1,v2⟩:=Xy.mp w2;obtain⟨h1,h2,h3⟩:=s.of _ J5;refine⟨a,A,B,h1,h2,rfl,⟨w1,λq hq=>?_⟩,⟨v2,λq hq=>?_⟩⟩
   ·obtain⟨g1,g2,g3⟩:=s.of q (X1 _ hq);have:=w3 q hq _ WO;obtain⟨f1,f2⟩:=this;dsimp only at f1 f2;exact⟨g1,g2,by lia⟩
   ·obtain⟨g1,g2,g3⟩:=s.of q (Xm _ (WQ _ hq));obtain⟨f1,f2⟩:=v1 q hq;dsimp only at f1 f2;have:=hp q g1;exact⟨g1,by lia,by lia⟩
  ·left
   refine⟨s.pw,λp jl=>?_⟩;obtain⟨g1,g2,g3⟩:=s.of p jl;have:p.2≠j-1:=λz=>hx ⟨p,jl,z⟩;exact⟨g1,g2,by lia⟩
 ·rintro (s|⟨a,A,B,h1,h2,rfl,sa,sb⟩)
  ·exact⟨s.pw,λp hp=>let ⟨a,b,c⟩:=s.of p hp;⟨a,b,by lia⟩⟩
  ·have hk:=hp _ h1;dsimp only at hk;refine⟨ZJ.mpr ⟨sa.pw,Xy.mpr ⟨λq hq=>?_,sb.pw⟩,λx hx y hy=>?_⟩,λq hq=>?_⟩
   ·obtain⟨g1,g2,g3⟩:=sb.of q hq;exact⟨by dsimp only;lia,.inr g3⟩
   ·obtain⟨g1,g2,g3⟩:=sa.of x hx;have:=hp x g1;rcases WG.mp hy with rfl|hy
    ·exact⟨by dsimp only;lia,.inl g3⟩
    ·obtain⟨f1,f2,f3⟩:=sb.of y hy;exact⟨by lia,.inl (by lia)⟩
   ·rcases W4.mp hq with z|z
    ·obtain⟨g1,g2,g3⟩:=sa.of q z;exact⟨g1,g2,by lia⟩
    ·rcases WG.mp z with rfl|z
     ·exact⟨h1,h2,by dsimp only;lia⟩
     ·obtain⟨g1,g2,g3⟩:=sb.of q z;exact⟨g1,by lia,by lia⟩
include hp in
theorem gW:∀(l i j:Nat) (S:List NN),j-i<=l->pG ps i j S->(S.length:Int)<=mX ps i j:=by
 intro l
 induction l with
 |zero=>intro i j S hl s;rw[eM hp (by lia) s];exact A9 hp
 |succ l ih =>
  intro i j S hl s
  by_cases h:i<j
  ·rcases (gb hp h).mp s with s|⟨k,A,B,h1,h2,rfl,a,b⟩
   ·exact Int.le_trans (ih (i+1) j S (by lia) s) (gx hp h)
   ·have hk:=hp _ h1;dsimp only at hk;have g1:=ih (i+1) k A (by lia) a
    have g2:=ih (k+1) j B (by lia) b
    have g3:=hG hp h1 h2;rw[WS,Xi];lia
  ·rw[eM hp h s];exact A9 hp
def CO (ps:List NN):Nat->Nat->Nat->List (List NN)
 |0,_,_=>[[]]
 |f+1,i,j=>if i<j then (((iq ps i).filter λk=>decide (k<j)).flatMap λk=>(CO ps f (i+1) k).flatMap λA=>(CO ps f (k+1) j).map λB=>(i,k)::(A++B))++CO ps f (i+1) j else [[]]
def E3 (ps:List NN):Nat->Nat->Nat->List (List NN)
 |0,_,_=>[[]]
 |f+1,i,j=>if i<j then E3 ps f i (j-1)++(((near ps (j-1)).filter λa=>decide (i<=a)).flatMap λa=>(E3 ps f i a).flatMap λA=>(E3 ps f (a+1) (j-1)).map λB=>A++(a,j-1)::B) else [[]]
include hp in
theorem dv:∀(f i j:Nat) (S:List NN),j-i<=f->(S∈CO ps f i j↔pG ps i j S):=by
 intro f
 induction f with
 |zero=>intro i j S h;exact⟨λz=>by rw[WN.mp z];exact .nil,λs=>by rw[eM hp (by lia) s];exact WN.mpr rfl⟩
 |succ f ih =>
  intro i j S h;unfold CO
  by_cases aF:i<j
  ·rw[if_pos aF,gb hp aF,W4,ih (i+1) j S (by lia)]
   refine⟨λz=>z.elim (λz=>?_) .inl,λz=>z.elim .inr λz=>.inl ?_⟩
   ·obtain⟨k,hk,z⟩:=XJ.mp z;obtain⟨yv,sO⟩:=WW.mp hk;have sO:=of_decide_eq_true sO;have yu:=hp _ (bB.mp yv);dsimp only at yu;obtain⟨A,ha,z⟩:=XJ.mp z;obtain⟨B,hb,rfl⟩:=WT.mp z;exact .inr ⟨k,A,B,bB.mp yv,sO,rfl,(ih _ _ _ (by lia)).mp ha,(ih _ _ _ (by lia)).mp hb⟩
   ·obtain⟨k,A,B,h1,h2,rfl,a,b⟩:=z;have yu:=hp _ h1;dsimp only at yu;exact XJ.mpr ⟨k,WW.mpr ⟨bB.mpr h1,decide_eq_true h2⟩,XJ.mpr ⟨A,(ih _ _ _ (by lia)).mpr a,WT.mpr ⟨B,(ih _ _ _ (by lia)).mpr b,rfl⟩⟩⟩
  ·rw[if_neg aF];exact⟨λz=>by rw[WN.mp z];exact .nil,λs=>by rw[eM hp aF s];exact WN.mpr rfl⟩
include hp in
theorem bP:∀(f i j:Nat) (S:List NN),j-i<=f->(S∈E3 ps f i j↔pG ps i j S):=by
 intro f
 induction f with
 |zero=>intro i j S h;exact⟨λz=>by rw[WN.mp z];exact .nil,λs=>by rw[eM hp (by lia) s];exact WN.mpr rfl⟩
 |succ f ih =>
  intro i j S h;unfold E3
  by_cases aF:i<j
  ·rw[if_pos aF,zE hp aF,W4,ih i (j-1) S (by lia)]
   refine⟨λz=>z.elim .inl λz=>?_,λz=>z.elim .inl λz=>.inr ?_⟩
   ·obtain⟨a,Vm,z⟩:=XJ.mp z;obtain⟨yv,sO⟩:=WW.mp Vm;have sO:=of_decide_eq_true sO;have yu:=hp _ (bo.mp yv);dsimp only at yu;obtain⟨A,ha,z⟩:=XJ.mp z;obtain⟨B,hb,rfl⟩:=WT.mp z;exact .inr ⟨a,A,B,bo.mp yv,sO,rfl,(ih _ _ _ (by lia)).mp ha,(ih _ _ _ (by lia)).mp hb⟩
   ·obtain⟨a,A,B,h1,h2,rfl,sa,sb⟩:=z;have yu:=hp _ h1;dsimp only at yu;exact XJ.mpr ⟨a,WW.mpr ⟨bo.mpr h1,decide_eq_true h2⟩,XJ.mpr ⟨A,(ih _ _ _ (by lia)).mpr sa,WT.mpr ⟨B,(ih _ _ _ (by lia)).mpr sb,rfl⟩⟩⟩
  ·rw[if_neg aF];exact⟨λz=>by rw[WN.mp z];exact .nil,λs=>by rw[eM hp aF s];exact WN.mpr rfl⟩
end
section
variable {ps:List NN}(hp:∀p∈ps,p.1<p.2){i j:Nat}{S A B:List NN}
theorem qD {α:Type}{q:α->Bool}{l:List α}(h:∀x∈l,q x=true):l.filter q=l:=List.filter_eq_self.mpr h
theorem ia {α:Type}{q:α->Bool}{l:List α}(h:∀x∈l,q x=false):l.filter q=[]:=Y2.mpr λx hx=>by rw[h x hx];simp
theorem Ei {e:Nat}(h:ps.Nodup):(near ps e).Nodup:=by
 unfold near;rw[Zh,XW];refine(h.filter _).imp_of_mem λ{x y} hx hy mx e=>mx ?_;have h1:=of_decide_eq_true (WW.mp hx).2;have h2:=of_decide_eq_true (WW.mp hy).2;exact Prod.ext e (by lia)
include hp in
theorem H9 (nd:ps.Nodup):∀(f i j:Nat),j-i<=f->(CO ps f i j).Nodup:=by
 intro f
 induction f with
 |zero=>intro i j _;exact(Ym _ _)
 |succ f ih =>
  intro i j h;unfold CO
  by_cases aF:i<j
  ·rw[if_pos aF,XF];refine⟨?_,ih _ _ (by lia),λx hx y hy e=>?_⟩
   ·rw[Zh,ZD];refine⟨λk hk=>?_,?_⟩
    ·obtain⟨yv,sO⟩:=WW.mp hk;have sO:=of_decide_eq_true sO;have yu:=hp _ (bB.mp yv);dsimp only at yu;rw[ZD];refine⟨λA ha=>?_,?_⟩
     ·rw[XW];refine(ih (k+1) j (by lia)).imp λ{x y} mx e=>mx ?_
      injection e with _ e
      exact List.append_cancel_left e
     ·refine(ih (i+1) k (by lia)).imp_of_mem λ{x y} hx hy mx u hu v hv e=>mx ?_
      obtain⟨b,hb,rfl⟩:=WT.mp hu;obtain⟨c,hc,rfl⟩:=WT.mp hv;injection e with _ e
      have sx:=(dv hp _ _ _ _ (by lia)).mp hx
      have sy:=(dv hp _ _ _ _ (by lia)).mp hy
      have sb:=(dv hp _ _ _ _ (by lia)).mp hb
      have sc:=(dv hp _ _ _ _ (by lia)).mp hc
      have e2:=congrArg (List.filter λq:NN=>decide (q.2<k)) e;have lo:∀{T:List NN} {a:Nat},pG ps a k T->T.filter (λq:NN=>decide (q.2<k))=T:=λs=>qD λq hq=>decide_eq_true (s.of q hq).2.2;have hi:∀{T:List NN},pG ps (k+1) j T->T.filter (λq:NN=>decide (q.2<k))=[]:=λs=>ia λq hq=>decide_eq_false (by have:=s.of q hq;have:=hp q this.1;lia)
      rw[XN,XN,lo sx,lo sy,hi sb,hi sc,XY,XY]at e2;exact e2
    ·refine((Ak nd).filter _).imp λ{a b} mx x hx y hy e=>mx ?_;obtain⟨A,_,hx⟩:=XJ.mp hx;obtain⟨A',_,hy⟩:=XJ.mp hy;obtain⟨B,_,rfl⟩:=WT.mp hx;obtain⟨B',_,rfl⟩:=WT.mp hy;injection e with e _
     exact(Prod.mk.inj e).2
   ·subst e;have s:=(dv hp _ _ _ _ (by lia)).mp hy
    obtain⟨k,_,hx⟩:=XJ.mp hx;obtain⟨A,_,hx⟩:=XJ.mp hx;obtain⟨B,_,rfl⟩:=WT.mp hx;have:=(s.of _ WO).2.1;dsimp only at this;lia
  ·rw[if_neg aF];exact(Ym _ _)
include hp in
theorem AW (nd:ps.Nodup):∀(f i j:Nat),j-i<=f->(E3 ps f i j).Nodup:=by
 intro f
 induction f with
 |zero=>intro i j _;exact(Ym _ _)
 |succ f ih =>
  intro i j h;unfold E3
  by_cases aF:i<j
  ·rw[if_pos aF,XF];have key:∀{a:Nat} {A B:List NN},a<j-1->pG ps i a A->pG ps (a+1) (j-1) B->(A++(a,j-1)::B).filter (λq:NN=>decide (q.2=j-1))=[(a,j-1)]/\(A++(a,j-1)::B).filter (λq:NN=>decide (q.1<a))=A/\(A++(a,j-1)::B).filter (λq:NN=>decide (a<q.1))=B:=λ{a A B} ha sa sb=>by
    refine⟨?_,?_,?_⟩
    ·rw[XN,Xr,if_pos (decide_eq_true rfl),ia λq hq=>decide_eq_false (by have:=(sa.of q hq).2.2;lia),ia λq hq=>decide_eq_false (by have:=(sb.of q hq).2.2;lia),List.nil_append]
    ·rw[XN,Xr,if_neg (by rw[decide_eq_true_eq];dsimp only;lia),qD λq hq=>decide_eq_true (by have:=sa.of q hq;have:=hp q this.1;lia),ia λq hq=>decide_eq_false (by have:=(sb.of q hq).2.1;lia),XY]
    ·rw[XN,Xr,if_neg (by rw[decide_eq_true_eq];dsimp only;lia),ia λq hq=>decide_eq_false (by have:=sa.of q hq;have:=hp q this.1;lia),qD λq hq=>decide_eq_true (by have:=(sb.of q hq).2.1;lia),List.nil_append]
   refine⟨ih _ _ (by lia),?_,λx hx y hy e=>?_⟩
   ·rw[Zh,ZD];refine⟨λk hk=>?_,?_⟩
    ·obtain⟨yv,sO⟩:=WW.mp hk;have sO:=of_decide_eq_true sO;have yu:=hp _ (bo.mp yv);dsimp only at yu;rw[ZD];refine⟨λA ha=>?_,?_⟩
     ·rw[XW];refine(ih (k+1) (j-1) (by lia)).imp λ{x y} mx e=>mx ?_
      have:=List.append_cancel_left e;injection this
     ·refine(ih i k (by lia)).imp_of_mem λ{x y} hx hy mx u hu v hv e=>mx ?_
      obtain⟨b,hb,rfl⟩:=WT.mp hu;obtain⟨c,hc,rfl⟩:=WT.mp hv;have sx:=(bP hp _ _ _ _ (by lia)).mp hx
      have sy:=(bP hp _ _ _ _ (by lia)).mp hy
      have sb:=(bP hp _ _ _ _ (by lia)).mp hb
      have sc:=(bP hp _ _ _ _ (by lia)).mp hc
      have e2:=congrArg (List.filter λq:NN=>decide (q.1<k)) e;rw[(key yu sx sb).2.1,(key yu sy sc).2.1]at e2;exact e2
    ·refine((Ei nd).filter _).imp_of_mem λ{a b} ha hb mx x hx y hy e=>mx ?_;have Tj:=hp _ (bo.mp (WW.mp ha).1);have MZ:=hp _ (bo.mp (WW.mp hb).1);have Ti:=of_decide_eq_true (WW.mp ha).2;have Wr:=of_decide_eq_true (WW.mp hb).2;dsimp only at Tj MZ;obtain⟨A,hA,hx⟩:=XJ.mp hx;obtain⟨A',Of,hy⟩:=XJ.mp hy;obtain⟨B,hB,rfl⟩:=WT.mp hx;obtain⟨B',Vs,rfl⟩:=WT.mp hy;have e2:=congrArg (List.filter λq:NN=>decide (q.2=j-1)) e;rw[(key Tj ((bP hp _ _ _ _ (by lia)).mp hA) ((bP hp _ _ _ _ (by lia)).mp hB)).1,(key MZ ((bP hp _ _ _ _ (by lia)).mp Of) ((bP hp _ _ _ _ (by lia)).mp Vs)).1]at e2
     injection e2 with e3 _
     exact(Prod.mk.inj e3).1
   ·subst e;have s:=(bP hp _ _ _ _ (by lia)).mp hx
    obtain⟨k,_,hy⟩:=XJ.mp hy;obtain⟨A,_,hy⟩:=XJ.mp hy;obtain⟨B,_,rfl⟩:=WT.mp hy;have:=(s.of _ (Xm _ WO)).2.2;dsimp only at this;lia
  ·rw[if_neg aF];exact(Ym _ _)
def dy (m:Int)(L:List (List NN)):Nat:=(L.filter λS=>decide ((S.length:Int)=m)).length
theorem i8 {m:Int}{L L':List (List NN)}:dy m (L++L')=dy m L+dy m L':=by unfold dy;rw[XN,Xi]
theorem gF {m:Int}{L:List (List NN)}(h:∀S∈L,(S.length:Int)≠m):dy m L=0:=by unfold dy;rw[ia λS hS=>decide_eq_false (h S hS)];rfl
theorem jK {α:Type}{m:Int}{f:α->List (List NN)}:∀{l:List α},dy m (l.flatMap f)=(l.map λa=>dy m (f a)).sum
 |[]=>rfl
 |a::l=>by rw[List.flatMap_cons,i8,jK,W_,Yn]
theorem Ci {m m':Int}{f:List NN->List NN}{L:List (List NN)}(h:∀S∈L,((f S).length:Int)=m↔(S.length:Int)=m'):dy m (L.map f)=dy m' L:=by
 unfold dy;rw[List.filter_map,WB]
 congr 1
 exact List.filter_congr λS hS=>by simp only[Function.comp];exact decide_eq_decide.mpr (h S hS)
theorem mV {x y m:Int}{f:List NN->List NN->List NN}(hf:∀A B,(f A B).length=1+A.length+B.length)(hm:1+x+y<=m){Y:List (List NN)}(hy:∀B∈Y,(B.length:Int)<=y):
  ∀{X:List (List NN)},(∀A∈X,(A.length:Int)<=x)->dy m (X.flatMap λA=>Y.map (f A))=if 1+x+y=m then dy x X*dy y Y else 0
 |[],_=>by rw[show dy x []=0 from rfl,Nat.zero_mul];split <;> rfl
 |A::X,hx=>by
  have ih:=mV hf hm hy (X:=X) λB hB=>hx B (WQ _ hB);have ha:=hx A WO;rw[List.flatMap_cons,i8,ih];have e1:dy x (A::X)=(if (A.length:Int)=x then 1 else 0)+dy x X:=by
   unfold dy;rw[Xr]
   by_cases q:(A.length:Int)=x
   ·rw[if_pos (decide_eq_true q),if_pos q,WS,Nat.add_comm]
   ·rw[if_neg (by rw[decide_eq_true_eq];exact q),if_neg q,Yk]
  rw[e1]
  by_cases MP:1+x+y=m
  ·rw[if_pos MP,if_pos MP]
   by_cases q:(A.length:Int)=x
   ·rw[if_pos q,Nat.add_mul,Zg,Ci (m':=y) λB hB=>by rw[hf];lia]
   ·rw[if_neg q,Yk,gF λS hS=>?_,Yk];obtain⟨B,hB,rfl⟩:=WT.mp hS;have:=hy B hB;rw[hf];lia
  ·rw[if_neg MP,if_neg MP,Nat.add_zero];refine gF λS hS=>?_;obtain⟨B,hB,rfl⟩:=WT.mp hS;have:=hy B hB;rw[hf];lia
theorem pq {m:Int}{L L':List (List NN)}(h:L.Perm L'):dy m L=dy m L':=(h.filter _).length_eq
include hp in
theorem Gw (nd:ps.Nodup):∀(f i j:Nat),j-i<=f->dy (mX ps i j) (E3 ps f i j)=cL ps i j:=by
 intro f
 induction f with
 |zero=>intro i j h;rw[je (by lia),bQ (by lia)];rfl
 |succ f ih =>
  intro i j h;unfold E3
  by_cases aF:i<j
  ·rw[if_pos aF,i8,qL hp aF,jK]
   congr 1
   ·by_cases e:mX ps i (j-1)=mX ps i j
    ·rw[if_pos e,<- e,ih i (j-1) (by lia)]
    ·rw[if_neg e];refine gF λS hS=>?_;have:=gW hp _ _ _ _ (WD _) ((bP hp _ _ _ _ (by lia)).mp hS)
     have:=fN hp _ _ _ (WD _) aF;lia
   ·congr 1
    refine Xe λa ha=>?_;obtain⟨h1,h2⟩:=WW.mp ha;have h2:=of_decide_eq_true h2;have h3:=hp _ (bo.mp h1);dsimp only at h3;have h4:=gy hp (bo.mp h1) (by lia) _ i (WD _) h2
    rw[mV (x:=mX ps i a) (y:=mX ps (a+1) (j-1)) (f:=λA B=>A++(a,j-1)::B) (λA B=>by rw[Xi,WS];lia) (by lia) (λB hB=>gW hp _ _ _ _ (WD _) ((bP hp _ _ _ _ (by lia)).mp hB)) (λA hA=>gW hp _ _ _ _ (WD _) ((bP hp _ _ _ _ (by lia)).mp hA)),ih _ _ (by lia),ih _ _ (by lia)]
  ·rw[if_neg aF,je (by lia),bQ (by lia)];rfl
end
open Oq
section
variable {ps:List NN}(hp:∀p∈ps,p.1<p.2){i j:Nat}{S A B:List NN}
theorem kR {α:Type}{q:α->Bool}{f:α->Nat}:∀{l:List α},((l.filter q).map f).sum=(l.map λx=>if q x=true then f x else 0).sum
 |[]=>rfl
 |a::l=>by
  rw[Xr,W_,Yn]
  by_cases h:q a=true
  ·rw[if_pos h,if_pos h,W_,Yn,kR]
  ·rw[if_neg h,if_neg h,kR,Yk]
include hp in
theorem Nf (nd:ps.Nodup):∀(f i l:Nat),l<=f->dy (mX ps i (i+l)) (CO ps f i (i+l))=hm ps l i:=by
 intro f
 induction f with
 |zero=>intro i l h;rw[show l=0 by lia,bQ (by lia)];rfl
 |succ f ih =>
  intro i l h;cases l with
  |zero=>rw[bQ (by lia)];unfold CO;rw[if_neg (by lia)];rfl
  |succ l =>
   have aF:i<i+(l+1):=by lia
   unfold CO;rw[if_pos aF,qz hp,i8,jK];unfold bS;rw[Xl,List.sum_append,XD];have ej:i+(l+1)=i+l+1:=rfl;rw[ej]at aF ⊢
   have eX:∀a b:Nat,a<=b->tW ps w1 (b-a) a=mX ps a b:=λa b _=>rfl
   congr 1
   ·rw[kR,kR]
    congr 1
    refine Xe λk hk=>?_;have h3:=hp _ (bB.mp hk);dsimp only at h3
    by_cases h2:k<i+l+1
    ·have h4:=hG hp (bB.mp hk) h2;rw[if_pos (decide_eq_true h2),mV (x:=mX ps (i+1) k) (y:=mX ps (k+1) (i+l+1)) (f:=λA B=>(i,k)::(A++B)) (λA B=>by rw[WS,Xi];lia) (by lia) (λB hB=>gW hp _ _ _ _ (WD _) ((dv hp _ _ _ _ (by lia)).mp hB)) (λA hA=>gW hp _ _ _ _ (WD _) ((dv hp _ _ _ _ (by lia)).mp hA))]
     have i1:=ih (i+1) (k-(i+1)) (by lia)
     have i2:=ih (k+1) (i+l+1-(k+1)) (by lia)
     rw[show i+1+(k-(i+1))=k by lia]at i1
     rw[show k+1+(i+l+1-(k+1))=i+l+1 by lia]at i2
     rw[i1,i2];have e1:w1 (i,k)+tW ps w1 (k-i-1) (i+1)+tW ps w1 (i+l+1-k-1) (k+1)=1+mX ps (i+1) k+mX ps (k+1) (i+l+1):=by
      unfold mX w1;rw[show k-i-1=k-(i+1) by lia,show i+l+1-k-1=i+l+1-(k+1) by lia]
     have e2:tW ps w1 (i+l+1-i) i=mX ps i (i+l+1):=rfl;rw[e1,e2,decide_eq_true h2,Bool.true_and];simp only[decide_eq_true_eq,Function.comp];have e3:=lL (ps:=ps) (i:=i) (j:=i+l+1) (k:=k);unfold jZ at e3;rw[e3]
    ·rw[if_neg (by rw[decide_eq_true_eq];exact h2),decide_eq_false h2,Bool.false_and,if_neg (by simp)]
   ·have e1:tW ps w1 (i+l+1-i-1) (i+1)=mX ps (i+1) (i+l+1):=by unfold mX;rw[show i+l+1-i-1=i+l+1-(i+1) by lia]
    have e2:tW ps w1 (i+l+1-i) i=mX ps i (i+l+1):=rfl;rw[e1,e2];have i1:=ih (i+1) l (by lia)
    rw[show i+1+l=i+l+1 by lia]at i1
    by_cases e:mX ps (i+1) (i+l+1)=mX ps i (i+l+1)
    ·have e3:=lM (ps:=ps) (i:=i) (j:=i+l+1);unfold jZ at e3;rw[if_pos e,List.map_singleton,List.sum_singleton,e3,<- e,i1,show i+l+1-(i+1)=l by lia]
    ·rw[if_neg e];refine gF λS hS=>?_;have:=gW hp _ _ _ _ (WD _) ((dv hp _ _ _ _ (by lia)).mp hS)
     have:=gx hp aF;lia
include hp in
theorem MO (nd:ps.Nodup){n:Nat}:hm ps n 0=cL ps 0 n:=by
 have h1:=Nf hp nd n 0 n (WD _);have h2:=Gw hp nd n 0 n (by lia)
 rw[Yk]at h1;rw[<- h1,<- h2];exact pq ((ZY (H9 hp nd _ _ _ (by lia)) (AW hp nd _ _ _ (by lia))).mpr λS=>(dv hp _ _ _ _ (by lia)).trans (bP hp _ _ _ _ (by lia)).symm)
def hE (p q:NN):Bool:=decide (p.1=q.1) || decide (p.1=q.2) || decide (p.2=q.1) || decide (p.2=q.2) || fX p.1 p.2 q.1 q.2
def rd (L:List (List NN))(p:NN):List (List NN):=L++(L.filter λS=>decide (S.filter (λq=>hE q p)=[])).map (p::·)
def dU:List NN->List (List NN)
 |[]=>[[]]
 |p::ps=>rd (dU ps) p
theorem r_ {p q:NN}(h1:p.1<p.2)(h2:q.1<q.2)(h:p.1<q.1\/(p.1=q.1/\p.2<q.2)):hE q p=false↔Km p q:=by
 unfold hE fX Km;simp only[Bool.or_eq_false_iff,decide_eq_false_iff_not,Bool.and_eq_false_iff];lia
theorem oB {L:List (List NN)}{p:NN}:S∈rd L p↔S∈L\/∃T∈L,(∀q∈T,hE q p=false)/\S=p::T:=by
 unfold rd;rw[W4,WT];refine or_congr Iff.rfl ⟨λ⟨T,hT,e⟩=>?_,λMi=> by obtain⟨T,h1,h2,e⟩ := Mi;exact⟨T,WW.mpr ⟨h1,decide_eq_true (ia h2)⟩,e.symm⟩⟩
 obtain⟨g1,g2⟩:=WW.mp hT;exact⟨T,g1,λq hq=>by
  have:=Y2.mp (of_decide_eq_true g2) q hq;simpa using this,e.symm⟩
theorem lZ:∀{ps:List NN},(∀p∈ps,p.1<p.2)->(ps.Pairwise λp q=>p.1<q.1\/(p.1=q.1/\p.2<q.2))->∀{S:List NN},S∈dU ps↔S.Pairwise Km/\∀p∈S,p∈ps
 |[],_,_,S=>by
  unfold dU;rw[WN];refine⟨λe=>by rw[e];exact⟨.nil,λ_ z=>z⟩,λh=>?_⟩
  cases S with
  |nil=>rfl
  |cons p S=>exact absurd (h.2 p WO) XU
 |p::ps,hp,hs,S=>by
  obtain⟨s1,s2⟩:=Xy.mp hs;have jl:∀q∈ps,q.1<q.2:=λq hq=>hp q (WQ _ hq);have pp:=hp p WO;have ih:∀{S:List NN},S∈dU ps↔S.Pairwise Km/\∀p∈S,p∈ps:=lZ jl s2;unfold dU;rw[oB,ih];constructor
  ·rintro (⟨h1,h2⟩|⟨T,hT,h1,rfl⟩)
   ·exact⟨h1,λq hq=>WQ _ (h2 q hq)⟩
   ·obtain⟨g1,g2⟩:=ih.mp hT;refine⟨Xy.mpr ⟨λq hq=>(r_ pp (jl q (g2 q hq)) (s1 q (g2 q hq))).mp (h1 q hq),g1⟩,λq hq=>?_⟩;rcases WG.mp hq with rfl|hq
    ·exact WO
    ·exact WQ _ (g2 q hq)
  ·rintro⟨h1,h2⟩
   by_cases J5:p∈S
   ·right
    cases S with
    |nil=>cases J5
    |cons x T =>
     obtain⟨w1,w2⟩:=Xy.mp h1;have ex:x=p:=by
      rcases WG.mp J5 with z|z
      ·exact z.symm
      ·have g:=(w1 p z).1;rcases WG.mp (h2 x WO)with q|q
       ·exact q
       ·have:=s1 x q;lia
     subst ex;have hT:∀q∈T,q∈ps:=λq hq=>by
      rcases WG.mp (h2 q (WQ _ hq))with z|z
      ·have:=(w1 q hq).1;rw[z]at this;lia
      ·exact z
     exact⟨T,ih.mpr ⟨w2,hT⟩,λq hq=>(r_ pp (jl q (hT q hq)) (s1 q (hT q hq))).mpr (w1 q hq),rfl⟩
   ·left
    exact⟨h1,λq hq=>by
     rcases WG.mp (h2 q hq)with z|z
     ·rw[z]at hq;exact absurd hq J5
     ·exact z⟩
theorem wG:∀{ps:List NN},(∀p∈ps,p.1<p.2)->(ps.Pairwise λp q=>p.1<q.1\/(p.1=q.1/\p.2<q.2))->(dU ps).Nodup
 |[],_,_=>Ym _ _
 |p::ps,hp,hs=>by
  obtain⟨s1,s2⟩:=Xy.mp hs;have jl:∀q∈ps,q.1<q.2:=λq hq=>hp q (WQ _ hq);have ih:=wG jl s2;unfold dU rd;rw[XF];refine⟨ih,?_,λx hx y hy e=>?_⟩
  ·rw[Zh,XW];exact(ih.filter _).imp λ{a b} mx e=>mx (by injection e)
  ·subst e;obtain⟨T,_,rfl⟩:=WT.mp hy;have:=((lZ jl s2).mp hx).2 p WO;have:=s1 p this;lia
theorem mf:∀{ps:List NN},(dU ps).length<=2 ^ ps.length
 |[]=>WD _
 |p::ps=>by
  have ih:=mf (ps:=ps);have:=X2 (λS=>decide (S.filter (λq=>hE q p)=[])) (dU ps);unfold dU rd;rw[Xi,WB,WS,ZS];lia
theorem qN {n:Nat}(hp:∀p∈ps,p.1<p.2/\p.2<n)(hs:ps.Pairwise λp q=>p.1<q.1\/(p.1=q.1/\p.2<q.2)):S∈dU ps↔pG ps 0 n S:=by
 rw[lZ (λp h=>(hp p h).1) hs];exact⟨λMf=> by obtain⟨a,b⟩ := Mf;exact⟨a,λp h=>⟨b p h,WV _,(hp p (b p h)).2⟩⟩,λs=>⟨s.pw,λp h=>(s.of p h).1⟩⟩
theorem Fg {n:Nat}(hp:∀p∈ps,p.1<p.2/\p.2<n)(nd:ps.Nodup)(hs:ps.Pairwise λp q=>p.1<q.1\/(p.1=q.1/\p.2<q.2)):dy (mX ps 0 n) (dU ps)=cL ps 0 n:=by
 have jl:=λp h=>(hp p h).1;rw[<- Gw jl nd n 0 n (by lia)]
 exact pq ((ZY (wG jl hs) (AW jl nd _ _ _ (by lia))).mpr λS=>(qN hp hs).trans (bP jl _ _ _ _ (by lia)).symm)
include hp in
theorem ET:∀(l i j:Nat),j-i<=l->pG ps i j (mD ps w1 i j):=by
 intro l
 induction l with
 |zero=>intro i j h;rw[iY (by lia)];exact .nil
 |succ l ih =>
  intro i j h
  by_cases aF:i<j
  ·rw[oU hp aF];have hm:=cO (fu (w:=w1) hp aF);cases hc:fT ps w1 i j with
   |none=>exact(gb hp aF).mpr (.inl (ih _ _ (by lia)))
   |some k =>
    rw[hc]at hm;obtain⟨h1,h2,_⟩:=hm;have h3:=hp _ h1;dsimp only at h3;exact(gb hp aF).mpr (.inr ⟨k,_,_,h1,h2,rfl,ih _ _ (by lia),ih _ _ (by lia)⟩)
  ·rw[iY aF];exact .nil
end
theorem GY (S:List NN):pM S=lD (S.map tI):=by unfold pM lD;rw[XD];rfl
theorem C8 (L:List (List NN)):L.map pM=(L.map λS=>S.map tI).map lD:=by
 rw[XD];exact Xe λS _=>GY S
def BV:FD:=λds R=>∃p q:NN,ds=[kD (tI p),kD (tI q)]/\R (.bl (fX p.1 p.2 q.1 q.2))
theorem BV.mono:c5 BV:=λds R R' k h=>by obtain⟨p,q,e,h⟩:=h;exact⟨p,q,e,k _ h⟩
def BS:FD:=λds R=>∃p q:NN,ds=[kD (tI p),kD (tI q)]/\R (.bl (hE p q))
theorem BS.mono:c5 BS:=λds R R' k h=>by obtain⟨p,q,e,h⟩:=h;exact⟨p,q,e,k _ h⟩
def gX (ps:List NN):List (List (List Int)):=xD ((dU ps).map λS=>S.map tI)
def tJ:FD:=λds R=>∃n ps,ds=[kG n ps]/\ps.length<=8/\R (.lst ((gX ps).map lD))
theorem tJ.mono:c5 tJ:=λds R R' k h=>by obtain⟨n,ps,e,h1,h⟩:=h;exact⟨n,ps,e,h1,k _ h⟩
theorem Em (p q:NN):hE p q=(decide ((p.1:Int)∈[(q.1:Int),(q.2:Int)]) || (decide ((p.2:Int)∈[(q.1:Int),(q.2:Int)]) || fX p.1 p.2 q.1 q.2)):=by
 have e:∀a b c:Nat,decide ((a:Int)∈[(b:Int),(c:Int)])=(decide (a=b) || decide (a=c)):=λa b c=>by
  rw[<- Bool.decide_or];refine decide_eq_decide.mpr ?_;simp only[WG,XU,or_false];lia
 rw[e,e];unfold hE;simp only[Bool.or_assoc]
theorem rj {ps:List NN}:B_ [.lst ((dU ps).map pM)]=(if (dU ps).length<=1000000 then some (.lst ((gX ps).map lD)) else none):=by
 rw[C8];show (su _).bind _=_;rw[oG λks hk k Ga=>?_,Yu,WB]
 ·rfl
 ·obtain⟨S,_,rfl⟩:=WT.mp hk;obtain⟨p,_,rfl⟩:=WT.mp Ga;exact List.cons_ne_nil _ _
def gM (p:NN)(L:List (List NN)):List (List NN):=(L.filter λS=>decide (S.filter (λq=>hE q p)=[])).map (p::·)
theorem yP {ps:List NN}{m:Nat}{p:NN}(h:ps.reverse[m]?=some p):dU (ps.drop (ps.length-(m+1)))=dU (ps.drop (ps.length-m))++gM p (dU (ps.drop (ps.length-m))):=by
 have hm:=(W3.mp h).1;rw[List.length_reverse]at hm;rw[List.getElem?_reverse hm]at h;have hd:ps.drop (ps.length-(m+1))=p::ps.drop (ps.length-m):=by
  rw[XE (by lia),show ps.length-(m+1)+1=ps.length-m by lia]
  have e2:ps.length-1-m=ps.length-(m+1):=by lia
  rw[e2]at h;rw[(W3.mp h).2]
 rw[hd];rfl
theorem u5 {p:NN}{L:List (List NN)}{S:List NN}:gM p (L++[S])=gM p L++if S.filter (λq=>hE q p)=[] then [p::S] else []:=by
 unfold gM;rw[XN,Xl]
 congr 1
 by_cases h:S.filter (λq=>hE q p)=[]
 ·rw[if_pos h,Xr,if_pos (decide_eq_true h)];rfl
 ·rw[if_neg h,Xr,if_neg (by rw[decide_eq_true_eq];exact h)];rfl
theorem oJ {p:NN}{L:List (List NN)}:(gM p L).length<=L.length:=by unfold gM;rw[WB];exact X2 _ _
theorem Im {ps:List NN}{S:List NN}:S∈dU ps->S.length<=ps.length:=by
 induction ps generalizing S with
 |nil=>intro h;rw[WN.mp h];exact WD _
 |cons p ps ih =>
  intro h;rcases oB.mp h with h|⟨T,hT,_,rfl⟩
  ·exact Nat.le_succ_of_le (ih h)
  ·exact Nat.succ_le_succ (ih hT)
end L2.Q
namespace ku
open PySem L2 L2.Q
section
variable {P:WI}{w:W6}{K:PySem.W.Frag}{mg:Str->Option WC}{base:Heap}
theorem cz:aK ["one","other","a","b","c","d"] ["one","other"] (ay d4):=⟨rfl,rfl,rfl,by decide +kernel,rfl,by decide +kernel,by decide +kernel⟩
theorem HW {tq km} (CT:OB K mg tq km):aM P w K mg base bZ 1 tq km ["one","other"] (dX P w true BV):=by
 refine qQ CT.F cz (λds R Me=> by obtain⟨t,u,e,_⟩ := Me;subst e;rfl) λcJ A outer s H E hr=>⟨_,(aj (qc (ab (i:=0)) (cg (n:=2) rfl (aG (ak (i:=2) cz.nd) (aG (ak (i:=3) cz.nd) bK))))
    (aj (qc (ab (i:=1)) (cg (n:=2) rfl (aG (ak (i:=4) cz.nd) (aG (ak (i:=5) cz.nd) bK))))
    (ao (aY (Ar (rO (ab (i:=2)) (iJ eG (ab (i:=4)) (iJ eG (ab (i:=3)) (wb eG (ab (i:=5)))))) (p_ (rO (ab (i:=4)) (iJ eG (ab (i:=2)) (iJ eG (ab (i:=5)) (wb eG (ab (i:=3)))))))))))),λds R h=>?_⟩
 obtain⟨⟨a,b⟩,⟨c,d⟩,rfl,q⟩:=h;refine⟨_,rfl,_,rfl,rfl,_,_,rfl,_,_,rfl,rfl,?_⟩;refine⟨_,rfl,_,rfl,rfl,_,_,rfl,_,_,rfl,rfl,?_⟩;refine Cm (a:=a) (b:=c) (c:=b) (d:=d) rfl rfl rfl rfl ⟨_,rfl,SV (λh=>⟨trivial,?_⟩) (λh=>Cm (a:=c) (b:=a) (c:=d) (d:=b) rfl rfl rfl rfl ⟨trivial,?_⟩)⟩
 ·have:fX a b c d=true:=by unfold fX;rw[h];rfl
  rw[<- this];exact q
 ·have:fX a b c d=(decide ((c:Int)<a)&&(decide ((a:Int)<d)&&decide ((d:Int)<b))):=by unfold fX;rw[h];rfl
  rw[<- this];exact q
theorem rC:aK ["one","other"] ["one","other"] (ay fe):=⟨rfl,rfl,rfl,by decide +kernel,rfl,by decide +kernel,by decide +kernel⟩
theorem HS {yB o8} (Gu:RW K mg yB o8) {tq km} (CT:OB K mg tq km):aM P w K mg base bZ 2 yB o8 ["one","other"] (dX P w true BS):=by
 have V0:aM P w K mg base bZ 1 _ _ _ (dX P w true BV):=HW CT;refine qQ Gu.F rC (λds R Md=> by obtain⟨t,u,e,_⟩ := Md;subst e;rfl) λcJ A outer s H E hr=>⟨_,(ao (aY (Ar (g_ af (b8.m (AF hr.vJ)) (aO af br (ab (i:=0)) ag) (ab (i:=1))) (Ar (g_ af (b8.m (AF hr.vJ)) (aO af br (ab (i:=0)) ag) (ab (i:=1))) (p_ (aW BV.mono V0 (hr.mono (by decide)) CT.m CT.F.kp CT.b (aa (ab (i:=0)) (aa (ab (i:=1)) ae)))))))),λds R h=>?_⟩
 obtain⟨p,q,rfl,h⟩:=h;rw[Em]at h;refine⟨_,rfl,trivial,_,rfl,trivial,_,rfl,_,Ce p.1 (tI q),_,rfl,m_ (λz=>⟨trivial,?_⟩) (λz=>⟨_,rfl,trivial,_,rfl,trivial,_,rfl,_,Ce p.2 (tI q),_,rfl,m_ (λz2=>⟨trivial,?_⟩) (λz2=>⟨_,rfl,trivial,_,rfl,trivial,p,q,rfl,trivial,?_⟩)⟩)⟩
 ·rw[decide_eq_true (show (p.1:Int)∈[(q.1:Int),(q.2:Int)] from z)]at h
  exact h
 ·rw[decide_eq_true (show (p.2:Int)∈[(q.1:Int),(q.2:Int)] from z2),Bool.true_or,Bool.or_true]at h
  exact h
 ·rw[decide_eq_false (show ¬ (p.1:Int)∈[(q.1:Int),(q.2:Int)] from z),decide_eq_false (show ¬ (p.2:Int)∈[(q.1:Int),(q.2:Int)] from z2)]at h
  exact h
theorem cK:aK ["row","found","tie","more","some"] ["row"] (ay gj):=⟨rfl,rfl,rfl,by decide +kernel,rfl,by decide +kernel,by decide +kernel⟩
theorem D_ {E1 wZ} (Kh:Tz K mg E1 wZ) {yB o8} (Gu:RW K mg yB o8) {tq km} (CT:OB K mg tq km) (B:ze mg):aM P w K mg base bZ 3 E1 wZ ["row"] (dX P w false tJ):=by
 have VW:aM P w K mg base bZ 2 _ _ _ (dX P w true BS):=HS Gu CT;refine qQ Kh.F cK (λds R Mc=> by obtain⟨n,ps,e,_⟩ := Mc;subst e;rfl) λcJ A outer s H E hr=>⟨_,(aj (a9 (i:=1) (bh (aa (bh ae) ae)) cK.nd)
    (aj (b9 XM rfl (a_ (DF (aO af br (ab (i:=0)) ag))) (ak (i:=2) cK.nd) (aj (fh (i:=3) (λ_=>(bh ae)) cK.nd)
    (aj (b9 XM rfl (a_ (ab (i:=1))) (ak (i:=4) cK.nd) (ao (cv (aS af (b8.m (cq hr.units)) (LG ["one","tie"] [none,some 2] (by rfl) (by decide:(["one","tie"]:List Str).Nodup) rfl (a_ (ab (i:=4))) (λ_ _ _ _ _ _=>(ak (i:=0) (by decide:(["one","tie"]:List Str).Nodup))) (λ_ _ _ _ _ _=>(jo (gq (aW BS.mono VW (hr.mono (by decide)) Gu.m Gu.F.kp Gu.b (aa (ab (i:=0)) (aa (ab (i:=1)) ae)))))) (λ_ _ _ _ _ _=>(ab (i:=0)))) (bh ae)) (ao (cM (i:=3) (λ_=>(aH aL aC (bh (aa (ab (i:=2)) ae)) (ab (i:=4)))))) a5)))
    (ao (a9 (i:=1) (aH aL aC (ab (i:=1)) (As (i:=3))) cK.nd)))))
    (ao (aY (ba af (bH.m (qK hr.vK)) B.sorted jN (aa (ab (i:=1)) ae)))))),λds R h=>?_⟩
 obtain⟨n,ps,rfl,hl,q⟩:=h;refine⟨WV _,trivial,CK,?_⟩;refine⟨_,rfl,trivial,_,rfl,.inr ⟨_,rfl,.inr ⟨_,rfl,trivial,?_⟩⟩⟩;have jH:∀m,(dU (ps.drop m)).length<=256:=λm=>Xo mf (Xo (YQ (by decide) (show (ps.drop m).length<=8 by rw[Zm];lia)) (by decide))
 refine⟨λm β=>∃x2 x3 x4,β=[some (.val false (kG n ps)),some (.val true (.lst ((dU (ps.drop (ps.length-m))).map pM))),x2,x3,x4],⟨_,_,_,by rw[Nat.sub_zero,List.drop_length];rfl⟩,?_,?_⟩
 ·rintro m d β hd ⟨x2,x3,x4,rfl⟩;rw[<- List.map_reverse,WU]at hd;obtain⟨p,I_,rfl⟩:=W8.mp hd;have ea:=yP I_;have hL:=jH (ps.length-m);generalize Vf:dU (ps.drop (ps.length-m))=L at ea hL ⊢
  refine⟨WV _,trivial,?_⟩;refine⟨_,rfl,_,rfl,trivial,?_⟩;refine⟨λk β=>k<=L.length/\∃x4,β=[some (.val false (kG n ps)),some (.val true (.lst (L.map pM))),some (.val false (kD (tI p))),some (.own (.lst ((gM p (L.take k)).map pM))),x4],⟨WV _,_,rfl⟩,?_,?_⟩
  ·rintro k d β hd ⟨_,x4,rfl⟩;rw[WU]at hd;obtain⟨S,hS,rfl⟩:=W8.mp hd;have hk:=(W3.mp hS).1;have Ws:S.length<=8:=by
    have:=Im (S:=S) (ps:=ps.drop (ps.length-m)) (by rw[Vf];exact XB hS)
    rw[Zm]at this;lia
   have et:L.take (k+1)=L.take k++[S]:=by rw[X_,hS];rfl
   have es:=u5 (p:=p) (L:=L.take k) (S:=S);rw[<- et]at es;have Wm:(gM p (L.take k)).length<=256:=Xo oJ (by rw[Xj];lia)
   refine⟨_,rfl,_,rfl,trivial,?_⟩;refine eK (λq=>hE q p) (λq=>kD (tI q)) trivial (by rw[XO];lia) (λq hq x0 o J ho j1 j2=>?_) ?_
   ·exact⟨_,rfl,trivial,_,rfl,trivial,q,p,rfl,_,rfl,SV (λh=>⟨_,rfl,wV _,ho,j1 h _⟩) (λh=>j2 h _)⟩
   ·have e0:JC (.lst ((S.filter λq=>hE q p).map λq=>kD (tI q))) (.lst [])=some (.bl (decide ((S.filter λq=>hE q p)=[]))):=by
     have:=Cf ((S.filter λq=>hE q p).map tI) [];rw[XD]at this;rw[show (λq:NN=>kD (tI q))=kD ∘ tI from rfl]
     rw[show (D.lst [])=D.lst (([]:List (List Int)).map kD) from rfl,this]
     congr 2
     exact decide_eq_decide.mpr List.map_eq_nil_iff
    refine⟨trivial,WV _,_,e0,_,rfl,m_ (λh=>?_) (λh=>?_)⟩
    ·rw[if_pos h]at es;have a1:Cg (.lst [kD (tI p)]) (pM S)=some (pM (p::S)):=mS (by rw[WB];show 1+_<=_;lia)
     refine⟨⟨_,rfl⟩,_,rfl,trivial,CK,.inl ⟨⟨wV _,trivial⟩,trivial,_,rfl,_,a1,.inl ⟨sV,trivial,_,rfl,by rw[WB];exact jT (by lia),hk,_,by rw[es,Xl];rfl⟩⟩⟩
    ·rw[if_neg h,XY]at es;exact⟨hk,_,by rw[es];rfl⟩
  ·rintro β ⟨_,x4,rfl⟩;rw[WB,Yv];have a2:Cg (.lst (L.map pM)) (.lst ((gM p L).map pM))=some (.lst ((L++gM p L).map pM)):=by
    rw[Xl];exact mS (by rw[WB,WB];have:=oJ (p:=p) (L:=L);lia)
   exact⟨_,rfl,trivial,_,rfl,_,a2,.inr ⟨_,_,_,by rw[ea];rfl⟩⟩
 ·rintro β ⟨x2,x3,x4,rfl⟩;rw[List.length_reverse,WB,ZR,List.drop_zero];exact⟨_,rfl,trivial,_,rj.trans (if_pos (by have:=jH 0;rw[List.drop_zero]at this;lia)),.inr ⟨trivial,q⟩⟩
end
section
variable {P:WI}{w:W6}{K:PySem.W.Frag}{mg:Str->Option WC}{base:Heap}
theorem rB:aK ["found","due"] ["found","due"] (ay fc):=⟨rfl,rfl,rfl,by decide +kernel,rfl,by decide +kernel,by decide +kernel⟩
def fS:Nat->FD
 |0=>λ_ _=>False
 |n+1=>ib n
theorem fS.mono:∀{n:Nat},c5 (fS n)
 |0=>λ_ _ _ _ h=>h
 |_+1=>ib.mono
theorem Lj {Jv vq} (dM:RV K mg Jv vq) (B:Bs2 mg):∀n:Nat,aM P w K mg base bZ n Jv vq ["found","due"] (dX P w true (fS n)):=by
 intro n
 induction n with
 |zero=>exact⟨λ_ _ _ _ h=>by obtain⟨_,_,h⟩:=h;exact h.elim,λ_ _ _ _ _ _ _ _ _ _ _ _ _ h=>by obtain⟨_,_,h⟩:=h;exact h.elim⟩
 |succ n GM =>
  refine qQ dM.F rB (λds R Mb=> by obtain⟨d,e,_⟩ := Mb;subst e;rfl) λcJ A outer s H E hr=>⟨_,(aj (cv (gq (fM (v7 B.F2 (eF (i:=1)) B.list jf B.tuple tU))) (aj (cv (yQ.t (uS (p0 (gq (fM (v7 B.F2 (eF (i:=0)) B.list jf B.tuple tU)))) (pZ (aS af (b8.m (lT hr.units)) (fM (gn B.F2 (eF (i:=0)) B.list jf)) (fM (gn B.F2 (eF (i:=1)) B.list jf)))))) (ao (aY wg)) a5)
    (aj (cv (aS af (b8.m (lT hr.units)) (ba af (bH.m gG) B.len qM (aa (ab (i:=0)) ae)) (ba af (bH.m gG) B.len qM (aa (ab (i:=1)) ae))) (ao (aY wg)) a5)
    (ao (aY (g_ af (b8.m (cq hr.units)) (LG ["one","other"] [none,none] (by rfl) (by decide:(["one","other"]:List Str).Nodup) rfl (DE (DA B.zip (rK (eF (i:=0)) (rK (eF (i:=1)) DB)))) (λ_ _ _ _ _ _=>(cg (n:=2) rfl (aG (ak (i:=0) (by decide:(["one","other"]:List Str).Nodup)) (aG (ak (i:=1) (by decide:(["one","other"]:List Str).Nodup)) bK)))) (λ_ _ _ _ _ _=>(jo (p0 (gq (aW fS.mono GM (hr.mono (by lia)) dM.m dM.F.kp dM.b (aa (ab (i:=0)) (aa (ab (i:=1)) ae))))))) (λ_ _ _ _ _ _=>ag)) (bh ae)))))) a5)
    (aj (cv (gq (fM (gn B.F2 (eF (i:=1)) B.str Cr))) (ao (aY (uU (fM (gn B.F2 (eF (i:=0)) B.str Cr)) (p_ (g_ af (b8.m (cq hr.units)) (ab (i:=0)) (ab (i:=1))))))) a5)
    (aj (cv (aS af (b8.m qf) (ab (i:=1)) qa) (ao (aY (g_ af (b8.m qf) (ab (i:=0)) qa))) a5)
    (ao (aY (uU (fM (gn B.F2 (eF (i:=0)) B.int vD)) (uU (Hu (fM (gn B.F2 (eF (i:=0)) B.bool Fp))) (p_ (g_ af (b8.m (cq hr.units)) (ab (i:=0)) (ab (i:=1))))))))))),λds R h=>?_⟩
  obtain⟨d,rfl,hl,q⟩:=h;cases hl with
  |leaf hl =>
   cases hl with
   |int i =>
    refine⟨_,rfl,_,_,rfl,Eu,rfl,_,rfl,iX rfl ⟨_,rfl,_,_,rfl,kit_is,rfl,_,rfl,iX rfl ⟨_,rfl,trivial,_,rfl,_,rfl,iX rfl ?_⟩⟩⟩;exact⟨_,rfl,_,_,rfl,Iv,rfl,_,rfl,yZ rfl ⟨_,rfl,_,_,rfl,Iw,rfl,_,rfl,_,rfl,yZ rfl ⟨_,rfl,trivial,_,rfl,_,i7 (bC i),trivial,q⟩⟩⟩
   |str x hx =>
    refine⟨_,rfl,_,_,rfl,Es,rfl,_,rfl,iX rfl ⟨_,rfl,_,_,rfl,Bh,rfl,_,rfl,yZ rfl ?_⟩⟩;exact⟨_,rfl,_,_,rfl,Bh,rfl,_,rfl,yZ rfl ⟨_,rfl,trivial,_,rfl,_,i7 (xF x hx),trivial,q⟩⟩
   |bU =>
    refine⟨_,rfl,_,_,rfl,Et,rfl,_,rfl,iX rfl ⟨_,rfl,_,_,rfl,Iu,rfl,_,rfl,iX rfl ⟨_,rfl,trivial,_,rfl,_,rfl,yZ rfl ?_⟩⟩⟩;exact⟨_,rfl,trivial,_,rfl,trivial,q⟩
  | @tup _ es l hl =>
   refine⟨_,rfl,_,_,rfl,wK,rfl,_,rfl,yZ rfl ?_⟩;refine⟨_,rfl,_,_,rfl,wK,rfl,_,rfl,iX rfl ⟨_,rfl,_,_,rfl,Bg,rfl,trivial,_,rfl,_,_,rfl,Bg,rfl,_,eT (rp false),_,rfl,iX rfl ?_⟩⟩;refine⟨_,rfl,trivial,_,rfl,trivial,_,rfl,trivial,_,rfl,_,eT (bC _),_,rfl,iX rfl ?_⟩;refine⟨_,rfl,_,rfl,es,es,.inr rfl,trivial,?_⟩;refine⟨λi β o=>o=[]/\∃x0 x1,β=[x0,x1],⟨rfl,_,_,rfl⟩,?_,?_⟩
   ·rintro i d β o hd ⟨rfl,x0,x1,rfl⟩;obtain⟨a,ha,rfl⟩:=nQ (XB hd);have wR:=hl a ha;have hb:=wR
    clear ha hd
    cases hb with
    |leaf h=>cases h <;> exact⟨_,rfl,rfl,_,_,rfl,_,_,rfl,rfl,_,rfl,trivial,_,rfl,trivial,_,rfl,wR,_,rfl,iX rfl ⟨rfl,_,_,rfl⟩⟩
    |tup=>exact⟨_,rfl,rfl,_,_,rfl,_,_,rfl,rfl,_,rfl,trivial,_,rfl,trivial,_,rfl,wR,_,rfl,iX rfl ⟨rfl,_,_,rfl⟩⟩
    |lst=>exact⟨_,rfl,rfl,_,_,rfl,_,_,rfl,rfl,_,rfl,trivial,_,rfl,trivial,_,rfl,wR,_,rfl,iX rfl ⟨rfl,_,_,rfl⟩⟩
   ·rintro β o ⟨rfl,x0,x1,rfl⟩;exact⟨trivial,trivial,WV _,_,i7 (eZ []),trivial,q⟩
  | @lst _ es l hl =>
   refine⟨_,rfl,_,_,rfl,wL,rfl,_,rfl,yZ rfl ?_⟩;refine⟨_,rfl,_,_,rfl,wL,rfl,_,rfl,iX rfl ⟨_,rfl,_,_,rfl,Bi,rfl,trivial,_,rfl,_,_,rfl,Bi,rfl,_,eT (rp true),_,rfl,iX rfl ?_⟩⟩;refine⟨_,rfl,trivial,_,rfl,trivial,_,rfl,trivial,_,rfl,_,eT (bC _),_,rfl,iX rfl ?_⟩;refine⟨_,rfl,_,rfl,es,es,.inl rfl,trivial,?_⟩;refine⟨λi β o=>o=[]/\∃x0 x1,β=[x0,x1],⟨rfl,_,_,rfl⟩,?_,?_⟩
   ·rintro i d β o hd ⟨rfl,x0,x1,rfl⟩;obtain⟨a,ha,rfl⟩:=nQ (XB hd);have wR:=hl a ha;have hb:=wR
    clear ha hd
    cases hb with
    |leaf h=>cases h <;> exact⟨_,rfl,rfl,_,_,rfl,_,_,rfl,rfl,_,rfl,trivial,_,rfl,trivial,_,rfl,wR,_,rfl,iX rfl ⟨rfl,_,_,rfl⟩⟩
    |tup=>exact⟨_,rfl,rfl,_,_,rfl,_,_,rfl,rfl,_,rfl,trivial,_,rfl,trivial,_,rfl,wR,_,rfl,iX rfl ⟨rfl,_,_,rfl⟩⟩
    |lst=>exact⟨_,rfl,rfl,_,_,rfl,_,_,rfl,rfl,_,rfl,trivial,_,rfl,trivial,_,rfl,wR,_,rfl,iX rfl ⟨rfl,_,_,rfl⟩⟩
   ·rintro β o ⟨rfl,x0,x1,rfl⟩;exact⟨trivial,trivial,WV _,_,i7 (eZ []),trivial,q⟩
theorem DW {Jv vq} (dM:RV K mg Jv vq) (B:Bs2 mg) (n:Nat):aM P w K mg base bZ (n+1) Jv vq ["found","due"] (dX P w true (ib n)):=Lj dM B (n+1)
theorem nu:aK ["row"] ["row"] (ay dq):=⟨rfl,rfl,rfl,by decide +kernel,rfl,by decide +kernel,by decide +kernel⟩
theorem xZ {EZ wY} (Kg:Tx K mg EZ wY) (B:Bs mg):aM P w K mg base bZ 1 EZ wY ["row"] (dX P w true tF):=by
 refine qQ Kg.F nu (λds R Ma=> by obtain⟨n,ps,e,_⟩ := Ma;subst e;rfl) λcJ A outer s H E hr=>⟨_,(ao (aY (cn (aa (aO af br (ab (i:=0)) ag) (aa (jx aL tT B.list jf (aa (aO af br (ab (i:=0)) ag) ae)) ae))))),λds R h=>?_⟩
 obtain⟨n,ps,rfl,q⟩:=h;exact⟨_,rfl,trivial,_,rfl,trivial,_,rfl,trivial,_,rfl,.inr ⟨trivial,_,rfl,.inl ⟨sV,trivial,qZ,trivial,q⟩⟩⟩
end
end ku
namespace L2.Q
open PySem Oq
section
variable {ps:List NN}(hp:∀p∈ps,p.1<p.2)(hs:ps.Pairwise λp q=>p.1<q.1\/(p.1=q.1/\p.2<q.2))
include hs in
include hs in
include hp hs in
end
section
variable {ps:List NN}{n:Nat}(hp:∀p∈ps,p.1<p.2/\p.2<n)(hs:ps.Pairwise λp q=>p.1<q.1\/(p.1=q.1/\p.2<q.2))
theorem si {ks:List (List Int)}:ks∈gX ps↔∃S∈dU ps,S.map tI=ks:=by
 unfold gX;rw[(gc _).mem_iff,WT]
include hp hs in
theorem Js:(mD ps w1 0 n).map tI∈gX ps:=si.mpr ⟨_,(qN hp hs).mpr (ET (λp h=>(hp p h).1) _ _ _ (WD _)),rfl⟩
include hp hs in
theorem Fu:fo ((gX ps).map λks=>(ks.length:Int))=some (mX ps 0 n):=by
 have jl:=λp h=>(hp p h).1;refine wI (WT.mpr ⟨_,Js hp hs,by rw[WB];exact EU jl⟩) λx hx=>?_
 obtain⟨ks,hk,rfl⟩:=WT.mp hx;obtain⟨S,hS,rfl⟩:=si.mp hk;rw[WB];exact gW jl _ _ _ _ (WD _) ((qN hp hs).mp hS)
include hp hs in
include hp hs in
theorem Fv (nd:ps.Nodup):((gX ps).filter λks=>decide ((ks.length:Int)=mX ps 0 n)).length=cL ps 0 n:=by
 rw[<- Fg hp nd hs];unfold gX dy;rw[((gc _).filter _).length_eq,List.filter_map,WB]
 congr 1
 refine List.filter_congr λS _=>?_;show decide (((S.map tI).length:Int)=_)=_;rw[WB]
end
open PySem.Spec PySem.SeqAt PyProof.Rows
section
variable {X:Cx}{C:Cfg}{p p':Bool}{a b:Expr}{φa φb:aQ}{g:D->D->Option D}{name:Str}{id:String}{apos cpos:Pos}
def Sl (g:D->D->Option D)(pb:Bool)(φa φb:aQ):aQ:=λβ R=>φa β λx ka β1=>(∃ds,x=.lst ds)/\hold ka pb/\φb β1 λy kb β2=>∃d,g x y=some d/\kN NF d (ka.max kb) λk=>R d k β2
abbrev Nu (X:Cx)(id:String)(g:D->D->Option D):Prop:=RN X id λx xs H Q=>∃y,xs=[y]/\xS X g NF x y H Q
theorem K8 (slot:Slot "list" name id) (LZ:typeOf (.builtin id)=pure (.type "method_descriptor")) (hm:Nu X id g) (ha:PQ X C p a φa) (hb:PQ X C p' b φb)
  (dO:Y8 a name X.env (eval a X.env)=eval a X.env:=by rfl)
  (my:((YM cpos (WZ [b] X.env)).all (λx=>!x.1)&&(backToKw cpos (Z5 [] X.env)).all (λx=>x.1.isSome)
   && decide ([b].length+([]:List ZH).length+(if ([]:List ZH).isEmpty then 0 else 1)<30))=true:=by rfl)
  (dN:(apos.endLine==cpos.line)=true:=by rfl) (hs:WZ [b] X.env=(false,eval b X.env)::WZ [] X.env:=by rfl) (dJ:(YM cpos (WZ [] X.env)).any (·.1)=false:=by rfl) :
  PQ X C (p&&p') (.Call (.Attribute a name apos) [b] [] cpos) (Sl g p' φa φb) :=
 ⟨λβ R R' k h=>ha.mono β _ _ (λx ka β1 hx=>⟨hx.1,hx.2.1,hb.mono β1 _ _ (λy kb β2 hq=>by obtain⟨d,e,q⟩:=hq;exact⟨d,e,q.mono λ_ z=>k _ _ _ z⟩) hx.2.2⟩) h,
  (wy PySem.F.plainAttrs_list slot LZ hm ha.pe (bf hb.pe cN (hs:=hs)) dO my dN hs dJ).pre λσ H Q hq=>by
    obtain⟨β,own,s,h⟩:=hq;refine tQ.of ha s h λd1 k1 β1 v1 H1 aE hx o1 r1=>?_;obtain⟨⟨ds,rfl⟩,hh,h1⟩:=hx;refine⟨?_,tQ.of hb o1.sq h1 λd2 k2 β2 v2 H2 aX vh o2 r2=>?_⟩
    · obtain⟨l,vs,rfl,hl,_⟩:=r1.rep;exact .inl ⟨rfl,vs,c0.of hl⟩
    · obtain⟨d,e,q⟩:=vh;have Dz:=r1.ho o2 hh;refine⟨v2,rfl,av C (Wn aX) (k1.max k2),.lst ds,d2,d,o2.sq.za _,az.aV cF Dz.rep,az.aV eE r2.rep,e,λv H' s3 r3 n3=>?_⟩;have o:=(o1.trans o2).same s3;obtain⟨k,q,r⟩:=KV.kN (Z:=(H,Wn own)) AY r3 (λn=>gw (H:=H2) o2.sq.y_ o2.sq.iu (λa z=>o2.sn.d a (o1.sn.d a z)) (af.nl _ n) (n3 n)) q;exact q v H' aX o r⟩
def JD (a b:D):Option D:=a.sA.bind λds=>(gR ds).bind λns=>b.int?.map λk=>.int (ns.count k:Nat)
theorem AZ:Nu X "list.count" JD:=by
 intro pins s σ H x xs v us Q I rx rs h;obtain⟨y,rfl,W,d1,d2,d,hd,r1,r2,e,q⟩:=h;obtain⟨ds,e1,e2⟩:=Xu.mp e;obtain⟨ns,e3,e4⟩:=Xu.mp e2;obtain⟨k,e5,rfl⟩:=W8.mp e4;rw[D.iR e1,i4 e3]at r1;rw[D.qu e5]at r2;obtain⟨l,vs,rfl,hl,_,rv⟩:=r1;rw[_root_.L2.bM rv]at hl;cases (show v=.ref l from rx)
 obtain⟨u,rfl,ru⟩:=vals1 rs;cases (show y=.int k from r2)
 obtain⟨t,rfl⟩:=ru;obtain⟨its,r',pl,_⟩:=I.list (c0.of hl);refine count_list_ints pl.isList (intsAre_of r') ?_;exact⟨.int (ns.count k:Nat),H,I.tok _,⟨_,rfl⟩,q _ _ (au.refl _) rfl λ_=>rfl⟩
theorem Au (ha:PQ X C p a φa) (hb:PQ X C p' b φb) (dO:Y8 a "count" X.env (eval a X.env)=eval a X.env:=by rfl)
  (my:((YM cpos (WZ [b] X.env)).all (λx=>!x.1)&&(backToKw cpos (Z5 [] X.env)).all (λx=>x.1.isSome)
   && decide ([b].length+([]:List ZH).length+(if ([]:List ZH).isEmpty then 0 else 1)<30))=true:=by rfl)
  (dN:(apos.endLine==cpos.line)=true:=by rfl) (hs:WZ [b] X.env=(false,eval b X.env)::WZ [] X.env:=by rfl) (dJ:(YM cpos (WZ [] X.env)).any (·.1)=false:=by rfl) :
  PQ X C (p&&p') (.Call (.Attribute a "count" apos) [b] [] cpos) (Sl JD p' φa φb):=K8 PySem.F.slot_list_count PySem.F.type_list_count AZ ha hb dO my dN hs dJ
end
end L2.Q
namespace ku
open PySem L2 L2.Q
section
variable {P:WI}{w:W6}{K:PySem.W.Frag}{mg:Str->Option WC}{base:Heap}
theorem Ha {ps:List (Nat×Nat)}(h:t7 (ps.map tI))(nd:ps.Nodup):ps.Pairwise λp q=>p.1<q.1\/(p.1=q.1/\p.2<q.2):=by
 have h1:=XW.mp h;refine(h1.and nd).imp λ{p q} hh=>?_;obtain⟨z,ne⟩:=hh;have z:(if (q.1:Int)=p.1 then (if (q.2:Int)=p.2 then HT.lexLt [] [] else decide ((q.2:Int)<p.2)) else decide ((q.1:Int)<p.1))=false:=z
 by_cases e1:(q.1:Int)=p.1
 ·rw[if_pos e1]at z
  by_cases e2:(q.2:Int)=p.2
  ·exact absurd (Prod.ext (by lia) (by lia)) ne
  ·rw[if_neg e2]at z;have:=of_decide_eq_false z;lia
 ·rw[if_neg e1]at z;have:=of_decide_eq_false z;lia
theorem fJ:aK ["script","cell","hand","row","due","sizes","handed","again"] ["script"] (ay lH):=⟨rfl,rfl,rfl,by decide +kernel,rfl,by decide +kernel,by decide +kernel⟩
def zN (K:PySem.W.Frag):Sp:=λvs H Q _=>∃(a:Addr) (ns:List Int),vs=[.ref a]/\c0 K H a (ns.map V.int)/\ns.length<=63/\∀H',Q (.bl true) H'
def JL (β:Q.a7):Prop:=∃y0 y1 y2 y3 y4 y5 y6 y7:Option Q.B,β=[y0,y1,y2,y3,y4,y5,y6,y7]
theorem HU {f:Addr} {fd:Xx} (F:CW K "law" "law" lH f fd) (B:ze mg) {EY wX} (Kf:TC K mg EY wX) {yz o4} (Gq:RX K mg yz o4) {td kc} (CQ:OC K mg td kc) {yA o7} (Gr:RZ K mg yA o7) {tm ki} (zc:D8 K mg tm ki) {nJ gP} (um:D5 K mg nJ gP) {nH gO} (uk:D4 K mg nH gO) {nK gQ} (zb:D7 K mg nK gQ) {iZ ee} (pk:D6 K mg iZ ee) {tj kh} (xb:D9 K mg tj kh) {yC o9} (Gv:RY K mg yC o9) {tf kg} (CS:OD K mg tf kg) {Vw Rn} (dH:V5 K mg Vw Rn) {Ju vp} (dT:D1 K mg Ju vp) {Gk s_} (dA:D0 K mg Gk s_) {Kb yy} (dI:D2 K mg Kb yy) {Oh EW} (dR:D3 K mg Oh EW) {Jv vq} (dM:RV K mg Jv vq) {EX wW} (Ke:TB K mg EX wW) {EZ wY} (Kg:Tx K mg EZ wY) {E1 wZ} (Kh:Tz K mg E1 wZ) {yB o8} (Gu:RW K mg yB o8) {tq km} (CT:OB K mg tq km):aM P w K mg base bZ 45 f fd ["script"] (zN K):=by
 have GH:aM P w K mg base bZ 1 _ _ _ (dX P w true tE):=Jn (DX dH.F ⟨B.max,B.min,B.int⟩);have GR:aM P w K mg base bZ 4 _ _ _ (kB P w jk true BR):=HR dR dT dA dI B.toBs;have VU:aM P w K mg base bZ 1 _ _ _ (dX P w true tx):=DV Ke B;have V3:aM P w K mg base bZ 3 _ _ _ (dX P w false tJ):=D_ Kh Gu CT B;have V1:aM P w K mg base bZ 1 _ _ _ (dX P w true tF):=xZ Kg B.toBs;have VY:aM P w K mg base bZ 5 _ _ _ (dX P w true BU):=HV Kf Gr zc um uk zb pk xb Gv CS Gq CQ B;have GM:aM P w K mg base bZ 1 _ _ _ (dX P w true (ib 0)):=DW dM B.toBs2 0;refine F.ok fJ (λvs H Q E h=>?_) (λcJ A outer s H vs Qk E hr h=>?_)
 ·obtain⟨a,ns,rfl,_⟩:=h;rfl
 ·obtain⟨a,ns,rfl,hS,hlen,k⟩:=h;have QX:∀b:Addr,¬ (λ_=>False) b:=λb z=>z;obtain⟨ψ,hb,hψ⟩:∃ψ,Q.xo (nM bZ P w K mg base _ "law" (ay lH) f cJ A outer s H E).FR ⟨H,λ_=>False,true,λ_=>False⟩ (match (eD lH)with | .For _ _ b _ _::_=>b|_=>[]) ψ /\
    ∀(c:Int) (x0 x2 x3 x4 x5 x6 x7:Option Q.B),ψ {nx:=JL,rt:=λd _=>d=.bl true,bk:=JL,ct:=JL} [x0,some (.val true (.int c)),x2,x3,x4,x5,x6,x7]:=by
   refine⟨_,(aj (DL (i:=2) jk QX (λ_=>(aW tE.mono GH (hr.mono (by decide)) dH.m dH.F.kp dH.b (aa (ab (i:=1)) ae))) fJ.nd)
    (aj (a9 (i:=3) (bO (ih:=2) BR.mono GR (hr.mono (by decide)) dR.m dR.F.kp dR.b ae) fJ.nd)
    (aj (a9 (i:=4) (aO af br (aO af br (aO af br (aW tx.mono VU (hr.mono (by decide)) Ke.m Ke.F.kp Ke.b (aa (ab (i:=3)) ae)) ag) (aO af br (ab (i:=3)) ag)) ag) fJ.nd)
    (fg (cv (aS af (b8.m eG) (ba af (bH.m gG) B.len qM (aa (aO af br (ab (i:=3)) ag) ae)) ag) (aj (rF (i:=5) false ["some"] [none] (by rfl) (by decide:(["some"]:List Str).Nodup) rfl (λ_=>(a_ (aW tJ.mono V3 (hr.mono (by decide)) Kh.m Kh.F.kp Kh.b (aa (ab (i:=3)) ae)))) (λ_ _ _ _ _ _=>(ak (i:=0) (by decide:(["some"]:List Str).Nodup))) (λ_ _ _ _ _ _=>c7) (λ_ _ _ _ _ _=>(ba af (bH.m gG) B.len qM (aa (ab (i:=0)) ae))) fJ.nd)
    (ao (cv (aS af (b8.m (lT hr.units)) (Au (ab (i:=5)) (ba af (bH.m (jM rfl)) B.max mY (aa (ab (i:=5)) ae))) (ab (i:=4))) (ao (aY wg)) a5))) a5)
    (aj (a9 (i:=6) (aW tF.mono V1 (hr.mono (by decide)) Kg.m Kg.F.kp Kg.b (aa (ab (i:=3)) ae)) fJ.nd)
    (ao (b9 XM rfl (bg B.range (aa ag ae)) (ak (i:=7) fJ.nd) (ao (cv (yQ.t (uS (p0 (gq (aW ib.mono GM (hr.mono (by decide)) dM.m dM.F.kp dM.b (aa (aW BU.mono VY (hr.mono (by decide)) Kf.m Kf.F.kp Kf.b (aa (ab (i:=6)) ae)) (aa (ab (i:=4)) ae))))) (pZ (aS af (b8.m (lT hr.units)) (ab (i:=6)) (ab (i:=3)))))) (ao (aY wg)) a5))))))))),λc x0 x2 x3 x4 x5 x6 x7=>?_⟩
   refine⟨_,rfl,trivial,c,rfl,λns hk=>⟨trivial,(by show 2<8;decide),ns,rfl,hk,?_⟩⟩
   refine⟨rfl,rfl,trivial,rfl,λn ts n0 n1 dr=>?_⟩;obtain⟨hl,tr,sr,nd⟩:=dr;obtain⟨m,ps,ok,en,VA,er⟩:=Du n0 (by lia) (by lia) tr nd
   rw[er];rw[VA]at sr;have hs:=Ha sr ok.nd;have hm:m<=40:=by lia
   have hp:∀p∈ps,p.1<p.2:=λp hp=>(ok.lt p hp).1;have Bv:tN (dj m (Al ps)) (.int (0:Nat))=some (.lst ((WK (m+1)).map λy=>Al ps 0 y)):=j9 rfl (bc (by lia))
   have Od:tN (.lst ((WK (m+1)).map λy=>Al ps 0 y)) (.int (m:Int))=some (.tup [.int (mX ps 0 m),.int (cL ps 0 m:Int)]):=j9 rfl (by rw[bc (by lia)];rfl)
   refine⟨_,rfl,trivial,m,ps,rfl,ok,hm,trivial,_,Bv,.inr ⟨trivial,_,rfl,trivial,_,rfl,_,Od,trivial,_,rfl,?_⟩⟩;refine⟨λβ=>∃x5:Option Q.B,β=[x0,some (.val true (.int c)),some (.hand jk),some (.val true (kG m ps)),some (.val true (.int (cL ps 0 m:Int))),x5,x6,x7],?_,?_⟩
   ·refine⟨_,rfl,trivial,_,rfl,.inr ⟨trivial,_,rfl,trivial,_,rfl,_,rfl,m_ (λeV=>?_) (λ_=>⟨_,rfl⟩)⟩⟩;have S_:ps.length<=8:=by
     rw[WB]at eV;lia
    have hA:(gX ps).length<=256:=by
     unfold gX;rw[(gc _).length_eq,WB];exact Xo mf (Xo (YQ (by decide) S_) (by decide))
    have hlen:∀ks:List (List Int),Nc [lD ks]=some (.int (ks.length:Int)):=λks=>by show some (D.int (((ks.map kD).length:Nat):Int))=_;rw[WB]
    refine⟨_,rfl,trivial,m,ps,rfl,S_,_,rfl,trivial,?_⟩;refine eK (λ_=>true) (λks=>.int (ks.length:Int)) trivial (fx (by lia)) (λks hk y0 o J ho h1 _=>?_) ?_
    ·exact⟨_,rfl,trivial,_,hlen ks,trivial,ho,h1 rfl _⟩
    rw[bG];have em:cU fo [.lst ((gX ps).map λks=>D.int (ks.length:Int))]=some (.int (mX ps 0 m)):=by
     have:=oC (Fu ok.lt hs);rw[XD]at this;exact this
    have ec:JD (.lst ((gX ps).map λks=>D.int (ks.length:Int))) (.int (mX ps 0 m))=some (.int (cL ps 0 m:Int)):=by
     have e1:((gX ps).map λks=>D.int (ks.length:Int))=((gX ps).map λks=>(ks.length:Int)).map D.int:=by rw[XD];rfl
     rw[e1];show (gR _).bind _=_;rw[gE];show some (D.int ((List.count (mX ps 0 m) ((gX ps).map λks=>(ks.length:Int)):Nat):Int))=_;rw[<- Fv ok.lt hs ok.nd,List.count_eq_countP,List.countP_map,List.countP_eq_length_filter];rfl
    exact⟨_,rfl,⟨_,rfl⟩,trivial,_,rfl,trivial,_,em,_,ec,trivial,_,rfl,_,eT (bC _),_,rfl,iX rfl ⟨_,rfl⟩⟩
   ·rintro β ⟨x5,rfl⟩;refine⟨_,rfl,trivial,m,ps,rfl,?_⟩;refine⟨trivial,2,rfl,by decide,by decide,trivial,?_⟩
    refine⟨λ_ β=>∃x7:Option Q.B,β=[x0,some (.val true (.int c)),some (.hand jk),some (.val true (kG m ps)),some (.val true (.int (cL ps 0 m:Int))),x5,some (.val true (kG m ps)),x7],⟨_,rfl⟩,?_,?_⟩
    ·rintro j d β hd ⟨x7,rfl⟩;obtain⟨_,rfl⟩:=cb hd;have eh:hT ps m 0=(cL ps 0 m:Int):=congrArg Nat.cast (MO hp ok.nd);refine⟨_,rfl,trivial,m,ps,rfl,ok,hm,?_⟩;rw[eh];exact⟨trivial,_,rfl,trivial,_,rfl,.int,_,rfl,iX rfl ⟨_,rfl,trivial,_,rfl,_,eT (zR m ps),_,rfl,iX rfl ⟨_,rfl⟩⟩⟩
    ·rintro β ⟨x7,rfl⟩;exact⟨_,_,_,_,_,_,_,_,rfl⟩
  refine⟨_,dF (Ai XM rfl (wt (cW AI (uW (bf (cW qe a8 a8) cN)) (rQ vU (pv 0) wm (wj a8)))) (Q.ak (C:=⟨H,λ_=>False,true,λ_=>False⟩) (i:=1) fJ.nd).pg hb.ps) (iH (jw FN)),?_⟩;obtain⟨ms,em,hm⟩:=yF ns none (some 6);refine⟨_,_,rfl,rfl,Av,(by show 1<=W7;decide),λp1 MK=>⟨_,rfl,_,rfl,a,_,rfl,(au.new MK).seq hS,λp2 N3=>?_⟩⟩
  have UG:p1≠p2:=cu aw N3;refine⟨p1,p2,_,_,rfl,rfl,(by rw[ar UG];exact aw),aw,(by rw[em,WB,XO,Y9];lia),λl hl=>⟨l,rfl,⟨_,c0.of aw⟩,?_⟩⟩
  rw[em];rw[em]at hl;have sm:au H (upd (upd (upd H p1 (.lst [V.int (10 ^ (18:Int).toNat)])) p2 (.lst (ms.map V.int))) l (.lst ([V.int (10 ^ (18:Int).toNat)]++ms.map V.int))):=((au.new MK).trans (au.new (by rw[em]at *;exact N3))).trans (au.new hl)
  have oR:(upd (upd (upd H p1 (.lst [V.int (10 ^ (18:Int).toNat)])) p2 (.lst (ms.map V.int))) l (.lst ([V.int (10 ^ (18:Int).toNat)]++ms.map V.int))) l=some (.lst (((10 ^ (18:Int).toNat)::ms).map V.int)):=aw;generalize (upd (upd (upd H p1 (.lst [V.int (10 ^ (18:Int).toNat)])) p2 (.lst (ms.map V.int))) l (.lst ([V.int (10 ^ (18:Int).toNat)]++ms.map V.int)))=H1 at sm oR ⊢
  generalize ((10 ^ (18:Int).toNat)::ms)=cs at oR;let X:Cx:=(nM bZ P w K mg base ["script","cell","hand","row","due","sizes","handed","again"] "law" (ay lH) f cJ A outer s H E).FR
  let C:Q.Cfg:=⟨H,λ_=>False,true,λ_=>False⟩
  have it:yT X (λ_=>False) (OA K l) (cs.map D.int) H1:=sH oR (λz=>z) (bM cs);have J2:=it (λb=>(λ_=>False) b\/H1 b=none) λb z=>z;have s':Q.bY P w C.z (L2.start ["script","cell","hand","row","due","sizes","handed","again"] [.ref a]) H1 (Xs 8 none) (λ_=>[]):=Di (by rfl) sm
  generalize Vh:cs.map D.int=ds at J2;have hint:∀d∈ds,∃c:Int,d=.int c:=λd hd=>by
   rw[<- Vh]at hd;obtain⟨c,_,rfl⟩:=WT.mp hd;exact⟨c,rfl⟩
  refine⟨λi m σ H'=>i<=ds.length/\m=ds.length-i/\∃β,Q.SB X C (H1,Q.Wn λ_=>[]) σ H' β/\JL β,⟨_,WV _,rfl,_,⟨_,s',Sn.refl⟩,⟨_,_,_,_,_,_,_,_,rfl⟩⟩,?_⟩;rintro i m σ2 H2 ⟨hi,rfl,β2,⟨aX,s2,n2⟩,⟨y0,y1,y2,y3,y4,y5,y6,y7,rfl⟩⟩;obtain⟨cy,qt⟩:=J2 i H2 (n2.k.mono λb z=>z.imp (λL_=> by obtain⟨_,q⟩ := L_;exact(nomatch q)) id)
  by_cases eV:i<ds.length
  ·right
   have hd:ds[i]?=some ds[i]:=WR eV;obtain⟨go,yl⟩:=cy _ hd;obtain⟨c,hc⟩:=hint ds[i] (YV eV);refine⟨go,λσ' H'=>∃β,Q.SB X C (H1,Q.Wn λ_=>[]) σ' H' β/\JL β,λσ' H' L9=> by obtain⟨β',Ds,vm⟩ := L9;exact⟨_,by lia,eV,rfl,β',Ds,vm⟩,λx H3 y=>?_⟩
   obtain⟨s3,r3⟩:=yl x H3 y;rw[hc]at r3;refine⟨aX,_,.int c,.own,s2.same s3,az.flat rfl r3,λσ4 rS s4 w4 _=>?_⟩;exact⟨(H1,Q.Wn λ_=>[]),{nx:=JL,rt:=λd _=>d=.bl true,bk:=JL,ct:=JL},_,⟨rS,s4,Q.iF (n2.same s3) w4⟩,hψ c y0 y2 y3 y4 y5 y6 y7,⟨λσ5 H5 β5 xN q5=>⟨β5,xN,q5⟩,λσ5 H5 β5 d5 v5 xN r5 q5=>by
    subst q5;cases (show v5=V.bl true from KQ r5)
    exact k _,λσ5 H5 β5 xN q5=>k _,λσ5 H5 β5 xN q5=>⟨β5,xN,q5⟩⟩⟩
  ·left
   have e:i=ds.length:=by lia
   subst e;exact⟨qt (WD _),k _⟩
end
theorem hZ {α:Type}{P:List α->Prop}(h:∀a,P [a]):∀us:List α,us.length=1->P us:=λus e=>by
 obtain⟨a,rfl⟩:=List.length_eq_one_iff.mp e;exact h a
theorem qp {α:Type}{P:List α->Prop}(h:∀a b,P [a,b]):∀us:List α,us.length=2->P us:=λus e=>by
 cases us with
 |nil=>cases e
 |cons a us=>exact hZ (P:=λus=>P (a::us)) (h a) us (Nat.succ.inj e)
theorem LF {α:Type}{P:List α->Prop}(h:∀a b c,P [a,b,c]):∀us:List α,us.length=3->P us:=λus e=>by
 cases us with
 |nil=>cases e
 |cons a us=>exact qp (P:=λus=>P (a::us)) (h a) us (Nat.succ.inj e)
theorem LD {α:Type}{P:List α->Prop}(h:∀a b c d,P [a,b,c,d]):∀us:List α,us.length=4->P us:=λus e=>by
 cases us with
 |nil=>cases e
 |cons a us=>exact LF (P:=λus=>P (a::us)) (h a) us (Nat.succ.inj e)
theorem Io {α:Type}{P:List α->Prop}(h:∀a b c d e,P [a,b,c,d,e]):∀us:List α,us.length=5->P us:=λus e=>by
 cases us with
 |nil=>cases e
 |cons a us=>exact LD (P:=λus=>P (a::us)) (h a) us (Nat.succ.inj e)
abbrev vS (x:Str)(t:Nat):WC:=.str x t
abbrev kE (P:Params)(x:Str)(t:Nat)(v:WC):DictEntry:=⟨PyData.keyHash P x,.str x t,v⟩
abbrev kC (n:Str)(t l p r8 UN Uo:Nat)(TN TM TL:WC)(Um UM T6:Nat):Obj:={cls:=.type "code",data:=.fields #[vS n t,vS n (t+1),vS "/claim/cut.py" (t+2),.int l 0,.int p 0,.int 0 0,.int 0 0,.int 3 0,.ref r8,.bool true,.int UN 0,.ref Uo,TN,TM,TL,.ref Um,.int UM 0,.int l 0,vS "/claim/cut.py" T6]}
abbrev NW (st:Stmt)(x m:Str)(t c:Nat):Xx:=PySem.W.fnOf x x (k7 st) (eD st) (ay st) .none .none .none (vS m t) none (.ref c) .none
abbrev kF (st:Stmt)(x m:Str)(t c:Nat):Obj:={cls:=.type "function",data:=.func (NW st x m t c)}
theorem BM {K:PySem.W.Frag}{x m:Str}{st:Stmt}{t c f:Nat}(l:K.lookup f=some (kF st x m t c))(cd:PySem.W.codeIn K (.ref c) x=true)(k:PySem.W.keepIn K (.ref f)=true):CW K x x st f (NW st x m t c):=Jr l cd k
theorem bX {K:PySem.W.Frag}{h:Heap}{mg:Str->Option WC}{x m:Str}{st:Stmt}{t c f:Nat}{ps:List Str}(X:K.In h)(G:h.Ns YO mg)(l:K.lookup f=some (kF st x m t c))(cd:PySem.W.codeIn K (.ref c) x=true)(k:PySem.W.keepIn K (.ref f)=true)
  (a:PySem.W.nsIn K YO x=some (some (.ref f))) (b:∀us:List WC,us.length=ps.length->bindArgs (NW st x m t c) ⟨us,[]⟩=pure (ps.zip us)):Df K mg x st ps f (NW st x m t c):=⟨BM l cd k,.all b,PySem.W.mg_of X G a⟩
def KK:Params->PySem.W.Frag:=λP=>[(3,{cls:=.type "dict",data:=.dict #[kE P "__name__" 165 (vS "law_archrow_k10_sets_with_the_most" 277),kE P "__doc__" 166 .none,kE P "__package__" 167 .none,kE P "__loader__" 168 (.builtin "__main__.__loader__#opaque"),kE P "__spec__" 169 .none,kE P "__annotations__" 170 (.ref 6),kE P "__builtins__" 171 (.ref 4),kE P "__file__" 173 (vS "/claim/cut.py" 172),kE P "__cached__" 174 .none,kE P "stretches_rising" 194 (.ref 19),kE P "partners_of" 200 (.ref 24),kE P "parts_left" 209 (.ref 31),kE P "greatest_table" 215 (.ref 36),kE P "number_with" 226 (.ref 43),kE P "least_number" 232 (.ref 48),kE P "best_choices" 238 (.ref 53),kE P "ways_in" 249 (.ref 60),kE P "ways_by" 255 (.ref 65),kE P "table_of" 264 (.ref 72),kE P "how_many_most" 270 (.ref 77),kE P "one_each" 276 (.ref 82),kE P "_law_hand" 285 (.ref 89),kE P "_law_take" 294 (.ref 96),kE P "_law_arcs" 306 (.ref 103),kE P "_law_ties" 312 (.ref 108),kE P "_law_row" 320 (.ref 115),kE P "_law_cross" 332 (.ref 122),kE P "_law_same" 338 (.ref 127),kE P "_law_table" 344 (.ref 132),kE P "_law_meet" 352 (.ref 139),kE P "_law_all" 358 (.ref 144),kE P "_law_copied" 365 (.ref 151),kE P "law" 371 (.ref 156)] 33}),
 (18,kC "stretches_rising" 189 2 1 15 181 16 .none .none .none 17 192 193),
 (19,kF bI "stretches_rising" "archrow.stretches" 187 18),
 (23,kC "partners_of" 195 4 1 20 181 21 .none .none .none 22 198 199),
 (24,kF cS "partners_of" "archrow.stretches" 187 23),
 (30,kC "parts_left" 201 10 3 25 181 26 .none (.ref 27) (.ref 28) 29 207 208),
 (31,kF dk "parts_left" "archrow.stretches" 187 30),
 (35,kC "greatest_table" 210 14 2 32 181 33 .none .none .none 34 213 214),
 (36,kF b5 "greatest_table" "archrow.stretches" 187 35),
 (42,kC "number_with" 216 21 5 37 181 38 .none (.ref 39) (.ref 40) 41 224 225),
 (43,kF cT "number_with" "archrow.stretches" 187 42),
 (47,kC "least_number" 227 23 5 44 181 45 .none .none .none 46 230 231),
 (48,kF cA "least_number" "archrow.stretches" 187 47),
 (52,kC "best_choices" 233 26 5 49 181 50 .none .none .none 51 236 237),
 (53,kF cB "best_choices" "archrow.stretches" 187 52),
 (59,kC "ways_in" 239 32 2 54 181 55 .none (.ref 56) (.ref 57) 58 247 248),
 (60,kF gf "ways_in" "archrow.stretches" 187 59),
 (64,kC "ways_by" 250 37 4 61 181 62 .none .none .none 63 253 254),
 (65,kF gg "ways_by" "archrow.stretches" 187 64),
 (71,kC "table_of" 258 40 1 66 181 67 .none (.ref 68) (.ref 69) 70 262 263),
 (72,kF e9 "table_of" "archrow.kept" 256 71),
 (76,kC "how_many_most" 265 42 1 73 181 74 .none .none .none 75 268 269),
 (77,kF cf "how_many_most" "archrow.kept" 256 76),
 (81,kC "one_each" 271 51 1 78 181 79 .none .none .none 80 274 275),
 (82,kF e_ "one_each" "archrow.kept" 256 81),
 (88,kC "_law_hand" 279 54 1 83 181 84 .none (.ref 85) (.ref 86) 87 283 284),
 (89,kF dE "_law_hand" "law_archrow_k10_sets_with_the_most" 277 88),
 (95,kC "_law_take" 286 56 2 90 181 91 .none (.ref 92) (.ref 93) 94 292 293),
 (96,kF dD "_law_take" "law_archrow_k10_sets_with_the_most" 277 95),
 (102,kC "_law_arcs" 295 63 2 97 181 98 .none (.ref 99) (.ref 100) 101 304 305),
 (103,kF ff "_law_arcs" "law_archrow_k10_sets_with_the_most" 277 102),
 (107,kC "_law_ties" 307 73 2 104 181 105 .none .none .none 106 310 311),
 (108,kF fb "_law_ties" "law_archrow_k10_sets_with_the_most" 277 107),
 (114,kC "_law_row" 313 95 1 109 181 110 .none (.ref 111) (.ref 112) 113 318 319),
 (115,kF gh "_law_row" "law_archrow_k10_sets_with_the_most" 277 114),
 (121,kC "_law_cross" 321 100 2 116 181 117 .none (.ref 118) (.ref 119) 120 330 331),
 (122,kF d4 "_law_cross" "law_archrow_k10_sets_with_the_most" 277 121),
 (126,kC "_law_same" 333 104 2 123 181 124 .none .none .none 125 336 337),
 (127,kF fc "_law_same" "law_archrow_k10_sets_with_the_most" 277 126),
 (131,kC "_law_table" 339 116 1 128 181 129 .none .none .none 130 342 343),
 (132,kF d3 "_law_table" "law_archrow_k10_sets_with_the_most" 277 131),
 (138,kC "_law_meet" 345 133 2 133 181 134 .none (.ref 135) (.ref 136) 137 350 351),
 (139,kF fe "_law_meet" "law_archrow_k10_sets_with_the_most" 277 138),
 (143,kC "_law_all" 353 135 1 140 181 141 .none .none .none 142 356 357),
 (144,kF gj "_law_all" "law_archrow_k10_sets_with_the_most" 277 143),
 (150,kC "_law_copied" 359 144 1 145 181 146 .none (.ref 147) (.ref 148) 149 363 364),
 (151,kF dq "_law_copied" "law_archrow_k10_sets_with_the_most" 277 150),
 (155,kC "law" 366 146 1 152 181 153 .none .none .none 154 369 370),
 (156,kF lH "law" "law_archrow_k10_sets_with_the_most" 277 155)]
abbrev HK:PySem.W.Hook:=PySem.W.kHook KK [3,18,19,23,24,30,31,35,36,42,43,47,48,52,53,59,60,64,65,71,72,76,77,81,82,88,89,95,96,102,103,107,108,114,115,121,122,126,127,131,132,138,139,143,144,150,151,155,156] (λ_=>by kernel_rfl)
def view:WI:={PySem.Challenge.pw_archrow_k10_sets_with_the_most with main:={PySem.Challenge.pw_archrow_k10_sets_with_the_most.main with body:=[top 1,top 2,top 3,top 4,top 5,top 6,top 7,top 8,top 9,top 11,top 12,top 13,top 15,top 16,top 17,top 18,top 19,top 20,top 21,top 22,top 23,top 24,top 25,top 26]}}
theorem left:PySem.W.LeftO PySem.Challenge.pw_archrow_k10_sets_with_the_most view [] (λs=>PySem.W.xlAt view [] s&&PySem.W.recOk (PySem.W.RowW.records PySem.Challenge.rw_archrow_k10_sets_with_the_most.row.toRowW) s) HK.obs HK.val 1542:=λw=>by kernel_rfl
theorem all_mk {l:PySem.W.OpenLaw} (w:W6) (mg:Str->Option WC) (fa:Addr) (h:Heap) (X:(KK w.params).In h) (G:h.Ns YO mg) (Vg:mg "law" = some (.ref fa))   :∃fd:Xx,(∀(s:WE) (v:WC),BindsTo s fd ⟨[v],[]⟩ [("script",v)])/\∀base:Heap,(KK w.params).In base->base.Ns YO mg->aM l.prog w (KK w.params) mg base bZ 45 fa fd ["script"] (zN (KK w.params)):=by
 have e:=Vg.symm.trans (PySem.W.mg_of X G (v:=.ref 156) (by kernel_rfl))
 cases e;have Ly:=PySem.W.mg_none_of X G (n:="max") (by kernel_rfl)
 have Lx:=PySem.W.mg_none_of X G (n:="min") (by kernel_rfl)
 have LA:=PySem.W.mg_none_of X G (n:="int") (by kernel_rfl)
 have El:=PySem.W.mg_none_of X G (n:="range") (by kernel_rfl)
 have AX:=PySem.W.mg_none_of X G (n:="sorted") (by kernel_rfl)
 have Lw:=PySem.W.mg_none_of X G (n:="set") (by kernel_rfl)
 have Lz:=PySem.W.mg_none_of X G (n:="len") (by kernel_rfl)
 have Ib:=PySem.W.mg_none_of X G (n:="list") (by kernel_rfl)
 have qj:=PySem.W.mg_none_of X G (n:="isinstance") (by kernel_rfl)
 have Ek:=PySem.W.mg_none_of X G (n:="tuple") (by kernel_rfl)
 have Lv:=PySem.W.mg_none_of X G (n:="str") (by kernel_rfl)
 have Ic:=PySem.W.mg_none_of X G (n:="bool") (by kernel_rfl)
 have Ls:=PySem.W.mg_none_of X G (n:="zip") (by kernel_rfl)
 have rY:=PySem.W.mg_none_of X G (n:="enumerate") (by kernel_rfl)
 have Lu:=PySem.W.mg_none_of X G (n:="sum") (by kernel_rfl)
 have B:=(⟨⟨⟨Ly,Lx,LA,El,AX,Lw,Lz,Ib⟩,qj,Ek,Lv,Ic,Ls,rY⟩,Lu⟩:ze mg);exact⟨_,λs v=>.of_eq rfl,λbase _ _=>HU (BM (x:="law") (m:="law_archrow_k10_sets_with_the_most") (st:=lH) (t:=277) (c:=155) (f:=156) (by kernel_rfl) (by kernel_rfl) (by kernel_rfl)) B (bX X G (x:="how_many_most") (m:="archrow.kept") (st:=cf) (t:=256) (c:=76) (f:=77) (ps:=["row"]) (by kernel_rfl) (by kernel_rfl) (by kernel_rfl) (by kernel_rfl) (hZ λ_=>rfl))
  (bX X G (x:="ways_by") (m:="archrow.stretches") (st:=gg) (t:=187) (c:=64) (f:=65) (ps:=["counts","choices","i","j"]) (by kernel_rfl) (by kernel_rfl) (by kernel_rfl) (by kernel_rfl) (LD λ_ _ _ _=>rfl))
  (bX X G (x:="ways_in") (m:="archrow.stretches") (st:=gf) (t:=187) (c:=59) (f:=60) (ps:=["counts","parts"]) (by kernel_rfl) (by kernel_rfl) (by kernel_rfl) (by kernel_rfl) (qp λ_ _=>rfl))
  (bX X G (x:="table_of") (m:="archrow.kept") (st:=e9) (t:=256) (c:=71) (f:=72) (ps:=["row"]) (by kernel_rfl) (by kernel_rfl) (by kernel_rfl) (by kernel_rfl) (hZ λ_=>rfl))
  (bX X G (x:="greatest_table") (m:="archrow.stretches") (st:=b5) (t:=187) (c:=35) (f:=36) (ps:=["row","worth"]) (by kernel_rfl) (by kernel_rfl) (by kernel_rfl) (by kernel_rfl) (qp λ_ _=>rfl))
  (bX X G (x:="partners_of") (m:="archrow.stretches") (st:=cS) (t:=187) (c:=23) (f:=24) (ps:=["row"]) (by kernel_rfl) (by kernel_rfl) (by kernel_rfl) (by kernel_rfl) (hZ λ_=>rfl))
  (bX X G (x:="stretches_rising") (m:="archrow.stretches") (st:=bI) (t:=187) (c:=18) (f:=19) (ps:=["many"]) (by kernel_rfl) (by kernel_rfl) (by kernel_rfl) (by kernel_rfl) (hZ λ_=>rfl))
  (bX X G (x:="least_number") (m:="archrow.stretches") (st:=cA) (t:=187) (c:=47) (f:=48) (ps:=["partners","worth","table","i","j"]) (by kernel_rfl) (by kernel_rfl) (by kernel_rfl) (by kernel_rfl) (Io λ_ _ _ _ _=>rfl))
  (bX X G (x:="number_with") (m:="archrow.stretches") (st:=cT) (t:=187) (c:=42) (f:=43) (ps:=["worth","table","i","k","j"]) (by kernel_rfl) (by kernel_rfl) (by kernel_rfl) (by kernel_rfl) (Io λ_ _ _ _ _=>rfl))
  (bX X G (x:="one_each") (m:="archrow.kept") (st:=e_) (t:=256) (c:=81) (f:=82) (ps:=["row"]) (by kernel_rfl) (by kernel_rfl) (by kernel_rfl) (by kernel_rfl) (hZ λ_=>rfl))
  (bX X G (x:="best_choices") (m:="archrow.stretches") (st:=cB) (t:=187) (c:=52) (f:=53) (ps:=["partners","worth","table","i","j"]) (by kernel_rfl) (by kernel_rfl) (by kernel_rfl) (by kernel_rfl) (Io λ_ _ _ _ _=>rfl))
  (bX X G (x:="parts_left") (m:="archrow.stretches") (st:=dk) (t:=187) (c:=30) (f:=31) (ps:=["i","k","j"]) (by kernel_rfl) (by kernel_rfl) (by kernel_rfl) (by kernel_rfl) (LF λ_ _ _=>rfl))
  (bX X G (x:="_law_hand") (m:="law_archrow_k10_sets_with_the_most") (st:=dE) (t:=277) (c:=88) (f:=89) (ps:=["cell"]) (by kernel_rfl) (by kernel_rfl) (by kernel_rfl) (by kernel_rfl) (hZ λ_=>rfl))
  (bX X G (x:="_law_take") (m:="law_archrow_k10_sets_with_the_most") (st:=dD) (t:=277) (c:=95) (f:=96) (ps:=["hand","many"]) (by kernel_rfl) (by kernel_rfl) (by kernel_rfl) (by kernel_rfl) (qp λ_ _=>rfl))
  (bX X G (x:="_law_arcs") (m:="law_archrow_k10_sets_with_the_most") (st:=ff) (t:=277) (c:=102) (f:=103) (ps:=["hand","many"]) (by kernel_rfl) (by kernel_rfl) (by kernel_rfl) (by kernel_rfl) (qp λ_ _=>rfl))
  (bX X G (x:="_law_ties") (m:="law_archrow_k10_sets_with_the_most") (st:=fb) (t:=277) (c:=107) (f:=108) (ps:=["hand","many"]) (by kernel_rfl) (by kernel_rfl) (by kernel_rfl) (by kernel_rfl) (qp λ_ _=>rfl))
  (bX X G (x:="_law_row") (m:="law_archrow_k10_sets_with_the_most") (st:=gh) (t:=277) (c:=114) (f:=115) (ps:=["hand"]) (by kernel_rfl) (by kernel_rfl) (by kernel_rfl) (by kernel_rfl) (hZ λ_=>rfl))
  (bX X G (x:="_law_same") (m:="law_archrow_k10_sets_with_the_most") (st:=fc) (t:=277) (c:=126) (f:=127) (ps:=["found","due"]) (by kernel_rfl) (by kernel_rfl) (by kernel_rfl) (by kernel_rfl) (qp λ_ _=>rfl))
  (bX X G (x:="_law_table") (m:="law_archrow_k10_sets_with_the_most") (st:=d3) (t:=277) (c:=131) (f:=132) (ps:=["row"]) (by kernel_rfl) (by kernel_rfl) (by kernel_rfl) (by kernel_rfl) (hZ λ_=>rfl))
  (bX X G (x:="_law_copied") (m:="law_archrow_k10_sets_with_the_most") (st:=dq) (t:=277) (c:=150) (f:=151) (ps:=["row"]) (by kernel_rfl) (by kernel_rfl) (by kernel_rfl) (by kernel_rfl) (hZ λ_=>rfl))
  (bX X G (x:="_law_all") (m:="law_archrow_k10_sets_with_the_most") (st:=gj) (t:=277) (c:=143) (f:=144) (ps:=["row"]) (by kernel_rfl) (by kernel_rfl) (by kernel_rfl) (by kernel_rfl) (hZ λ_=>rfl))
  (bX X G (x:="_law_meet") (m:="law_archrow_k10_sets_with_the_most") (st:=fe) (t:=277) (c:=138) (f:=139) (ps:=["one","other"]) (by kernel_rfl) (by kernel_rfl) (by kernel_rfl) (by kernel_rfl) (qp λ_ _=>rfl))
  (bX X G (x:="_law_cross") (m:="law_archrow_k10_sets_with_the_most") (st:=d4) (t:=277) (c:=121) (f:=122) (ps:=["one","other"]) (by kernel_rfl) (by kernel_rfl) (by kernel_rfl) (by kernel_rfl) (qp λ_ _=>rfl))⟩
end ku
abbrev PySem.W.Fast.tw10800254868922280397:PySem.Program:=PySem.Challenge.pw_archrow_k10_sets_with_the_most
theorem PySem.W.Fast.te10800254868922280397:PySem.Challenge.pw_archrow_k10_sets_with_the_most=PySem.W.Fast.tw10800254868922280397:=rfl
open PySem PySem.W PyProof.Rows
set_option maxRecDepth 100000 in
set_option maxHeartbeats 0 in
theorem PySem.Challenge.cw_archrow_k10_sets_with_the_most_holds : PySem.Challenge.rw_archrow_k10_sets_with_the_most.Holds := by
 w_on;o_law
 refine holds_open (q:=ku.view) (loose:=[]) (Xt:=λs=>xlAt ku.view [] s&&recOk (RowW.records PySem.Challenge.rw_archrow_k10_sets_with_the_most.row.toRowW) s) (XP:=XL ku.view []) (Yf:=ku.HK.obs) (Ya:=ku.HK.val) (YP:=λw h=>(ku.KK w.params).In h) (N:=1542) ku.left ku.HK.of ku.HK.keeps (λs e=>xl_of s (Bool.and_eq_true_iff.mp e).1) XL.keeps (by rfl) (by rfl) (by rfl) (λs e=>recFacts_of (Bool.and_eq_true_iff.mp e).2) (by rfl) (by first|assumption|decide +kernel) (by decide +kernel) ⟨rfl,rfl,rfl,rfl,rfl,by decide +kernel⟩ ?hw ?hc
 (case hw=>w_witness2)
 case hc =>
  exact L2.C6 (l:=PySem.Challenge.rw_archrow_k10_sets_with_the_most) (K:=ku.KK) (n:=63) (k:=45) (x:="script") (CX:=λ_=>L2.bZ) (sp:=λw=>ku.zN (ku.KK w.params)) rfl (by decide) rfl ⟨rfl,by decide,by decide⟩ (λw h Y=>Y) ku.all_mk (λ_ _ a ns hl _ hS=>⟨a,ns,rfl,hS,hl,λ_=>rfl⟩) λ_ _ _ _ _ z=>z
#print axioms PySem.Challenge.cw_archrow_k10_sets_with_the_most_holds
