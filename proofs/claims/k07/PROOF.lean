import PyProof.Rows.All
import Wide.All
import OpenK.AllK
import Wide.FinOn
import Lean
import PyProof.EqAt
import PyProof.EqKinds
import PyProof.TupleCall
import PyProof.Rows.SortShell
import PyProof.Rows.SortWalk
import PyProof.CompFree
import PyProof.Rows.SortRuns
import PyProof.EqLayable
import PyProof.NeData
import PyProof.P3In
import PyProof.ZipIter
import PyProof.EnumMake
import PyProof.EnumFor
import PyProof.Rows.Range3
import PyProof.AttrMissSeq
import KE.KDictOf
import PySem.Challenge.RW_archrow_k07_stretches_and_tables
set_option Elab.async false
set_option linter.all false
set_option maxRecDepth 100000
set_option maxHeartbeats 4000000
set_option compiler.extract_closed false
open PySem renaming wpAny_bind->UR,Value->UT,Shared->UW,wpAny_pure->UY,Program->U0,sizeLine->U_,starEach->Ve,World->Vf,wpAny->Vq,foldedSetIterable->VG,FuncData->VL,bootBuiltins->VM,Around->VW,sizeLine_eq->V2,compareOp->V7,wpAny_holding->Wk,wpAny_call_entry->Wl,wpAny_setField_rec->Wt,wpAny_seqItems->Ww,wpAny_truthy_bool->Wx,wpAny_setState_of->Wy,wpAny_callSpecial?_slot->Wz,wpAny_field->WH,swapsWith->WR,wpAny_newObj_type->WS,mainGlobals->WT,wpAny_standAt->WW,assignEach->WX,Comprehension->WZ,Scope->W3,binaryOp->W5,backTo->W6,NameKind->W8,sliceBounds->W_,wpAny_rule->Xa,wpAny_passesOwn->Xc,behindInMarks->Xd,IsPair->Xe,codeAny_mono->Xl,attributeBase->Xo,Builtin->XC,sysModules->XD,cLine->XO,codeAny->XR,wpAny_mono->XT,pyNext->XU,CmpOp->XZ,standAt->X5,Keyword->X9,wpAny_comprehension_free->Yb,wpAny_attempt->Yc,arm_evalThenUse_ListComp->Yd,wpAny_askSetting->Yi,tupleKind->Yj,cellsFrom->Yk,pyIter->Yo,wpAny_execs_nil->Yx,letOwnedTupleGo->Yy,codeAny_builtin->Yz,IsZip->YD,wpAny_updateSeq_pair->YL,keywordEach->YM,firstArgMember->YN,evalThenUse->YO,wpAny_setEntries_of->YV,wpAny_onRaise->YZ,wpAny_Call_Name_kw->Y1,call_meets->Y2,wpAny_assign_Name->Y8,valueAt->Y9,slot_list_getitem->Y_,callerA->Za,wpAny_isInstance->Zk,wpAny_forIn_list->Zl,isTrue->Zm,PassesOwn->Zn,wpAny_of_eq->Zu,IsRangeIter->Zz,wpAny_loadPart'->ZA,codeAny_of_tree->ZC,wpAny_setField->ZI,newFunctionEnv->ZJ,isSubtype_type->ZK,backToKw->ZL,atKey->ZM
open List renaming length_map->US,range->UZ,mem_cons->U1,getElem?_eq_some_iff->U3,getElem?_eq_getElem->U6,getElem?_map->U8,mem_singleton->U9,length_cons->Vd,mem_append->Vg,mem_cons_of_mem->Vi,size_toArray->Vk,length_take->Vl,length_range->Vm,map_append->Vn,map_cons->Vo,mem_cons_self->Vs,nodup_cons->Vt,length_append->Vu,mem_map->Vx,mem_filter->VB,mem_append_right->VE,replicate->VF,map_congr_left->VH,mem_of_getElem?->VJ,drop_eq_getElem_cons->VO,nodup_nil->VQ,getElem?_append_right->VR,lookup_cons->VS,getElem?_eq_none->VT,filterMap_cons->VV,not_mem_nil->VZ,filter_cons->V0,nodup_append->V3,append_assoc->V4,mem_range->V8,mem_append_left->V9,find?_cons->Wa,take_add_one->Wd,append_nil->Wf,map_map->Wg,getElem?_append_left->Wh,length_filter_le->Wj,take_of_length_le->Wo,replicate_succ->Wr,take_append_drop->Ws,pairwise_cons->Wu,pairwise_map->WA,ext_getElem?->WB,getElem?_range->WD,take_length->WJ,all_eq_true->WK,getD_eq_getElem?_getD->WM,filter_append->WN,length_singleton->WQ,getElem?_set->WU,flatten_cons->WV,sum_cons->WY,getElem_mem->W9,getElem?_take_of_lt->Xr,getElem?_drop->Xu,getElem?_cons_succ->Xv,set_eq_take_append_cons_drop->Xx,length_drop->XF,range_succ->XJ,foldl_cons->XM,reverse_append->XQ,zip_cons_cons->XX,mem_filterMap->XY,pairwise_iff_getElem->X1,getElem?_eq_none_iff->X2,extract_eq_take_drop->X3,reverse_cons->X8,perm_middle->Yn,drop_of_length_le->Yu,of_mem_zip->YA,forIn_cons->YB,getElem?_toArray->YF,filterMap_append->YG,getElem?_of_mem->YR,flatMap_append->YW,map_take->Y0,find?_eq_none->Y6,zip_nil_left->Zg,set_set->Zh,getElem?_inj->Zi,zipIdx_cons->Zq,cons_append->Zr,find?_eq_some_iff_append->Zy,length_set->ZE,take_succ->ZO,forIn_nil->ZP,drop_zero->ZQ
open Nat renaming le_refl->UU,zero_le->U7,ne_of_lt->Vw,lt_of_lt_of_le->Vy,le_trans->VN,lt_or_ge->V6,zero_add->Xb,lt_irrefl->Xq,sub_self->XA,lt_succ_of_lt->XB,pow_le_pow_right->XG,mod_lt->XW,le_succ->X7,le_add_right->Ym,pow_succ->Ys,le_of_lt->Yt,pow_pos->YQ,eq_zero_or_pos->Y5,ne_of_gt->Zd,lt_trichotomy->Ze,add_zero->Zf,mod_eq_of_lt->Zo,one_mul->Zw,mod_mul->Zx,not_lt_zero->ZD,mul_le_mul->ZN
open PySem.Heap renaming get?_push_of_some->UX,lt_size->Vb,get?_push_size->Vp,SameBut->Wq,size_push->WO,get?_update_self->YI
open Array renaming length_toList->U4,getElem?_toList->Vh,getD_eq_getD_getElem?->Vj,toList_append->Wi,toList_push->WC,getElem?_eq_none->WG,perm_iff_toList_perm->Xk,size_setIfInBounds->Yh,getElem?_setIfInBounds_self_of_lt->YJ,toList_extract->YS,getElem?_setIfInBounds_ne->Zj,toList_zip->Zt,size_zip->ZT,size_map->ZU
open PyProof.Rows renaming wpS_bind->U5,Keyed->Va,wpS_pure->Vc,pendingOf->Vr,arrOf->VD,SortSt->VY,wpS_forRange->V1,setArr->Wc,wpS_mono->Wv,callWith_type1->WE,seqObj->W4,wpS_modify->Xg,SortKind->Xp,failedOf->Xy,setPending->XE,wpS_get->X4,envOfC->Yp,IntsAre->Yv,AllBare->Yw,wpS_lift->YK
open Option renaming map_eq_some_iff->Vv,bind_eq_some_iff->We,bind_some->W7,map_some->XI,isNone_iff_eq_none->ZV
open Bool renaming and_eq_true->Vz,false_ne_true->V_,eq_iff_iff->XN,false_eq_true->X0,not_eq_true'->X_,not_eq_false'->Y7,or_eq_true->ZF
open Option.some renaming inj->VA,injEq->X6
open PySem.NameKind renaming free->VC,cell->VX
open PySem.PassesOwn renaming never->VI
open Decidable renaming by_contra->VP
open PySem.Builtin.SmallTypes renaming nextOf->VU,ownedTupleIsFree->WI,ownedTupleHandOut->YY
open Ne renaming symm->V5
open PySem.PyData renaming canLay0->Wm,eqv->Xh,canLayAll0->Xz,depthAll->XH,eqvAll->Ye,depth->Yq
open True renaming intro->WL
open Int renaming toNat_natCast->Xf,toNat_of_nonneg->YX
open PySem.Obj renaming mapSeq->Xi,putSet->Y4
open False renaming elim->Xj
open Classical renaming byContradiction->Xm
open PySem.Heap.SameBut renaming update->Xn
open PySem.Builtin.List renaming listTooLong->Xs,listLengthHint->ZH
open PySem.Builtin.Range renaming rangeSize->Xw
open PySem.Str renaming ofString->XS
open PySem.Code renaming compLoop->Yg,compStart->ZR
open PySem.SeqAt renaming canLay_of_shaped->Yl
open Nat.succ renaming inj->Yr
open List.Perm renaming of_eq->YC,append_left->YH
open ForInStep renaming yield->YE
open PySem.Around renaming under_plainId->YT
open Sum renaming inl->YU,inr->Zc
open PySem.Value renaming type->Y3,isInt_shape->Zb,isInt->Zv
open PySem.Data renaming cell->Zs
open Array.Perm renaming refl->ZG
open PySem.Calls renaming Name_function_global->ZS,call_function_entry->ZW
noncomputable section
namespace L2
open PySem PySem.Spec PyProof.Rows
abbrev Key:=Sum Int Str
def oj:Key->UT->Bool
 |.inl k,v=>Zv k v
 |.inr x,v=>Value.isStrOf x v
def NY (w:Vf):Key->Int
 |.inl k=>hashInt k
 |.inr x=>hashStr w x
theorem bw:∀{k:Key} {v:UT},oj k v=true->(∃i t,k=YU i/\v=Value.int i t)\/(∃x t,k=Zc x/\v=Value.str x t)
 |.inl i,v,h=>by
  obtain⟨t,e⟩:=Zb (k:=i) (v:=v) h;exact .inl ⟨i,t,rfl,e⟩
 |.inr x,v,h=>by
  obtain⟨t,e⟩:=Value.isStrOf_shape (x:=x) (v:=v) h;exact .inr ⟨x,t,rfl,e⟩
theorem xq (i:Int)(t:Tok):oj (.inl i) (.int i t)=true:=by simp[oj,Zv]
theorem xp (x:Str)(t:Tok):oj (.inr x) (.str x t)=true:=by simp[oj,Value.isStrOf]
theorem GZ (a b:Int):decide ((YU a:Key)=YU b)=(a==b):=by
 by_cases e:a=b
 ·subst e;simp
 ·have h:¬ (YU a:Key)=YU b:=λq=>e (Sum.inl.inj q);rw[decide_eq_false h];exact(beq_eq_false_iff_ne.mpr e).symm
theorem GW (a b:Str):decide ((Zc a:Key)=Zc b)=decide (a=b):=by
 by_cases e:a=b
 ·subst e;simp
 ·have h:¬ (Zc a:Key)=Zc b:=λq=>e (Sum.inr.inj q);rw[decide_eq_false h,decide_eq_false e]
theorem GY (a:Int)(b:Str):decide ((YU a:Key)=Zc b)=false:=decide_eq_false (λq=>nomatch q)
theorem GX (a:Str)(b:Int):decide ((Zc a:Key)=YU b)=false:=decide_eq_false (λq=>nomatch q)
def cb (prog:U0)(w:Vf):PySem.KeyKind prog w Key where
 is:=oj
 hash:=NY w
 inj:=λv a b ha hb=>by
  rcases bw ha with⟨i,t,rfl,rfl⟩|⟨x,t,rfl,rfl⟩
  ·rcases bw hb with⟨j,u,rfl,e⟩|⟨y,u,rfl,e⟩
   ·injection e with e1 _;rw[e1]
   ·exact nomatch e
  ·rcases bw hb with⟨j,u,rfl,e⟩|⟨y,u,rfl,e⟩
   ·exact nomatch e
   ·injection e with e1 _;rw[e1]
 byValue:=λk v h=>by
  rcases bw h with⟨i,t,rfl,rfl⟩|⟨x,t,rfl,rfl⟩ <;> rfl
 pyHash:=λhv h=>by
  rcases bw hv with⟨i,t,rfl,rfl⟩|⟨x,t,rfl,rfl⟩
  ·exact wpAny_pyHash_int h
  ·exact wpAny_pyHash_str h
 eqBool:=λhu hv h=>by
  rcases bw hu with⟨i,t,rfl,rfl⟩|⟨x,t,rfl,rfl⟩
  ·rcases bw hv with⟨j,u,rfl,rfl⟩|⟨y,u,rfl,rfl⟩
   ·rw[GZ]at h;exact wpAny_eqBool_int h
   ·rw[GY]at h;exact SeqAt.EqAt.int_str i t y u _ _ _ _ h
  ·rcases bw hv with⟨j,u,rfl,rfl⟩|⟨y,u,rfl,rfl⟩
   ·rw[GX]at h;exact SeqAt.EqAt.str_int x t j u _ _ _ _ h
   ·rw[GW]at h;exact wpAny_eqBool_str h
 «strs»:=λk x t v h=>by
  rcases bw h with⟨i,u,rfl,e⟩|⟨y,u,rfl,e⟩
  ·exact nomatch e
  ·injection e with e1 _
   subst e1;cases v <;> rfl
theorem rj (prog:U0)(w:Vf)(i:Int)(t:Tok):(cb prog w).is (.inl i) (.int i t)=true:=xq i t
theorem rh (prog:U0)(w:Vf)(x:Str)(t:Tok):(cb prog w).is (.inr x) (.str x t)=true:=xp x t
inductive V where
 |bK|bl (b:Bool)|int (i:Int)|str (x:Str)|Bl (b:Array UInt8)|HJ (b:UInt64)|ref (a:Addr)|ty (n:String)
 deriving DecidableEq
def RelV:V->UT->Prop
 |.bK,u=>u=Value.none
 |.bl b,u=>u=Value.bool b
 |.int i,u=>∃t,u=Value.int i t
 |.str x,u=>∃t,u=Value.str x t
 |.Bl b,u=>∃t,u=Value.bytes b t
 |.HJ b,u=>∃t,u=Value.float b t
 |.ref a,u=>u=Value.ref a
 |.ty n,u=>u=Y3 n
abbrev Vals:List V->List UT->Prop:=Paired RelV
theorem Vals.length {xs:List V}{us:List UT}(r:Vals xs us):xs.length=us.length:=Paired.length r
theorem Vals.get:∀{xs:List V} {us:List UT} {i:Nat} {x:V},Vals xs us->xs[i]?=some x->∃u,us[i]?=some u/\RelV x u
 |_,_,_,_,.nil,e=>by simp at e
 |_,_,0,_,.cons r _,e=>by simp at e;subst e;exact⟨_,rfl,r⟩
 |_,_,i+1,x,.cons _ t,e=>by
  obtain⟨u,h1,h2⟩:=Vals.get (i:=i) (x:=x) t (by simpa using e)
  exact⟨u,by simpa using h1,h2⟩
theorem Vals.set {x:V}{u:UT}(r:RelV x u):∀{xs:List V} {us:List UT} (i:Nat),Vals xs us->Vals (xs.set i x) (us.set i u)
 |_,_,_,.nil=>.nil
 |_,_,0,.cons _ t=>.cons r t
 |_,_,i+1,.cons q t=>.cons q (Vals.set r i t)
theorem Vals.append:∀{xs ys:List V} {us ws:List UT},Vals xs us->Vals ys ws->Vals (xs++ys) (us++ws)
 |_,_,_,_,.nil,s=>s
 |_,_,_,_,.cons r t,s=>.cons r (Vals.append t s)
theorem Vals.take:∀{xs:List V} {us:List UT} (n:Nat),Vals xs us->Vals (xs.take n) (us.take n)
 |_,_,0,_=>.nil
 |_,_,_+1,.nil=>.nil
 |_,_,n+1,.cons r t=>.cons r (Vals.take n t)
theorem Vals.drop:∀{xs:List V} {us:List UT} (n:Nat),Vals xs us->Vals (xs.drop n) (us.drop n)
 |_,_,0,r=>r
 |_,_,_+1,.nil=>.nil
 |_,_,n+1,.cons _ t=>Vals.drop n t
theorem Vals.none_of:∀{xs:List V} {us:List UT} {i:Nat},Vals xs us->xs[i]?=none->us[i]?=none:=λ{xs us i} r e=>by
 have h1:=r.length;have h2:xs.length<=i:=X2.mp e;exact X2.mpr (by lia)
def mP:Option V->Option UT->Prop
 |some v,some u=>RelV v u
 |none,none=>True
 |_,_=>False
def KV {κ:Type}:List (κ×V)->List (κ×UT)->Prop:=Paired λ(p:κ×V) (q:κ×UT)=>p.1=q.1/\RelV p.2 q.2
def kV:Key->V
 |.inl i=>.int i
 |.inr x=>.str x
inductive HO where
 /-- a list -/
 |lst (xs:List V)
 /-- a tuple (never changes) -/
 |tup (xs:List V)
 /-- a dict whose keys are ints and texts;one whose keys are tuples of ints and texts (the empty one is both) -/
 |dK (kvs:List (Key×V))|dT (kvs:List (List Key×V))
 /-- a set of ints: its members,its size -/
 |set (S:Int->Bool) (n:Nat)
 /-- an instance of the class at C,its dict at dx,its attributes -/
 |ins (C dx:Addr) (fs:List (Str×V))
 /-- the dict of the instance at x -/
 |own (x:Addr)
 /-- the dict of an exception -/
 |xd (fs:List (Str×V))
 /-- a bound method,f of x -/
 |met (f x:Addr)
 /-- a range object lo,lo+1,.. below hi -/
 |M_ (lo hi:Int)
 /-- a IP that is known to the object (the M4;a dict while a loop walks it): read,never written while it is so -/
 |tf (o:Obj) (u:HO)
 /-- a code JE table -/
 |FG (ps:Array UT)
 /-- any other IP,by what is true of its one object (a def of JC own: Em a S n:=HO.ext λh=>..) -/
 |ext (φ:Heap->Prop)
abbrev Hp:=Addr->Option HO
def upd (H:Hp)(a:Addr)(o:HO):Hp:=λb=>if b=a then some o else H b
theorem aw {H:Hp}{a:Addr}{o:HO}:upd H a o a=some o:=by unfold upd;rw[if_pos rfl]
theorem ar {H:Hp}{a b:Addr}{o:HO}(h:b≠a):upd H a o b=H b:=by unfold upd;rw[if_neg h]
theorem EJ {H:Hp}{a b:Addr}{o u:HO}(h:H a=some o)(h':H b=some u)(d:o≠u):a≠b:=by
 intro e;subst e;rw[h]at h';exact d (VA h')
theorem cD {H:Hp}{a b:Addr}{o:HO}(h:H a=some o)(h':H b=none):a≠b:=by
 intro e;subst e;rw[h]at h';cases h'
section
variable (P:U0)(w:Vf)
def bb (H:Hp)(h:Heap)(a:Addr):HO->Prop
 |.lst xs=>xs.length<=U_/\∃(its:List UT) (n:Nat),Vals xs its/\h.get? a=some {cls:=.type "list",data:=.seq its.toArray n}
 |.tup xs=>xs.length<=U_/\∃its:List UT,Vals xs its/\IsTup h a its.toArray
 |.dK kvs=>kvs.length<=U_/\(a==XD)=false/\∃vs,KV kvs vs/\h.DictOf (cb P w) a vs
 |.dT kvs=>kvs.length<=U_/\(a==XD)=false/\∃xs:List (List Key×Addr×UT),
   Paired (λ(p:List Key×V) (q:List Key×Addr×UT)=>p.1=q.1/\H q.2.1=some (.tup (p.1.map kV))/\RelV p.2 q.2.2) kvs xs /\
   ∃o es ep,h.get? a=some o/\o.ExactDict/\o.data=.dict es ep/\es.toList=xs.map (entryOfKey (Yj (cb P w)))/\(xs.map (·.1)).Nodup
 |.set S n=>h.SetOf (intKind P w) a S n
 |.ins C dx fs=>H dx=some (.own a)/\fs.length<=1000/\dx≠a/\h.get? a=some (PySem.W.instObj C dx) /\
   ∃mA,h.Ns1 dx mA/\(∀f,mP (fs.lookup f) (mA f))/\PySem.Within mA (fs.map (·.1))
 |.own _=>∃o,h.get? a=some o
 |.xd fs=>∃mA,h.Ns1 a mA/\∀f,mP (fs.lookup f) (mA f)
 |.M_ lo hi=>∃t u v,h.get? a=some {cls:=.type "range",data:=.fields #[.int lo t,.int hi u,.int 1 v]}
 |.tf o u=>h.get? a=some o/\bb H h a u
 |.FG ps=>h.get? a=some {cls:=.none,data:=.fields ps}
 |.met f x=>h.get? a=some (PySem.W.methodObj (.ref f) (.ref x))
 |.ext φ=>φ h/\(∃o,h.get? a=some o)/\∀h1 h2:Heap,φ h1->(∀o,h1.get? a=some o->h2.get? a=some o)->φ h2
def hG (H:Hp)(h:Heap):Prop:=∀a o,H a=some o->bb P w H h a o
end
section
variable {P:U0}{w:Vf}{H H':Hp}{h h':Heap}{a:Addr}{o:HO}
theorem bb.lt (x:bb P w H h a o):a<h.objs.size:=by
 cases o with
 |lst xs=>obtain⟨_,_,_,_,e⟩:=x;exact Vb e
 |tup xs=>obtain⟨_,_,_,p⟩:=x;exact p.lt
 |dK kvs=>obtain⟨_,_,_,_,o,_,_,e,_⟩:=x;exact Vb e
 |dT kvs=>obtain⟨_,_,_,_,o,_,_,e,_⟩:=x;exact Vb e
 |set S n=>obtain⟨o,_,_,_,e,_⟩:=x;exact Vb e
 |ins C dx fs=>obtain⟨_,_,_,e,_⟩:=x;exact Vb e
 |own y=>obtain⟨_,e⟩:=x;exact Vb e
 |xd fs=>obtain⟨_,⟨_,_,_,e,_⟩,_⟩:=x;exact Vb e
 |M_ lo hi=>obtain⟨_,_,_,e⟩:=x;exact Vb e
 |tf ob u=>obtain⟨e,_⟩:=x;exact Vb e
 |FG ps=>exact Vb (show h.get? a=some _ from x)
 |met f y=>exact Vb (show h.get? a=some _ from x)
 |ext φ=>obtain⟨_,⟨_,e⟩,_⟩:=x;exact Vb e
theorem Paired.GC {α β:Type}{F G:α->β->Prop}:∀{l₁:List α} {l₂:List β},Paired F l₁ l₂->(∀a b,F a b->G a b)->Paired G l₁ l₂
 |_,_,.nil,_=>.nil
 |_,_,.cons r t,f=>.cons (f _ _ r) (Paired.GC t f)
theorem bb.pk (x:bb P w H h a o)(k:∀b u,(b=a\/H b=some (.own a))->h.get? b=some u->h'.get? b=some u)
  (ho:∀b,H b=some (.own a)->H' b=some (.own a)) (ht:∀b xs,H b=some (.tup xs)->H' b=some (.tup xs)):bb P w H' h' a o:=by
 induction o with
 |lst xs=>obtain⟨z,its,n,r,e⟩:=x;exact⟨z,its,n,r,k _ _ (.inl rfl) e⟩
 |tup xs=>obtain⟨z,its,r,ob,e,c⟩:=x;exact⟨z,its,r,ob,k _ _ (.inl rfl) e,c⟩
 |dK kvs=>obtain⟨z,y,vs,r,ob,es,ep,e,c⟩:=x;exact⟨z,y,vs,r,ob,es,ep,k _ _ (.inl rfl) e,c⟩
 |dT kvs =>
  obtain⟨z,y,xs,r,ob,es,ep,e,c⟩:=x;exact⟨z,y,xs,Paired.GC r λp q z=>⟨z.1,ht _ _ z.2.1,z.2.2⟩,ob,es,ep,k _ _ (.inl rfl) e,c⟩
 |set S n=>obtain⟨ob,es,ep,t,e,c⟩:=x;exact⟨ob,es,ep,t,k _ _ (.inl rfl) e,c⟩
 |ins C dx fs =>
  obtain⟨d,z,ne,e,mA,⟨od,es,ep,e2,c⟩,r⟩:=x;exact⟨ho _ d,z,ne,k _ _ (.inl rfl) e,mA,⟨od,es,ep,k _ _ (.inr d) e2,c⟩,r⟩
 |own y=>obtain⟨ob,e⟩:=x;exact⟨ob,k _ _ (.inl rfl) e⟩
 |xd fs=>obtain⟨mA,⟨od,es,ep,e,c⟩,r⟩:=x;exact⟨mA,⟨od,es,ep,k _ _ (.inl rfl) e,c⟩,r⟩
 |M_ lo hi=>obtain⟨t,u,v,e⟩:=x;exact⟨t,u,v,k _ _ (.inl rfl) e⟩
 |tf ob u ih=>obtain⟨e,q⟩:=x;exact⟨k _ _ (.inl rfl) e,ih q⟩
 |FG ps =>
  have e:h.get? a=some {cls:=.none,data:=.fields ps}:=x;show h'.get? a=some {cls:=.none,data:=.fields ps};exact k a _ (.inl rfl) e
 |met f y =>
  have e:h.get? a=some (PySem.W.methodObj (.ref f) (.ref y)):=x;show h'.get? a=some (PySem.W.methodObj (.ref f) (.ref y));exact k a _ (.inl rfl) e
 |ext φ=>obtain⟨p,⟨o,e⟩,st⟩:=x;exact⟨st _ _ p λo q=>k _ _ (.inl rfl) q,⟨o,k _ _ (.inl rfl) e⟩,st⟩
theorem hG.lt (x:hG P w H h)(e:H a=some o):a<h.objs.size:=(x a o e).lt
theorem hG.fresh (x:hG P w H h)(e:h.objs.size<=a):H a=none:=by
 cases q:H a with
 |none=>rfl
 |some u=>exact absurd (Vy (x.lt q) e) (Xq _)
theorem hG.kept (x:hG P w H h)(k:∀b u,h.get? b=some u->h'.get? b=some u):hG P w H h':=λa o e =>
 (x a o e).pk (λb u _ q=>k b u q) (λ_ q=>q) λ_ _ q=>q
theorem hG.laid (x:hG P w H h)(k:∀b u,h.get? b=some u->h'.get? b=some u)(hp:h.objs.size<=a)(new:bb P w (upd H a o) h' a o):hG P w (upd H a o) h':=λb u e=>by
 have hn:=x.fresh hp
 by_cases hb:b=a
 ·subst hb;rw[aw]at e;cases e;exact new
 ·rw[ar hb]at e;exact(x b u e).pk (λc v _ q=>k c v q) (λc q=>by rw[ar (cD q hn)];exact q) λc xs q=>by rw[ar (cD q hn)];exact q
end
def Rd (H:Hp)(a:Addr)(u:HO):Prop:=H a=some u\/∃o,H a=some (.tf o u)
theorem Rd.ok {P:U0}{w:Vf}{H:Hp}{h:Heap}{a:Addr}{u:HO}(r:Rd H a u)(x:hG P w H h):bb P w H h a u:=by
 rcases r with r|⟨o,r⟩
 ·exact x a u r
 ·obtain⟨_,q⟩:=x a _ r;exact q
def LH:Option HO->Prop
 |some (.lst _)=>True
 |some (.dK _)=>True
 |some (.dT _)=>True
 |some (.set _ _)=>True
 |some (.ins _ _ _)=>True
 |some (.ext _)=>True
 |_=>False
section
variable {P:U0}{w:Vf}{H:Hp}{h h':Heap}{x e:Addr}{o':HO}
theorem hG.write (ok:hG P w H h)(mu:LH (H x))(he:e=x\/H e=some (.own x))(k:∀b u,b≠e->h.get? b=some u->h'.get? b=some u)(Iy:∃u,h'.get? e=some u)
  (new:bb P w (upd H x o') h' x o'):hG P w (upd H x o') h':=λb u q=>by
 have JF:∀c y,H c=some (.own y)->c≠x:=λc y r z=>by subst z;rw[r]at mu;exact mu
 have NO:∀c xs,H c=some (.tup xs)->c≠x:=λc xs r z=>by subst z;rw[r]at mu;exact mu
 by_cases hb:b=x
 ·subst hb;rw[aw]at q;cases q;exact new
 ·rw[ar hb]at q
  by_cases AM:b=e
  ·have q':H b=some (.own x):=by
    rcases he with z|z
    ·exact absurd (AM.trans z) hb
    ·rw[AM];exact z
   rw[q]at q';cases q';obtain⟨v,hv⟩:=Iy;exact⟨v,by rw[AM];exact hv⟩
  ·refine(ok b u q).pk (λc v hc r=>k c v ?_ r) (λc r=>by rw[ar (JF c b r)];exact r) λc xs r=>by rw[ar (NO c xs r)];exact r
   rcases hc with rfl|hc
   ·exact AM
   ·rintro rfl;rcases he with z|z
    ·exact JF c b hc z
    ·rw[hc]at z;cases z;exact hb rfl
end
structure Un (fs ex:List Addr)(H H':Hp)(h h':Heap):Prop where
 keep:∀b o,h.get? b=some o->H b=none->b∉fs->b∉ex->h'.get? b=some o
 slot:∀b o,h.get? b=some o->H b=none->b∈fs->b∉ex->∃sl,h'.get? b=some {o with slots:=sl}
 free:∀b o,h.get? b=some o->H b=none->b∉ex->H' b=none
 there:∀b o,h.get? b=some o->b∉ex->∃o',h'.get? b=some o'
 mZ:∀b xs,H b=some (.tup xs)->H' b=some (.tup xs)
 mh:∀b o u,H b=some (.tf o u)->H' b=some (.tf o u)
 m6:∀b ps,H b=some (.FG ps)->∃more,H' b=some (.FG (ps++more))
section
variable {fs ex:List Addr}{H H1:Hp}{h h1 h':Heap}{a x e:Addr}{o:HO}
theorem Un.any (u:Un fs ex H H1 h h1){b:Addr}{ob:Obj}(q:h.get? b=some ob)(n:H b=none)(hx:b∉ex):∃sl,h1.get? b=some {ob with slots:=sl}:=by
 by_cases hb:b∈fs
 ·exact u.slot b ob q n hb hx
 ·exact⟨ob.slots,u.keep b ob q n hb hx⟩
theorem Un.kept (k:∀b u,h.get? b=some u->h'.get? b=some u):Un fs ex H H h h' :=
 ⟨λb ob q _ _ _=>k b ob q,λb ob q _ _ _=>⟨ob.slots,k b ob q⟩,λ_ _ _ n _=>n,λb ob q _=>⟨ob,k b ob q⟩,λ_ _ q=>q,λ_ _ _ q=>q,λ_ ps q=>⟨#[],by rw[q];simp⟩⟩
theorem Un.refl:Un fs ex H H h h:=Un.kept λ_ _ q=>q
theorem Un.laid (k:∀b u,h.get? b=some u->h'.get? b=some u)(hp:h.objs.size<=a)(hn:H a=none):Un fs ex H (upd H a o) h h' where
 keep:=λb u q _ _ _=>k b u q
 slot:=λb u q _ _ _=>⟨u.slots,k b u q⟩
 free:=λb u q n _=>by rw[ar (Vw (Vy (Vb q) hp))];exact n
 there:=λb u q _=>⟨u,k b u q⟩
 mZ:=λb xs q=>by rw[ar (cD q hn)];exact q
 mh:=λb u xs q=>by rw[ar (cD q hn)];exact q
 m6:=λb ps q=>⟨#[],by rw[ar (cD q hn),q];simp⟩
theorem Un.write (mu:LH (H x))(he:e=x\/H e=some (.own x))(k:∀b u,b≠e->h.get? b=some u->h'.get? b=some u)(Iy:∃u,h'.get? e=some u):Un fs ex H (upd H x o) h h':=by
 have hx:∀b,H b=none->b≠x:=λb n z=>by subst z;rw[n]at mu;exact mu
 have hb:∀b,H b=none->b≠e:=λb n z=>by
  subst z;rcases he with r|r
  ·exact hx b n r
  ·rw[n]at r;cases r
 have hm:∀b u,H b=some u->¬ LH (some u)->b≠x:=λb u q nm z=>by subst z;rw[q]at mu;exact nm mu
 refine⟨λb u q n _ _=>k b u (hb b n) q,λb u q n _ _=>⟨u.slots,k b u (hb b n) q⟩,λb u q n _=>by rw[ar (hx b n)];exact n,λb u q _=>?_,
  λb xs q=>by rw[ar (hm b _ q λz=>z)];exact q,λb u xs q=>by rw[ar (hm b _ q λz=>z)];exact q,λb ps q=>⟨#[],by rw[ar (hm b _ q λz=>z),q];simp⟩⟩
 by_cases AM:b=e
 ·subst AM;exact Iy
 ·exact⟨u,k b u AM q⟩
end
def LL (h:Heap)(H:Hp):List Addr:=(UZ h.objs.size).filter λa=>(H a).isSome
def pU (h:Heap)(H:Hp):Heap:=PySem.W.hideAll h (LL h H)
theorem xC (h:Heap)(H:Hp):(pU h H).objs.size=h.objs.size:=PySem.W.hideAll_size _ _
theorem AJ {h:Heap}{H:Hp}{b:Addr}{o:Obj}(e:h.get? b=some o)(n:H b=none):(pU h H).get? b=some o :=
 PySem.W.hideAll_get _ e λhm=>by
  have q:(H b).isSome=true:=(VB.mp hm).2;rw[n]at q;simp at q
theorem CY {h:Heap}{H:Hp}{b:Addr}{o:Obj}(e:(pU h H).get? b=some o):h.get? b=some o/\H b=none:=by
 have e':h.get? b=some o:=PySem.W.of_hideAll (LL h H) e;refine⟨e',?_⟩;cases q:H b with
 |none=>rfl
 |some x =>
  have hm:b∈LL h H:=VB.mpr ⟨V8.mpr (Vb e'),by simp[q]⟩
  have z:(pU h H).get? b=none:=PySem.W.hideAll_none (LL h H) hm;rw[z]at e;cases e
structure Mod (K:PySem.W.Frag)(mg:Str->Option UT)(base:Heap):Prop where
 NX:K.In base
 glob:base.Ns WT mg
 blt:∃mb,base.Ns builtinsNs mb/\∀x:Str,x≠"__name__" -> mb x=VM x
 nolimit:base.NoLimit
structure Cx where
 prog:U0
 w:Vf
 K:PySem.W.Frag
 mg:Str->Option UT
 base:Heap
 A:VW
 N:List Str
 s₀:UW
 H₀:Hp
 env:Env
 outer:List Env
 stack:List Env
 ex:List Addr
 fn:Str->Bool
 calm:Bool
 pn:List (Addr×Obj)
 xe:UT->UW->Prop
def AS (l:List Env):List Addr:=l.filterMap (·.frame)
abbrev Cx.fs (X:Cx):List Addr:=AS X.outer
def sQ (sc:W3)(x:Str):Prop:=sc.names.lookup x=some .local\/sc.names.lookup x=some .cell\/sc.names.lookup x=some .free
def Loc (sc:W3)(x:Str):Prop:=sc.names.lookup x=some .local\/sc.names.lookup x=some .cell
def Look (env:Env)(h:Heap)(m:Str->Option UT)(x:Str)(u:UT):Prop :=
 (env.kindOf x=some .local/\m x=some u)\/((env.kindOf x=some .cell\/env.kindOf x=some .free)/\∃c,env.cells.lookup x=some c/\h.IsCell c (some u))
structure Cx.Ok (X:Cx):Prop where
 mod:Mod X.K X.mg X.base
 kind:X.env.scope.kind=.function
 glob:X.env.globals=WT
 blt:X.env.builtins=builtinsNs
 above:X.s₀.heap.objs.size<=X.env.locals
 inj:∀x y c,X.env.cells.lookup x=some c->X.env.cells.lookup y=some c->x=y
 has:∀x,(X.env.kindOf x=some .cell\/X.env.kindOf x=some .free)->∃c,X.env.cells.lookup x=some c
 Lx:∀x c,X.fn x=true->X.env.cells.lookup x=some c->X.s₀.heap.objs.size<=c
 hd:X.calm=true->X.A.handled=none
 frames:X.A.frames=some X.stack
 LR:X.stack=X.outer\/(X.stack=X.env::X.outer/\X.env.frame=some X.env.locals)
 IC:∀b∈X.ex,b≠X.env.locals/\∀x c,X.env.cells.lookup x=some c->c≠b
 bs:∀b o,X.base.get? b=some o->X.s₀.heap.get? b=some o/\X.H₀ b=none
 BM:X.base.objs.size<=X.s₀.heap.objs.size
 xc:∀b o,X.base.get? b=some o->b∉X.ex
 xH:∀b∈X.ex,b∉X.fs
 mf:X.s₀.heap.FunFrames X.base X.outer
 IA:∀b∈X.fs,X.H₀ b=none
structure Inv (X:Cx)(pins:List (Addr×Obj))(σ:List (Option V))(H:Hp)(s:UW):Prop where
 ok:X.Ok
 os:s.os=X.s₀.os
 bare:Yw s.gens
 base:Un X.fs X.ex X.H₀ H X.s₀.heap s.heap
 loc:∃m,s.heap.Ns X.env.locals m/\∀(i:Nat) (x:Str) (v:V),X.N[i]?=some x->σ[i]?=some (some v)->sQ X.env.scope x->∃u,RelV v u/\Look X.env s.heap m x u
 cell:∀x c,X.env.cells.lookup x=some c->∃v,s.heap.IsCell c v
 free:H X.env.locals=none
 f6:∀x c,X.env.cells.lookup x=some c->H c=none
 pin:∀p∈X.pn++pins,s.heap.get? p.1=some p.2/\H p.1=none/\p.1≠X.env.locals/\p.1∉X.fs/\∀v,p.2.data≠.cell v
 br:hG X.prog X.w H s.heap
 len:σ.length=X.N.length
section
variable {X:Cx}{pins:List (Addr×Obj)}{σ:List (Option V)}{H H':Hp}{s:UW}{h':Heap}
theorem Cx.Ok.Gv (ok:X.Ok){b:Addr}{o:Obj}(e:X.base.get? b=some o):b∉X.fs:=λhb=>by
 have:=(ok.mf.mem hb).1;rw[e]at this;cases this
theorem Inv.bs (I:Inv X pins σ H s):∀b o,X.base.get? b=some o->s.heap.get? b=some o/\H b=none:=λb o e =>
 ⟨I.base.keep b o (I.ok.bs b o e).1 (I.ok.bs b o e).2 (I.ok.Gv e) (I.ok.xc b o e),I.base.free b o (I.ok.bs b o e).1 (I.ok.bs b o e).2 (I.ok.xc b o e)⟩
theorem Inv.bk (I:Inv X pins σ H s):∀b o,X.base.get? b=some o->s.heap.get? b=some o:=λb o e=>(I.bs b o e).1
theorem Inv.mod (I:Inv X pins σ H s):Mod X.K X.mg X.base:=I.ok.mod
theorem Inv.jr (I:Inv X pins σ H s):X.K.In s.heap:=I.ok.mod.NX.keeps I.bk
theorem Inv.lt (I:Inv X pins σ H s):X.env.locals<s.heap.objs.size:=let ⟨_,hn,_⟩:=I.loc;hn.lt
theorem Inv.sz (I:Inv X pins σ H s):X.s₀.heap.objs.size<=s.heap.objs.size:=VN I.ok.above (Yt I.lt)
theorem Inv.NP (I:Inv X pins σ H s){a:Addr}(h:s.heap.objs.size<=a):a∉X.fs:=λhb=>by
 obtain⟨_,o,ho,_⟩:=I.ok.mf.mem hb;exact absurd (Vy (Vb ho) (VN I.sz h)) (Xq _)
theorem Inv.HU (I:Inv X pins σ H s):∀x c,X.env.cells.lookup x=some c->c≠X.env.locals:=λx c e z=>by
 obtain⟨v,o,ho,hd⟩:=I.cell x c e;obtain⟨m,⟨o',es,ep,Dy,O8,_⟩,_⟩:=I.loc;rw[z,Dy]at ho;cases ho;rw[O8]at hd;cases hd
theorem Inv.mf (I:Inv X pins σ H s):s.heap.FunFrames X.base X.outer:=by
 have all:∀(l:List Env),(∀b∈AS l,b∈X.fs)->X.s₀.heap.FunFrames X.base l->s.heap.FunFrames X.base l:=by
  intro l
  induction l with
  |nil=>intro _ _;trivial
  |cons env r ih =>
   intro hs hl;obtain⟨hk,⟨L,o,hf,hn,ho,hd⟩,hr⟩:=hl;have hL:L∈X.fs:=hs L (by unfold AS;rw[VV,hf];exact Vs)
   obtain⟨sl,e⟩:=I.base.slot L o ho (I.ok.IA L hL) hL λz=>I.ok.xH L z hL;exact⟨hk,⟨L,_,hf,hn,e,hd⟩,ih (λb hb=>hs b (by unfold AS;rw[VV,hf];exact Vi _ hb)) hr⟩
 exact all X.outer (λ_ hb=>hb) I.ok.mf
theorem Inv.stack (I:Inv X pins σ H s):s.heap.FunFrames X.base X.stack:=by
 rcases I.ok.LR with e|⟨e,hf⟩
 ·rw[e];exact I.mf
 ·rw[e];obtain⟨m,hn,_⟩:=I.loc;refine .cons (by rw[I.ok.kind];decide) hf hn ?_ I.mf
  exact Heap.get?_none_of_le (VN I.ok.BM I.ok.above)
theorem Inv.ph (I:Inv X pins σ H s):∀b∈AS X.stack,b∈X.env.locals::X.fs:=λb hb=>by
 rcases I.ok.LR with e|⟨e,hf⟩
 ·rw[e]at hb;exact Vi _ hb
 ·rw[e]at hb;unfold AS at hb;rw[VV,hf]at hb;exact hb
theorem Inv.pj (I:Inv X pins σ H s):∀b∈AS X.stack,H b=none:=λb hb=>by
 rcases U1.mp (I.ph b hb)with e|hb
 ·rw[e];exact I.free
 ·obtain⟨_,o,ho,_⟩:=I.ok.mf.mem hb;exact I.base.free b o ho (I.ok.IA b hb) λz=>I.ok.xH b z hb
theorem Inv.step {g':Array GenState}{t':Nat}{d':Drawn}{ch:List Addr}(I:Inv X pins σ H s)
  (rL:∀b∈ch,(b∈X.ex\/X.s₀.heap.objs.size<=b)/\b≠X.env.locals/\(∀x c,X.env.cells.lookup x=some c->c≠b)/\∀p∈X.pn++pins,p.1≠b)
  (keep:∀b o,b≠X.env.locals->b∉X.fs->b∉ch->s.heap.get? b=some o->H b=none->h'.get? b=some o)
  (slot:∀b o,b≠X.env.locals->b∈X.fs->b∉ch->s.heap.get? b=some o->H b=none->∃sl,h'.get? b=some {o with slots:=sl}) (free:∀b o,b∉ch->s.heap.get? b=some o->H b=none->H' b=none)
  (there:∀b o,b∉ch->s.heap.get? b=some o->∃o',h'.get? b=some o')
  (mZ:∀b xs,H b=some (.tup xs)->H' b=some (.tup xs)) (mh:∀b o u,H b=some (.tf o u)->H' b=some (.tf o u)) (m6:∀b ps,H b=some (.FG ps)->∃more,H' b=some (.FG (ps++more)))
  (ns:∀m,s.heap.Ns X.env.locals m->h'.Ns X.env.locals m) (br:hG X.prog X.w H' h') (hg:Yw g') :
  Inv X pins σ H' {s with heap:=h',gens:=g',drawn:=d',toks:=t'}:=by
 have QC:∀b o,X.s₀.heap.get? b=some o->b≠X.env.locals:=λb o e=>Vw (Vy (Vb e) I.ok.above);have LZ:∀b o,X.s₀.heap.get? b=some o->b∉X.ex->b∉ch:=λb o e hx hb=>by
  rcases (rL b hb).1 with z|z
  ·exact hx z
  ·exact absurd (Vy (Vb e) z) (Xq _)
 have cellK:∀x c,X.env.cells.lookup x=some c->∀v,s.heap.IsCell c v->h'.IsCell c v:=λx c e v uE=>by
  obtain⟨o,ho,hd⟩:=uE;have JM:c∉ch:=λz=>(rL c z).2.2.1 x c e rfl
  by_cases hc:c∈X.fs
  ·obtain⟨sl,q⟩:=slot c o (I.HU x c e) hc JM ho (I.f6 x c e);exact⟨_,q,hd⟩
  ·exact⟨o,keep c o (I.HU x c e) hc JM ho (I.f6 x c e),hd⟩
 refine⟨I.ok,I.os,hg,⟨λb o e n hb hx=>?_,λb o e n hb hx=>?_,λb o e n hx=>?_,λb o e hx=>?_,λb xs e=>mZ b xs (I.base.mZ b xs e),λb o xs e=>mh b o xs (I.base.mh b o xs e),λb ps e=>?_⟩,?_,λx c e=>?_,?_,λx c e=>?_,λp hp=>?_,br,I.len⟩
 ·exact keep b o (QC b o e) hb (LZ b o e hx) (I.base.keep b o e n hb hx) (I.base.free b o e n hx)
 ·obtain⟨sl,e1⟩:=I.base.slot b o e n hb hx;obtain⟨FU,e2⟩:=slot b _ (QC b o e) hb (LZ b o e hx) e1 (I.base.free b o e n hx);exact⟨FU,e2⟩
 ·obtain⟨o',e1⟩:=I.base.there b o e hx;exact free b o' (LZ b o e hx) e1 (I.base.free b o e n hx)
 ·obtain⟨o',e1⟩:=I.base.there b o e hx;exact there b o' (LZ b o e hx) e1
 ·obtain⟨m1,e1⟩:=I.base.m6 b ps e;obtain⟨m2,e2⟩:=m6 b _ e1;exact⟨m1++m2,by rw[e2,Array.append_assoc]⟩
 ·obtain⟨m,hn,hl⟩:=I.loc;refine⟨m,ns m hn,λi x v e1 e2 e3=>?_⟩;obtain⟨u,r,l⟩:=hl i x v e1 e2 e3;refine⟨u,r,?_⟩;rcases l with l|⟨k,c,e,z⟩
  ·exact .inl l
  ·exact .inr ⟨k,c,e,cellK x c e _ z⟩
 ·obtain⟨v,z⟩:=I.cell x c e;exact⟨v,cellK x c e v z⟩
 ·obtain⟨m,⟨o,_,_,ho,_⟩,_⟩:=I.loc;exact free _ o (λz=>(rL _ z).2.1 rfl) ho I.free
 ·obtain⟨v,o,ho,hd⟩:=I.cell x c e;exact free c o (λz=>(rL c z).2.2.1 x c e rfl) ho (I.f6 x c e)
 ·obtain⟨e,n,ne,nf,d⟩:=I.pin p hp;have JM:p.1∉ch:=λz=>(rL p.1 z).2.2.2 p hp rfl;exact⟨keep p.1 p.2 ne nf JM e n,free p.1 p.2 JM e n,ne,nf,d⟩
theorem Inv.un {t':Nat}(I:Inv X pins σ H s)(u:Un X.fs [] H H' s.heap h')(br:hG X.prog X.w H' h'):Inv X pins σ H' {s with heap:=h',toks:=t'}:=by
 obtain⟨m,⟨o,es,ep,ho,r⟩,_⟩:=id I.loc;obtain⟨sl,hL⟩:=u.any ho I.free (by simp)
 exact I.step (g':=s.gens) (d':=s.drawn) (ch:=[]) (λ_ z=>nomatch z) (λb o _ hb _ e n=>u.keep b o e n hb (by simp)) (λb o _ hb _ e n=>u.slot b o e n hb (by simp)) (λb o _ e n=>u.free b o e n (by simp)) (λb o _ e=>u.there b o e (by simp)) u.mZ u.mh u.m6 (λm' hm=>by
  obtain⟨o',eh,pY,Dy,r'⟩:=hm;rw[ho]at Dy;cases Dy;exact⟨_,eh,pY,hL,r'⟩) br I.bare
theorem Inv.call {g':Array GenState}{t':Nat}{d':Drawn}{ch:List Addr}(I:Inv X pins σ H s)(u:Un (AS X.stack) ch H H' s.heap h')(br:hG X.prog X.w H' h')(hg:Yw g')
  (rL:∀b∈ch,(b∈X.ex\/X.s₀.heap.objs.size<=b)/\b≠X.env.locals/\(∀x c,X.env.cells.lookup x=some c->c≠b)/\∀p∈X.pn++pins,p.1≠b) :
  Inv X pins σ H' {s with heap:=h',gens:=g',drawn:=d',toks:=t'}:=by
 obtain⟨m,⟨o,es,ep,ho,r⟩,_⟩:=id I.loc;obtain⟨sl,hL⟩:=u.any ho I.free λz=>(rL _ z).2.1 rfl;exact I.step (ch:=ch) rL (λb o hL hb hc e n=>u.keep b o e n (λz=>(U1.mp (I.ph b z)).elim hL hb) hc) (λb o _ _ hc e n=>u.any e n hc) (λb o hc e n=>u.free b o e n hc) (λb o hc e=>u.there b o e hc) u.mZ u.mh u.m6 (λm' hm=>by
  obtain⟨o',eh,pY,Dy,r'⟩:=hm;rw[ho]at Dy;cases Dy;exact⟨_,eh,pY,hL,r'⟩) br hg
theorem Inv.turned {t':Nat}{it:Addr}(I:Inv X pins σ H s)(k:∀b o,b≠it->s.heap.get? b=some o->h'.get? b=some o)(hn:H it=none)(hL:it≠X.env.locals)
  (h1:it∈X.ex\/X.s₀.heap.objs.size<=it) (h2:∀x c,X.env.cells.lookup x=some c->c≠it) (h3:∀p∈X.pn++pins,p.1≠it):Inv X pins σ H {s with heap:=h',toks:=t'}:=by
 have QB:∀b u,H b=some u->b≠it:=λb u e z=>by rw[z,hn]at e;cases e
 refine I.step (g':=s.gens) (d':=s.drawn) (ch:=[it]) (λb hb=>?_) (λb o _ _ hc e _=>k b o (λz=>hc (by simp[z])) e) (λb o _ _ hc e _=>⟨o.slots,k b o (λz=>hc (by simp[z])) e⟩) (λ_ _ _ _ n=>n)
  (λb o hc e=>⟨o,k b o (λz=>hc (by simp[z])) e⟩) (λ_ _ e=>e) (λ_ _ _ e=>e) (λb ps e=>⟨#[],by rw[e];simp⟩) (λm hm=>?_) (λb u e=>?_) I.bare
 ·have e:b=it:=by simpa using hb
  subst e;exact⟨h1,hL,h2,h3⟩
 ·obtain⟨o,es,ep,ho,r⟩:=hm;exact⟨o,es,ep,k _ o (V5 hL) ho,r⟩
 ·refine(I.br b u e).pk (λc v hc q=>k c v ?_ q) (λ_ q=>q) λ_ _ q=>q;rcases hc with z|z
  ·rw[z];exact QB b u e
  ·exact QB c _ z
theorem Inv.tok (I:Inv X pins σ H s)(t:Nat):Inv X pins σ H {s with toks:=t}:=I.un (h':=s.heap) (t':=t) Un.refl I.br
theorem Inv.kept {t':Nat}(I:Inv X pins σ H s)(k:∀b u,s.heap.get? b=some u->h'.get? b=some u):Inv X pins σ H {s with heap:=h',toks:=t'}:=I.un (Un.kept k) (I.br.kept k)
theorem Inv.laid {a:Addr}{o:HO}{t':Nat}(I:Inv X pins σ H s)(k:∀b u,s.heap.get? b=some u->h'.get? b=some u)(hp:s.heap.objs.size<=a)(new:bb X.prog X.w (upd H a o) h' a o):
  Inv X pins σ (upd H a o) {s with heap:=h',toks:=t'}:=I.un (Un.laid k hp (I.br.fresh hp)) (I.br.laid k hp new)
theorem Inv.write {x e:Addr}{o:HO}{t':Nat}(I:Inv X pins σ H s)(mu:LH (H x))(he:e=x\/H e=some (.own x))(k:∀b u,b≠e->s.heap.get? b=some u->h'.get? b=some u)(Iy:∃u,h'.get? e=some u)
  (new:bb X.prog X.w (upd H x o) h' x o):Inv X pins σ (upd H x o) {s with heap:=h',toks:=t'}:=I.un (Un.write mu he k Iy) (I.br.write mu he k Iy new)
theorem Inv.vj {EB:List (Addr×Obj)}(I:Inv X pins σ H s)(h:∀p∈EB,s.heap.get? p.1=some p.2/\H p.1=none/\p.1≠X.env.locals/\p.1∉X.fs/\∀v,p.2.data≠.cell v):Inv X EB σ H s :=
 ⟨I.ok,I.os,I.bare,I.base,I.loc,I.cell,I.free,I.f6,λp hp=>(Vg.mp hp).elim (λz=>I.pin p (V9 _ z)) (h p),I.br,I.len⟩
theorem q_ {N:List Str}(hN:N.Nodup){i j:Nat}{x:Str}(a:N[i]?=some x)(b:N[j]?=some x):i=j:=by
 obtain⟨h1,e1⟩:=U3.mp a;obtain⟨h2,e2⟩:=U3.mp b;exact(List.getElem_inj hN).mp (e1.trans e2.symm)
theorem i5 {M:Model}{A:VW}{E:UT->UW->Prop}{i:Nat}{x:Str}{v:V}{u:UT}{Q:Unit->UW->Prop}(I:Inv X pins σ H s)(hN:X.N.Nodup)(hi:X.N[i]?=some x)(hx:Loc X.env.scope x)(r:RelV v u)
  (h:∀s',Inv X pins (σ.set i (some v)) H s'->(∃a,Wq a s.heap s'.heap/\(a=X.env.locals\/X.env.cells.lookup x=some a))->Q () s') (hf:X.fn x=true\/X.env.scope.names.lookup x=some .local:=by first|exact .inl rfl|exact .inr rfl|assumption):Vq M A (storeName X.env x u) Q E s:=by
 obtain⟨m,hn,hl⟩:=id I.loc;have O9:(X.env.scope.kind==.class || (X.env.scope.kind==.module&&X.env.locals != X.env.globals))=false:=by rw[I.ok.kind];rfl
 have K5:i<σ.length:=by rw[I.len];exact(U3.mp hi).1
 have HU:=I.HU;have tracked:∀{a:Addr} {h':Heap},(∃o,s.heap.get? a=some o/\H a=none)->Wq a s.heap h'->hG X.prog X.w H h':=λ{a h'} ha hs b ob e=>by
  obtain⟨_,_,E4⟩:=ha;refine(I.br b ob e).pk (λc w' hc q=>(hs.2 c ?_).trans q) (λ_ q=>q) λ_ _ q=>q;rintro rfl;rcases hc with rfl|hc
  ·rw[E4]at e;cases e
  ·rw[E4]at hc;cases hc
 rcases hx with hk|hk
 ·refine wpAny_storeName_local hk hn (λh' Dz hs=>?_) O9;obtain⟨oL,_,_,SS,_⟩:=id hn;refine h _ ⟨I.ok,I.os,I.bare,⟨λb o e n hb hx=>?_,λb o e n hb hx=>?_,I.base.free,λb o e hx=>?_,I.base.mZ,I.base.mh,I.base.m6⟩,⟨_,Dz,λj y v' e1 e2 e3=>?_⟩,λy c e=>?_,I.free,I.f6,λp hp=>?_,tracked ⟨oL,SS,I.free⟩ hs,by simpa using I.len⟩ ⟨_,hs,.inl rfl⟩
  ·exact(hs.2 b (Vw (Vy (Vb e) I.ok.above))).trans (I.base.keep b o e n hb hx)
  ·obtain⟨sl,e1⟩:=I.base.slot b o e n hb hx;exact⟨sl,(hs.2 b (Vw (Vy (Vb e) I.ok.above))).trans e1⟩
  ·obtain⟨o',e1⟩:=I.base.there b o e hx;exact⟨o',(hs.2 b (Vw (Vy (Vb e) I.ok.above))).trans e1⟩
  ·by_cases hj:j=i
   ·subst hj;rw[hi]at e1;cases e1;rw[List.getElem?_set_self K5]at e2;cases e2;exact⟨u,r,.inl ⟨hk,by simp⟩⟩
   ·rw[List.getElem?_set_ne (V5 hj)]at e2;obtain⟨u',r',q⟩:=hl j y v' e1 e2 e3;refine⟨u',r',?_⟩;rcases q with⟨k,e⟩|⟨k,c,e,z⟩
    ·refine .inl ⟨k,?_⟩;have:y≠x:=λe=>hj (q_ hN e1 (e▸hi));simp[this,e]
    ·exact .inr ⟨k,c,e,z.sameBut hs (HU y c e)⟩
  ·obtain⟨w',z⟩:=I.cell y c e;exact⟨w',z.sameBut hs (HU y c e)⟩
  ·obtain⟨e,n,ne,nf,d⟩:=I.pin p hp;exact⟨(hs.2 p.1 ne).trans e,n,ne,nf,d⟩
 ·have O4:X.fn x=true:=by
   rcases hf with z|z
   ·exact z
   ·rw[z]at hk;cases hk
  obtain⟨c,hc⟩:=I.ok.has x (.inl hk);obtain⟨w',z⟩:=I.cell x c hc;refine wpAny_storeName_cell I.ok.kind hk hc z (λh' oC hs=>?_);obtain⟨oc,Hu,OM⟩:=id z;refine h {s with heap:=h'} ⟨I.ok,I.os,I.bare,⟨λb o e n hb hx=>?_,λb o e n hb hx=>?_,I.base.free,λb o e hx=>?_,I.base.mZ,I.base.mh,I.base.m6⟩,⟨m,hn.sameBut hs (V5 (HU x c hc)),λj y v' e1 e2 e3=>?_⟩,λy c' e=>?_,I.free,I.f6,λp hp=>?_,tracked ⟨oc,Hu,I.f6 x c hc⟩ hs,by simpa using I.len⟩ ⟨c,hs,.inr hc⟩
  ·exact(hs.2 b (Vw (Vy (Vb e) (I.ok.Lx x c O4 hc)))).trans (I.base.keep b o e n hb hx)
  ·obtain⟨sl,e1⟩:=I.base.slot b o e n hb hx;exact⟨sl,(hs.2 b (Vw (Vy (Vb e) (I.ok.Lx x c O4 hc)))).trans e1⟩
  ·obtain⟨o',e1⟩:=I.base.there b o e hx;exact⟨o',(hs.2 b (Vw (Vy (Vb e) (I.ok.Lx x c O4 hc)))).trans e1⟩
  ·by_cases hj:j=i
   ·subst hj;rw[hi]at e1;cases e1;rw[List.getElem?_set_self K5]at e2;cases e2;exact⟨u,r,.inr ⟨.inl hk,c,hc,oC⟩⟩
   ·rw[List.getElem?_set_ne (V5 hj)]at e2;obtain⟨u',r',q⟩:=hl j y v' e1 e2 e3;refine⟨u',r',?_⟩;rcases q with q|⟨k,c',e,z'⟩
    ·exact .inl q
    ·refine .inr ⟨k,c',e,z'.sameBut hs ?_⟩;rintro rfl;exact hj (q_ hN e1 (I.ok.inj _ _ _ e hc▸hi))
  ·by_cases E5:c'=c
   ·subst E5;exact⟨_,oC⟩
   ·obtain⟨w2,z2⟩:=I.cell y c' e;exact⟨w2,z2.sameBut hs E5⟩
  ·obtain⟨e,n,ne,nf,d⟩:=I.pin p hp;refine⟨(hs.2 p.1 ?_).trans e,n,ne,nf,d⟩;intro q;rw[q,Hu]at e;have q':oc=p.2:=VA e;exact d w' (by rw[<- q'];exact OM)
theorem qv {M:Model}{A:VW}{E:UT->UW->Prop}{i:Nat}{x:Str}{v:V}{u:UT}{Q:Unit->UW->Prop}(I:Inv X pins σ H s)(hN:X.N.Nodup)(hi:X.N[i]?=some x)(hx:Loc X.env.scope x)(r:RelV v u)
  (h:∀s',Inv X pins (σ.set i (some v)) H s'->Q () s') (hf:X.fn x=true\/X.env.scope.names.lookup x=some .local:=by first|exact .inl rfl|exact .inr rfl|assumption):Vq M A (storeName X.env x u) Q E s :=
 i5 I hN hi hx r (λs' I' _=>h s' I') hf
theorem Inv.Fe {s':UW}{ch:List Addr}(I:Inv X pins σ H s)(ho:s'.os=s.os)(u:Un (AS X.stack) ch H H' s.heap s'.heap)(br:hG X.prog X.w H' s'.heap)(hg:Yw s'.gens)
  (rL:∀b∈ch,(b∈X.ex\/X.s₀.heap.objs.size<=b)/\b≠X.env.locals/\(∀x c,X.env.cells.lookup x=some c->c≠b)/\∀p∈X.pn++pins,p.1≠b):Inv X pins σ H' s':=by
 obtain⟨h',g',d',t',o'⟩:=s';have e:o'=s.os:=ho;subst e;exact I.call (g':=g') (t':=t') (d':=d') u br hg rL
end
abbrev XK:=UT->Option Addr->Hp->Prop
abbrev St:=List (Option V)
abbrev VK:=V->Hp->Prop
abbrev TE:=St->Hp->VK->Prop
abbrev TT:=St->Hp->(Bool->Hp->Prop)->Prop
abbrev TA:=St->Hp->(List V->Hp->Prop)->Prop
structure Ends where
 nx:St->Hp->Prop
 rt:VK
 bk:St->Hp->Prop:=λ_ _=>False
 ct:St->Hp->Prop:=λ_ _=>False
abbrev TS:=Ends->St->Hp->Prop
def EP (X:Cx)(pins:List (Addr×Obj))(σ:St)(Q:VK)(u:UT)(s':UW):Prop:=∃v H',Inv X pins σ H' s'/\RelV v u/\Q v H'
def TP (X:Cx)(pins:List (Addr×Obj))(σ:St)(Q:Bool->Hp->Prop)(b:Bool)(s':UW):Prop:=∃H',Inv X pins σ H' s'/\Q b H'
def AP (X:Cx)(pins:List (Addr×Obj))(σ:St)(Q:List V->Hp->Prop)(us:List UT)(s':UW):Prop:=∃vs H',Inv X pins σ H' s'/\Vals vs us/\Q vs H'
def SP (X:Cx)(pins:List (Addr×Obj))(D:Ends)(f:Flow)(s':UW):Prop :=
 match f with
 |.next=>∃σ' H',Inv X pins σ' H' s'/\D.nx σ' H'
 |.brk=>∃σ' H',Inv X pins σ' H' s'/\D.bk σ' H'
 |.cont=>∃σ' H',Inv X pins σ' H' s'/\D.ct σ' H'
 |.ret u=>∃v σ' H',Inv X pins σ' H' s'/\RelV v u/\D.rt v H'
def PE (X:Cx)(e:Expr)(t:TE):Prop :=
 ∀(pins:List (Addr×Obj)) (s:UW) (σ:St) (H:Hp) (Q:VK),Inv X pins σ H s->t σ H Q->Vq (model X.prog X.w) X.A (eval e X.env) (EP X pins σ Q) X.xe s
def PT (X:Cx)(e:Expr)(t:TT):Prop :=
 ∀(pins:List (Addr×Obj)) (s:UW) (σ:St) (H:Hp) (Q:Bool->Hp->Prop),Inv X pins σ H s->t σ H Q->Vq (model X.prog X.w) X.A (Zm e X.env (eval e X.env)) (TP X pins σ Q) X.xe s
def PW (X:Cx)(e:Expr)(t:TT):Prop :=
 ∀(whole:Sem UT) (pins:List (Addr×Obj)) (s:UW) (σ:St) (H:Hp) (Q:Bool->Hp->Prop),Inv X pins σ H s->t σ H Q->Vq (model X.prog X.w) X.A (Zm e X.env whole) (TP X pins σ Q) X.xe s
theorem PW.pt {X:Cx}{e:Expr}{t:TT}(h:PW X e t):PT X e t:=h _
def PA (X:Cx)(es:List Expr)(t:TA):Prop :=
 ∀(pos:Pos) (pins:List (Addr×Obj)) (s:UW) (σ:St) (H:Hp) (Q:List V->Hp->Prop),Inv X pins σ H s->t σ H Q->Vq (model X.prog X.w) X.A (spliced (W6 pos (Ve es X.env))) (AP X pins σ Q) X.xe s
def PS (X:Cx)(st:Stmt)(t:TS):Prop :=
 ∀(pins:List (Addr×Obj)) (s:UW) (σ:St) (H:Hp) (D:Ends),Inv X pins σ H s->t D σ H->Vq (model X.prog X.w) X.A (exec st X.env) (SP X pins D) X.xe s
def qk (X:Cx)(st:List Stmt)(t:TS):Prop :=
 ∀(pins:List (Addr×Obj)) (s:UW) (σ:St) (H:Hp) (D:Ends),Inv X pins σ H s->t D σ H->Vq (model X.prog X.w) X.A (execs st X.env) (SP X pins D) X.xe s
theorem bC {α:Type}{t:Sem α}{Q Q':α->UW->Prop}{M:Model}{A:VW}{E:UT->UW->Prop}{s:UW}(h:Vq M A t Q E s)(hQ:∀a s,Q a s->Q' a s):Vq M A t Q' E s:=XT h hQ λ_ _ x=>x
section
variable {X:Cx}
def IS (i:Nat):TE:=λσ H Q=>∃v,σ[i]?=some (some v)/\Q v H
def tC (v:V):TE:=λ_ H Q=>Q v H
theorem cT {i:Nat} {x:Str} {pos:Pos} (hN:X.N[i]?=some x) (hv:sQ X.env.scope x) (hd:(x==("__debug__" : Str))=false:=by decide) (gG:(x==("__classdict__" : Str))=false:=by decide):PE X (.Name x pos) (IS i):=by
 intro pins s σ H Q I h;obtain⟨v,e,h⟩:=h;obtain⟨m,hn,hl⟩:=I.loc;obtain⟨u,r,l⟩:=hl i x v hN e hv;have fin:EP X pins σ Q u s:=⟨v,H,I,r,h⟩;rcases l with⟨hk,hm⟩|⟨hk,c,hc,jR⟩
 ·exact wpAny_Name (wpAny_loadName_local I.ok.kind hk hn hm fin) hd
 ·rcases hk with hk|hk
  ·exact wpAny_Name (wpAny_loadName_cell I.ok.kind hk hc jR fin) hd
  ·exact wpAny_Name (wpAny_loadName_free I.ok.kind hk hc jR fin gG) hd
theorem a_ {i j pos}:PE X (.Constant (.int i) j pos) (tC (.int i)):=λ_ _ _ H _ I h=>wpAny_Constant_int ⟨.int i,H,I.tok _,⟨_,rfl⟩,h⟩
theorem ED {b j pos}:PE X (.Constant (.bool b) j pos) (tC (.bl b)):=λ_ _ _ H _ I h=>Constant_bool ⟨.bl b,H,I,rfl,h⟩
theorem Ge {j pos}:PE X (.Constant .none j pos) (tC .bK):=λ_ _ _ H _ I h=>Constant_none ⟨.bK,H,I,rfl,h⟩
def Gl (X:Cx)(x:Str):Prop:=X.env.kindOf x=some .globalImplicit
theorem Dh {E:UT->UW->Prop}{pins:List (Addr×Obj)}{s:UW}{σ:St}{H:Hp}{x:Str}{u:UT}{pos:Pos}{Q:UT->UW->Prop}(I:Inv X pins σ H s)(hg:Gl X x)(hm:X.mg x=some u)(h:Q u s)
  (hd:(x==("__debug__" : Str))=false:=by decide):Vq (model X.prog X.w) X.A (eval (.Name x pos) X.env) Q E s :=
 ZS I.ok.kind hg (Calls.loadGlobal_global (by rw[I.ok.glob];exact I.mod.glob.keeps I.bk) hm h) hd
theorem gP {E:UT->UW->Prop}{pins:List (Addr×Obj)}{s:UW}{σ:St}{H:Hp}{x:Str}{u:UT}{pos:Pos}{Q:UT->UW->Prop}(I:Inv X pins σ H s)(hg:Gl X x)(hm:X.mg x=none)(hv:VM x=some u)(h:Q u s)
  (hn:x≠"__name__" := by decide) (hd:(x==("__debug__" : Str))=false:=by decide):Vq (model X.prog X.w) X.A (eval (.Name x pos) X.env) Q E s:=by
 obtain⟨mb,h1,h2⟩:=I.mod.blt;exact ZS I.ok.kind hg (Calls.loadGlobal_builtin (by rw[I.ok.glob];exact I.mod.glob.keeps I.bk) hm (by rw[I.ok.blt];exact h1.keeps I.bk) ((h2 x hn).trans hv) h) hd
theorem pI {x:Str} {v:V} {u:UT} {pos:Pos} (hg:Gl X x) (hm:X.mg x=none) (hv:VM x=some u) (r:RelV v u) (hn:x≠"__name__" := by decide) (hd:(x==("__debug__" : Str))=false:=by decide):PE X (.Name x pos) (tC v) :=
 λ_ _ _ H _ I h=>gP I hg hm hv ⟨v,H,I,r,h⟩ hn hd
variable {a b:Expr}{ta tb:TE}{pos:Pos}
theorem rd (b:Expr){op:XZ}(h:op≠.In)(h2:op≠.NotIn):Xd op b=false:=by
 have e1:(op==CmpOp.In)=false:=by cases op <;> first|rfl|exact absurd rfl h
 have e2:(op==CmpOp.NotIn)=false:=by cases op <;> first|rfl|exact absurd rfl h2
 cases b <;> simp[Xd,e1,e2]
def tB (t:TE):TT:=λσ H Q=>t σ H λx H1=>∃c,x=.bl c/\Q c H1
theorem F5 {e:Expr}{t:TE}(h:PE X e t)(he:∀whole,Zm e X.env whole=(do let v <- whole;X5 e.pos;holding [v] (truthy v)):=by intro _;rfl):PT X e (tB t):=by
 intro pins s σ H Q I hw;refine isTrue_plain (bC (h pins s σ H _ I hw) λv s1 ⟨x,H1,I1,r1,q1⟩=>?_) (he _);obtain⟨d,rfl,q⟩:=q1;cases r1;exact Wx ⟨H1,I1,q⟩
variable {tA LQ:TT}{rest:List Expr}
def MU (t u:TT):TT:=λσ H Q=>t σ H λc H1=>if c=true then u σ H1 Q else Q false H1
def RG (t u:TT):TT:=λσ H Q=>t σ H λc H1=>if c=true then Q true H1 else u σ H1 Q
def MO (t:TT):TT:=λσ H Q=>t σ H λc H1=>Q (!c) H1
theorem pw_and1 (ha:PT X a tA):PW X (.BoolOp .And [a] pos) tA:=by
 intro wh pins s σ H Q I h;refine isTrue_and (bC (ha pins s σ H Q I h) λc s1 e=>?_);cases c with
 |true=>exact isTrue_and_nil e
 |false=>exact e
theorem pw_or1 (ha:PT X a tA):PW X (.BoolOp .Or [a] pos) tA:=by
 intro wh pins s σ H Q I h;refine isTrue_or (bC (ha pins s σ H Q I h) λc s1 e=>?_);cases c with
 |false=>exact isTrue_or_nil e
 |true=>exact e
theorem pw_and (ha:PT X a tA)(hb:PW X (.BoolOp .And (b::rest) pos) LQ):PW X (.BoolOp .And (a::b::rest) pos) (MU tA LQ):=by
 intro wh pins s σ H Q I h;refine isTrue_and (bC (ha pins s σ H _ I h) λc s1 ⟨H1,I1,q1⟩=>?_);cases c with
 |true=>exact hb wh pins s1 σ H1 Q I1 q1
 |false=>exact⟨H1,I1,q1⟩
theorem pw_or (ha:PT X a tA)(hb:PW X (.BoolOp .Or (b::rest) pos) LQ):PW X (.BoolOp .Or (a::b::rest) pos) (RG tA LQ):=by
 intro wh pins s σ H Q I h;refine isTrue_or (bC (ha pins s σ H _ I h) λc s1 ⟨H1,I1,q1⟩=>?_);cases c with
 |true=>exact⟨H1,I1,q1⟩
 |false=>exact hb wh pins s1 σ H1 Q I1 q1
theorem F6 (ha:PT X a tA):PT X (.UnaryOp .Not a pos) (MO tA):=by
 intro pins s σ H Q I h;exact isTrue_not (ha pins s σ H (λc H1=>Q (!c) H1) I h)
def Jc (ta tb:TE):TE:=λσ H Q=>ta σ H λx H1=>∃c,x=.bl c/\if c=true then tb σ H1 Q else Q (.bl false) H1
def IX (ta:TE):TE:=λσ H Q=>ta σ H λx H1=>∃c,x=.bl c/\Q (.bl (!c)) H1
theorem Ga {op}{t:TE}(h:PE X a t):PE X (.BoolOp op [a] pos) t:=λpins s σ H Q I hw=>BoolOp_one (h pins s σ H Q I hw)
theorem Gg (ha:PE X a ta)(hb:PE X (.BoolOp .And (b::rest) pos) tb):PE X (.BoolOp .And (a::b::rest) pos) (Jc ta tb):=by
 intro pins s σ H Q I h;refine BoolOp_and (bC (ha pins s σ H _ I h) λv s1 ⟨x,H1,I1,r1,q1⟩=>?_);obtain⟨c,rfl,q1⟩:=q1;cases r1;refine Wx ?_;cases c with
 |true=>exact hb pins s1 σ H1 Q I1 q1
 |false=>exact⟨.bl false,H1,I1,rfl,q1⟩
theorem Gb (ha:PE X a ta):PE X (.UnaryOp .Not a pos) (IX ta):=by
 intro pins s σ H Q I h;refine UnaryOp_ (bC (ha pins s σ H _ I h) λv s1 ⟨x,H1,I1,r1,q1⟩=>?_);obtain⟨c,rfl,q1⟩:=q1;cases r1;exact not_of (Wx ⟨.bl (!c),H1,I1,rfl,q1⟩)
end
def cP (K:PySem.W.Frag)(H:Hp)(a:Addr)(xs:List V):Prop :=
 Rd H a (.lst xs) \/
  ∃(o:Obj) (its:Array UT) (n:Nat),K.lookup a=some o/\o.cls=.type "list" /\ o.dict=none/\o.data=.seq its n/\its.size<=U_/\Vals xs its.toList
def qj (K:PySem.W.Frag)(H:Hp)(a:Addr)(xs:List V):Prop :=
 Rd H a (.tup xs) \/
  ∃(o:Obj) (its:Array UT) (n:Nat),K.lookup a=some o/\o.cls=.type "tuple" /\ o.data=.seq its n/\its.size<=U_/\Vals xs its.toList
def PU:UT->Option V
 |.none=>some .bK
 |.bool b=>some (.bl b)
 |.int i _=>some (.int i)
 |.str x _=>some (.str x)
 |.bytes b _=>some (.Bl b)
 |.float b _=>some (.HJ b)
 |.ref a=>some (.ref a)
 |.type n=>some (.ty n)
 |_=>none
theorem RelV.abs {x:V}{u:UT}(r:RelV x u):PU u=some x:=by
 cases x with
 |bK=>cases r;rfl
 |bl _=>cases r;rfl
 |int _=>obtain⟨t,rfl⟩:=r;rfl
 |str _=>obtain⟨t,rfl⟩:=r;rfl
 |Bl _=>obtain⟨t,rfl⟩:=r;rfl
 |HJ _=>obtain⟨t,rfl⟩:=r;rfl
 |ref _=>cases r;rfl
 |ty _=>cases r;rfl
theorem RelV.inj {x y:V}{u:UT}(r:RelV x u)(q:RelV y u):x=y:=VA (r.abs.symm.trans q.abs)
theorem Vals.inj:∀{xs ys:List V} {us:List UT},Vals xs us->Vals ys us->xs=ys
 |_,_,_,.nil,.nil=>rfl
 |_,_,_,.cons r t,.cons r' t'=>by rw[r.inj r',Vals.inj t t']
section
variable {X:Cx}{pins:List (Addr×Obj)}{σ:St}{H:Hp}{s:UW}{a:Addr}{xs ys:List V}
theorem cP.of {K:PySem.W.Frag}(h:H a=some (.lst xs)):cP K H a xs:=.inl (.inl h)
theorem qj.of {K:PySem.W.Frag}(h:H a=some (.tup xs)):qj K H a xs:=.inl (.inl h)
theorem Inv.list (I:Inv X pins σ H s)(h:cP X.K H a xs):∃its:List UT,Vals xs its/\PlainL s.heap a its.toArray/\xs.length<=U_:=by
 rcases h with h|⟨o,its,n,hk,hc,hd,hs,hz,r⟩
 ·obtain⟨z,its,n,r,e⟩:=h.ok I.br;exact⟨its,r,⟨_,n,e,rfl,rfl,rfl⟩,z⟩
 ·refine⟨its.toList,r,⟨o,n,I.jr a o hk,hc,hd,by simpa using hs⟩,?_⟩
  have e:=r.length;simp only[U4]at e;lia
theorem Inv.tuple (I:Inv X pins σ H s)(h:qj X.K H a xs):∃its:List UT,Vals xs its/\IsTup s.heap a its.toArray/\xs.length<=U_:=by
 rcases h with h|⟨o,its,n,hk,hc,hs,hz,r⟩
 ·obtain⟨z,its,r,p⟩:=h.ok I.br;exact⟨its,r,p,z⟩
 ·refine⟨its.toList,r,⟨o,I.jr a o hk,hc,n,by simpa using hs⟩,?_⟩
  have e:=r.length;simp only[U4]at e;lia
theorem Inv.z_ (I:Inv X pins σ H s)(h:cP X.K H a xs)(h':cP X.K H a ys):xs=ys:=by
 obtain⟨its,r,⟨o,n,e,_,_,d⟩,_⟩:=I.list h;obtain⟨its',r',⟨o',n',e',_,_,d'⟩,_⟩:=I.list h';rw[e]at e';cases e';rw[d]at d';injection d' with d1 _
 have:its=its':=by simpa using congrArg Array.toList d1
 subst this;exact r.inj r'
end
abbrev Cx.mY (X:Cx)(E:UT->UW->Prop):Cx:={X with xe:=E}
abbrev Cx.EH (X:Cx):Cx:=X.mY λ_ _=>False
theorem Cx.Ok.mY {X:Cx}(ok:X.Ok)(E:UT->UW->Prop):(X.mY E).Ok :=
 ⟨ok.mod,ok.kind,ok.glob,ok.blt,ok.above,ok.inj,ok.has,ok.Lx,ok.hd,ok.frames,ok.LR,ok.IC,ok.bs,ok.BM,ok.xc,ok.xH,ok.mf,ok.IA⟩
theorem Cx.Ok.fL {X:Cx}{E:UT->UW->Prop}(ok:(X.mY E).Ok):X.Ok :=
 ⟨ok.mod,ok.kind,ok.glob,ok.blt,ok.above,ok.inj,ok.has,ok.Lx,ok.hd,ok.frames,ok.LR,ok.IC,ok.bs,ok.BM,ok.xc,ok.xH,ok.mf,ok.IA⟩
section
variable {X:Cx}{pins:List (Addr×Obj)}{σ:St}{H:Hp}{s:UW}{E:UT->UW->Prop}
theorem Inv.mY (I:Inv X pins σ H s)(E:UT->UW->Prop):Inv (X.mY E) pins σ H s:=⟨I.ok.mY E,I.os,I.bare,I.base,I.loc,I.cell,I.free,I.f6,I.pin,I.br,I.len⟩
theorem Inv.fL (I:Inv (X.mY E) pins σ H s):Inv X pins σ H s:=⟨I.ok.fL,I.os,I.bare,I.base,I.loc,I.cell,I.free,I.f6,I.pin,I.br,I.len⟩
theorem SP.fL {D:Ends}{f:Flow}{s':UW}(h:SP (X.mY E) pins D f s'):SP X pins D f s':=by
 cases f with
 |next=>obtain⟨σ',H',I,q⟩:=h;exact⟨σ',H',I.fL,q⟩
 |brk=>obtain⟨σ',H',I,q⟩:=h;exact⟨σ',H',I.fL,q⟩
 |cont=>obtain⟨σ',H',I,q⟩:=h;exact⟨σ',H',I.fL,q⟩
 |ret u=>obtain⟨v,σ',H',I,r,q⟩:=h;exact⟨v,σ',H',I.fL,r,q⟩
theorem qk.EH {st:List Stmt}{t:TS}(h:qk X.EH st t):qk X st t:=λpins s σ H D I hw =>
 XT (h pins s σ H D (I.mY _) hw) (λ_ _ q=>q.fL) λ_ _ z=>Xj z
end
section
variable {X:Cx}{st:Stmt}{rest:List Stmt}{t u:TS}{e:Expr}{te:TE}{pos:Pos}
def IZ:TS:=λD σ H=>D.nx σ H
def MM (t u:TS):TS:=λD σ H=>t {D with nx:=u D} σ H
theorem vg:qk X [] IZ:=λ_ _ σ H _ I h=>Yx ⟨σ,H,I,h⟩
theorem dF (h1:PS X st t)(h2:qk X rest u):qk X (st::rest) (MM t u):=by
 intro pins s σ H D I h;refine wpAny_execs_cons (bC (h1 pins s σ H {D with nx:=u D} I h) λf s1 q=>?_)
 cases f with
 |next =>
  obtain⟨σ',H',I',q⟩:=q;exact h2 pins s1 σ' H' D I' q
 |ret v=>exact q
 |brk=>exact q
 |cont=>exact q
theorem gq (h1:PS X st t):qk X [st] t:=by
 intro pins s σ H D I h;refine wpAny_execs_cons (bC (h1 pins s σ H D I h) λf s1 q=>?_);cases f with
 |next=>exact Yx q
 |ret v=>exact q
 |brk=>exact q
 |cont=>exact q
theorem Inv.quiet {pins:List (Addr×Obj)}{σ:St}{H:Hp}{s:UW}(I:Inv X pins σ H s):interactive X.env=false:=by simp[interactive,I.ok.kind]
def I_ (te:TE):TS:=λD σ H=>te σ H λ_ H1=>D.nx σ H1
theorem kh (he:PE X e te)(hs:WR e none pos.line X.env=pure false:=by rfl):PS X (.Expr e pos) (I_ te):=by
 intro pins s σ H D I h;exact wpAny_Expr_any (bC (he pins s σ H _ I h) λv s1 Aw=>by obtain⟨x,H1,I1,r1,q1⟩:=Aw;exact⟨σ,H1,I1,q1⟩) I.quiet hs
def MN (te:TE):TS:=λD σ H=>te σ H D.rt
theorem jg (he:PE X e te):PS X (.Return (some e) pos) (MN te):=by
 intro pins s σ H D I h;exact wpAny_Return_some (bC (he pins s σ H _ I h) λv s1 Av=>by obtain⟨x,H1,I1,r1,q1⟩:=Av;exact⟨x,σ,H1,I1,r1,q1⟩)
def MQ (c:TT)(t u:TS):TS:=λD σ H=>c σ H λb H1=>if b=true then t D σ H1 else u D σ H1
theorem Ey {c:Expr}{a b:List Stmt}{tc:TT}(hc:PT X c tc)(ha:qk X a t)(hb:qk X b u):PS X (.If c a b pos) (MQ tc t u):=by
 intro pins s σ H D I h;refine wpAny_If (bC (hc pins s σ H _ I h) λd s1 ⟨H1,I1,q1⟩=>?_);cases d with
 |true=>exact ha pins s1 σ H1 D I1 q1
 |false=>exact hb pins s1 σ H1 D I1 q1
def FJ:TS:=λ_ _ _=>False
theorem wU {RN:List Stmt}:qk X RN FJ:=λ_ _ _ _ _ _ h=>h.elim
end
abbrev TG:=V->St->Hp->(St->Hp->Prop)->Prop
abbrev Ff:=List V->St->Hp->(St->Hp->Prop)->Prop
def PG (X:Cx)(target:Expr)(t:TG):Prop :=
 ∀(pins:List (Addr×Obj)) (s:UW) (σ:St) (H:Hp) (v:V) (u:UT) (Q:St->Hp->Prop),Inv X pins σ H s->RelV v u->t v σ H Q ->
  Vq (model X.prog X.w) X.A (assign target X.env u) (λ_ s'=>∃σ' H',Inv X pins σ' H' s'/\Q σ' H') X.xe s
def Fi (X:Cx)(ts:List Expr)(t:Ff):Prop :=
 ∀(pins:List (Addr×Obj)) (s:UW) (σ:St) (H:Hp) (vs:List V) (us:List UT) (Q:St->Hp->Prop),Inv X pins σ H s->Vals vs us->t vs σ H Q ->
  Vq (model X.prog X.w) X.A (assignInOrder ((WX ts X.env).map (·.2)) us) (λ_ s'=>∃σ' H',Inv X pins σ' H' s'/\Q σ' H') X.xe s
abbrev Ia:=V->V->V->Hp->(Hp->Prop)->Prop
def LF (X:Cx)(t:Ia):Prop :=
 ∀(pins:List (Addr×Obj)) (s:UW) (σ:St) (H:Hp) (o i v:V) (ov iv u:UT) (Q:Hp->Prop),Inv X pins σ H s->RelV o ov->RelV i iv->RelV v u->t o i v H Q ->
  Vq (model X.prog X.w) X.A (setItem ov iv u) (λ_ s'=>∃H',Inv X pins σ H' s'/\Q H') X.xe s
section
variable {X:Cx}{pos:Pos}
def E8 (i:Nat):TG:=λv σ H Q=>Q (σ.set i (some v)) H
theorem vn {i:Nat}{x:Str}(hN:X.N.Nodup)(hi:X.N[i]?=some x)(hx:Loc X.env.scope x)(hf:X.fn x=true\/X.env.scope.names.lookup x=some .local:=by first|exact .inl rfl|exact .inr rfl|assumption):PG X (.Name x pos) (E8 i):=by
 intro pins s σ H v u Q I r h;exact Y8 (qv I hN hi hx r (λs' I'=>⟨_,H,I',h⟩) hf)
def HH:Ff:=λvs σ H Q=>vs=[]/\Q σ H
def AQ (t:TG)(u:Ff):Ff:=λvs σ H Q=>∃v r,vs=v::r/\t v σ H λσ' H'=>u r σ' H' Q
theorem Cz:Fi X [] HH:=by
 intro pins s σ H vs us Q I r h;obtain⟨e,h⟩:=h;subst e;cases r;exact assignInOrder_nil ⟨σ,H,I,h⟩
theorem zA {e:Expr}{es:List Expr}{t:TG}{u:Ff}(h1:PG X e t)(h2:Fi X es u)
  (hs:(WX (e::es) X.env).map (·.2)=assign e X.env::(WX es X.env).map (·.2):=by rfl):Fi X (e::es) (AQ t u):=by
 intro pins s σ H vs us Q I r h;obtain⟨v,vr,e1,h⟩:=h;subst e1;cases r with
 |cons r rr =>
  rw[hs];refine assignInOrder_cons (bC (h1 pins s σ H _ _ _ I r h) λ_ s1 ⟨σ1,H1,I1,q1⟩=>?_);exact h2 pins s1 σ1 H1 _ _ Q I1 rr q1
def Pm (K:PySem.W.Frag)(n:Nat)(t:Ff):TG:=λv σ H Q=>∃a xs,v=.ref a/\qj K H a xs/\xs.length=n/\t xs σ H Q
theorem F_ {es:List Expr}{k:Nat}{t:Ff}{n:Nat}(hc:X.calm=true)(h:Fi X es t)
  (hn:(WX es X.env).length=n:=by rfl) (EY:(WX es X.env).findIdx? (·.1)=none:=by rfl):PG X (.Tuple es k pos) (Pm X.K n t):=by
 intro pins s σ H v u Q I r hw;obtain⟨a,xs,e1,hq,hl,hw⟩:=hw;subst e1;cases r;obtain⟨its,rv,ht,hz⟩:=I.tuple hq;refine assign_Tuple_tuple (I.ok.hd hc) ht (by simp[hn,<- hl,rv.length]) EY λh' hx=>?_
 have I1:Inv X pins σ H {s with heap:=h'}:=I.kept (t':=s.toks) λb o e=>hx b o (Vw (Vb e)) e
 exact h pins _ σ H xs _ Q I1 (by simpa using rv) hw
def Pn (to ti:TE)(t:Ia):TG:=λv σ H Q=>to σ H λo H1=>ti σ H1 λi H2=>t o i v H2 λH3=>Q σ H3
theorem ub {o i:Expr}{to ti:TE}{t:Ia}(ho:PE X o to)(hi:PE X i ti)(hs:LF X t)
  (ha:∀v,assign (.Subscript o i pos) X.env v=(do
   let ov <- holding [v] (eval o X.env)
   let iv <- holding [v,ov] (eval i X.env)
   X5 pos
   holding [v,ov,iv] (setItem ov iv v)
   release [v,ov,iv] []):=by intro _;rfl):PG X (.Subscript o i pos) (Pn to ti t):=by
 intro pins s σ H v u Q I r h;rw[ha];refine UR (Wk (bC (ho pins s σ H _ I h) λov s1 ⟨x,H1,I1,r1,q1⟩=>?_));refine UR (Wk (bC (hi pins s1 σ H1 _ I1 q1) λiv s2 ⟨y,H2,I2,r2,q2⟩=>?_));refine UR (WW (UR (Wk (bC (hs pins s2 σ H2 x y v ov iv u _ I2 r1 r2 r q2) λ_ s3 ⟨H3,I3,q3⟩=>?_))));exact wpAny_release ⟨σ,H3,I3,q3⟩
def Jb (te:TE)(g:TG):TS:=λD σ H=>te σ H λx H1=>g x σ H1 D.nx
theorem pE {tg e:Expr}{te:TE}{g:TG}(he:PE X e te)(hg:PG X tg g)(hs:swapsWithSole [tg] e pos.line X.env=pure false:=by rfl)(hw:swappedStores [tg] e X.env=pure none:=by rfl)
  (h1:(WX [tg] X.env).map (·.2)=[assign tg X.env]:=by rfl):PS X (.Assign [tg] e pos) (Jb te g):=by
 intro pins s σ H D I h;refine wpAny_Assign_stores (bC (he pins s σ H _ I h) λv s1 ⟨x,H1,I1,r1,q1⟩=>?_) hs hw;rw[h1];exact bC (hg pins s1 σ H1 x v _ I1 r1 q1) λ_ s2 q=>q
theorem t6 {i:Nat}{x:Str}{e:Expr}{te:TE}{pos':Pos}(hN:X.N.Nodup)(hi:X.N[i]?=some x)(hx:Loc X.env.scope x)(he:PE X e te)(hs:WR e (some (.Name x pos')) pos.line X.env=pure false:=by rfl)(hf:X.fn x=true\/X.env.scope.names.lookup x=some .local:=by first|exact .inl rfl|exact .inr rfl|assumption):
  PS X (.Assign [.Name x pos'] e pos) (Jb te (E8 i)):=by
 intro pins s σ H D I h;refine wpAny_Assign_Name (bC (he pins s σ H _ I h) λv s1 ⟨y,H1,I1,r1,q1⟩=>?_) hs;exact qv I1 hN hi hx r1 (λs2 I2=>⟨_,H1,I2,q1⟩) hf
end
section
variable {X:Cx}{pos:Pos}
def FH (c:TT)(tb:TS):TS:=λD σ H=>∃W:Nat->St->Hp->Prop,(∃m,W m σ H)/\∀m σ H,W m σ H ->
 c σ H λb H1=>if b=true then ∃N:St->Hp->Prop,(∀σ' H',N σ' H'->∃m',m'<m/\W m' σ' H')/\tb {D with nx:=N,ct:=N,bk:=D.nx} σ H1 else D.nx σ H1
theorem zk {c:Expr}{body:List Stmt}{tc:TT}{tb:TS}(hp:Zn (model X.prog X.w) X.A X.env X.xe)(hc:PT X c tc)(hb:qk X body tb):PS X (.While c body [] pos) (FH tc tb):=by
 intro pins s σ H D I h;obtain⟨W,⟨m0,w0⟩,turn⟩:=h;refine wpAny_While (codeAny_whileLoop (λn s'=>∃σ' H',Inv X pins σ' H' s'/\W n σ' H') ?_ m0 ⟨σ,H,I,w0⟩);rintro n s1 ⟨σ1,H1,I1,w1⟩;refine Xc hp (bC (hc pins s1 σ1 H1 _ I1 (turn n σ1 H1 w1)) λb s2 ⟨H2,I2,q2⟩=>?_);cases b with
 |true =>
  obtain⟨N,hN,q2⟩:=q2;rw[if_pos rfl];refine Xc hp (bC (hb pins s2 σ1 H2 _ I2 q2) λf s3 q3=>?_);cases f with
  |next =>
   obtain⟨σ3,H3,I3,n3⟩:=q3;obtain⟨m',hm,w3⟩:=hN σ3 H3 n3;exact⟨m',hm,σ3,H3,I3,w3⟩
  |cont =>
   obtain⟨σ3,H3,I3,n3⟩:=q3;obtain⟨m',hm,w3⟩:=hN σ3 H3 n3;exact⟨m',hm,σ3,H3,I3,w3⟩
  |brk=>exact q3
  |ret v=>exact q3
 |false =>
  rw[if_neg V_];exact Yx ⟨σ1,H2,I2,q2⟩
end
structure It where
 go:Nat->Hp->Prop
 IL:Nat->Hp->V->Hp->Prop
 stop:Nat->Hp->Prop
def dU (X:Cx)(pins:List (Addr×Obj))(H:Hp)(b:Addr):Prop :=
 H b=none/\b≠X.env.locals/\b∉X.fs/\(b∈X.ex\/X.s₀.heap.objs.size<=b)/\(∀x c,X.env.cells.lookup x=some c->c≠b)/\∀p∈X.pn++pins,p.1≠b
theorem Inv.xD {X:Cx}{pins:List (Addr×Obj)}{σ:St}{H H':Hp}{s:UW}{b:Addr}(I:Inv X pins σ H s)(hb:s.heap.objs.size<=b)(hn:H' b=none):dU X pins H' b:=by
 refine⟨hn,Zd (Vy I.lt hb),I.NP hb,.inr (VN I.sz hb),λx c e z=>?_,λp hp z=>?_⟩
 ·obtain⟨v,q⟩:=I.cell x c e;exact absurd (Vy q.lt (by rw[z];exact hb)) (Xq _)
 ·exact absurd (Vy (Vb (I.pin p hp).1) (by rw[z];exact hb)) (Xq _)
structure Turn (P:U0)(w:Vf)(K:PySem.W.Frag)(tg:Expr)(J:It)(fp:List Addr)(it:Addr)(tn:Nat->Heap->Prop):Prop where
 mem:it∈fp
 obj:∀i h,tn i h->∀b∈fp,∃o,h.get? b=some o/\∀v,o.data≠.cell v
 keep:∀i h h',tn i h->(∀b∈fp,∀o,h.get? b=some o->h'.get? b=some o)->tn i h'
 item:∀(X:Cx),X.prog=P->X.w=w->X.K=K->X.calm=true->∀(i:Nat) (pins:List (Addr×Obj)) (s:UW) (σ:St) (H:Hp) (E:UT->UW->Prop),Inv X pins σ H s->(∀b∈fp,dU X pins H b)->tn i s.heap->J.go i H ->
  Vq (model P w) X.A (XU (.ref it)) (λr s1=>∃u,r=some u /\
   Vq (model P w) X.A (Yy tg (.ref it) u) (λ_ s2=>∃x H',Inv X pins σ H' s2/\RelV x u/\J.IL i H x H'/\tn (i+1) s2.heap/\∀b∈fp,H' b=none) E s1) E s
 done:∀(X:Cx),X.prog=P->X.w=w->X.K=K->X.calm=true->∀(i:Nat) (pins:List (Addr×Obj)) (s:UW) (σ:St) (H:Hp) (E:UT->UW->Prop),Inv X pins σ H s->(∀b∈fp,dU X pins H b)->tn i s.heap->J.stop i H ->
  Vq (model P w) X.A (XU (.ref it)) (λr s1=>r=none/\Inv X pins σ H s1) E s
 self:∀(A:VW) (i:Nat) (s:UW) (Q:UT->UW->Prop) (E:UT->UW->Prop),tn i s.heap->Q (.ref it) s->Vq (model P w) A (Yo (.ref it)) Q E s
abbrev TI:=St->Hp->(It->Hp->Prop)->Prop
def Ie (X:Cx)(pins:List (Addr×Obj))(σ:St)(tg:Expr)(R:It->Hp->Prop)(ye:UT)(s2:UW):Prop :=
 ∃(it:Addr) (fp:List Addr) (tn:Nat->Heap->Prop) (J:It) (H':Hp),ye=.ref it/\Inv X pins σ H' s2/\Turn X.prog X.w X.K tg J fp it tn/\tn 0 s2.heap/\(∀b∈fp,dU X pins H' b)/\R J H'
def PI (X:Cx)(tg iter:Expr)(wi:TI):Prop :=
 ∀(pins:List (Addr×Obj)) (s:UW) (σ:St) (H:Hp) (R:It->Hp->Prop),Inv X pins σ H s->wi σ H R ->
  Vq (model X.prog X.w) X.A (eval iter X.env) (λv s1=>Vq (model X.prog X.w) X.A (Yo v) (Ie X pins σ tg R) X.xe s1) X.xe s
theorem AO {M:Model}{A:VW}{E:UT->UW->Prop}{s:UW}{tg:Expr}{it:Addr}{u:UT}{o:Obj}{n:String}{vs:Array UT}{Q:Unit->UW->Prop}(ho:s.heap.get? it=some o)(hc:o.cls=.type n)(hd:o.data=.fields vs)
  (hn:["enumerate","zip","dict_itemiterator","dict_reverseitemiterator","odict_iterator","itertools.zip_longest","itertools.pairwise"].contains n=false) (hQ:Q () s):Vq M A (Yy tg (.ref it) u) Q E s:=by
 unfold Yy;cases tg <;> first
  |exact UY hQ
  | (cases u <;> first
    |exact UY hQ
    | (refine UR (wpAny_load ho ?_)
       rw[hc,hd];show Vq M A (if (["enumerate","zip","dict_itemiterator","dict_reverseitemiterator","odict_iterator","itertools.zip_longest","itertools.pairwise"].contains n&&vs[0]?==some (rawInt _))=true then _ else _) Q E s
       rw[if_neg (by intro h;rw[hn,Bool.false_and]at h;cases h)]
       exact UY hQ))
def Mu (K:PySem.W.Frag)(a:Addr):It :=
 ⟨λi H=>∃xs x,cP K H a xs/\xs[i]?=some x,λi H x H'=>H'=H/\∀xs,cP K H a xs->xs[i]?=some x,λi H=>∃xs,cP K H a xs/\xs.length<=i⟩
def LI (lo:Int)(n:Nat):It:=⟨λi _=>i<n,λi H x H'=>H'=H/\x=.int (lo+i),λi _=>n<=i⟩
theorem wq {P:U0}{w:Vf}{K:PySem.W.Frag}{tg:Expr}(a it:Addr):Turn P w K tg (Mu K a) [it] it (λi h=>h.IsListIter it a i) where
 mem:=by simp
 obj:=λi h st b hb=>by
  have e:b=it:=by simpa using hb
  subst e;obtain⟨o,e,c,d⟩:=st;exact⟨o,e,λv z=>by rw[d]at z;cases z⟩
 keep:=λi h h' st k=>st.at λo e=>k it (by simp) o e
 item:=by
  intro X hP hw hK hc i pins s σ H E I hf st hg;subst hP hw hK;obtain⟨xs,x,hq,hx⟩:=hg;obtain⟨its,rv,p,hz⟩:=I.list hq;obtain⟨u,hu,ru⟩:=rv.get hx;obtain⟨f0,f1,f2,f3,f4,f5⟩:=hf it (by simp)
  refine wpAny_pyNext_list_item st p.isList (x:=u) (by simpa using hu) λh' aC sb=>?_
  have I1:Inv X pins σ H {s with heap:=h'}:=I.turned (t':=s.toks) (λb o hb e=>(sb.2 b hb).trans e) f0 f1 f3 f4 f5
  obtain⟨o,e,c,d⟩:=id aC;exact⟨u,rfl,AO (s:={s with heap:=h'}) e c d (by decide) ⟨x,H,I1,ru,⟨rfl,λys hy=>by rw[I.z_ hy hq];exact hx⟩,aC,λb hb=>(hf b hb).1⟩⟩
 done:=by
  intro X hP hw hK hc i pins s σ H E I hf st hg;subst hP hw hK;obtain⟨xs,hq,hx⟩:=hg;obtain⟨its,rv,p,hz⟩:=I.list hq;obtain⟨f0,f1,f2,f3,f4,f5⟩:=hf it (by simp)
  have hl:=rv.length;exact wpAny_pyNext_list_end (I.ok.hd hc) st p.isList (by simp;lia) λh' eb=>⟨rfl,I.turned (t':=s.toks) (λb o hb e=>eb b o hb e) f0 f1 f3 f4 f5⟩
 self:=λ_ _ _ _ _ st h=>wpAny_pyIter_listiter st h
theorem tM {P:U0}{w:Vf}{K:PySem.W.Frag}{tg:Expr}(it:Addr)(lo:Int)(n:Nat):Turn P w K tg (LI lo n) [it] it (λi h=>Zz h it (lo+(i:Nat)*1) ((n:Int)-(i:Nat)) 1) where
 mem:=by simp
 obj:=λi h st b hb=>by
  have e:b=it:=by simpa using hb
  subst e;exact⟨_,st,λv z=>by
   have z':Data.fields _=Zs v:=z;cases z'⟩
 keep:=λi h h' st k=>k it (by simp) _ st
 item:=by
  intro X hP hw hK hc i pins s σ H E I hf st hg;subst hP hw hK;obtain⟨f0,f1,f2,f3,f4,f5⟩:=hf it (by simp)
  have W:=Walks.range (prog:=X.prog) (w:=X.w) (I.ok.hd hc) it lo 1 n;refine W.item i s _ _ hg st λv h' tk hv aC kk=>?_;obtain⟨t,rfl⟩:=hv;have I1:Inv X pins σ H {s with heap:=h',toks:=tk}:=I.turned (λb o hb e=>kk b o (by simpa using hb) e) f0 f1 f3 f4 f5
  refine⟨_,rfl,AO (s:={s with heap:=h',toks:=tk}) (n:="range_iterator") aC rfl rfl (by decide) ⟨.int (lo+i),H,I1,⟨t,?_⟩,⟨rfl,rfl⟩,aC,λb hb=>(hf b hb).1⟩⟩
  rw[Int.mul_one]
 done:=by
  intro X hP hw hK hc i pins s σ H E I hf st hg;subst hP hw hK;obtain⟨f0,f1,f2,f3,f4,f5⟩:=hf it (by simp)
  exact wpAny_pyNext_range_end (I.ok.hd hc) st (by have:n<=i:=hg;lia) λh' eb=>⟨rfl,I.turned (t':=s.toks) (λb o hb e=>eb b o hb e) f0 f1 f3 f4 f5⟩
 self:=λ_ _ _ _ _ st h=>wpAny_pyIter_rangeiter st h
section
variable {X:Cx}{tg:Expr}
def J8 (K:PySem.W.Frag)(tl:TE):TI:=λσ H R=>tl σ H λx H1=>∃a,x=.ref a/\(∃xs,cP K H1 a xs)/\R (Mu K a) H1
theorem pH {l:Expr}{tl:TE}(hl:PE X l tl):PI X tg l (J8 X.K tl):=by
 intro pins s σ H R I h;refine bC (hl pins s σ H _ I h) λv s1 ⟨x,H1,I1,r1,q1⟩=>?_;obtain⟨a,e,⟨xs,hq⟩,q⟩:=q1;subst e;cases r1;obtain⟨its,rv,p,hz⟩:=I1.list hq;refine wpAny_pyIter_list p.isList ?_;refine⟨s1.heap.objs.size,[s1.heap.objs.size],_,_,H1,rfl,I1.kept (t':=s1.toks) λb o e=>UX _ e,wq a _,⟨_,Vp _ rfl,rfl,rfl⟩,λb hb=>?_,q⟩;have e:b=s1.heap.objs.size:=by simpa using hb
 subst e;exact I1.xD (UU _) (I1.br.fresh (UU _))
theorem qI {pins:List (Addr×Obj)}{σ:St}{H:Hp}{s:UW}{R:It->Hp->Prop}{E:UT->UW->Prop}{lo hi:Int}{t u v:Tok}{tk:Nat}(I:Inv X pins σ H s)(h1:-(2 ^ 62)<=lo)(h2:lo<2 ^ 62)(h3:-(2 ^ 62)<=hi)(h4:hi<2 ^ 62)
  (q:R (LI lo (hi-lo).toNat) H):Vq (model X.prog X.w) X.A (Yo (.ref s.heap.objs.size)) (Ie X pins σ tg R) E {s with heap:=s.heap.push {cls:=.type "range",data:=.fields #[.int lo t,.int hi u,.int 1 v]},toks:=tk}:=by
 refine wpAny_pyIter_range (IsRange.new ..) (small_one h1 h2 h3 h4) ?_;have I1:Inv X pins σ H {s with heap:=s.heap.push {cls:=.type "range",data:=.fields #[.int lo t,.int hi u,.int 1 v]},toks:=tk}:=I.kept λb o e=>UX _ e
 refine⟨(s.heap.push {cls:=.type "range",data:=.fields #[.int lo t,.int hi u,.int 1 v]}).objs.size,[(s.heap.push {cls:=.type "range",data:=.fields #[.int lo t,.int hi u,.int 1 v]}).objs.size],_,_,H,rfl,
  I1.kept (t':=tk) λb o e=>UX _ e,tM _ lo (hi-lo).toNat,?_,λb hb=>?_,q⟩
 ·have e1:lo+((0:Nat):Int)*1=lo:=by simp
  have e2:(((hi-lo).toNat:Nat):Int)-((0:Nat):Int)=Xw lo hi 1:=by rw[rangeSize_one];split <;> lia
  show Zz _ _ (lo+((0:Nat):Int)*1) ((((hi-lo).toNat:Nat):Int)-((0:Nat):Int)) 1;rw[e1,e2];exact Vp _ rfl
 ·have e:b=(s.heap.push {cls:=.type "range",data:=.fields #[.int lo t,.int hi u,.int 1 v]}).objs.size:=by simpa using hb
  subst e;exact I1.xD (UU _) (I1.br.fresh (UU _))
def J7 (ta:TA):TI:=λσ H R=>ta σ H λvs H1=>∃j:Int,vs=[.int j]/\-(2 ^ 62)<=j/\j<2 ^ 62/\R (LI 0 j.toNat) H1
def J6 (ta:TA):TI:=λσ H R=>ta σ H λvs H1=>∃i j:Int,vs=[.int i,.int j]/\(-(2 ^ 62)<=i/\i<2 ^ 62/\-(2 ^ 62)<=j/\j<2 ^ 62)/\R (LI i (j-i).toNat) H1
theorem wZ {a:Expr} {ta:TA} {p pos:Pos} (hg:Gl X "range") (hm:X.mg "range" = none) (ha:PA X [a] ta) (hs:Ve [a] X.env=[(false,eval a X.env)]:=by rfl):PI X tg (.Call (.Name "range" p) [a] [] pos) (J7 ta):=by
 intro pins s σ H R I h;refine Call_ (gP I hg hm boot_range (WE (bC (ha pos pins s σ H _ I h) λus s1 ⟨vs,H1,I1,r1,q1⟩=>?_) hs rfl));obtain⟨j,e,q1,q2,q⟩:=q1;subst e;cases r1 with
 |cons r rr =>
  cases rr;obtain⟨t,rfl⟩:=r;exact call_range_1 (qI I1 (by lia) (by lia) q1 q2 (by simpa using q))
theorem nQ {a b:Expr} {ta:TA} {p pos:Pos} (hg:Gl X "range") (hm:X.mg "range" = none) (ha:PA X [a,b] ta) (hs:Ve [a,b] X.env=[(false,eval a X.env),(false,eval b X.env)]:=by rfl) (s_:Ve [b] X.env=[(false,eval b X.env)]:=by rfl) :
  PI X tg (.Call (.Name "range" p) [a,b] [] pos) (J6 ta):=by
 intro pins s σ H R I h;refine Call_ (gP I hg hm boot_range (WE (bC (ha pos pins s σ H _ I h) λus s1 ⟨vs,H1,I1,r1,q1⟩=>?_) (by rw[hs,s_]) (by rw[s_];rfl)))
 obtain⟨i,j,e,⟨q1,q2,q3,q4⟩,q⟩:=q1;subst e;cases r1 with
 |cons r rr =>
  cases rr with
  |cons r' rr =>
   cases rr;obtain⟨t,rfl⟩:=r;obtain⟨t',rfl⟩:=r';exact call_range_2 (qI I1 q1 q2 q3 q4 q)
def MR (wi:TI)(g:TG)(tb:TS):TS:=λD σ H=>wi σ H λJ H1=>∃W:Nat->Nat->St->Hp->Prop,(∃m,W 0 m σ H1)/\∀i m σ H,W i m σ H ->
 (J.stop i H/\D.nx σ H)\/(J.go i H/\∃N:St->Hp->Prop,(∀σ' H',N σ' H'->∃m',m'<m/\W (i+1) m' σ' H')/\∀x H',J.IL i H x H'->g x σ H' λσ2 H2=>tb {D with nx:=N,ct:=N,bk:=D.nx} σ2 H2)
def lG (fp:List Addr)(h:Heap):List (Addr×Obj):=fp.filterMap λb=>(h.get? b).map λo=>(b,o)
theorem fu {fp:List Addr}{h:Heap}{b:Addr}{o:Obj}(hb:b∈fp)(e:h.get? b=some o):(b,o)∈lG fp h:=XY.mpr ⟨b,hb,by rw[e];rfl⟩
theorem w_ {fp:List Addr}{h:Heap}{p:Addr×Obj}(hp:p∈lG fp h):p.1∈fp/\h.get? p.1=some p.2:=by
 obtain⟨b,hb,e⟩:=XY.mp hp;cases q:h.get? b with
 |none=>rw[q]at e;cases e
 |some o =>
  rw[q]at e;have e':(b,o)=p:=VA e;subst e';exact⟨hb,q⟩
theorem Inv.pinned {pins:List (Addr×Obj)}{σ:St}{H:Hp}{s:UW}{fp:List Addr}(I:Inv X pins σ H s)(hf:∀b∈fp,dU X pins H b)(ho:∀b∈fp,∃o,s.heap.get? b=some o/\∀v,o.data≠.cell v):Inv X (pins++lG fp s.heap) σ H s :=
 I.vj λp hp=>(Vg.mp hp).elim (λz=>I.pin p (VE _ z)) λz=>by
  obtain⟨hb,e⟩:=w_ z;obtain⟨f0,f1,f2,_⟩:=hf p.1 hb;obtain⟨o,e',d⟩:=ho p.1 hb;rw[e]at e';cases e';exact⟨e,f0,f1,f2,d⟩
theorem Inv.ib {pins pl:List (Addr×Obj)}{σ:St}{H:Hp}{s:UW}(I:Inv X (pins++pl) σ H s):Inv X pins σ H s:=I.vj λp hp=>I.pin p (VE _ (V9 _ hp))
theorem t7 {iter:Expr}{body:List Stmt}{wi:TI}{g:TG}{tb:TS}{pos:Pos}(hp:Zn (model X.prog X.w) X.A X.env X.xe)(hc:X.calm=true)(hi:PI X tg iter wi)(hg:PG X tg g)(hb:qk X body tb)
  (hs:∀x,VG iter X.env x=pure x:=by intro _;rfl):PS X (.For tg iter body [] pos) (MR wi g tb):=by
 intro pins s σ H D I h;refine wpAny_For (bC (hi pins s σ H _ I h) λv s1 h1=>bC h1 λye s2 h2=>?_) hs;obtain⟨it,fp,tn,J,H2,e,I2,T,eK,f2,W,⟨m0,w0⟩,turn⟩:=h2;subst e;have tN:∀{H':Hp},(∀b∈fp,H' b=none)->∀b∈fp,dU X pins H' b:=λhn b hb=>⟨hn b hb,(f2 b hb).2⟩;refine codeAny_forLoop_any (λn s'=>∃i σ' H',Inv X pins σ' H' s'/\tn i s'.heap/\(∀b∈fp,H' b=none)/\W i n σ' H') ?_ m0 ⟨0,σ,H2,I2,eK,λb hb=>(f2 b hb).1,w0⟩;rintro n s3 ⟨i,σ3,H3,I3,k6,Lh,w3⟩;rcases turn i n σ3 H3 w3 with⟨stop,qn⟩|⟨go,N,hN,step⟩
 ·refine Xc hp (bC (T.done X rfl rfl rfl hc i pins s3 σ3 H3 X.xe I3 (tN Lh) k6 stop) λr s4 ⟨hr,I4⟩=>?_);subst hr;exact Yx ⟨σ3,H3,I4,qn⟩
 ·refine Xc hp (bC (T.item X rfl rfl rfl hc i pins s3 σ3 H3 X.xe I3 (tN Lh) k6 go) λr s4 ⟨u,hr,h4⟩=>?_);subst hr;refine Xc hp (bC h4 λ_ s5 ⟨x,H5,I5,r5,y5,FL,Pq⟩=>?_);have P2:=I5.pinned (tN Pq) (T.obj _ _ FL);refine Xc hp (bC (hg _ s5 σ3 H5 x u _ P2 r5 (step x H5 y5)) λ_ s6 ⟨σ6,H6,I6,q6⟩=>?_);refine Xc hp (bC (hb _ s6 σ6 H6 _ I6 q6) λf s7 q7=>?_);have again:∀{σ7:St} {H7:Hp},Inv X (pins++lG fp s5.heap) σ7 H7 s7->N σ7 H7->∃m,m<n/\∃i σ' H',Inv X pins σ' H' s7/\tn i s7.heap/\(∀b∈fp,H' b=none)/\W i m σ' H':=λ{σ7 H7} I7 n7=>by
   obtain⟨m',hm,w7⟩:=hN σ7 H7 n7;refine⟨m',hm,i+1,σ7,H7,I7.ib,T.keep _ _ _ FL λb hb o e=>(I7.pin (b,o) (VE _ (VE _ (fu hb e)))).1,λb hb=>?_,w7⟩;obtain⟨o,e,d⟩:=T.obj _ _ FL b hb;exact(I7.pin (b,o) (VE _ (VE _ (fu hb e)))).2.1
  cases f with
  |next=>obtain⟨σ7,H7,I7,n7⟩:=q7;exact again I7 n7
  |cont=>obtain⟨σ7,H7,I7,n7⟩:=q7;exact again I7 n7
  |brk=>obtain⟨σ7,H7,I7,q7⟩:=q7;exact⟨σ7,H7,I7.ib,q7⟩
  |ret v=>obtain⟨x7,σ7,H7,I7,r7,q7⟩:=q7;exact⟨x7,σ7,H7,I7.ib,r7,q7⟩
end
abbrev R2:=V->V->Hp->VK->Prop
def g9 (X:Cx)(f:UT->UT->Sem UT)(r:R2):Prop :=
 ∀(pins:List (Addr×Obj)) (s:UW) (σ:St) (H:Hp) (x y:V) (v u:UT) (Q:VK),Inv X pins σ H s->RelV x v->RelV y u->r x y H Q ->
  Vq (model X.prog X.w) X.A (f v u) (EP X pins σ Q) X.xe s
def LA (X:Cx)(f:UT->Sem UT)(r:V->Hp->VK->Prop):Prop :=
 ∀(pins:List (Addr×Obj)) (s:UW) (σ:St) (H:Hp) (x:V) (v:UT) (Q:VK),Inv X pins σ H s->RelV x v->r x H Q ->
  Vq (model X.prog X.w) X.A (f v) (EP X pins σ Q) X.xe s
def eY (X:Cx)(f:UT)(r:List V->Hp->VK->Prop):Prop :=
 ∀(pins:List (Addr×Obj)) (s:UW) (σ:St) (H:Hp) (xs:List V) (us:List UT) (Q:VK),Inv X pins σ H s->Vals xs us->r xs H Q ->
  Vq (model X.prog X.w) X.A (call f us) (EP X pins σ Q) X.xe s
def PX (X:Cx)(r:V->Hp->(Bool->Hp->Prop)->Prop):Prop :=
 ∀(pins:List (Addr×Obj)) (s:UW) (σ:St) (H:Hp) (x:V) (v:UT) (Q:Bool->Hp->Prop),Inv X pins σ H s->RelV x v->r x H Q ->
  Vq (model X.prog X.w) X.A (truthy v) (TP X pins σ Q) X.xe s
def IW (r:R2)(ta tb:TE):TE:=λσ H Q=>ta σ H λx H1=>tb σ H1 λy H2=>r x y H2 Q
def RE (r:V->Hp->VK->Prop)(ta:TE):TE:=λσ H Q=>ta σ H λx H1=>r x H1 Q
def rI (C:Int->Int->Prop)(g:Int->Int->V):R2:=λx y H Q=>∃i j,x=.int i/\y=.int j/\C i j/\Q (g i j) H
def BE (g:Int->Int->V):R2:=λx y H Q=>∃i j,x=.int i/\y=.int j/\Q (g i j) H
def rU (g:Int->V):V->Hp->VK->Prop:=λx H Q=>∃i,x=.int i/\Q (g i) H
section
variable {X:Cx}{a b:Expr}{ta tb:TE}{pos:Pos}
theorem H_ (ha:PE X a ta)(hb:PE X b tb){pins:List (Addr×Obj)}{s:UW}{σ:St}{H:Hp}{R:V->V->Hp->Prop}(I:Inv X pins σ H s)
  (h:ta σ H λx H1=>tb σ H1 λy H2=>R x y H2) {Q:UT->UW->Prop} {f:UT->UT->Sem UT}
  (hf:∀v u s2 x y H2,Inv X pins σ H2 s2->RelV x v->RelV y u->R x y H2->Vq (model X.prog X.w) X.A (f v u) Q X.xe s2) :
  Vq (model X.prog X.w) X.A (eval a X.env) (λv s₁=>Vq (model X.prog X.w) X.A (eval b X.env) (λu s₂=>Vq (model X.prog X.w) X.A (f v u) Q X.xe s₂) X.xe s₁) X.xe s:=by
 refine bC (ha pins s σ H _ I h) λv s1 ⟨x,H1,I1,r1,q1⟩=>?_;refine bC (hb pins s1 σ H1 _ I1 q1) λu s2 ⟨y,H2,I2,r2,q2⟩=>?_;exact hf v u s2 x y H2 I2 r1 r2 q2
theorem c7 {op:Operator}{r:R2}(ho:g9 X (W5 op) r)(ha:PE X a ta)(hb:PE X b tb):PE X (.BinOp a op b pos) (IW r ta tb):=by
 intro pins s σ H Q I h;exact wpAny_BinOp (H_ ha hb I h λv u s2 x y H2 I2 rx ry q=>ho pins s2 σ H2 x y v u Q I2 rx ry q)
theorem EC {op:UnaryOp}{r:V->Hp->VK->Prop}(ho:LA X (unaryOp op) r)(ha:PE X a ta):PE X (.UnaryOp op a pos) (RE r ta):=by
 intro pins s σ H Q I h;exact UnaryOp_ (bC (ha pins s σ H _ I h) λv s1 Ot=>by obtain⟨x,H1,I1,r1,q1⟩:=Ot;exact ho pins s1 σ H1 x v Q I1 r1 q1)
theorem LW {f:UT->UT->Sem UT}{C:Int->Int->Prop}{g:Int->Int->Int}
  (rule:∀(i j:Int) (t u:Tok) (s:UW) (Q:UT->UW->Prop) (E:UT->UW->Prop),C i j->Q (.int (g i j) s.toks) {s with toks:=s.toks+1}->Vq (model X.prog X.w) X.A (f (.int i t) (.int j u)) Q E s) :
  g9 X f (rI C λi j=>.int (g i j)):=by
 intro pins s σ H x y v u Q I rx ry h;obtain⟨i,j,rfl,rfl,hc,q⟩:=h;obtain⟨t,rfl⟩:=rx;obtain⟨t',rfl⟩:=ry;exact rule i j t t' s _ _ hc ⟨.int (g i j),H,I.tok _,⟨_,rfl⟩,q⟩
theorem JB {f:UT->UT->Sem UT}{g:Int->Int->Int}
  (rule:∀(i j:Int) (t u:Tok) (s:UW) (Q:UT->UW->Prop) (E:UT->UW->Prop),Q (.int (g i j) s.toks) {s with toks:=s.toks+1}->Vq (model X.prog X.w) X.A (f (.int i t) (.int j u)) Q E s) :
  g9 X f (BE λi j=>.int (g i j)):=by
 intro pins s σ H x y v u Q I rx ry h;obtain⟨i,j,rfl,rfl,q⟩:=h;obtain⟨t,rfl⟩:=rx;obtain⟨t',rfl⟩:=ry;exact rule i j t t' s _ _ ⟨.int (g i j),H,I.tok _,⟨_,rfl⟩,q⟩
theorem CM {f:UT->UT->Sem UT}{g:Int->Int->Bool}
  (rule:∀(i j:Int) (t u:Tok) (s:UW) (Q:UT->UW->Prop) (E:UT->UW->Prop),Q (.bool (g i j)) s->Vq (model X.prog X.w) X.A (f (.int i t) (.int j u)) Q E s) :
  g9 X f (BE λi j=>.bl (g i j)):=by
 intro pins s σ H x y v u Q I rx ry h;obtain⟨i,j,rfl,rfl,q⟩:=h;obtain⟨t,rfl⟩:=rx;obtain⟨t',rfl⟩:=ry;exact rule i j t t' s _ _ ⟨.bl (g i j),H,I,rfl,q⟩
def BC (i j:Int):Prop:=0<=j/\j<=1000000/\i.natAbs<2 ^ 64
def qh (i j:Int):Prop:=(-(2 ^ 64)<i/\i<2 ^ 64)\/(-(2 ^ 64)<j/\j<2 ^ 64)
theorem qh.ok {i j:Int}(h:qh i j):IntMulOk i j:=by
 rcases h with⟨h1,h2⟩|⟨h1,h2⟩
 ·exact .of_left (intBits_le_64 h1 h2)
 ·exact .of_right (intBits_le_64 h1 h2)
theorem ug:g9 X (W5 .Add) (BE λi j=>.int (i+j)):=JB λ_ _ _ _ _ _ _ q=>add_int q
theorem zG:g9 X (W5 .Sub) (BE λi j=>.int (i-j)):=JB λ_ _ _ _ _ _ _ q=>sub_int q
theorem ue:g9 X (W5 .Mult) (rI qh λi j=>.int (i*j)):=LW λ_ _ _ _ _ _ _ hc q=>mul_int q hc.ok
theorem lK:g9 X (W5 .Mod) (rI (λ_ j=>0<j) λi j=>.int (i % j)):=LW λi j _ _ _ _ _ hc q=>by
 have h1:(0:Int)<j:=hc;exact mod_int' (by lia) (by rw[Int.fmod_eq_emod_of_nonneg i (by lia)];exact q)
theorem pJ:g9 X (W5 .Pow) (rI BC λi j=>.int (i ^ j.toNat)):=LW λ_ _ _ _ _ _ _ hc q=>pow_int_small hc.1 hc.2.1 hc.2.2 q
theorem Ry {f:UT->Sem UT}{g:Int->Int}
  (rule:∀(i:Int) (t:Tok) (s:UW) (Q:UT->UW->Prop) (E:UT->UW->Prop),Q (.int (g i) s.toks) {s with toks:=s.toks+1}->Vq (model X.prog X.w) X.A (f (.int i t)) Q E s) :
  LA X f (rU λi=>.int (g i)):=by
 intro pins s σ H x v Q I rx h;obtain⟨i,rfl,q⟩:=h;obtain⟨t,rfl⟩:=rx;exact rule i t s _ _ ⟨.int (g i),H,I.tok _,⟨_,rfl⟩,q⟩
theorem yA:LA X (unaryOp .USub) (rU λi=>.int (-i)):=Ry λ_ _ _ _ _ q=>neg_int q
end
def M5:V->V->Bool
 |.bK,.bK=>true | .bK,.int _=>true | .int _,.bK=>true | .bK,.bl _=>true | .bl _,.bK=>true | .bK,.str _=>true | .str _,.bK=>true
 |.int _,.int _=>true | .bl _,.bl _=>true | .str _,.str _=>true | .Bl _,.Bl _=>true
 |.int _,.str _=>true | .str _,.int _=>true | .bl _,.str _=>true | .str _,.bl _=>true
 |_,_=>false
def RW:R2:=λx y H Q=>M5 x y=true/\Q (.bl (!decide (x=y))) H
theorem DT {i j:Int}:decide (V.int i=V.int j)=(i==j):=by
 rw[XN];simp
theorem HQ {i j:Bool}:decide (V.bl i=V.bl j)=(i==j):=by
 rw[XN];simp
theorem DS {i j:Str}:decide (V.str i=V.str j)=(i==j):=by
 rw[XN];simp
theorem DU {i j:Array UInt8}:decide (V.Bl i=V.Bl j)=(i.toList==j.toList):=by
 rw[XN];cases i;cases j;simp
section
variable {X:Cx}{a b c:Expr}{ta tb:TE}{pos:Pos}
theorem bZ {pins:List (Addr×Obj)}{σ:St}{H:Hp}{s:UW}{Q:VK}{k k':Bool}(I:Inv X pins σ H s)(q:Q (.bl k) H)(e:k=k'):EP X pins σ Q (.bool k') s:=by
 subst e;exact⟨.bl k,H,I,rfl,q⟩
theorem Jx:g9 X (V7 .NotEq) RW:=by
 intro pins s σ H x y v u Q I rx ry h;obtain⟨hs,q⟩:=h;cases x with
 |bK =>
  cases rx;cases y with
  |bK=>cases ry;exact PySem.EqNone.ne_none_none (bZ I q (by simp))
  |bl j=>cases ry;exact PySem.EqNone.ne_none_bool (bZ I q (by simp))
  |int j=>obtain⟨t',rfl⟩:=ry;exact PySem.EqNone.ne_none_int (bZ I q (by simp))
  |str j=>obtain⟨t',rfl⟩:=ry;exact PySem.EqNone.ne_none_str (bZ I q (by simp))
  |_=>exact absurd (show false=true from hs) V_
 |bl i =>
  cases rx;cases y with
  |bK=>cases ry;exact PySem.EqNone.ne_bool_none (bZ I q (by simp))
  |bl j=>cases ry;exact ne_bool (bZ I q (congrArg not HQ))
  |str j=>obtain⟨t',rfl⟩:=ry;exact PySem.EqMixed.ne_bool_str (bZ I q (by simp))
  |_=>exact absurd (show false=true from hs) V_
 |int i =>
  obtain⟨t,rfl⟩:=rx;cases y with
  |bK=>cases ry;exact PySem.EqNone.ne_int_none (bZ I q (by simp))
  |int j=>obtain⟨t',rfl⟩:=ry;exact ne_int (bZ I q (congrArg not DT))
  |str j=>obtain⟨t',rfl⟩:=ry;exact PySem.EqMixed.ne_int_str (bZ I q (by simp))
  |_=>exact absurd (show false=true from hs) V_
 |str i =>
  obtain⟨t,rfl⟩:=rx;cases y with
  |bK=>cases ry;exact PySem.EqNone.ne_str_none (bZ I q (by simp))
  |bl j=>cases ry;exact PySem.EqMixed.ne_str_bool (bZ I q (by simp))
  |int j=>obtain⟨t',rfl⟩:=ry;exact PySem.EqMixed.ne_str_int (bZ I q (by simp))
  |str j=>obtain⟨t',rfl⟩:=ry;exact ne_str (bZ I q (congrArg not DS))
  |_=>exact absurd (show false=true from hs) V_
 |Bl i =>
  obtain⟨t,rfl⟩:=rx;cases y with
  |Bl j=>obtain⟨t',rfl⟩:=ry;exact PySem.W.ne_bytes (bZ I q (congrArg not DU))
  |_=>exact absurd (show false=true from hs) V_
 |_=>cases y <;> exact absurd (show false=true from hs) V_
theorem Jy:g9 X (V7 .Lt) (BE λi j=>.bl (decide (i<j))):=CM λ_ _ _ _ _ _ _ q=>lt_int q
theorem Jz:g9 X (V7 .LtE) (BE λi j=>.bl (decide (i<=j))):=CM λ_ _ _ _ _ _ _ q=>le_int q
theorem EF:g9 X (V7 .Gt) (BE λi j=>.bl (decide (j<i))):=CM λ_ _ _ _ _ _ _ q=>gt_int q
theorem JA:g9 X (V7 .GtE) (BE λi j=>.bl (decide (j<=i))):=CM λ_ _ _ _ _ _ _ q=>ge_int q
theorem Gm:g9 X (V7 .Is) (λx y H Q=>y=.bK/\Q (.bl (decide (x=.bK))) H):=by
 intro pins s σ H x y v u Q I rx ry h;obtain⟨rfl,q⟩:=h;cases ry;refine is_none_gen (bZ I q ?_);cases x <;> first
  | (cases rx;rfl)
  | (obtain⟨t,rfl⟩:=rx;rfl)
theorem CJ:g9 X (V7 .IsNot) (λx y H Q=>y=.bK/\Q (.bl (!decide (x=.bK))) H):=by
 intro pins s σ H x y v u Q I rx ry h;obtain⟨rfl,q⟩:=h;cases ry;refine isnot_none_gen (bZ I q ?_);cases x <;> first
  | (cases rx;rfl)
  | (obtain⟨t,rfl⟩:=rx;rfl)
theorem zR (b:Expr){op:XZ}(h:op≠.In:=by decide)(h2:op≠.NotIn:=by decide):Xd op b=false:=by
 have e1:(op==CmpOp.In)=false:=by cases op <;> first|rfl|exact absurd rfl h
 have e2:(op==CmpOp.NotIn)=false:=by cases op <;> first|rfl|exact absurd rfl h2
 cases b <;> simp[Xd,e1,e2]
theorem vo {op:XZ}{r:R2}(ho:g9 X (V7 op) r)(ha:PE X a ta)(hb:PE X b tb)(hm:Xd op b=false):PE X (.Compare a [op] [b] pos) (IW r ta tb):=by
 intro pins s σ H Q I h;exact wpAny_Compare1 (H_ ha hb I h λv u s2 x y H2 I2 rx ry q=>ho pins s2 σ H2 x y v u Q I2 rx ry q) hm
def IU (t:TE):TT:=λσ H Q=>t σ H λx H'=>∃k,x=.bl k/\Q k H'
theorem vf {op:XZ}{r:R2}(ho:g9 X (V7 op) r)(ha:PE X a ta)(hb:PE X b tb)(hm:Xd op b=false):PT X (.Compare a [op] [b] pos) (IU (IW r ta tb)):=by
 intro pins s σ H Q I h;refine wpAny_isTrue_Compare1 (bC (ha pins s σ H _ I h) λv s1 ⟨x,H1,I1,r1,q1⟩=>bC (hb pins s1 σ H1 _ I1 q1) λu s2 ⟨y,H2,I2,r2,q2⟩ =>
  bC (ho pins s2 σ H2 x y v u _ I2 r1 r2 q2) λc s3 ⟨z,H3,I3,r3,k,e,q3⟩=>?_) hm
 subst e;cases r3;exact Wx ⟨H3,I3,q3⟩
def LB (K:PySem.W.Frag)(x:V)(H:Hp)(k:Bool):Prop :=
 match x with
 |.bK=>k=false
 |.bl b=>k=b
 |.int i=>k=(i != 0)
 |.str y=>y.length<=U_/\k=((y.length:Int) != 0)
 |.Bl y=>y.size<=U_/\k=((y.size:Int) != 0)
 |.ref p=>(∃xs,cP K H p xs/\k=!xs.isEmpty)\/(∃xs,qj K H p xs/\k=!xs.isEmpty)\/∃kvs,H p=some (.dK kvs)/\k=!kvs.isEmpty
 |_=>False
theorem uz {κ:Type}{kvs:List (κ×V)}{vs:List (κ×UT)}(r:KV kvs vs):(!vs.isEmpty)=!kvs.isEmpty:=by
 cases r <;> rfl
theorem l6 {xs:List V}{its:List UT}(r:Vals xs its):(!its.toArray.isEmpty)=!xs.isEmpty:=by
 cases r <;> simp
theorem lY:(U_:Nat)<2 ^ 63:=by rw[V2];decide
theorem FA:PX X (λx H Q=>∃k,LB X.K x H k/\Q k H):=by
 intro pins s σ H x v Q I rx h;obtain⟨k,e,q⟩:=h;have hl:=lY;have hs:U_=16777216:=V2;cases x with
 |bK =>
  cases rx;have e':k=false:=e;subst e';exact truthy_none ⟨H,I,q⟩
 |bl b =>
  cases rx;have e':k=b:=e;subst e';exact Wx ⟨H,I,q⟩
 |int i =>
  obtain⟨t,rfl⟩:=rx;have e':k=(i != 0):=e;subst e';exact PySem.P.truthy_int ⟨H,I,q⟩
 |str y =>
  obtain⟨t,rfl⟩:=rx;obtain⟨hy,e'⟩:y.length<=U_/\k=((y.length:Int) != 0):=e;subst e';exact PySem.P.truthy_str (by lia) ⟨H,I.tok _,q⟩
 |Bl y =>
  obtain⟨t,rfl⟩:=rx;obtain⟨hy,e'⟩:y.size<=U_/\k=((y.size:Int) != 0):=e;subst e';exact PySem.W.truthy_bytes (by lia) ⟨H,I.tok _,q⟩
 |ref p =>
  cases rx;have e':(∃xs,cP X.K H p xs/\k=!xs.isEmpty)\/(∃xs,qj X.K H p xs/\k=!xs.isEmpty)\/∃kvs,H p=some (.dK kvs)/\k=!kvs.isEmpty:=e;rcases e' with⟨xs,hx,e'⟩|⟨xs,hx,e'⟩|⟨kvs,hx,e'⟩
  ·subst e';obtain⟨its,r,pl,hz⟩:=I.list hx;have hlen:=r.length;exact wpAny_truthy_list pl.isList (by simp only[Vk];lia) ⟨H,I.tok _,by rw[l6 r];exact q⟩
  ·subst e';obtain⟨its,r,pl,hz⟩:=I.tuple hx;have hlen:=r.length;exact truthy_tuple pl (by simp only[Vk];lia) ⟨H,I.tok _,by rw[l6 r];exact q⟩
  ·subst e';obtain⟨hz,hS,vs,r,m⟩:kvs.length<=U_/\(p==XD)=false/\∃vs,KV kvs vs/\s.heap.DictOf (cb X.prog X.w) p vs:=I.br p _ hx;have hlen:kvs.length=vs.length:=Paired.length r;exact wpAny_truthy_dict hS m (by lia) ⟨H,I.tok _,by rw[uz r];exact q⟩
 |_=>exact(show False from e).elim
theorem zi (ha:PE X a ta)(he:∀whole,Zm a X.env whole=(do let v <- whole;X5 a.pos;holding [v] (truthy v))):
  PT X a (λσ H Q=>ta σ H λx H'=>∃k,LB X.K x H' k/\Q k H'):=by
 intro pins s σ H Q I h;exact isTrue_plain (bC (ha pins s σ H _ I h) λv s1 Ol=>by obtain⟨x,H1,I1,r1,q1⟩:=Ol;exact FA pins s1 σ H1 x v Q I1 r1 q1) (he _)
theorem vals1 {x:V}{us:List UT}(r:Vals [x] us):∃u,us=[u]/\RelV x u:=by
 cases r with
 |cons r1 r2=>cases r2;exact⟨_,rfl,r1⟩
theorem vals2 {x y:V}{us:List UT}(r:Vals [x,y] us):∃u w',us=[u,w']/\RelV x u/\RelV y w':=by
 cases r with
 |cons r1 r2 =>
  cases r2 with
  |cons r3 r4=>cases r4;exact⟨_,_,rfl,r1,r3⟩
theorem oO (hc:X.calm=true):eY X (.builtin "max") (λxs H Q=>∃i j,xs=[.int i,.int j]/\Q (.int (if j>i then j else i)) H):=by
 intro pins s σ H xs us Q I r h;obtain⟨i,j,rfl,q⟩:=h;obtain⟨u,w',rfl,⟨t,rfl⟩,⟨t',rfl⟩⟩:=vals2 r;refine max_two_ints (I.ok.hd hc) λh' tk k=>⟨_,H,I.kept k,?_,q⟩
 by_cases hj:j>i
 ·rw[if_pos hj,if_pos hj];exact⟨_,rfl⟩
 ·rw[if_neg hj,if_neg hj];exact⟨_,rfl⟩
theorem xQ (hc:X.calm=true):eY X (.builtin "min") (λxs H Q=>∃i j,xs=[.int i,.int j]/\Q (.int (if j<i then j else i)) H):=by
 intro pins s σ H xs us Q I r h;obtain⟨i,j,rfl,q⟩:=h;obtain⟨u,w',rfl,⟨t,rfl⟩,⟨t',rfl⟩⟩:=vals2 r;refine min_two_ints (I.ok.hd hc) λh' tk k=>⟨_,H,I.kept k,?_,q⟩
 by_cases hj:j<i
 ·rw[if_pos hj,if_pos hj];exact⟨_,rfl⟩
 ·rw[if_neg hj,if_neg hj];exact⟨_,rfl⟩
theorem jz:eY X (.type "int") (λxs H Q=>(∃i,xs=[.int i]/\Q (.int i) H)\/∃k,xs=[.bl k]/\Q (.int (if k then 1 else 0)) H):=by
 intro pins s σ H xs us Q I r h;rcases h with⟨i,rfl,q⟩|⟨k,rfl,q⟩
 ·obtain⟨u,rfl,t,rfl⟩:=vals1 r;exact call_int_int ⟨.int i,H,I,⟨_,rfl⟩,q⟩
 ·obtain⟨u,rfl,r1⟩:=vals1 r;cases r1;exact call_int_bool ⟨.int (if k then 1 else 0),H,I.tok _,⟨_,rfl⟩,q⟩
end
structure Ih (h:Heap)(x dx C:Addr)(mA:Str->Option UT):Prop where
 obj:h.get? x=some (PySem.W.instObj C dx)
 ns:h.Ns1 dx mA
 ne:dx≠x
theorem xm {h:Heap}{dx:Addr}{mA:Str->Option UT}(n:h.Ns1 dx mA):∃od,h.get? dx=some od/\∀name,PySem.W.lookIn name od=some (mA name):=by
 obtain⟨o,es,ep,ho,hd,hk,_,hm⟩:=n;refine⟨o,ho,λname=>?_⟩;have e:=hm name;unfold nsFind findBy at e;rw[<- Array.find?_toList]at e;unfold PySem.W.lookIn;rw[hd];dsimp only
 split
 ·rename_i y q
  rw[q]at e;exact congrArg some e
 ·rename_i q
  rw[q]at e;have a:es.toList.any (·.refKey)=false:=by
   rw[List.any_eq_false];intro y hy;obtain⟨z,t,OW⟩:=hk y (Array.mem_toList_iff.mp hy);simp[DictEntry.refKey,OW]
  have a':¬ es.toList.any (·.refKey)=true:=by rw[a];exact V_
  rw[if_neg a'];exact congrArg some e
theorem Ih.look {h:Heap}{x dx C:Addr}{mA:Str->Option UT}(I:Ih h x dx C mA):∃od,PySem.W.InstAt h x (PySem.W.instObj C dx) C (some od)/\∀name,PySem.W.lookIn name od=some (mA name) :=
 let ⟨od,ho,hl⟩:=xm I.ns
 ⟨od,⟨I.obj,rfl,rfl,ho⟩,hl⟩
section
end
theorem mP.some_of {v:V}{o:Option UT}(r:mP (some v) o):∃u,o=some u/\RelV v u:=by
 cases o with
 |none=>exact(show False from r).elim
 |some u=>exact⟨u,rfl,r⟩
section
variable {P:U0}{w:Vf}{H:Hp}{h:Heap}{a C dx:Addr}{fs:List (Str×V)}
theorem dv (br:hG P w H h)(e:H a=some (.ins C dx fs)):∃mA,Ih h a dx C mA/\(∀f,mP (fs.lookup f) (mA f))/\PySem.Within mA (fs.map (·.1))/\fs.length<=1000/\H dx=some (.own a):=by
 obtain⟨d,z,ne,ob,mA,n,r,q⟩:=(show bb P w H h a (.ins C dx fs) from br a _ e)
 exact⟨mA,⟨ob,n,ne⟩,r,q,z,d⟩
end
structure Qa (K:PySem.W.Frag)(C:Addr):Prop where
 pg:PySem.W.plainGet K C Str.empty=true
 hd:PySem.W.hasDictIn K C=true
 po:PySem.W.plainOver K C=true
 sa:PySem.W.findIn K (.ref C) "__setattr__" = some (some (.builtin "object.__setattr__"))
theorem Qa.get {K:PySem.W.Frag}{C:Addr}(c:Qa K C)(f:Str):PySem.W.plainGet K C f=true:=c.pg
section
end
section
end
section
variable {X:Cx}{pins:List (Addr×Obj)}{σ:St}{H:Hp}{s:UW}{A:VW}{E:UT->UW->Prop}{Q:UT->UW->Prop}{c:UT}{b:Bool}
inductive gZ (K:PySem.W.Frag) (H:Hp):V->UT->Prop where
 |bK:gZ K H .bK (.type "NoneType")
 |bl (x:Bool):gZ K H (.bl x) (.type "bool")
 |int (i:Int):gZ K H (.int i) (.type "int")
 |str (x:Str):gZ K H (.str x) (.type "str")
 |HJ (x:UInt64):gZ K H (.HJ x) (.type "float")
 |lst {a:Addr} {xs:List V} (e:H a=some (.lst xs)):gZ K H (.ref a) (.type "list")
 |tf {a:Addr} {o:Obj} {xs:List V} (e:H a=some (.tf o (.lst xs))):gZ K H (.ref a) (.type "list")
 |tup {a:Addr} {xs:List V} (e:H a=some (.tup xs)):gZ K H (.ref a) (.type "tuple")
 |dK {a:Addr} {kvs:List (Key×V)} (e:H a=some (.dK kvs)):gZ K H (.ref a) (.type "dict")
 |dT {a:Addr} {kvs:List (List Key×V)} (e:H a=some (.dT kvs)):gZ K H (.ref a) (.type "dict")
 |ins {a C dx:Addr} {fs:List (Str×V)} (e:H a=some (.ins C dx fs)) (cl:Qa K C) (ha:PySem.W.findIn K (.ref C) "__class__" = some (some (.builtin "object.__class__")))
   (hn:PySem.W.specialIn K (.builtin "object.__class__") "__get__" = some (some (.builtin "getset_descriptor.__get__"))) (QO:PySem.W.takesIn K (.builtin "object.__class__")=some true)
   (hm:PySem.W.mroIn K C (.type "object")=some true):gZ K H (.ref a) (.ref C)
theorem xt {x:V}{u t:UT}(I:Inv X pins σ H s)(rx:RelV x u)(ty:gZ X.K H x t)(e:PySem.W.kitOne X.K t c=some b)(h:∀tk,Q (.bool b) {s with toks:=tk}):
  Vq (model X.prog X.w) A (call (.builtin "isinstance") [u,c]) Q E s:=by
 cases ty with
 |bK=>cases (show u=Value.none from rx);exact PySem.W.kia_one PySem.W.kitx_none I.jr WL e (λz=>nomatch z) h
 |bl y=>cases (show u=Value.bool y from rx);exact PySem.W.kia_one PySem.W.kitx_bool I.jr WL e (λz=>nomatch z) h
 |int i=>obtain⟨t,q⟩:=(show ∃t,u=Value.int i t from rx);cases q;exact PySem.W.kia_one PySem.W.kitx_int I.jr WL e (λz=>nomatch z) h
 |str y=>obtain⟨t,q⟩:=(show ∃t,u=Value.str y t from rx);cases q;exact PySem.W.kia_one PySem.W.kitx_str I.jr WL e (λz=>nomatch z) h
 |HJ y=>obtain⟨t,q⟩:=(show ∃t,u=Value.float y t from rx);cases q;exact PySem.W.kia_one PySem.W.kitx_float I.jr WL e (λz=>nomatch z) h
 | @lst a xs ea =>
  cases (show u=Value.ref a from rx)
  obtain⟨_,_,n,_,h1⟩:=(show bb X.prog X.w H s.heap a (.lst xs) from I.br a _ ea)
  exact PySem.W.kia_one PySem.W.kitx_list I.jr ⟨_,h1,rfl⟩ e (λz=>nomatch z) h
 | @tf a ob xs ea =>
  cases (show u=Value.ref a from rx)
  obtain⟨_,_,_,n,_,h1⟩:=(show bb X.prog X.w H s.heap a (.tf ob (.lst xs)) from I.br a _ ea)
  exact PySem.W.kia_one PySem.W.kitx_list I.jr ⟨_,h1,rfl⟩ e (λz=>nomatch z) h
 | @tup a xs ea =>
  cases (show u=Value.ref a from rx)
  obtain⟨_,_,_,p⟩:=(show bb X.prog X.w H s.heap a (.tup xs) from I.br a _ ea)
  obtain⟨o,h1,h2,_⟩:=p;exact PySem.W.kia_one PySem.W.kitx_tuple I.jr ⟨o,h1,h2⟩ e (λz=>nomatch z) h
 | @dK a kvs ea =>
  cases (show u=Value.ref a from rx)
  obtain⟨_,_,vs,_,p⟩:=(show bb X.prog X.w H s.heap a (.dK kvs) from I.br a _ ea)
  obtain⟨o,es,ep,h1,h2,_⟩:=p;exact PySem.W.kia_one PySem.W.kitx_dict I.jr ⟨o,h1,h2.1⟩ e (λz=>nomatch z) h
 | @dT a kvs ea =>
  cases (show u=Value.ref a from rx)
  obtain⟨_,_,xs,_,o,es,ep,h1,h2,_⟩:=(show bb X.prog X.w H s.heap a (.dT kvs) from I.br a _ ea)
  exact PySem.W.kia_one PySem.W.kitx_dict I.jr ⟨o,h1,h2.1⟩ e (λz=>nomatch z) h
 | @ins a C dx fs ea cl ha hn QO hm =>
  cases (show u=Value.ref a from rx)
  obtain⟨mA,O,_⟩:=dv I.br ea;obtain⟨od,J,_⟩:=O.look;exact PySem.W.kia_one (PySem.W.kitx_own (cl.get _) cl.hd ha hn QO hm) I.jr J e (λz=>nomatch z) h
end
structure dh (k:Nat)(A:VW):Prop where
 hd:A.handled=none
 dp:A.depth+3*k+5<recursionLimit
 un:A.units+16*k+200<XO
theorem dh.mono {j k:Nat}{A:VW}(r:dh k A)(h:j<=k):dh j A:=⟨r.hd,by have:=r.dp;lia,by have:=r.un;lia⟩
theorem dh.deeper {k:Nat}{A:VW}(r:dh (k+1) A)(env:Env):dh k (A.deeper env) :=
 ⟨r.hd,by have:=r.dp;show A.depth+1+3*k+5<_;lia,by have:=r.un;show A.units+3+16*k+200<_;lia⟩
theorem dh.depth {k:Nat}{A:VW}(r:dh k A):A.depth<recursionLimit:=by have:=r.dp;lia
theorem dh.units {k:Nat}{A:VW}(r:dh k A):A.units+64<XO:=by have:=r.un;lia
def IY:TA:=λ_ H Q=>Q [] H
def Eu (ta:TE)(tr:TA):TA:=λσ H Q=>ta σ H λx H1=>tr σ H1 λxs H2=>Q (x::xs) H2
section
variable {X:Cx}{e:Expr}{es:List Expr}{te:TE}{t:TA}{pos:Pos}
theorem cU:PA X [] IY:=λ_ _ _ _ H Q I h=>Calls.spliced_nil ⟨[],H,I,.nil,h⟩
theorem bo (ha:PE X e te)(hr:PA X es t)(hs:Ve (e::es) X.env=(false,eval e X.env)::Ve es X.env:=by rfl):PA X (e::es) (Eu te t):=by
 intro pos pins s σ H Q I h;rw[hs];show Vq _ _ (spliced ((false,eval e X.env)::W6 pos (Ve es X.env))) _ _ s;refine Calls.spliced_cons (bC (ha pins s σ H _ I h) λu s1 ⟨x,H1,I1,r1,q1⟩=>?_);exact bC (hr pos pins s1 σ H1 _ I1 q1) λus s2 ⟨xs,H2,I2,r2,q2⟩=>⟨x::xs,H2,I2,.cons r1 r2,q2⟩
def ML (t:TA):TE:=λσ H Q=>t σ H λxs H1=>xs.length<=U_/\∀p,H1 p=none->Q (.ref p) (upd H1 p (.tup xs))
def MP (t:TA):TE:=λσ H Q=>t σ H λxs H1=>xs.length<=U_/\∀p,H1 p=none->Q (.ref p) (upd H1 p (.lst xs))
theorem zC {x1}(h:PA X es t):PE X (.Tuple es x1 pos) (ML t):=by
 intro pins s σ H Q I hq;refine wpAny_Tuple_spliced (bC (h pos pins s σ H _ I hq) λus s1 ⟨xs,H1,I1,r,z,q⟩=>⟨by rw[<- r.length];exact z,?_⟩)
 have hf:H1 s1.heap.objs.size=none:=I1.br.fresh (UU _);refine⟨.ref s1.heap.objs.size,upd H1 s1.heap.objs.size (.tup xs),I1.laid (t':=s1.toks) (λb u e=>UX _ e) (UU _) ?_,rfl,q _ hf⟩;exact⟨z,us,r,⟨_,Vp _ rfl,rfl,_,rfl⟩⟩
theorem uc (h:PA X es t):PE X (.List es pos) (MP t):=by
 intro pins s σ H Q I hq;refine wpAny_List_spliced (bC (h pos pins s σ H _ I hq) λus s1 ⟨xs,H1,I1,r,z,q⟩=>⟨by rw[<- r.length];exact z,?_⟩)
 have hf:H1 s1.heap.objs.size=none:=I1.br.fresh (UU _);refine⟨.ref s1.heap.objs.size,upd H1 s1.heap.objs.size (.lst xs),I1.laid (t':=s1.toks) (λb u e=>UX _ e) (UU _) ?_,rfl,q _ hf⟩;exact⟨z,us,0,r,Vp _ rfl⟩
end
abbrev Sp:=List V->Hp->VK->XK->Prop
abbrev BB:=List Env->Hp->UW->XK->UT->UW->Prop
structure Er (P:U0)(w:Vf)(K:PySem.W.Frag)(mg:Str->Option UT)(base:Heap)(A:VW)(outer:List Env)(s:UW)(H:Hp):Prop where
 frames:A.frames=some outer
 mod:Mod K mg base
 bs:∀b o,base.get? b=some o->s.heap.get? b=some o/\H b=none
 BM:base.objs.size<=s.heap.objs.size
 mf:s.heap.FunFrames base outer
 IA:∀b∈AS outer,H b=none
 br:hG P w H s.heap
 bare:Yw s.gens
def CE (outer:List Env)(P:U0)(w:Vf)(H:Hp)(s:UW)(Q:VK)(u:UT)(s':UW):Prop :=
 ∃v H',s'.os=s.os/\Yw s'.gens/\Un (AS outer) [] H H' s.heap s'.heap/\hG P w H' s'.heap/\RelV v u/\Q v H'
def CR (CX:BB)(outer:List Env)(P:U0)(w:Vf)(H:Hp)(s:UW)(Q:VK)(E:XK)(r:Result)(s':UW):Prop :=
 match r with
 |.ok (.ret u)=>CE outer P w H s Q u s'
 |.ok _=>False
 |.error e=>CX outer H s E e s'
structure aN (P:U0)(w:Vf)(K:PySem.W.Frag)(mg:Str->Option UT)(base:Heap)(CX:BB)(k:Nat)(f:Addr)(fd:VL)(ps:List Str)(sp:Sp):Prop where
 len:∀vs H Q E,sp vs H Q E->vs.length=ps.length
 run:∀(A:VW) (outer:List Env) (s:UW) (H:Hp) (args:Args) (us:List UT) (vs:List V) (Q:VK) (E:XK),dh k A->Er P w K mg base A outer s H->BindsTo s fd args (ps.zip us)->Vals vs us->sp vs H Q E ->
  XR (model P w) A (.call (.ref f) args) (CR CX outer P w H s Q E) s
theorem aN.imp {P:U0}{w:Vf}{K:PySem.W.Frag}{mg:Str->Option UT}{base:Heap}{CX:BB}{k:Nat}{f:Addr}{fd:VL}{ps:List Str}{sp Qi:Sp}(F:aN P w K mg base CX k f fd ps sp)
  (h:∀vs H Q E,Qi vs H Q E->sp vs H Q E):aN P w K mg base CX k f fd ps Qi :=
 ⟨λvs H Q E q=>F.len vs H Q E (h _ _ _ _ q),λA outer s H args us vs Q E hr he hb hv hs=>F.run A outer s H args us vs Q E hr he hb hv (h _ _ _ _ hs)⟩
section
variable {X:Cx}{pins:List (Addr×Obj)}{σ:St}{H:Hp}{s s':UW}
theorem Inv.PD (I:Inv X pins σ H s):Er X.prog X.w X.K X.mg X.base X.A X.stack s H :=
 ⟨I.ok.frames,I.ok.mod,I.bs,VN I.ok.BM I.sz,I.stack,I.pj,I.br,I.bare⟩
theorem Inv.after {Q:VK}{u:UT}(I:Inv X pins σ H s)(h:CE X.stack X.prog X.w H s Q u s'):EP X pins σ Q u s':=by
 obtain⟨v,H',os,bare,un,br,r,q⟩:=h;obtain⟨hh,g,d,t,NM⟩:=s';obtain rfl:NM=s.os:=os;exact⟨v,H',I.call (h':=hh) (g':=g) (d':=d) (t':=t) (ch:=[]) un br bare (λb z=>absurd z (by simp)),r,q⟩
end
def Ja (sp:Sp)(E_:List V)(E:XK)(t:TA):TE:=λσ H Q=>t σ H λvs H1=>sp (vs++E_) H1 Q E
def Binds (K:PySem.W.Frag)(fd:VL)(ps:List Str)(ds:List UT):Prop :=
 ∀(s:UW) (us:List UT),K.In s.heap->(us++ds).length=ps.length->BindsTo s fd ⟨us,[]⟩ (ps.zip (us++ds))
theorem Binds.all {K:PySem.W.Frag}{fd:VL}{ps:List Str}(h:∀us:List UT,us.length=ps.length->bindArgs fd ⟨us,[]⟩=pure (ps.zip us)):Binds K fd ps []:=λs us _ hl=>by
 rw[Wf]at hl ⊢
 exact .of_eq (h us hl)
def Passes (CX:BB)(X:Cx)(E:XK):Prop:=∀(pins:List (Addr×Obj)) (σ:St) (H:Hp) (s:UW) (e:UT) (s':UW),Inv X pins σ H s->CX X.stack H s E e s'->X.xe e s'
section
variable {X:Cx}{CX:BB}{k:Nat}{f:Addr}{fd:VL}{ps:List Str}{sp:Sp}{E_:List V}{ds:List UT}{E:XK}{x:Str}{p pos:Pos}{e:Expr}{es:List Expr}{t:TA}
theorem FZ {pins:List (Addr×Obj)}{σ:St}{H:Hp}{s:UW}{Q:VK}{us:List UT}{vs:List V}(F:aN X.prog X.w X.K X.mg X.base CX k f fd ps sp)(hr:dh k X.A)(hb:Binds X.K fd ps ds)(hd:Vals E_ ds)(hx:Passes CX X E)
  (I:Inv X pins σ H s) (r:Vals vs us) (h:sp (vs++E_) H Q E):Vq (model X.prog X.w) X.A (call (.ref f) us) (EP X pins σ Q) X.xe s:=by
 have r2:Vals (vs++E_) (us++ds):=r.append hd;have hl:(us++ds).length=ps.length:=by rw[<- r2.length];exact F.len _ _ _ _ h
 refine wpAny_call (Xl (F.run X.A X.stack s H ⟨us,[]⟩ (us++ds) (vs++E_) Q E hr I.PD (hb s us I.jr hl) r2 h) λr s' hq=>?_);cases r with
 |error e=>exact hx pins σ H s e s' I hq
 |ok fl =>
  cases fl with
  |ret u=>exact I.after hq
  |next=>exact Xj hq
  |brk=>exact Xj hq
  |cont=>exact Xj hq
theorem vp (F:aN X.prog X.w X.K X.mg X.base CX k f fd ps sp)(hr:dh k X.A)(hg:Gl X x)(hm:X.mg x=some (.ref f))(hk:PySem.W.keepIn X.K (.ref f)=true)(hb:Binds X.K fd ps ds)(hd:Vals E_ ds)(hx:Passes CX X E)
  (ha:PA X (e::es) t) (hdb:(x==("__debug__" : Str))=false:=by decide) (he:Ve (e::es) X.env=(false,eval e X.env)::Ve es X.env:=by rfl) (hpl:(W6 pos (Ve es X.env)).any (·.1)=false:=by rfl) :
  PE X (.Call (.Name x p) (e::es) [] pos) (Ja sp E_ E t):=by
 intro pins s σ H Q I h;refine Y1 (Dh I hg hm ?_ hdb);refine PySem.W.callWith_K (h₀:=X.base) I.ok.mod.NX hk (bC (ha pos pins s σ H _ I h) λus s1 ⟨vs,H1,I1,r,q⟩=>⟨I1.jr,?_⟩) he hpl;exact FZ F hr hb hd hx I1 r q
end
section
end
structure aS (N P:List Str)(sc:W3):Prop where
 kind:sc.kind=.function
 co:sc.isCoroutine=false
 gen:sc.isGenerator=false
 nd:N.Nodup
 pre:N.take P.length=P
 par:∀x∈P,sc.names.lookup x=some .local\/sc.names.lookup x=some .cell
 Gu:∀y∈sc.names,y.2≠.free
theorem oS {kindOf:Str->Option W8}{x:Str}:∀{binds:List (Str×UT)} {m:Str->Option UT},(∀v,(x,v)∉binds)->bindL kindOf binds m x=m x
 |[],_,_=>rfl
 | (n,v)::r,m,h=>by
  unfold bindL;rw[oS λw hw=>h w (Vi _ hw)]
  split
  ·have:x≠n:=by rintro rfl;exact h v Vs
   simp[this]
  ·rfl
theorem oU {kindOf:Str->Option W8}{x:Str}:∀{binds:List (Str×UT)} {m:Str->Option UT},(∀v,(x,v)∉binds)->bindC kindOf binds m x=m x
 |[],_,_=>rfl
 | (n,v)::r,m,h=>by
  unfold bindC;rw[oU λw hw=>h w (Vi _ hw)]
  split
  ·rfl
  ·have:x≠n:=by rintro rfl;exact h v Vs
   simp[this]
theorem oT {kindOf:Str->Option W8}{x:Str}{v:UT}:∀{P:List Str} {vs:List UT} {i:Nat} {m:Str->Option UT},P.Nodup->P[i]?=some x->vs[i]?=some v->kindOf x=some .local ->
  bindL kindOf (P.zip vs) m x=some v
 |[],_,_,_,_,h,_,_=>by simp at h
 |_::_,[],_,_,_,_,h,_=>by simp at h
 |p::P,w::vs,0,m,nd,h1,h2,hk=>by
  simp at h1 h2;subst h1;subst h2;show bindL kindOf ((p,w)::P.zip vs) m p=_;unfold bindL;rw[oS λv hv=>(Vt.mp nd).1 (YA hv).1,if_pos hk];simp
 |p::P,w::vs,i+1,m,nd,h1,h2,hk=>by
  show bindL kindOf ((p,w)::P.zip vs) m x=_;unfold bindL;exact oT (i:=i) (Vt.mp nd).2 (by simpa using h1) (by simpa using h2) hk
theorem oV {kindOf:Str->Option W8}{x:Str}{v:UT}:∀{P:List Str} {vs:List UT} {i:Nat} {m:Str->Option UT},P.Nodup->P[i]?=some x->vs[i]?=some v->kindOf x≠some .local ->
  bindC kindOf (P.zip vs) m x=some v
 |[],_,_,_,_,h,_,_=>by simp at h
 |_::_,[],_,_,_,_,h,_=>by simp at h
 |p::P,w::vs,0,m,nd,h1,h2,hk=>by
  simp at h1 h2;subst h1;subst h2;show bindC kindOf ((p,w)::P.zip vs) m p=_;unfold bindC;rw[oU λv hv=>(Vt.mp nd).1 (YA hv).1,if_neg hk];simp
 |p::P,w::vs,i+1,m,nd,h1,h2,hk=>by
  show bindC kindOf ((p,w)::P.zip vs) m x=_;unfold bindC;exact oV (i:=i) (Vt.mp nd).2 (by simpa using h1) (by simpa using h2) hk
def start (N:List Str)(vs:List V):St:=vs.map some++VF (N.length-vs.length) none
def nz (CX:BB)(P:U0)(w:Vf)(K:PySem.W.Frag)(mg:Str->Option UT)(base:Heap)(N:List Str)(qual:Str)(scope:W3)(f:Addr)(cd:UT)(A:VW)(outer:List Env)(s:UW)(H:Hp)(E:XK):Cx where
 prog:=P
 w:=w
 K:=K
 mg:=mg
 base:=base
 A:=A.deeper (Yp qual scope s.heap.objs.size f cd)
 N:=N
 s₀:=s
 H₀:=H
 env:=Yp qual scope s.heap.objs.size f cd
 outer:=outer
 stack:=Yp qual scope s.heap.objs.size f cd::outer
 ex:=[]
 calm:=true
 fn:=λ_=>true
 pn:=[]
 xe:=λe s'=>Vq (model P w) (A.deeper (Yp qual scope s.heap.objs.size f cd)) (leaving (Yp qual scope s.heap.objs.size f cd) e) (λ_ M8=>CX outer H s E e M8) (λe' M8=>CX outer H s E e' M8) s'
theorem sH {sc:W3}{n:Nat}{x:Str}(h:sc.names.lookup x=some .cell):∃c,(Yk n sc.names []).lookup x=some c:=by
 have q:=PySem.W.cellsFrom_some sc.names n [] (.inl h);exact Option.isSome_iff_exists.mp q
theorem xv {CX:BB}{P:U0}{w:Vf}{K:PySem.W.Frag}{mg:Str->Option UT}{base:Heap}{N ps:List Str}{qual:Str}{scope:W3}{f:Addr}{cd:UT}{A:VW}{outer:List Env}{s s1:UW}{H:Hp}{E:XK}{us:List UT}{vs:List V}
  (S:aS N ps scope) (hd:A.handled=none) (e0:Er P w K mg base A outer s H) (hl:vs.length=ps.length) (r:Vals vs us)
  (x:InCallC s s.heap.objs.size (bindL (Yp qual scope s.heap.objs.size f cd).kindOf (ps.zip us) λ_=>none) (Yk (s.heap.objs.size+1) scope.names []) (bindC (Yp qual scope s.heap.objs.size f cd).kindOf (ps.zip us) λ_=>none) s1) :
  Inv (nz CX P w K mg base N qual scope f cd A outer s H E) [] (start N vs) H s1:=by
 have hpl:ps.length<=N.length:=by have:=congrArg List.length S.pre;rw[Vl]at this;lia
 obtain⟨h1,tk,rfl,hk⟩:=x.done;have JI:∀b:Addr,b∉(nz CX P w K mg base N qual scope f cd A outer s H E).ex:=λb z=>absurd (show b∈([]:List Addr) from z) (by simp)
 refine⟨⟨e0.mod,S.kind,rfl,rfl,UU _,λy z c h1 h2=>?_,λy hy=>?_,λy c _ h=>?_,λ_=>hd,Around.frames_deeper e0.frames,.inr ⟨rfl,rfl⟩,λb z=>absurd z (JI b),e0.bs,e0.BM,λb _ _=>JI b,λb z=>absurd z (JI b),e0.mf,e0.IA⟩,
  rfl,e0.bare,Un.kept hk,⟨_,x.toInCall.ns,λi y v h1 h2 h3=>?_⟩,λy c h=>⟨_,x.cell y c h⟩,e0.br.fresh (UU _),λy c h=>?_,λp hp=>absurd (show p∈([]:List (Addr×Obj)) from hp) (by simp),e0.br.kept hk,?_⟩
 ·exact name_of_addr x.apart (PySem.mem_of_lookup h1) (PySem.mem_of_lookup h2)
 ·have hy:scope.names.lookup y=some .cell\/scope.names.lookup y=some .free:=hy;rcases hy with hy|hy
  ·exact sH hy
  ·exact absurd rfl (S.Gu _ (PySem.mem_of_lookup hy))
 ·exact Yt (x.above y c (PySem.mem_of_lookup h))
 ·have hi:i<vs.length:=by
   unfold start at h2
   by_cases hi:i<vs.length
   ·exact hi
   ·rw[VR (by simpa using hi)]at h2
    rw[List.getElem?_replicate]at h2
    split at h2 <;> cases h2
  have ha:vs[i]?=some v:=by
   unfold start at h2;rw[Wh (by simpa using hi),U8]at h2
   cases e:vs[i]? with
   |none=>rw[e]at h2;cases h2
   |some a=>rw[e]at h2;cases h2;rfl
  obtain⟨u,hu,rv⟩:=r.get ha;have hp:ps[i]?=some y:=by
   rw[<- S.pre,Xr (by lia)];exact h1
  have QD:ps.Nodup:=by rw[<- S.pre];exact S.nd.sublist (List.take_sublist _ _)
  refine⟨u,rv,?_⟩;rcases S.par y (VJ hp)with k|k
  ·exact .inl ⟨k,oT QD hp hu k⟩
  ·obtain⟨c,e⟩:=sH (n:=s.heap.objs.size+1) k;refine .inr ⟨.inl k,c,e,?_⟩;have q:=x.cell y c e;rw[oV QD hp hu (by show scope.names.lookup y≠_;rw[k];decide)]at q
   exact q
 ·exact e0.br.fresh (Yt (x.above y c (PySem.mem_of_lookup h)))
 ·unfold start;show _=N.length;rw[Vu,US,List.length_replicate];lia
theorem Li {CX:BB}{P:U0}{w:Vf}{K:PySem.W.Frag}{mg:Str->Option UT}{base:Heap}{k:Nat}{f:Addr}{name qual:Str}{params:Arguments}{body:List Stmt}{scope:W3}{dV kV doc pm cX ct oc:UT}{an od:Option Addr}
  {Gj:Array (Option UT)} {N ps:List Str} {sp:Sp} (lk:K.lookup f=some ⟨oc,od,.func (PySem.W.fnOf name qual params body scope dV kV doc pm an cX ct),Gj⟩) (gG:PySem.W.codeIn K cX qual=true) (S:aS N ps scope)
  (len:∀vs H Q E,sp vs H Q E->vs.length=ps.length)
  (md:∀(A:VW) (outer:List Env) (s:UW) (H:Hp) (vs:List V) (Q:VK) (E:XK),dh k (A.deeper (Yp qual scope s.heap.objs.size f cX))->sp vs H Q E ->
   ∃t,qk (nz CX P w K mg base N qual scope f cX A outer s H E) body t/\t {nx:=λ_ H'=>Q .bK H',rt:=Q} (start N vs) H) :
  aN P w K mg base CX (k+1) f (PySem.W.fnOf name qual params body scope dV kV doc pm an cX ct) ps sp:=by
 refine⟨len,λA outer s H args us vs Q E hr e0 hb r l8=>?_⟩;have hl:=len _ _ _ _ l8;have KX:K.In s.heap:=e0.mod.NX.keeps λb o e=>(e0.bs b o e).1;have lim:s.heap.NoLimit:=e0.mod.nolimit.keeps λb o e=>(e0.bs b o e).1;have K3:∀y∈ps.zip us,scope.names.lookup y.1=some .local\/(scope.names.lookup y.1=some .cell/\((Yk (s.heap.objs.size+1) scope.names []).lookup y.1).isSome=true):=λOi hy=>by
  obtain⟨n,v⟩:=Oi;rcases S.par n (YA hy).1 with q|q
  ·exact .inl q
  ·exact .inr ⟨q,PySem.W.cellsFrom_some _ _ _ (.inl q)⟩
 refine codeAny_call_function hr.depth (KX _ _ lk) rfl S.co S.gen rfl (PySem.W.codeRec_of KX gG) (hb _ _ _ _ ?_);refine wpAny_newFunctionEnv_cells S.kind K3 λenv he s1 x=>?_;subst he;refine⟨lim.keeps x.toInCall.keep,codeAny_func ?_⟩;obtain⟨t,ht,hq⟩:=md A outer s H vs Q E (hr.deeper _) l8;have I:Inv (nz CX P w K mg base N qual scope f cX A outer s H E) [] (start N vs) H s1:=xv S hr.hd e0 hl r x;refine XT (ht [] s1 (start N vs) H _ I hq) (λfl s' hs=>?_) λe s' hs=>hs;have fin:∀{σ':St} {H':Hp} {v:V} {u:UT},Inv (nz CX P w K mg base N qual scope f cX A outer s H E) [] σ' H' s'->RelV v u->Q v H'->CE outer P w H s Q u s' :=
  λ{σ' H' v u} J rv q=>⟨v,H',J.os,J.bare,J.base,J.br,rv,q⟩
 cases fl with
 |ret u =>
  obtain⟨v,σ',H',J,rv,q⟩:=hs;exact fin J rv q
 |next =>
  obtain⟨σ',H',J,q⟩:=hs;exact fin (v:=V.bK) (u:=Value.none) J rfl q
 |brk =>
  obtain⟨_,_,_,q⟩:=hs;exact Xj q
 |cont =>
  obtain⟨_,_,_,q⟩:=hs;exact Xj q
section
variable {X:Cx}{x:Str}{p pos:Pos}{e:Expr}{es:List Expr}{t:TA}{id T:String}{r:List V->Hp->VK->Prop}
def MS (r:List V->Hp->VK->Prop)(t:TA):TE:=λσ H Q=>t σ H λvs H1=>r vs H1 Q
theorem iu (hc:eY X (.builtin id) r) (hg:Gl X x) (hm:X.mg x=none) (hv:VM x=some (.builtin id)) (ha:PA X (e::es) t) (hn:x≠"__name__" := by decide) (hdb:(x==("__debug__" : Str))=false:=by decide)
  (he:Ve (e::es) X.env=(false,eval e X.env)::Ve es X.env:=by rfl) (hpl:(W6 pos (Ve es X.env)).any (·.1)=false:=by rfl):PE X (.Call (.Name x p) (e::es) [] pos) (MS r t):=by
 intro pins s σ H Q I h;refine Y1 (gP I hg hm hv ?_ hn hdb);exact PyProof.Rows.callWith_builtin1 (bC (ha pos pins s σ H _ I h) λus s1 Oh=>by obtain⟨vs,H1,I1,r1,q1⟩:=Oh;exact hc pins s1 σ H1 vs us Q I1 r1 q1) he hpl
theorem nS (hc:eY X (.type T) r) (hg:Gl X x) (hm:X.mg x=none) (hv:VM x=some (.type T)) (ha:PA X (e::es) t) (hn:x≠"__name__" := by decide) (hdb:(x==("__debug__" : Str))=false:=by decide)
  (he:Ve (e::es) X.env=(false,eval e X.env)::Ve es X.env:=by rfl) (hpl:(W6 pos (Ve es X.env)).any (·.1)=false:=by rfl):PE X (.Call (.Name x p) (e::es) [] pos) (MS r t):=by
 intro pins s σ H Q I h;refine Y1 (gP I hg hm hv ?_ hn hdb);exact WE (bC (ha pos pins s σ H _ I h) λus s1 Og=>by obtain⟨vs,H1,I1,r1,q1⟩:=Og;exact hc pins s1 σ H1 vs us Q I1 r1 q1) he hpl
end
end L2
namespace HT
open PySem PyProof.Rows
def lexLt:List Int->List Int->Bool
 |[],[]=>false
 |[],_::_=>true
 |_::_,[]=>false
 |x::xs,y::ys=>if x=y then lexLt xs ys else decide (x<y)
theorem gN (x y:Int)(xs ys:List Int):lexLt (x::xs) (y::ys)=if x=y then lexLt xs ys else decide (x<y):=rfl
section
open PySem.SeqAt
open PySem.AutoSeq1 (wpAny_loadPart')
open PySem.MeetsSeq PySem.MeetsSeq2 PySem.MeetsSeq3
end
section
def ly (n d:Nat):Option Int->Nat
 |none=>d
 |some v=>if v<0 then (v+(n:Int)).toNat else min v.toNat n
theorem za (n d:Nat):ly n d none=d:=rfl
theorem Ci (n d k:Nat):ly n d (some (k:Int))=min k n:=by
 show (if (k:Int)<0 then ((k:Int)+(n:Int)).toNat else min (k:Int).toNat n)=min k n
 rw[if_neg (by lia),Xf]
end
end HT
namespace L2
open PySem PySem.Spec PyProof.Rows
abbrev TO:=St->Hp->(Option Int->Hp->Prop)->Prop
def PO (X:Cx)(e:Option Expr)(t:TO):Prop :=
 ∀(pins:List (Addr×Obj)) (s:UW) (σ:St) (H:Hp) (Q:Option Int->Hp->Prop),Inv X pins σ H s->t σ H Q ->
  Vq (model X.prog X.w) X.A (evalPart e X.env) (λu s'=>∃o H',Inv X pins σ H' s'/\IsPart u o/\Q o H') X.xe s
def B0:TO:=λ_ H Q=>Q none H
def IV (t:TE):TO:=λσ H Q=>t σ H λx H1=>∃i,x=.int i/\Q (some i) H1
theorem intsAre_of {ns:List Int}:∀{us:List UT},Vals (ns.map V.int) us->Yv us ns:=by
 induction ns with
 |nil=>intro us r;rw[List.map_nil]at r;cases r;exact .nil
 |cons n ns ih =>
  intro us r;rw[Vo]at r;cases r with
  |cons r1 r2 =>
   obtain⟨t,e⟩:=r1;subst e;exact .cons n t (ih r2)
section
variable {X:Cx}{e:Expr}{te:TE}{lo hi:Option Expr}{tl th:TO}{pos p2:Pos}
theorem vi:PO X none B0:=by
 intro pins s σ H Q I h;rw[evalPart_none];exact UY ⟨none,H,I,.none,h⟩
theorem vh (h:PE X e te):PO X (some e) (IV te):=by
 intro pins s σ H Q I hw;rw[evalPart_some];refine bC (h pins s σ H _ I hw) λu s1 ⟨x,H1,I1,r1,q1⟩=>?_;obtain⟨i,rfl,q⟩:=q1;obtain⟨t,rfl⟩:=r1;exact⟨some i,H1,I1,.int i t,q⟩
def PZ (X:Cx)(r:V->Option Int->Option Int->Hp->VK->Prop):Prop :=
 ∀(pins:List (Addr×Obj)) (s:UW) (σ:St) (H:Hp) (x:V) (v vl vu:UT) (lo hi:Option Int) (sl:Addr) (Q:VK),Inv X pins σ H s->RelV x v->s.heap.IsSliceOf sl vl vu .none->IsPart vl lo->IsPart vu hi->r x lo hi H Q ->
  ∃T id,typeLookup (.type T) "__getitem__" = pure (some (.builtin id))/\s.TypeIs v T/\Vq (model X.prog X.w) X.A (getItem v (.ref sl)) (EP X pins σ Q) X.xe s
def RF (r:V->Option Int->Option Int->Hp->VK->Prop)(te:TE)(tl th:TO):TE:=λσ H Q=>te σ H λx H1=>tl σ H1 λl H2=>th σ H2 λu H3=>r x l u H3 Q
theorem qT {r:V->Option Int->Option Int->Hp->VK->Prop}(hr:PZ X r)(he:PE X e te)(hl:PO X lo tl)(hu:PO X hi th):PE X (.Subscript e (.Slice lo hi none p2) pos) (RF r te tl th):=by
 intro pins s σ H Q I h;refine Subscript_ (bC (he pins s σ H _ I h) λv s1 ⟨x,H1,I1,r1,q1⟩=>?_);refine wpAny_Slice (bC (hl pins s1 σ H1 _ I1 q1) λvl s2 ⟨l,H2,I2,pl,q2⟩=>bC (hu pins s2 σ H2 _ I2 q2) λvu s3 ⟨u,H3,I3,pu,q3⟩=>?_);rw[evalPart_none];refine UY ?_;have I4:Inv X pins σ H3 {s3 with heap:=s3.heap.push {cls:=.type "slice",data:=.fields #[vl,vu,.none]}}:=I3.kept (t':=s3.toks) λb ob q=>UX _ q
 obtain⟨T,id,hT,ht,hg⟩:=hr pins {s3 with heap:=s3.heap.push {cls:=.type "slice",data:=.fields #[vl,vu,.none]}} σ H3 x v vl vu l u s3.heap.objs.size Q I4 r1 (Heap.IsSliceOf.new ..) pl pu q3
 show Vq (model X.prog X.w) X.A (subscriptTail e (.Slice lo hi none p2) v (.ref s3.heap.objs.size)) (EP X pins σ Q) X.xe {s3 with heap:=s3.heap.push {cls:=.type "slice",data:=.fields #[vl,vu,.none]}}
 exact tail_any (ops:=[.ref s3.heap.objs.size,v]) ht hT hg (by with_unfolding_all rfl)
def sF (xs:List V)(lo hi:Option Int):List V:=(xs.drop (HT.ly xs.length 0 lo)).take (HT.ly xs.length xs.length hi-HT.ly xs.length 0 lo)
theorem sD (xs:List V)(lo hi:Option Int):(sF xs lo hi).length<=xs.length:=by
 unfold sF;rw[Vl,XF];lia
end
def vG (n:Nat)(i:Int):Option Nat:=if 0<=i then (if i<n then some i.toNat else none) else if -(n:Int)<=i then some (i+n).toNat else none
def nB {α:Type}(xs:List α)(i:Int):Option α:=(vG xs.length i).bind λj=>xs[j]?
theorem vF {n:Nat}{i:Int}{j:Nat}(h:vG n i=some j):seqIndex? i n=some j/\j<n/\-(n:Int)<=i/\i<n:=by
 unfold vG at h
 by_cases h0:0<=i
 ·rw[if_pos h0]at h
  by_cases h1:i<n
  ·rw[if_pos h1]at h;have e:i.toNat=j:=VA h;exact⟨by rw[seqIndex_of h0 h1,e],by lia,by lia,h1⟩
  ·rw[if_neg h1]at h;cases h
 ·rw[if_neg h0]at h
  by_cases h1:-(n:Int)<=i
  ·rw[if_pos h1]at h;have e:(i+n).toNat=j:=VA h;exact⟨by rw[seqIndex_neg (by lia) h1,e],by lia,h1,by lia⟩
  ·rw[if_neg h1]at h;cases h
theorem v9 {α:Type}{xs:List α}{i:Int}{v:α}(h:nB xs i=some v):∃j,seqIndex? i xs.length=some j/\xs[j]?=some v/\j<xs.length/\-(xs.length:Int)<=i/\i<xs.length:=by
 unfold nB at h;cases e:vG xs.length i with
 |none=>rw[e]at h;cases h
 |some j =>
  rw[e]at h;obtain⟨h1,h2,h3,h4⟩:=vF e;exact⟨j,h1,h,h2,h3,h4⟩
def kG (b:Expr):Prop:=∀o i,subscripted b false o i=operate [o,i] (getItem o i)
def Fj (X:Cx)(r:R2):Prop :=
 ∀(value slice:Expr) (pins:List (Addr×Obj)) (s:UW) (σ:St) (H:Hp) (x y:V) (v u:UT) (Q:VK),Inv X pins σ H s->RelV x v->RelV y u->r x y H Q ->
  subscripted slice false v u=operate [v,u] (getItem v u)->Vq (model X.prog X.w) X.A (subscriptTail value slice v u) (EP X pins σ Q) X.xe s
def Rk (X:Cx)(id:String)(r:V->List V->Hp->VK->Prop):Prop :=
 ∀(pins:List (Addr×Obj)) (s:UW) (σ:St) (H:Hp) (x:V) (xs:List V) (v:UT) (us:List UT) (Q:VK),Inv X pins σ H s->RelV x v->Vals xs us->r x xs H Q ->
  Vq (model X.prog X.w) X.A (call (.builtin id) (v::us)) (EP X pins σ Q) X.xe s
section
variable {X:Cx}{a b:Expr}{ta tb:TE}{pos:Pos}
theorem jM {r:R2}(hr:Fj X r)(ha:PE X a ta)(hb:PE X b tb)(hs:kG b):PE X (.Subscript a b pos) (IW r ta tb):=by
 intro pins s σ H Q I h;exact Subscript_ (H_ ha hb I h λv u s2 x y H2 I2 rx ry q=>hr a b pins s2 σ H2 x y v u Q I2 rx ry q (hs _ _))
def Jl (K:PySem.W.Frag):R2:=λx y H Q=>∃p xs i v,x=.ref p/\y=.int i/\cP K H p xs/\nB xs i=some v/\Q v H
def Jk (K:PySem.W.Frag):R2:=λx y H Q=>∃p xs i v,x=.ref p/\y=.int i/\qj K H p xs/\nB xs i=some v/\Q v H
theorem d8:Fj X (Jl X.K):=by
 intro value slice pins s σ H x y v u Q I rx ry h hs;obtain⟨p,xs,i,z,rfl,rfl,hq,he,q⟩:=h;cases rx;obtain⟨t,rfl⟩:=ry;obtain⟨its,r,pl,hz⟩:=I.list hq;obtain⟨j,h1,h2,h3,h4,h5⟩:=v9 he;obtain⟨w,ew,BD⟩:=r.get h2;have hl:=r.length;have hn:=lY;have fin:EP X pins σ Q w s:=⟨z,H,I,BD,q⟩
 by_cases h0:0<=i
 ·have hj:i.toNat=j:=by
   rw[seqIndex_of h0 h5]at h1;exact VA h1
  exact item_listR pl.isList h0 (by lia) (by rw[hj];simpa using ew) fin hs
 ·have hj:(i+(its.toArray.size:Int)).toNat=j:=by
   rw[seqIndex_neg (by lia) h4]at h1
   rw[Vk,<- hl];exact VA h1
  exact subscriptTail_builtinR (x:=w) pl.isList.typeIs Y_.lookup
   (wpAny_getItem_list_neg (Q:=λr s'=>r=w/\EP X pins σ Q r s') pl.isList (by lia) (by rw[Vk] <;> lia) (by lia) (by rw[hj];simpa using ew) ⟨rfl,fin⟩) hs
theorem Ak:Fj X (Jk X.K):=by
 intro value slice pins s σ H x y v u Q I rx ry h hs;obtain⟨p,xs,i,z,rfl,rfl,hq,he,q⟩:=h;cases rx;obtain⟨t,rfl⟩:=ry;obtain⟨its,r,pl,hz⟩:=I.tuple hq;obtain⟨j,h1,h2,h3,h4,h5⟩:=v9 he;obtain⟨w,ew,BD⟩:=r.get h2;have hl:=r.length;have hn:=lY;have fin:EP X pins σ Q w s:=⟨z,H,I,BD,q⟩;exact subscriptTail_builtinR (x:=w) pl.typeIs slot_tuple_getitem.lookup
  (getItem_tuple (j:=j) (Q:=λr s'=>r=w/\EP X pins σ Q r s') pl (by lia) (by lia) (by rw[Vk,<- hl];exact h1) (by simpa using ew) ⟨rfl,fin⟩) hs
theorem uj (its:List UT)(n j:Nat)(u:UT):Xi (·.setIfInBounds j u) {cls:=.type "list",data:=.seq its.toArray n}={cls:=.type "list",data:=.seq (its.set j u).toArray n}:=by
 simp[Xi]
theorem Inv.lst {pins:List (Addr×Obj)}{σ:St}{H:Hp}{s:UW}{p:Addr}{xs:List V}(I:Inv X pins σ H s)(h:H p=some (.lst xs)):
  ∃(its:List UT) (n:Nat),Vals xs its/\s.heap.get? p=some {cls:=.type "list",data:=.seq its.toArray n}/\xs.length<=U_:=by
 obtain⟨z,its,n,r,e⟩:=I.br p _ h;exact⟨its,n,r,e,z⟩
theorem Inv.GD {pins:List (Addr×Obj)}{σ:St}{H:Hp}{s:UW}{p:Addr}{xs ys:List V}{its its':List UT}{n n':Nat}{f:Obj->Obj}(I:Inv X pins σ H s)(h:H p=some (.lst xs))
  (ho:s.heap.get? p=some {cls:=.type "list",data:=.seq its.toArray n}) (hf:f {cls:=.type "list",data:=.seq its.toArray n}={cls:=.type "list",data:=.seq its'.toArray n'}) (r:Vals ys its') (hz:ys.length<=U_) (t:Nat) :
  Inv X pins σ (upd H p (.lst ys)) {s with heap:=s.heap.update p f,toks:=t}:=by
 have e:(s.heap.update p f).get? p=some {cls:=.type "list",data:=.seq its'.toArray n'}:=by
  rw[YI f ho (by rw[hf] <;> rfl),hf]
 refine I.write (x:=p) (e:=p) (by rw[h];trivial) (.inl rfl) (λb u hb q=>(Heap.get?_update_other _ _ (V5 hb)).trans q) ⟨_,e⟩ ?_
 exact⟨hz,its',n',r,e⟩
def Jj:V->V->V->Hp->(Hp->Prop)->Prop:=λo i v H Q=>∃p xs k j,o=.ref p/\i=.int k/\H p=some (.lst xs)/\vG xs.length k=some j/\Q (upd H p (.lst (xs.set j v)))
theorem set_list:LF X Jj:=by
 intro pins s σ H o i v ov iv u Q I ro ri rv h;obtain⟨p,xs,k,j,rfl,rfl,hp,hj,q⟩:=h;cases ro;obtain⟨t,rfl⟩:=ri;obtain⟨its,n,r,ho,hz⟩:=I.lst hp;obtain⟨h1,h2,h3,h4⟩:=vF hj;have hl:=r.length;have hn:=lY;have I':Inv X pins σ (upd H p (.lst (xs.set j v))) {s with heap:=s.heap.update p (Xi (·.setIfInBounds j u))} :=
  I.GD hp ho (uj its n j u) (r.set rv j) (by rw[ZE];exact hz) s.toks
 by_cases h0:0<=k
 ·have hk:k.toNat=j:=by
   rw[seqIndex_of h0 h4]at h1;exact VA h1
  exact PySem.W.ki_setAt ho h0 (by lia) (by rw[Vk,<- hl];exact h4) (by rw[hk];exact⟨_,I',q⟩)
 ·have hk:(k+(its.toArray.size:Int)).toNat=j:=by
   rw[seqIndex_neg (by lia) h3]at h1
   rw[Vk,<- hl];exact VA h1
  exact PySem.W.ki_setBack ho (by lia) (by rw[Vk,<- hl];exact h3) (by lia) (by rw[hk];exact⟨_,I',q⟩)
theorem pq (lo hi:Option Int)(n:Nat):(W_ lo hi none n).1=((HT.ly n 0 lo:Nat):Int)/\(W_ lo hi none n).2.1=((HT.ly n n hi:Nat):Int)/\(W_ lo hi none n).2.2=1:=by
 refine⟨?_,?_,rfl⟩
 ·cases lo with
  |none=>simp[W_,HT.ly]
  |some i =>
   simp only[W_,HT.ly,Option.getD_none,show (1:Int)>0 by decide,if_true]
   by_cases h:i<0
   ·simp only[h,if_true] <;> lia
   ·simp only[h,if_false] <;> lia
 ·cases hi with
  |none=>simp[W_,HT.ly]
  |some i =>
   simp only[W_,HT.ly,Option.getD_none,show (1:Int)>0 by decide,if_true]
   by_cases h:i<0
   ·simp only[h,if_true] <;> lia
   ·simp only[h,if_false] <;> lia
theorem m8 (its:List UT)(lo hi:Option Int):slicePick its.toArray lo hi none=((its.drop (HT.ly its.length 0 lo)).take (HT.ly its.length its.length hi-HT.ly its.length 0 lo)).toArray:=by
 obtain⟨h1,h2,h3⟩:=pq lo hi its.toArray.size;unfold slicePick;rw[h1,h2,h3];simp only[sliceRange_one,pick_run,Vk] <;> rfl
def Nb (K:PySem.W.Frag):V->Option Int->Option Int->Hp->VK->Prop:=λx lo hi H Q=>∃a xs,x=.ref a/\cP K H a xs/\∀p,H p=none->Q (.ref p) (upd H p (.lst (sF xs lo hi)))
theorem u_:PZ X (Nb X.K):=by
 intro pins s σ H x v vl vu lo hi sl Q I rx hs pl pu h;obtain⟨a,xs,rfl,hx,q⟩:=h;cases rx;obtain⟨its,r,ht,hz⟩:=I.list hx;have hlen:=r.length;refine⟨"list",_,Y_.lookup,ht.isList.typeIs,?_⟩;refine wpAny_getItem_list_slice ht.isList hs pl pu .none (by simp) ?_ (by rw[Vk] <;> lia)
 rw[m8,<- hlen];refine⟨.ref s.heap.objs.size,_,I.laid (t':=s.toks) (o:=.lst (sF xs lo hi)) (λb ob q=>UX _ q) (UU _) ?_,rfl,q _ (I.br.fresh (UU _))⟩;exact⟨VN (sD xs lo hi) hz,_,0,(r.drop (HT.ly xs.length 0 lo)).take (HT.ly xs.length xs.length hi-HT.ly xs.length 0 lo),Vp _ rfl⟩
theorem iR:eY X (.builtin "len") (λxs H Q=>∃p ys,xs=[.ref p]/\(cP X.K H p ys\/qj X.K H p ys)/\Q (.int ys.length) H):=by
 intro pins s σ H xs us Q I r h;obtain⟨p,ys,rfl,hq,q⟩:=h;obtain⟨u,rfl,rx⟩:=vals1 r;cases rx;have hn:=lY;rcases hq with hq|hq
 ·obtain⟨its,r',pl,hz⟩:=I.list hq;have hlen:=r'.length;exact Calls.call_len_list pl.isList (by simp only[Vk] <;> lia) ⟨.int ys.length,H,I.tok _,⟨s.toks+1,by rw[Vk,hlen]⟩,q⟩
 ·obtain⟨its,r',pl,hz⟩:=I.tuple hq;have hlen:=r'.length;exact len_tuple pl (by simp only[Vk] <;> lia) ⟨.int ys.length,H,I.tok _,⟨s.toks+1,by rw[Vk,hlen]⟩,q⟩
theorem iQ:eY X (.type "list") (λxs H Q=>∃p ys,xs=[.ref p]/\(cP X.K H p ys\/qj X.K H p ys)/\∀l,H l=none->Q (.ref l) (upd H l (.lst ys))):=by
 intro pins s σ H xs us Q I r h;obtain⟨p,ys,rfl,hq,q⟩:=h;obtain⟨u,rfl,rx⟩:=vals1 r;cases rx;have fin:∀(its:List UT),Vals ys its->ys.length<=U_->∀(h':Heap) (c':Nat),(∀b o',s.heap.get? b=some o'->h'.get? b=some o') ->
   h'.get? s.heap.objs.size=some {cls:=.type "list",dict:=none,data:=.seq its.toArray c',slots:=#[]}->EP X pins σ Q (.ref s.heap.objs.size) {s with heap:=h'}:=λits r' hz h' c' kp e =>
  ⟨.ref s.heap.objs.size,_,I.laid (t':=s.toks) kp (UU _) (show bb X.prog X.w _ h' _ (.lst ys) from ⟨hz,its,c',r',e⟩),rfl,q _ (I.br.fresh (UU _))⟩
 rcases hq with hq|hq
 ·obtain⟨its,r',pl,hz⟩:=I.list hq;have hlen:=r'.length;obtain⟨o,ho,hc,n,hd⟩:=pl.isList;exact call_list_seq p (.inl rfl) ho hc hd (λh' c' kp e=>fin its r' hz h' c' kp e) (by simp only[Vk] <;> lia)
 ·obtain⟨its,r',pl,hz⟩:=I.tuple hq;have hlen:=r'.length;obtain⟨o,ho,hc,n,hd⟩:=pl;exact call_list_seq p (.inr rfl) ho hc hd (λh' c' kp e=>fin its r' hz h' c' kp e) (by simp only[Vk] <;> lia)
def LK (K:PySem.W.Frag)(T:String)(x:V)(H:Hp):Prop:=match x with
 |.str _=>T="str"
 |.int _=>T="int"
 |.ref p=>(T="list" /\ ∃xs,cP K H p xs)\/(T="tuple" /\ ∃o,K.lookup p=some o/\o.cls=.type "tuple" /\ o.dict=none) \/
   (T="dict" /\ ((∃kvs,H p=some (.dK kvs))\/∃kvs,H p=some (.dT kvs)))\/(T="set" /\ ∃S n,H p=some (.set S n))
 |_=>False
theorem yB {pins:List (Addr×Obj)}{σ:St}{H:Hp}{s:UW}{T:String}{x:V}{v:UT}(I:Inv X pins σ H s)(r:RelV x v)(ty:LK X.K T x H):
  s.TypeIs v T/\∀a,v=.ref a->∃ob,s.heap.get? a=some ob/\ob.dict=none:=by
 cases x with
 |str z =>
  obtain⟨t,rfl⟩:=r;cases (show T="str" from ty)
  exact⟨typeIs_str s z t,λ_ e=>nomatch e⟩
 |int i =>
  obtain⟨t,rfl⟩:=r;cases (show T="int" from ty)
  exact⟨typeIs_int s i t,λ_ e=>nomatch e⟩
 |ref p =>
  cases r;rcases ty with⟨rfl,xs,hq⟩|⟨rfl,o,hk,hc,hd⟩|⟨rfl,hk⟩|⟨rfl,S,n,hk⟩
  ·obtain⟨its,_,pl,_⟩:=I.list hq;refine⟨pl.isList.typeIs,λa e=>?_⟩;cases e;obtain⟨o,n,e,c,hd,_⟩:=pl;exact⟨o,e,hd⟩
  ·refine⟨⟨o,I.jr p o hk,hc⟩,λa e=>?_⟩;cases e;exact⟨o,I.jr _ o hk,hd⟩
  ·have z:∃o,s.heap.get? p=some o/\o.ExactDict:=by
    rcases hk with⟨kvs,hk⟩|⟨kvs,hk⟩
    ·obtain⟨_,_,_,_,o,_,_,e,ex,_⟩:=I.br p _ hk;exact⟨o,e,ex⟩
    ·obtain⟨_,_,_,_,o,_,_,e,ex,_⟩:=I.br p _ hk;exact⟨o,e,ex⟩
   obtain⟨o,e,ex⟩:=z;refine⟨⟨o,e,ex.1⟩,λa e2=>?_⟩;cases e2;exact⟨o,e,ex.2.1⟩
  ·obtain⟨o,_,_,_,e,ex,_⟩:=I.br p _ hk;refine⟨⟨o,e,ex.1⟩,λa e2=>?_⟩;cases e2;exact⟨o,e,ex.2.1⟩
 |_=>exact Xj ty
def MT (K:PySem.W.Frag)(T:String)(r:V->List V->Hp->VK->Prop)(to:TE):TE:=λσ H Q=>to σ H λx H1=>LK K T x H1/\r x [] H1 Q
def RH (K:PySem.W.Frag)(T:String)(r:V->List V->Hp->VK->Prop)(to:TE)(t:TA):TE:=λσ H Q=>to σ H λx H1=>LK K T x H1/\t σ H1 λxs H2=>r x xs H2 Q
variable {o e:Expr}{es:List Expr}{to:TE}{t:TA}{name:Str}{apos cpos:Pos}{T id:String}{r:V->List V->Hp->VK->Prop}
theorem Gf (pa:PlainAttrs T) (slot:Slot T name id) (Oa:typeOf (.builtin id)=pure (.type "method_descriptor")) (hm:Rk X id r) (ho:PE X o to)
  (eU:Xo o name X.env (eval o X.env)=eval o X.env:=by rfl) (eT:(apos.endLine==cpos.line)=true:=by rfl):PE X (.Call (.Attribute o name apos) [] [] cpos) (MT X.K T r to):=by
 intro pins s σ H Q I h;refine wpAny_Call_method0_late eU eT (bC (ho pins s σ H _ I h) λv s1 ⟨x,H1,I1,r1,ty,q1⟩=>?_);obtain⟨h1,h2⟩:=yB I1 r1 ty;exact⟨T,id,pa,slot,Oa,h1,h2,Calls.callWith_builtin rfl (PySem.evalArgs_none (hm pins s1 σ H1 x [] v [] Q I1 r1 .nil q1))⟩
theorem vq (pa:PlainAttrs T) (slot:Slot T name id) (Oa:typeOf (.builtin id)=pure (.type "method_descriptor")) (hm:Rk X id r) (ho:PE X o to) (ha:PA X (e::es) t)
  (eU:Xo o name X.env (eval o X.env)=eval o X.env:=by rfl)
  (pV:((W6 cpos (Ve (e::es) X.env)).all (λx=>!x.1)&&(ZL cpos (YM [] X.env)).all (λx=>x.1.isSome)
   && decide ((e::es).length+([]:List X9).length+(if ([]:List X9).isEmpty then 0 else 1)<30))=true:=by rfl)
  (eT:(apos.endLine==cpos.line)=true:=by rfl) (hs:Ve (e::es) X.env=(false,eval e X.env)::Ve es X.env:=by rfl) (fx:(W6 cpos (Ve es X.env)).any (·.1)=false:=by rfl) :
  PE X (.Call (.Attribute o name apos) (e::es) [] cpos) (RH X.K T r to t):=by
 intro pins s σ H Q I h;refine wpAny_Call_method_late eU pV eT rfl (bC (ho pins s σ H _ I h) λv s1 ⟨x,H1,I1,r1,ty,q1⟩=>?_);obtain⟨h1,h2⟩:=yB I1 r1 ty;refine⟨T,id,pa,slot,Oa,h1,h2,?_⟩;have hA:=ha cpos pins s1 σ H1 _ I1 q1;rw[hs]at hA ⊢
 refine Calls.callWith_builtin (by show (false || (W6 cpos (Ve es X.env)).any (·.1))=false;rw[fx] <;> rfl) (Calls.evalArgs_plain ?_)
 exact bC hA λus s2 ⟨vs,H2,I2,r2,q2⟩=>hm pins s2 σ H2 x vs v us Q I2 r1 r2 q2
end
def P1 (X:Cx)(id:String)(r:V->List V->Hp->VK->Prop):Prop :=
 ∀(pins:List (Addr×Obj)) (s:UW) (σ:St) (H:Hp) (x:V) (xs:List V) (v:UT) (us:List UT) (Q:VK),Inv X pins σ H s->RelV x v->Vals xs us->r x xs H Q ->
  Vq (model X.prog X.w) X.A (call (.builtin id) (v::us)) (EP X pins σ Q) X.xe s
theorem Vals.one:∀{x:V} {us:List UT},Vals [x] us->∃u,us=[u]/\RelV x u
 |_,_,.cons r .nil=>⟨_,rfl,r⟩
theorem Vals.zero:∀{us:List UT},Vals [] us->us=[]
 |_,.nil=>rfl
theorem Vals.dropLast {xs:List V}{us:List UT}(h:Vals xs us):Vals xs.dropLast us.dropLast:=by
 induction h with
 |nil=>exact .nil
 |cons r t ih =>
  cases t with
  |nil=>exact .nil
  |cons q t'=>exact .cons r ih
theorem Vals.rep {xs:List V}{us:List UT}(h:Vals xs us):∀k:Nat,Vals (VF k xs).flatten (VF k us).flatten
 |0=>.nil
 |k+1=>by
  rw[Wr,Wr,WV,WV];exact Vals.append h (Vals.rep h k)
theorem uM {α:Type}(l:List α):l.eraseIdx (l.length-1)=l.dropLast:=by
 induction l with
 |nil=>rfl
 |cons a r ih =>
  cases r with
  |nil=>rfl
  |cons b r =>
   have e:(a::b::r).length-1=((b::r).length-1)+1:=by
    have h1:(a::b::r).length=r.length+2:=rfl;have h2:(b::r).length=r.length+1:=rfl;lia
   rw[e,List.eraseIdx_cons_succ,ih]
   all_goals rfl
theorem foldl_rep (its:List UT):∀(k:Nat) (acc:List UT),
  List.foldl (λx1 x2=>x1++x2) acc.toArray (VF k its.toArray)=(acc++(VF k its).flatten).toArray
 |0,acc=>by simp
 |k+1,acc=>by
  have e:acc.toArray++its.toArray=(acc++its).toArray:=by simp
  have e2:(acc++its)++(VF k its).flatten=acc++(VF (k+1) its).flatten:=by
   rw[Wr,WV,V4]
  rw[<- e2,<- foldl_rep its k (acc++its),<- e,Wr,XM]
section
variable {X:Cx}{pins:List (Addr×Obj)}{σ:St}{H:Hp}{s:UW}{l:Addr}{xs ys:List V}
theorem Inv.GG {its its':List UT}{n:Nat}{f:Array UT->Array UT}{t':Nat}(I:Inv X pins σ H s)(hH:H l=some (.lst xs))
  (e:s.heap.get? l=some {cls:=.type "list",data:=.seq its.toArray n}) (hf:f its.toArray=its'.toArray) (hv:Vals ys its') (hz:ys.length<=U_) :
  Inv X pins σ (upd H l (.lst ys)) {s with heap:=s.heap.update l (Xi f),toks:=t'}:=by
 have q:=PySem.IsL.update e f;rw[hf]at q;refine I.write (x:=l) (e:=l) (by rw[hH];exact trivial) (.inl rfl) (λb' u hb hu=>(Heap.get?_update_other s.heap (Xi f) (V5 hb)).trans hu) ⟨_,q⟩ ?_
 exact⟨hz,its',_,hv,q⟩
theorem Inv.GK {its:List UT}{t':Nat}(I:Inv X pins σ H s)(hv:Vals ys its)(hz:ys.length<=U_):
  Inv X pins σ (upd H s.heap.objs.size (.lst ys)) {s with heap:=s.heap.push {cls:=.type "list",data:=.seq its.toArray},toks:=t'} :=
 I.laid (λ_ _ q=>UX _ q) (UU _) ⟨hz,its,0,hv,Vp _ rfl⟩
theorem Inv.fresh (I:Inv X pins σ H s):H s.heap.objs.size=none:=I.br.fresh (UU _)
theorem Inv.uk (I:Inv X pins σ H s)(hH:H l=some (.lst xs)):xs.length<=U_/\∃(its:List UT) (n:Nat),Vals xs its/\xs.length=its.length/\s.heap.get? l=some {cls:=.type "list",data:=.seq its.toArray n}:=by
 obtain⟨z,its,n,r,e⟩:=I.br l _ hH;exact⟨z,its,n,r,r.length,e⟩
theorem qZ {n:Nat}(h:n<=U_):Xs n=false:=by
 unfold Xs;exact decide_eq_false (by lia)
end
section
variable {X:Cx}
def vd:V->List V->Hp->VK->Prop:=λx vs H Q=>∃l xs y,x=.ref l/\vs=[y]/\H l=some (.lst xs)/\xs.length<U_/\Q .bK (upd H l (.lst (xs++[y])))
theorem gw:P1 X "list.append" vd:=by
 intro pins s σ H x vs v us Q I rx rv h;obtain⟨l,xs,y,rfl,rfl,hH,hz,q⟩:=h;cases rx;obtain⟨u,rfl,ru⟩:=rv.one;obtain⟨z,its,n,r,hl,e⟩:=I.uk hH;refine Y2 F.slot_list_append ⟨_,e,rfl⟩ F.entry_list_append (F.args_list_append_2 _ _) (PySem.list_append l its.toArray n u (by rw[Vk];lia)) ⟨e,?_⟩
 refine⟨.bK,_,I.GG (its':=its++[u]) hH e (by simp) (r.append (.cons ru .nil)) ?_,rfl,q⟩
 rw[Vu,WQ];lia
def Cn:V->List V->Hp->VK->Prop:=λx vs H Q=>∃l b xs zs,x=.ref l/\vs=[.ref b]/\H l=some (.lst xs)/\H b=some (.lst zs)/\xs.length+zs.length<=U_/\Q .bK (upd H l (.lst (xs++zs)))
theorem xg:P1 X "list.extend" Cn:=by
 intro pins s σ H x vs v us Q I rx rv h;obtain⟨l,b,xs,zs,rfl,rfl,hH,hB,hz,q⟩:=h;cases rx;obtain⟨u,rfl,ru⟩:=rv.one;cases ru;obtain⟨z,its,n,r,hl,e⟩:=I.uk hH;obtain⟨z2,ng,n2,r2,S7,e2⟩:=I.uk hB;have hsz:its.toArray.size+ng.toArray.size<=U_:=by rw[Vk,Vk];lia
 have AF:¬ (!its.toArray.isEmpty&&Xs (its.toArray.size+ng.toArray.size))=true:=by
  rw[qZ hsz,Bool.and_false];exact V_
 refine Y2 F.slot_list_extend ⟨_,e,rfl⟩ F.entry_list_extend (F.args_list_extend_2 _ _)
  (AutoSeq1.list_extend_list_list_0 l its.toArray n b ng.toArray n2 AF (by rw[Vk];lia) (by lia)) ⟨e,e2,?_⟩
 refine⟨.bK,_,I.GG (its':=its++ng) hH e (by simp) (r.append r2) ?_,rfl,q⟩
 rw[Vu];lia
def Nd:V->List V->Hp->VK->Prop:=λx vs H Q=>∃l xs y,x=.ref l/\vs=[]/\H l=some (.lst xs)/\xs[xs.length-1]?=some y/\Q y (upd H l (.lst xs.dropLast))
theorem GB:P1 X "list.pop" Nd:=by
 intro pins s σ H x vs v us Q I rx rv h;obtain⟨l,xs,y,rfl,rfl,hH,hy,q⟩:=h;cases rx;have As:=rv.zero;subst As;obtain⟨z,its,n,r,hl,e⟩:=I.uk hH;obtain⟨u,hu,ru⟩:=r.get hy;have N9:its.toArray[its.toArray.size-1]?=some u:=by
  show its.toArray[its.length-1]?=some u;rw[<- Vh,<- hl];exact hu
 refine Y2 F.slot_list_pop ⟨_,e,rfl⟩ F.entry_list_pop (F.args_list_pop_1 _) (MeetsSeq.list_pop_last l its.toArray n u N9 (by rw[Vk];lia)) ⟨e,?_⟩
 refine⟨y,_,I.GG (its':=its.dropLast) hH e ?_ r.dropLast ?_,ru,q⟩
 ·show its.toArray.eraseIdxIfInBounds (its.toArray.size-1)=its.dropLast.toArray;rw[Vk,List.eraseIdxIfInBounds_toArray,uM]
 ·rw[List.length_dropLast];lia
def Nh:R2:=λx y H Q=>∃l b xs zs,x=.ref l/\y=.ref b/\H l=some (.lst xs)/\H b=some (.lst zs)/\xs.length+zs.length<=U_/\∀p,H p=none->Q (.ref p) (upd H p (.lst (xs++zs)))
theorem zL:g9 X (W5 .Add) Nh:=by
 intro pins s σ H x y v u Q I rx ry h;obtain⟨l,b,xs,zs,rfl,rfl,hH,hB,hz,q⟩:=h;cases rx;cases ry;obtain⟨z,its,n,r,hl,e⟩:=I.uk hH;obtain⟨z2,ng,n2,r2,S7,e2⟩:=I.uk hB;refine PySem.P.add_list e e2 ?_ (by rw[Vk,Vk];lia)
 have ea:its.toArray++ng.toArray=(its++ng).toArray:=by simp
 rw[ea];exact⟨.ref _,_,I.GK (t':=s.toks) (r.append r2) (by rw[Vu];lia),rfl,q _ I.fresh⟩
def Nc:R2:=λx y H Q=>∃l k xs,x=.ref l/\y=.int k/\H l=some (.lst xs)/\-(2 ^ 63)<=k/\k<2 ^ 63/\xs.length*k.toNat<=U_ /\
 ∀p,H p=none->Q (.ref p) (upd H p (.lst (VF k.toNat xs).flatten))
theorem len_rep {α:Type}(xs:List α)(k:Nat):(VF k xs).flatten.length=k*xs.length:=by
 induction k with
 |zero=>simp
 |succ k ih=>rw[Wr,WV,Vu,ih,Nat.succ_mul,Nat.add_comm]
theorem Gk:g9 X (W5 .Mult) Nc:=by
 intro pins s σ H x y v u Q I rx ry h;obtain⟨l,k,xs,rfl,rfl,hH,h1,h2,hz,q⟩:=h;cases rx;obtain⟨t,rfl⟩:=ry;obtain⟨z,its,n,r,hl,e⟩:=I.uk hH;have hlen:its.toArray.size*k.toNat<=U_:=by rw[Vk,<- hl];exact hz
 have Pa:¬ its.toArray.size*k.toNat>(2 ^ 63-1) / 8:=by
  have:(U_:Nat)<=(2 ^ 63-1) / 8:=by decide
  lia
 have O5:¬ (!Builtin.List.listFitsIndex k)=true:=by
  rw[fitsIndex_both h1 h2];exact V_
 have AF:¬ Xs (its.toArray.size*k.toNat)=true:=by
  rw[qZ hlen];exact V_
 have HA:List.foldl (λx1 x2=>x1++x2) #[] (VF (if its.toArray.isEmpty=true then 0 else k.toNat) its.toArray)=(VF k.toNat its).flatten.toArray:=by
  have f0:∀m:Nat,List.foldl (λx1 x2=>x1++x2) #[] (VF m its.toArray)=(VF m its).flatten.toArray:=λm=>by
   have:=foldl_rep its m [];rw[List.nil_append]at this;exact this
  rw[f0];cases its with
  |nil=>simp
  |cons a r'=>rw[if_neg (by simp)]
 refine wpAny_binaryOp_repeat_ref (T:="list") (U:="int") (by decide) ⟨_,e,rfl⟩ (λs'=>typeIs_int s' k t) noFill_list_mul F.fills_int_mul F.slot_int_rmul repeat_list F.slot_int_index.lookup
  (Y2 F.slot_int_rmul (typeIs_int s k t) F.entry_int_rmul (F.args_int_rmul_2 _ _) (int___rmul___int_list k t l its.toArray n)
   ⟨e,rfl,⟨_,e,rfl⟩,Y2 F.slot_list_mul ⟨_,e,rfl⟩ F.entry_list_mul (F.args_list_mul_2 _ _) (AutoListH.list___mul___list_int_3 l its.toArray n k t O5 Pa AF) ⟨e,?_⟩⟩)
 rw[HA];exact⟨.ref _,_,I.GK (t':=s.toks) (r.rep k.toNat) (by rw[len_rep,Nat.mul_comm];exact hz),rfl,q _ I.fresh⟩
end
section
end
section
end
end L2
namespace Rr
open PySem PySem.W PySem.Calls PyProof.Rows
theorem j5 {P:Params}{h:Heap}:∀(ns:List Int) (vs:List UT),WellAll P h vs (ns.map WData.int)->Yv vs ns:=by
 intro ns
 induction ns with
 |nil =>
  intro vs w;rw[List.map_nil]at w;cases w;exact .nil
 |cons n ns ih =>
  intro vs w;rw[Vo]at w;cases w with
  |cons a b =>
   cases a;exact .cons _ _ (ih _ b)
theorem wJ {l:OpenLaw}{n:Nat}(hn:l.most=some n){P:Params}{h:Heap}{args:List WData}{vals:List UT}
  (Dx:l.row.toRowW.claim.pre args=true) (N_:WellAll P h vals args) :
  ∃a vs ns,vals=[Value.ref a]/\args=[WData.list (ns.map WData.int)]/\h.get? a=some {cls:=.type "list",data:=.seq vs.toArray}/\Yv vs ns/\ns.length<=n:=by
 have SH:WShape.hasAll [] args [.list .int]=true:=(pre_splitW Dx).1;have hc:l.pre.holds [] {args:=args}=true:=(pre_splitW Dx).2;obtain⟨d,r,rfl,h1,h2⟩:=hasAllW_cons SH;obtain rfl:=hasAllW_nil h2;obtain⟨xs,rfl,h3⟩:=hasW_list h1;obtain⟨ns,rfl⟩:=items_int h3;have hlen:ns.length<=n:=by
  unfold OpenLaw.pre at hc;have h4:(WTm.not (.lt (.lit (.int (n:Int))) (.len (.arg 0)))).holds [] {args:=[.list (ns.map .int)]}=true:=by
   have h4:=(holds_andW hc).1;rw[hn]at h4;exact h4
  have h5:=condW_of h4 (w_not (w_lt w_lit (w_len_list (w_arg rfl))));rw[US]at h5;refine Nat.le_of_not_lt λq=>?_;have q':(n:Int)<((ns.length:Nat):Int):=by lia
  first
   | (rw[decide_eq_true q']at h5;exact absurd h5 (by decide))
   | (simp at h5;lia)
 cases N_ with
 |cons w1 w2 =>
  cases w2;cases w1 with
  |list ho nj=>exact⟨_,_,ns,rfl,rfl,ho,j5 ns _ nj,hlen⟩
theorem wW (l:OpenLaw)(args:List WData):l.row.toRowW.claim.post args (.bool true) args=true :=
 postW_of (r:=l.row.toRowW) (X:=(true==true))
  (show WShape.has [] (.bool true) .bool=true by first|rfl|decide|simp[WShape.has,WShape.arms,WShape.armsAll])
  (show (WTm.eq .res (.lit (.bool true))).value [] {args:=args,res:=some (.bool true),after:=args}=some (.bool (true==true)) from w_eq_bool (w_res rfl) w_lit) rfl
theorem sO {l:OpenLaw}{n:Nat}{q:U0}{loose:List Str}{XP:(Str->Option UT)->Heap->Prop}{YP:Vf->Heap->Prop}{d:DefRec}
  (hn:l.most=some n) (Md:d.params.defaults=[])
  (call:∀(w:Vf) (s₀ s₁:UW) (mg mb:Str->Option UT) (fa:Addr) (o:Obj) (pm cd doc:UT) (a:Addr) (vs:List UT) (ns:List Int),
   Ground q loose [] XP w s₀ mg mb s₁.heap->YP w s₁.heap ->
   s₁.heap.get? fa=some o->o.data=.func (docDef d.name d.params d.body d.scope pm cd doc)->s₁.heap.CodeRec cd d.name->mg d.name=some (.ref fa) ->
   s₁.heap.get? a=some {cls:=.type "list",data:=.seq vs.toArray}->Yv vs ns->ns.length<=n->s₁.gens=#[] ->
   XR (model l.prog w) Za (.call (.ref fa) ⟨[.ref a],[]⟩) (λr s'=>r=.ok (.ret (.bool true))/\OldK s₁.heap s'.heap/\s'.os=s₁.os/\Yw s'.gens) s₁) :
  WalkO q loose XP YP l.row.toRowW d [] (λf vs=>PySem.call f vs):=by
 intro w s₀ s₁ mg mb G Y fa o pm cd doc dV kV ho hd gG hD DA hg args vals as Dx S6 Uw N_ L_;obtain rfl:dV=.none:=Dflts.none hD Md;obtain rfl:kV=.none:=Dflts.noKw hD;obtain⟨a,vs,ns,rfl,rfl,Hv,hints,hlen⟩:=wJ hn Dx N_;refine enter_call (Xl (call w s₀ s₁ mg mb fa o pm cd doc a vs ns G Y ho (fd_plain hd) gG DA Hv hints hlen hg) λr s' hq=>?_);obtain⟨rfl,h2,h3,h4⟩:=hq;exact⟨.inl ⟨.bool true,.bool true,[],rfl,λ_=>rfl,.bool true,wW l _,λ_=>⟨List.Pairwise.nil,λ_ hm=>(nomatch hm)⟩⟩,h2,h3,h4⟩
section
end
end Rr
namespace L2
open PySem PySem.Spec PyProof.Rows
theorem nJ:∀{vs:List UT} {ns:List Int},Yv vs ns->Vals (ns.map V.int) vs
 |_,_,.nil=>.nil
 |_,_,.cons n t h=>.cons ⟨t,rfl⟩ (nJ h)
def Ig (H:Hp):Prop:=∀b,H b=none\/∃o xs,H b=some (.tf o (.lst xs))
theorem Ab {P:U0}{w:Vf}{K:PySem.W.Frag}{mg mb:Str->Option UT}{CX:BB}{k:Nat}{fa a:Addr}{fd:VL}{x:Str}{sp:Sp}{s₁:UW}{vs:List UT}{ns:List Int}
  (KX:K.In s₁.heap) (Ir:s₁.heap.Ns WT mg) (hb:s₁.heap.Ns builtinsNs mb) (Tn:∀x:Str,x≠"__name__" -> mb x=VM x) (OT:s₁.heap.NoLimit) (hg:s₁.gens=#[])
  (ha:s₁.heap.get? a=some {cls:=.type "list",data:=.seq vs.toArray}) (hi:Yv vs ns) (hl:ns.length<=U_) (hr:dh k Za)
  (F:∀base:Heap,K.In base->base.Ns WT mg->aN P w K mg base CX k fa fd [x] sp) (K9:∀(s:UW) (u:UT),BindsTo s fd ⟨[u],[]⟩ [(x,u)])
  (l8:∀H:Hp,Ig H->cP K H a (ns.map V.int)->sp [.ref a] H (λv _=>v=.bl true) λ_ _ _=>False)
  (Pk:∀H e s',CX [] H s₁ (λ_ _ _=>False) e s'->False) :
  XR (model P w) Za (.call (.ref fa) ⟨[.ref a],[]⟩) (λr s'=>r=.ok (.ret (.bool true))/\OldK s₁.heap s'.heap/\s'.os=s₁.os/\Yw s'.gens) s₁:=by
 have rv:=nJ hi;have NU:=hi.length;have core:∀H:Hp,Ig H->cP K H a (ns.map V.int)->hG P w H s₁.heap->(∀b,H b≠none->b=a)->(H a≠none->K.lookup a=none) ->
   XR (model P w) Za (.call (.ref fa) ⟨[.ref a],[]⟩) (λr s'=>r=.ok (.ret (.bool true))/\OldK s₁.heap s'.heap/\s'.os=s₁.os/\Yw s'.gens) s₁:=by
  intro H hO hS br hA hK;have v8:∀{b:Addr} {o:Obj},s₁.heap.get? b=some o->H b=none->(pU s₁.heap H).get? b=some o:=λe n=>AJ e n;have JI:∀{b:Addr} {o:Obj} {es:Array DictEntry} {ep:Nat},s₁.heap.get? b=some o->o.data=.dict es ep->H b=none:=λ{b o es ep} e d=>by
   cases q:H b with
   |none=>rfl
   |some u =>
    have e':b=a:=hA b (by rw[q];simp)
    subst e';rw[ha]at e;cases e;have d':Data.seq vs.toArray _=Data.dict es ep:=d;cases d'
  have LX:∀{b:Addr} {m:Str->Option UT},s₁.heap.Ns b m->(pU s₁.heap H).Ns b m:=λ{b m} ⟨o,es,ep,e,d,r⟩=>⟨o,es,ep,v8 e (JI e d),d,r⟩;have Q9:K.In (pU s₁.heap H):=λb o e=>v8 (KX b o e) (by
   cases q:H b with
   |none=>rfl
   |some u =>
    have e':b=a:=hA b (by rw[q];simp)
    subst e';rw[hK (by rw[q];simp)]at e;cases e)
  have hM:Mod K mg (pU s₁.heap H):=⟨Q9,LX Ir,⟨mb,LX hb,Tn⟩,let ⟨mc,h1,h2⟩:=OT;⟨mc,LX h1,h2⟩⟩
  have e0:Er P w K mg (pU s₁.heap H) Za [] s₁ H:=⟨rfl,hM,λb o e=>CY e,Nat.le_of_eq (xC _ _),trivial,λb hb=>absurd (show b∈([]:List Addr) from hb) (by simp),br,.of_eq hg⟩
  refine Xl ((F _ Q9 (LX Ir)).run Za [] s₁ H ⟨[.ref a],[]⟩ [.ref a] [.ref a] _ _ hr e0 (K9 s₁ (.ref a)) (.cons rfl .nil) (l8 H hO hS)) λr s' h=>?_;cases r with
  |error e=>exact(Pk H e s' h).elim
  |ok fl =>
   cases fl with
   |next=>exact Xj h
   |brk=>exact Xj h
   |cont=>exact Xj h
   |ret u =>
    obtain⟨v,H',os,bare,un,OL,r',q⟩:=h;have q':v=.bl true:=q;subst q';obtain rfl:u=Value.bool true:=r';refine⟨rfl,OldK.of_keep λb o e=>?_,os,bare⟩;cases q:H b with
    |none=>exact un.keep b o e q (by intro z;exact absurd (show b∈([]:List Addr) from z) (by simp)) (by simp)
    |some u =>
     rcases hO b with z|⟨ob,xs,z⟩
     ·rw[q]at z;cases z
     ·have z2:=un.mh b ob _ z;obtain⟨e1,_⟩:=br b _ z;obtain⟨e2,_⟩:=OL b _ z2;rw[e]at e1;cases e1;exact e2
 cases hk:K.lookup a with
 |some o =>
  have e:=KX a o hk;rw[ha]at e;cases e;refine core (λ_=>none) (λ_=>.inl rfl) (.inr ⟨_,vs.toArray,_,hk,rfl,rfl,rfl,by rw[Vk,NU];exact hl,by simpa using rv⟩) (λb u z=>by have z':(none:Option HO)=some u:=z;cases z') (λb z=>absurd rfl z) λz=>absurd rfl z
 |none =>
  refine core (λb=>if b=a then some (.tf {cls:=.type "list",data:=.seq vs.toArray} (.lst (ns.map V.int))) else none) (λb=>?_) (.inl (.inr ⟨{cls:=.type "list",data:=.seq vs.toArray},if_pos rfl⟩)) (λb u z=>?_) (λb z=>?_) λ_=>hk
  ·by_cases hb:b=a
   ·exact .inr ⟨_,_,if_pos hb⟩
   ·exact .inl (if_neg hb)
  ·by_cases hb:b=a
   ·have z':=(if_pos hb).symm.trans z;cases z';subst hb;exact⟨ha,by rw[US];exact hl,vs,_,rv,ha⟩
   ·have z':=(if_neg hb).symm.trans z;cases z'
  ·by_cases hb:b=a
   ·exact hb
   ·exact absurd (if_neg hb) z
theorem BX {l:PySem.W.OpenLaw}{n k:Nat}{q:U0}{loose:List Str}{XP:(Str->Option UT)->Heap->Prop}{YP:Vf->Heap->Prop}{d:DefRec}{K:Params->PySem.W.Frag}{CX:Vf->BB}{sp:Vf->Sp}{x:Str}
  (hn:l.most=some n) (Iu:n<=U_) (Md:d.params.defaults=[]) (hr:dh k Za)
  (hY:∀(w:Vf) (h:Heap),YP w h->(K w.params).In h)
  (F:∀(w:Vf) (mg:Str->Option UT) (fa:Addr) (h:Heap),(K w.params).In h->h.Ns WT mg->mg d.name=some (.ref fa) ->
   ∃fd:VL,(∀(s:UW) (u:UT),BindsTo s fd ⟨[u],[]⟩ [(x,u)]) /\
    ∀base:Heap,(K w.params).In base->base.Ns WT mg->aN l.prog w (K w.params) mg base (CX w) k fa fd [x] (sp w))
  (l8:∀(w:Vf) (H:Hp) (a:Addr) (ns:List Int),ns.length<=n->Ig H->cP (K w.params) H a (ns.map V.int)->sp w [.ref a] H (λv _=>v=.bl true) λ_ _ _=>False)
  (Pk:∀(w:Vf) (H:Hp) (s:UW) (e:UT) (s':UW),CX w [] H s (λ_ _ _=>False) e s'->False) :
  PySem.W.WalkO q loose XP YP l.row.toRowW d [] (λf vs=>PySem.call f vs):=by
 refine Rr.sO hn Md λw s₀ s₁ mg mb fa o pm cd doc a vs ns G Y ho hd gG DA Hv hints hlen hg=>?_;have KX:=hY w _ Y;obtain⟨fd,hb,hF⟩:=F w mg fa _ KX G.T.g DA;exact Ab KX G.T.g G.T.b G.T.builtins G.T.nolimit hg Hv hints (VN hlen Iu) hr hF hb (λH hO hS=>l8 w H a ns hlen hO hS) λH e s'=>Pk w H s₁ e s'
def kA (s:Stmt):Arguments:=match s with
 |.FunctionDef _ a _ _ _ _ _ _ _ _=>a
 |_=>{posonlyargs:=[],args:=[],vararg:=none,kwonlyargs:=[],kw_defaults:=[],kwarg:=none,defaults:=[]}
def eC (s:Stmt):List Stmt:=match s with
 |.FunctionDef _ _ b _ _ _ _ _ _ _=>b
 |_=>[]
def aA (s:Stmt):W3:=match s with
 |.FunctionDef _ _ _ _ _ _ sc _ _ _=>sc
 |_=>{kind:=.function,names:=[],isGenerator:=false,isCoroutine:=false}
abbrev b6:BB:=λ_ _ _ _ _ _=>False
abbrev E0:XK:=λ_ _ _=>False
theorem EE {X:Cx}:Passes b6 X E0:=λ_ _ _ _ _ _ _ h=>h.elim
structure BO (K:PySem.W.Frag)(x qual:Str)(st:Stmt)(f:Addr)(fd:VL):Prop where
 ex:∃(oc:UT) (od:Option Addr) (kV doc pm:UT) (an:Option Addr) (cX ct:UT) (Gj:Array (Option UT)),
  fd=PySem.W.fnOf x qual (kA st) (eC st) (aA st) .none kV doc pm an cX ct/\K.lookup f=some ⟨oc,od,.func fd,Gj⟩/\PySem.W.codeIn K cX qual=true
 kp:PySem.W.keepIn K (.ref f)=true
section
variable {P:U0}{w:Vf}{K:PySem.W.Frag}{mg:Str->Option UT}{base:Heap}
theorem BO.ok {x qual:Str}{st:Stmt}{f:Addr}{fd:VL}{N ps:List Str}{k:Nat}{sp:Sp}(F:BO K x qual st f fd)(S:aS N ps (aA st))(len:∀vs H Q E,sp vs H Q E->vs.length=ps.length)
  (md:∀(cX:UT) (A:VW) (outer:List Env) (s:UW) (H:Hp) (vs:List V) (Q:VK) (E:XK),dh k (A.deeper (Yp qual (aA st) s.heap.objs.size f cX))->sp vs H Q E ->
   ∃t,qk (nz b6 P w K mg base N qual (aA st) f cX A outer s H E).EH (eC st) t/\t {nx:=λ_ H'=>Q .bK H',rt:=Q} (start N vs) H):aN P w K mg base b6 (k+1) f fd ps sp:=by
 obtain⟨oc,od,kV,doc,pm,an,cX,ct,Gj,rfl,lk,gG⟩:=F.ex;refine Li lk gG S len λA outer s H vs Q E hr l8=>?_;obtain⟨t,h,q⟩:=md cX A outer s H vs Q E hr l8;exact⟨t,h.EH,q⟩
theorem HI {x qual:Str}{st:Stmt}{f:Addr}{oc:UT}{od an:Option Addr}{Gj:Array (Option UT)}{kV doc pm cX ct:UT}(l:K.lookup f=some ⟨oc,od,.func (PySem.W.fnOf x qual (kA st) (eC st) (aA st) .none kV doc pm an cX ct),Gj⟩)
  (c:PySem.W.codeIn K cX qual=true) (k:PySem.W.keepIn K (.ref f)=true):BO K x qual st f (PySem.W.fnOf x qual (kA st) (eC st) (aA st) .none kV doc pm an cX ct):=⟨⟨oc,od,kV,doc,pm,an,cX,ct,Gj,rfl,l,c⟩,k⟩
end
section
variable {X:Cx}
theorem pv (i:Nat){x:Str}{pos:Pos}(hN:X.N[i]?=some x:=by rfl)(hv:sQ X.env.scope x:=by first|exact Or.inl rfl|exact Or.inr (Or.inl rfl)|exact Or.inr (Or.inr rfl))(hd:(x==("__debug__" : Str))=false:=by decide)
  (gG:(x==("__classdict__" : Str))=false:=by decide):PE X (.Name x pos) (IS i):=cT hN hv hd gG
end
def ay (H H':Hp):Prop:=∀b o,H b=some o->H' b=some o
theorem ay.refl (H:Hp):ay H H:=λ_ _ h=>h
theorem ay.trans {H H1 H2:Hp}(a:ay H H1)(b:ay H1 H2):ay H H2:=λc o h=>b c o (a c o h)
theorem ay.free {H H':Hp}(e:ay H H'){l:Addr}(h:H' l=Option.none):H l=Option.none:=by
 cases q:H l with
 |none=>rfl
 |some o =>
  rw[e l o q]at h;cases h
theorem ay.seq {K:PySem.W.Frag}{H H':Hp}{a:Addr}{xs:List V}(e:ay H H')(h:cP K H a xs):cP K H' a xs:=by
 rcases h with (h|⟨o,h⟩)|h
 ·exact .inl (.inl (e _ _ h))
 ·exact .inl (.inr ⟨o,e _ _ h⟩)
 ·exact .inr h
section
variable {X:Cx}{a b c:Expr}{ta tb:TE}{pos:Pos}
def sY (i j:Int):Prop:=0<j/\j.natAbs.log2<9000
theorem sY.of {i j:Int}(h0:0<j)(h:j<2 ^ 200):sY i j:=by
 refine⟨h0,?_⟩;have h2:j.natAbs<2 ^ 200:=by lia
 have:=(Nat.log2_lt (n:=j.natAbs) (k:=200) (by lia)).mpr h2
 lia
theorem qW:g9 X (W5 .FloorDiv) (rI sY λi j=>.int (i / j)):=LW λi j _ _ _ _ _ hc q=>by
 have h1:(0:Int)<j:=hc.1;exact floordiv_int (by lia) (by rw[Int.fdiv_eq_ediv_of_nonneg i (by lia)];exact q) (.inl (PyProof.noPylong_of_log2 hc.2))
def Ii (X:Cx)(ops:List XZ)(rs:List Expr)(t:V->TE):Prop :=
 ∀(pos:Pos) (pins:List (Addr×Obj)) (s:UW) (σ:St) (H:Hp) (x:V) (v:UT) (Q:VK),Inv X pins σ H s->RelV x v->t x σ H Q ->
  Vq (model X.prog X.w) X.A (compareChain pos v ops (evalEach rs X.env)) (EP X pins σ Q) X.xe s
def sW (X:Cx)(ops:List XZ)(rs:List Expr)(t:V->TT):Prop :=
 ∀(pos:Pos) (pins:List (Addr×Obj)) (s:UW) (σ:St) (H:Hp) (x:V) (v:UT) (Q:Bool->Hp->Prop),Inv X pins σ H s->RelV x v->t x σ H Q ->
  Vq (model X.prog X.w) X.A (testChain pos v ops (evalEach rs X.env)) (TP X pins σ Q) X.xe s
variable {op Gn:XZ}{ops:List XZ}{rs:List Expr}{r:R2}{t:V->TE}{tt:V->TT}
theorem HV (ho:g9 X (V7 op) r)(hb:PE X b tb):Ii X [op] [b] (λx σ H Q=>tb σ H λy H2=>r x y H2 Q):=by
 intro pos pins s σ H x v Q I rx h;exact chain_last (bC (hb pins s σ H _ I h) λu s1 uE=>by obtain⟨y,H1,I1,r1,q1⟩:=uE;exact ho pins s1 σ H1 x y v u Q I1 rx r1 q1)
theorem Ed (ho:g9 X (V7 op) r)(hb:PE X b tb)(hc:Ii X (Gn::ops) (c::rs) t):
  Ii X (op::Gn::ops) (b::c::rs) (λx σ H Q=>tb σ H λy H2=>r x y H2 λz H3=>∃k,z=.bl k/\(if k=true then t y σ H3 Q else Q (.bl false) H3)):=by
 intro pos pins s σ H x v Q I rx h;refine chain_link (bC (hb pins s σ H _ I h) λu s1 ⟨y,H1,I1,r1,q1⟩=>bC (ho pins s1 σ H1 x y v u _ I1 rx r1 q1) λd s3 ⟨z,H3,I3,r3,k,e,q3⟩=>?_);subst e;cases r3;refine Wx ?_;cases k with
 |false=>exact ite_ff ⟨.bl false,H3,I3,rfl,q3⟩
 |true=>exact ite_tt (hc pos pins s3 σ H3 y u Q I3 r1 q3)
theorem Ec (ho:g9 X (V7 op) r)(hb:PE X b tb):sW X [op] [b] (λx σ H Q=>tb σ H λy H2=>r x y H2 λz H3=>∃k,z=.bl k/\Q k H3):=by
 intro pos pins s σ H x v Q I rx h;refine test_last (bC (hb pins s σ H _ I h) λu s1 ⟨y,H1,I1,r1,q1⟩=>bC (ho pins s1 σ H1 x y v u _ I1 rx r1 q1) λd s3 ⟨z,H3,I3,r3,k,e,q3⟩=>?_);subst e;cases r3;exact Wx ⟨H3,I3,q3⟩
theorem Bh (ho:g9 X (V7 op) r)(hb:PE X b tb)(hc:sW X (Gn::ops) (c::rs) tt):
  sW X (op::Gn::ops) (b::c::rs) (λx σ H Q=>tb σ H λy H2=>r x y H2 λz H3=>∃k,z=.bl k/\(if k=true then tt y σ H3 Q else Q false H3)):=by
 intro pos pins s σ H x v Q I rx h;refine test_link (bC (hb pins s σ H _ I h) λu s1 ⟨y,H1,I1,r1,q1⟩=>bC (ho pins s1 σ H1 x y v u _ I1 rx r1 q1) λd s3 ⟨z,H3,I3,r3,k,e,q3⟩=>?_);subst e;cases r3;refine Wx ?_;cases k with
 |false=>exact ite_ff ⟨H3,I3,q3⟩
 |true=>exact ite_tt (hc pos pins s3 σ H3 y u Q I3 r1 q3)
theorem wR {lI lH:XZ}(ha:PE X a ta)(hc:sW X (lI::lH::ops) (b::c::rs) tt)(hm:lastMarks (lI::lH::ops) (b::c::rs)=false:=by with_unfolding_all rfl):
  PT X (.Compare a (lI::lH::ops) (b::c::rs) pos) (λσ H Q=>ta σ H λx H1=>tt x σ H1 Q):=by
 intro pins s σ H Q I h;exact isTrue_chain (bC (ha pins s σ H _ I h) λv s1 Hd=>by obtain⟨x,H1,I1,r1,q1⟩:=Hd;exact hc pos pins s1 σ H1 x v Q I1 r1 q1) hm
theorem Bk:eY X (.builtin "isinstance") (λxs H Q=>∃x n t k,xs=[x,.ty n]/\gZ X.K H x t/\PySem.W.kitOne X.K t (.type n)=some k/\Q (.bl k) H):=by
 intro pins s σ H xs us Q I r h;obtain⟨x,n,t,k,rfl,ty,e,q⟩:=h;obtain⟨u,w',rfl,r1,r2⟩:=vals2 r;cases r2;exact xt I r1 ty e λtk=>⟨.bl k,H,I.tok _,rfl,q⟩
end
theorem qd:VM "max" = some (.builtin "max"):=by decide +kernel
theorem uU:VM "min" = some (.builtin "min"):=by decide +kernel
theorem uV:VM "int" = some (.type "int"):=by decide +kernel
theorem Ef:VM "bool" = some (.type "bool"):=by decide +kernel
theorem sL:VM "tuple" = some (.type "tuple"):=by decide +kernel
theorem iS:VM "list" = some (.type "list"):=by decide +kernel
theorem oR:VM "sorted" = some (.builtin "sorted"):=by decide +kernel
theorem Bp:VM "isinstance" = some (.builtin "isinstance"):=by decide +kernel
theorem Bo:VM "len" = some (.builtin "len"):=by decide +kernel
theorem J1 {c A B:Prop}[Decidable c](hc:c)(h:A):if decide c=true then A else B:=by
 rw[if_pos (decide_eq_true hc)];exact h
theorem J2 {c A B:Prop}[Decidable c](hc:¬ c)(h:B):if decide c=true then A else B:=by
 rw[if_neg (by simp[hc])]
 exact h
theorem N2 {c A B:Prop}[Decidable c](h1:c->A)(h2:¬ c->B):if decide c=true then A else B:=by
 by_cases h:c
 ·exact J1 h (h1 h)
 ·exact J2 h (h2 h)
def Fm (h:Addr)(H H':Hp):Prop:=∀b o,H b=some o->b≠h->H' b=some o
theorem Fm.upd {h:Addr}{H:Hp}{o:HO}:Fm h H (upd H h o):=λb u e n=>by rw[ar n];exact e
theorem ay.new {H:Hp}{p:Addr}{o:HO}(n:H p=none):ay H (L2.upd H p o):=λb u e=>by rw[ar (cD e n)];exact e
def Hand (H:Hp)(h:Addr):Prop:=∃x y:Int,H h=some (.lst [.int x,.int y])/\0<=x/\0<=y/\y<2147483647
def yS:Sp:=λvs H Q _=>∃c:Int,vs=[.int c]/\∀p H',H p=none->Hand H' p->ay H H'->Q (.ref p) H'
def yQ:Sp:=λvs H Q _=>∃(h:Addr) (n:Int),vs=[.ref h,.int n]/\Hand H h/\0<n/\n<2 ^ 200 /\
 ∀(r:Int) (H':Hp),0<=r->r<n->Hand H' h->Fm h H H'->Q (.int r) H'
structure Uj (mg:Str->Option UT):Prop where
 max:mg "max" = none
 min:mg "min" = none
 int:mg "int" = none
section
end
theorem zw:BC 10 18:=⟨by decide,by decide,by decide⟩
section
theorem kn {a:Int}{b:Int}(h:0<b):0<=a % b/\a % b<b:=⟨Int.emod_nonneg a (by lia),Int.emod_lt_of_pos a h⟩
end
def aB (X:Cx)(scope:W3)(N':List Str)(cl:List (Str×Addr))(C:Addr)(s:UW)(H:Hp)(ex:List Addr):Cx :=
 {X with N:=N',s₀:=s,H₀:=H,env:=compEnvC scope cl C X.env,outer:=X.stack,stack:=X.stack,ex:=ex,fn:=λ_=>false,pn:=[],xe:=λ_ _=>False}
theorem gX {env:Env}:∀(names:List (Str×W8)) (cs:List (Str×Addr)),(∀x,(x,VC)∈names->∃c,env.cells.lookup x=some c) ->
  (∀x c,cs.lookup x=some c->env.cells.lookup x=some c) ->
  ∃cl,(forIn names cs λ(p:Str×W8) (cs:List (Str×Addr))=>do
   if p.2==.free then do
    let a <- cellOf env p.1
    pure (YE ((p.1,a)::cs))
   else pure (YE cs):Sem (List (Str×Addr)))=pure cl /\
   (∀x,((x,VC)∈names\/(∃c,cs.lookup x=some c))->∃c,cl.lookup x=some c)/\∀x c,cl.lookup x=some c->env.cells.lookup x=some c
 |[],cs,_,Me=>⟨cs,rfl,λx h=>h.elim (λz=>nomatch z) id,Me⟩
 | (n,k)::names,cs,hf,Me=>by
  by_cases hk:k=.free
  ·subst hk;obtain⟨c,hc⟩:=hf n (Vs ..);obtain⟨cl,e,h1,h2⟩:=gX names ((n,c)::cs) (λx hx=>hf x (Vi _ hx)) (λx c' hx=>by
    rw[VS]at hx;cases q:x==n with
    |true=>rw[q]at hx;cases hx;rw[eq_of_beq q];exact hc
    |false=>rw[q]at hx;exact Me x c' hx)
   refine⟨cl,?_,λx hx=>h1 x ?_,h2⟩
   ·rw[YB];have ec:cellOf env n=pure c:=by unfold cellOf;rw[hc]
    simp only[beq_self_eq_true,if_true,ec];exact e
   ·rcases hx with hx|⟨c',hx⟩
    ·rcases U1.mp hx with z|z
     ·cases z;exact .inr ⟨c,by simp⟩
     ·exact .inl z
    ·right
     rw[VS];cases q:x==n with
     |true=>exact⟨c,rfl⟩
     |false=>exact⟨c',hx⟩
  ·obtain⟨cl,e,h1,h2⟩:=gX names cs (λx hx=>hf x (Vi _ hx)) Me;refine⟨cl,?_,λx hx=>h1 x ?_,h2⟩
   ·rw[YB];have hb:(k==VC)=false:=by simpa using hk
    simp only[hb,X0,if_false];exact e
   ·rcases hx with hx|hx
    ·rcases U1.mp hx with z|z
     ·cases z;exact absurd rfl hk
     ·exact .inl z
    ·exact .inr hx
theorem eI {env:Env}{scope:W3}(h:∀x,(x,VC)∈scope.names->∃c,env.cells.lookup x=some c):
  ∃cl,closureFor scope env=pure cl/\(∀x,(x,VC)∈scope.names->∃c,cl.lookup x=some c)/\∀x c,cl.lookup x=some c->env.cells.lookup x=some c:=by
 obtain⟨cl,e,h1,h2⟩:=gX scope.names [] h (λx c z=>by simp at z)
 refine⟨cl,?_,λx hx=>h1 x (.inl hx),h2⟩;unfold closureFor;refine Eq.trans ?_ (congrArg (· >>= pure) e);rfl
structure Links (X:Cx)(scope:W3)(N':List Str)(lk:List (Option Nat)):Prop where
 kind:scope.kind=.function
 uh:∀x∈scope.names,x.2≠.cell
 names:∀x∈scope.names,x.2=.local->scope.names.lookup x.1=some .local
 free:∀x,(x,VC)∈scope.names->X.env.kindOf x=some .cell\/X.env.kindOf x=some .free
 len:lk.length=N'.length
 link:∀(i j:Nat),lk[i]?=some (some j)->∃x,N'[i]?=some x/\X.N[j]?=some x/\(x,VC)∈scope.names/\scope.names.lookup x=some .free
def fY (outer:List (Str×W8))(N:List Str)(scope:W3)(N':List Str)(lk:List (Option Nat)):Bool :=
 (scope.kind==.function)&&scope.names.all (λx=>x.2 != .cell&&(x.2 != .local || scope.names.lookup x.1==some .local)&&(x.2 != .free || outer.lookup x.1==some .cell || outer.lookup x.1==some .free)) &&
 lk.length==N'.length&&(UZ lk.length).all λi=>match lk[i]? with
  |some (some j)=>match N'[i]? with
   |some x=>N[j]?==some x&&scope.names.contains (x,.free)&&scope.names.lookup x==some .free
   |none=>false
  |_=>true
theorem Links.of {X:Cx}{scope:W3}{N':List Str}{lk:List (Option Nat)}(h:fY X.env.scope.names X.N scope N' lk=true):Links X scope N' lk:=by
 simp only[fY,Vz]at h;obtain⟨⟨⟨h1,h2⟩,h3⟩,h4⟩:=h;rw[WK]at h2 h4;refine⟨by simpa using h1,λx hx=>?_,λx hx hl=>?_,λx hx=>?_,by simpa using h3,λi j aH=>?_⟩
 ·have:=h2 x hx;simp only[Vz]at this;simpa using this.1.1
 ·have:=h2 x hx;simp only[Vz]at this;have q:=this.1.2;rw[hl]at q;simpa using q
 ·have:=h2 _ hx;simp only[Vz]at this;have q:=this.2;simp only[ZF]at q;rcases q with (q|q)|q
  ·simp at q
  ·exact .inl (show X.env.scope.names.lookup x=some .cell by simpa using q)
  ·exact .inr (show X.env.scope.names.lookup x=some .free by simpa using q)
 ·have hi:i<lk.length:=(U3.mp aH).1;have q:=h4 i (V8.mpr hi);rw[aH]at q;simp only at q;cases e:N'[i]? with
  |none=>rw[e]at q;simp at q
  |some x =>
   rw[e]at q;simp only[Vz]at q;obtain⟨⟨q1,q2⟩,q3⟩:=q;exact⟨x,rfl,by simpa using q1,by simpa using q2,by simpa using q3⟩
def cN (lk:List (Option Nat))(σ:St):St:=lk.map λl=>match l with|some j=>(match σ[j]? with|some v=>v|none=>none)|none=>none
theorem cq {env:Env}:∀{names:List (Str×W8)} {x:Str},names.lookup x=some .free ->
  (names.map λ(n,k)=>if (k==VC&&env.scope.kind==.function&&env.kindOf n==some .cell) then (n,VX) else (n,k)).lookup x=some .cell \/
  (names.map λ(n,k)=>if (k==VC&&env.scope.kind==.function&&env.kindOf n==some .cell) then (n,VX) else (n,k)).lookup x=some .free
 |[],_,h=>by simp at h
 | (n,k)::r,x,h=>by
  have ih:=@cq env r x;show List.lookup x ((if (k==VC&&env.scope.kind==.function&&env.kindOf n==some .cell)=true then (n,VX) else (n,k))::_)=_ \/
   List.lookup x ((if (k==VC&&env.scope.kind==.function&&env.kindOf n==some .cell)=true then (n,VX) else (n,k))::_)=_
  cases hx:x==n with
  |true =>
   simp only[VS,hx]at h;cases h
   by_cases hc:(VC==VC&&env.scope.kind==.function&&env.kindOf n==some .cell)=true
   ·rw[if_pos hc];left;simp[VS,hx]
   ·rw[if_neg hc];right;simp[VS,hx]
  |false =>
   simp only[VS,hx]at h
   by_cases hc:(k==VC&&env.scope.kind==.function&&env.kindOf n==some .cell)=true
   ·rw[if_pos hc];simp only[VS,hx];exact ih h
   ·rw[if_neg hc];simp only[VS,hx];exact ih h
theorem dg {env:Env}:∀{names:List (Str×W8)} {x:Str} {k:W8},(k=.cell\/k=.free)->(∀y∈names,y.2≠.cell) ->
  (names.map λ(n,k)=>if (k==VC&&env.scope.kind==.function&&env.kindOf n==some .cell) then (n,VX) else (n,k)).lookup x=some k->(x,VC)∈names
 |[],_,_,_,_,h=>by simp at h
 | (n,k')::r,x,k,hk,hc,h=>by
  have ih:=@dg env r x k hk (λy hy=>hc y (Vi _ hy));have h':List.lookup x ((if (k'==VC&&env.scope.kind==.function&&env.kindOf n==some .cell)=true then (n,VX) else (n,k'))::(r.map λ(n,k)=>if (k==VC&&env.scope.kind==.function&&env.kindOf n==some .cell) then (n,VX) else (n,k)))=some k:=h
  have Iw:=hc (n,k') (Vs ..)
  by_cases DE:(k'==VC&&env.scope.kind==.function&&env.kindOf n==some .cell)=true
  ·rw[if_pos DE]at h';simp only[Vz,beq_iff_eq]at DE;cases hx:x==n with
   |true=>rw[eq_of_beq hx,DE.1.1];exact Vs ..
   |false=>rw[VS,hx]at h';exact Vi _ (ih h')
  ·rw[if_neg DE]at h';cases hx:x==n with
   |true =>
    rw[VS,hx]at h';have e:k'=k:=by simpa using h'
    subst e;rcases hk with hk|hk
    ·exact absurd hk Iw
    ·rw[eq_of_beq hx,hk];exact Vs ..
   |false=>rw[VS,hx]at h';exact Vi _ (ih h')
section
variable {X:Cx}{pins:List (Addr×Obj)}{σ:St}{H:Hp}{s:UW}{scope:W3}{N':List Str}{lk:List (Option Nat)}{cl:List (Str×Addr)}{ex:List Addr}
theorem Ao {h':Heap}{t':Nat}(I:Inv X pins σ H s)(L:Links X scope N' lk)(hex:∀b∈ex,dU X pins H b)(Hw:∀b∈ex,∃o,s.heap.get? b=some o)
  (iX:∀x,(x,VC)∈scope.names->∃c,cl.lookup x=some c) (mR:∀x c,cl.lookup x=some c->X.env.cells.lookup x=some c)
  (hn:h'.Ns s.heap.objs.size (λ_=>none)) (hk:∀b o,s.heap.get? b=some o->h'.get? b=some o) :
  Inv (aB X scope N' cl s.heap.objs.size s H ex) [] (cN lk σ) H {s with heap:=h',toks:=t'}:=by
 obtain⟨m,hm,hl⟩:=I.loc;have Ml:∀b∈ex,b≠s.heap.objs.size:=λb hb=>by
  obtain⟨o,e⟩:=Hw b hb;exact Vw (Vb e)
 refine⟨⟨I.ok.mod,L.kind,I.ok.glob,I.ok.blt,UU _,λx y c h1 h2=>I.ok.inj x y c (mR _ _ h1) (mR _ _ h2),λx hx=>?_,λx c z=>(nomatch z),I.ok.hd,I.ok.frames,.inl rfl,
  λb hb=>⟨Ml b hb,λx c e=>(hex b hb).2.2.2.2.1 x c (mR _ _ e)⟩,I.bs,VN I.ok.BM I.sz,λb o e z=>?_,λb hb z=>?_,I.stack,I.pj⟩,
  rfl,I.bare,Un.kept hk,⟨_,hn,λi x v h1 h2 h3=>?_⟩,λx c e=>?_,I.br.fresh (UU _),λx c e=>I.f6 x c (mR _ _ e),λp hp=>absurd (show p∈([]:List (Addr×Obj)) from hp) (by simp),I.br.kept hk,?_⟩
 ·have yf:(relabel scope X.env).names.lookup x=some .cell\/(relabel scope X.env).names.lookup x=some .free:=hx;rcases yf with q|q
  ·exact iX x (dg (.inl rfl) L.uh q)
  ·exact iX x (dg (.inr rfl) L.uh q)
 ·obtain⟨f0,f1,f2,f3,_⟩:=hex b z;rcases f3 with q|q
  ·exact I.ok.xc b o e q
  ·have h1:=Vb e;have h2:=I.ok.BM;exact absurd (Vy h1 (VN h2 q)) (Xq _)
 ·obtain⟨f0,f1,f2,f3,_⟩:=hex b hb;rcases U1.mp (I.ph b z)with q|q
  ·exact f1 q
  ·exact f2 q
 ·have hi:∃j,lk[i]?=some (some j)/\σ[j]?=some (some v):=by
   have mT:(cN lk σ)[i]?=some (some v):=h2;unfold cN at mT;rw[U8]at mT;cases e:lk[i]? with
   |none=>rw[e]at mT;cases mT
   |some l =>
    cases l with
    |none=>rw[e]at mT;cases mT
    |some j =>
     rw[e]at mT;cases e2:σ[j]? with
     |none=>simp[e2]at mT
     |some w' =>
      simp only[XI,e2,X6]at mT;subst mT;exact⟨j,rfl,e2⟩
  obtain⟨j,hj,hσ⟩:=hi;obtain⟨y,e1,e2,e3,e4⟩:=L.link i j hj;have Px:x=y:=by
   have yg:N'[i]?=some x:=h1;rw[e1]at yg;exact(VA yg).symm
  subst Px;have G_:sQ X.env.scope x:=by
   rcases L.free x e3 with q|q
   ·exact .inr (.inl q)
   ·exact .inr (.inr q)
  obtain⟨u,ru,lu⟩:=hl j x v e2 hσ G_;refine⟨u,ru,.inr ⟨?_,?_⟩⟩
  ·exact cq e4
  ·rcases lu with⟨k,_⟩|⟨_,c,hc,z⟩
   ·rcases L.free x e3 with q|q <;> (rw[k]at q;cases q)
   ·obtain⟨c',oC⟩:=iX x e3;have:=mR x c' oC;rw[hc]at this;cases this;obtain⟨o,ho,hd⟩:=z;exact⟨c,oC,o,hk _ _ ho,hd⟩
 ·obtain⟨v,o,ho,hd⟩:=I.cell x c (mR _ _ e);exact⟨v,o,hk _ _ ho,hd⟩
 ·show (cN lk σ).length=N'.length;unfold cN;rw[US,L.len]
theorem Aq {s':UW}{σ':St}{H':Hp}{pl:List (Addr×Obj)}{C:Addr}{h'':Heap}(I:Inv X pins σ H s)(hex:∀b∈ex,dU X pins H b)
  (J:Inv (aB X scope N' cl s.heap.objs.size s H ex) pl σ' H' s') (hs:Wq s.heap.objs.size s'.heap h''):Inv X pins σ H' {s' with heap:=h''}:=by
 have hC:H' s.heap.objs.size=none:=J.free;have u:=J.base;refine I.Fe (ch:=ex) (s':={s' with heap:=h''}) J.os ?_ ?_ J.bare (λb hb=>?_)
 ·have kk:∀b o,b≠s.heap.objs.size->s'.heap.get? b=some o->h''.get? b=some o:=λb o hb e=>(hs.2 b hb).trans e;have ne:∀b o,s.heap.get? b=some o->b≠s.heap.objs.size:=λb o e=>Vw (Vb e);refine⟨λb o e n hb hx=>kk b _ (ne b o e) (u.keep b o e n hb hx),λb o e n hb hx=>?_,u.free,λb o e hx=>?_,u.mZ,u.mh,u.m6⟩
  ·obtain⟨sl,q⟩:=u.slot b o e n hb hx;exact⟨sl,kk b _ (ne b o e) q⟩
  ·obtain⟨o',q⟩:=u.there b o e hx;exact⟨o',kk b _ (ne b o e) q⟩
 ·intro b o e;have hb:b≠s.heap.objs.size:=λz=>by rw[z]at e;rw[hC]at e;cases e
  refine(J.br b o e).pk (λc v hc q=>(hs.2 c ?_).trans q) (λ_ q=>q) λ_ _ q=>q;rcases hc with z|z
  ·rw[z];exact hb
  ·intro z';rw[z']at z;rw[hC]at z;cases z
 ·obtain⟨f0,f1,f2,f3,f4,f5⟩:=hex b hb;exact⟨f3,f1,f4,f5⟩
end
def kR (g:WZ)(after:Sem Fin->Sem Fin)(e:Expr)(d:Nat)(it acc:UT)(env:Env):Sem Fin:=do
 X5 g.iter.pos
 match <- XU it with
 |none=>pure (.done .next)
 |some v =>
  Yy g.target it v
  assign g.target env v
  let mut ok:=true
  for c in g.ifs do
   if ok then ok <- Zm c env (eval c env)
  if ok then after (again (.compLoop e d it acc env)) else again (.compLoop e d it acc env)
def pM (e:Expr)(d:Nat)(g':WZ)(acc:UT)(env:Env)(k:Sem Fin):Sem Fin:=do
 let x <- eval g'.iter env
 X5 g'.iter.pos
 let x <- VG g'.iter env x
 let _ <- runOwn (.compStart e (d+1) (<- holding [x] (Yo x)) acc env) env
 k
def kY (t:Sem Unit)(k:Sem Fin):Sem Fin:=do
 t
 k
def vR (elt:Expr)(acc:UT)(env:Env):Sem Unit:=do let _ <- call (.builtin "list.append") [acc,<- eval elt env]
def A4 (k v:Expr)(acc:UT)(env:Env):Sem Unit:=do
    let kv <- eval k env
    let vv <- holding [kv] (eval v env)
    match acc with
    |.ref d=>do
     X5 {k.pos with endLine:=v.pos.endLine,endCol:=v.pos.endCol}
     holding [kv,vv] (dictSet d kv vv)
    |_=>unsupported "internal:dictcomp"
structure fG (e:Expr)(d:Nat)(g:WZ)(acc:UT)(env:Env)(after:Sem Fin->Sem Fin):Prop where
 turn:∀it,compTurn e d it acc env=kR g after e d it acc env
 cl:(clausesOf e)[d]?=some g
 sync:g.is_async=0
 quiet:∀it,(Yg e d it acc env).quiet=true
 under:∀(A:VW) it,A.under (Yg e d it acc env)=A
 Fy:∀(A:VW) it,A.under (ZR e d it acc env)=A
 Gv:∀it,(Yg e d it acc env).isFrame=false
 JH:∀it,(ZR e d it acc env).isFrame=false
section
variable {elt tg yE bP pR k v:Expr}{ifs nh:List Expr}{sc:W3}{pos:Pos}{acc:UT}{env:Env}
theorem vZ:fG (.ListComp elt [⟨tg,bP,ifs,0⟩] sc pos) 0 ⟨tg,bP,ifs,0⟩ acc env (kY (vR elt acc env)) :=
 ⟨λ_=>rfl,rfl,rfl,λ_=>rfl,λ_ _=>rfl,λ_ _=>rfl,λ_=>rfl,λ_=>rfl⟩
theorem Lw:fG (.DictComp k v [⟨tg,bP,ifs,0⟩] sc pos) 0 ⟨tg,bP,ifs,0⟩ acc env (kY (A4 k v acc env)) :=
 ⟨λ_=>rfl,rfl,rfl,λ_=>rfl,λ_ _=>rfl,λ_ _=>rfl,λ_=>rfl,λ_=>rfl⟩
theorem HX:fG (.ListComp elt [⟨tg,bP,ifs,0⟩,⟨yE,pR,nh,0⟩] sc pos) 0 ⟨tg,bP,ifs,0⟩ acc env (pM (.ListComp elt [⟨tg,bP,ifs,0⟩,⟨yE,pR,nh,0⟩] sc pos) 0 ⟨yE,pR,nh,0⟩ acc env) :=
 ⟨λ_=>rfl,rfl,rfl,λ_=>rfl,λ_ _=>rfl,λ_ _=>rfl,λ_=>rfl,λ_=>rfl⟩
theorem HW:fG (.ListComp elt [⟨tg,bP,ifs,0⟩,⟨yE,pR,nh,0⟩] sc pos) 1 ⟨yE,pR,nh,0⟩ acc env (kY (vR elt acc env)) :=
 ⟨λ_=>rfl,rfl,rfl,λ_=>rfl,λ_ _=>rfl,λ_ _=>rfl,λ_=>rfl,λ_=>rfl⟩
end
def IT:TT:=λ_ H Q=>Q true H
def qf (X:Cx)(ifs:List Expr)(t:TT):Prop :=
 ∀(pins:List (Addr×Obj)) (s:UW) (σ:St) (H:Hp) (Q:Bool->Hp->Prop),Inv X pins σ H s->t σ H Q ->
  Vq (model X.prog X.w) X.A (forIn ifs true λc r=>if r=true then do let ok <- Zm c X.env (eval c X.env);pure (YE ok) else pure (YE r)) (TP X pins σ Q) X.xe s
theorem Cr {X:Cx}:qf X [] IT:=λ_ _ _ H _ I h=>wpAny_tests_nil ⟨H,I,h⟩
theorem Cq {X:Cx}{c:Expr}{t:TT}(h:PT X c t):qf X [c] t:=λpins s σ H Q I q=>wpAny_tests_one (h pins s σ H Q I q)
abbrev jC:=(St->Hp->Prop)->St->Hp->Prop
def mQ (X:Cx)(after:Sem Fin->Sem Fin)(t:jC):Prop :=
 ∀(pins:List (Addr×Obj)) (s:UW) (σ:St) (H:Hp) (N:St->Hp->Prop) (k:Sem Fin) (Q:Fin->UW->Prop) (E:UT->UW->Prop),Inv X pins σ H s->t N σ H ->
  (∀σ' H' s',Inv X pins σ' H' s'->N σ' H'->Vq (model X.prog X.w) X.A k Q E s')->Vq (model X.prog X.w) X.A (after k) Q E s
theorem d6 {X:Cx}(hx:X.xe=λ_ _=>False){α:Type}{t:Sem α}{Q:α->UW->Prop}{E:UT->UW->Prop}{s:UW}(h:Vq (model X.prog X.w) X.A t Q X.xe s):Vq (model X.prog X.w) X.A t Q E s :=
 XT h (λ_ _ q=>q) λe s q=>by rw[hx]at q;exact q.elim
def eM (J:It)(g:TG)(tt:TT)(ta:jC)(End:St->Hp->Prop):St->Hp->Prop:=λσ H =>
 ∃W:Nat->Nat->St->Hp->Prop,(∃m,W 0 m σ H)/\∀i m σ H,W i m σ H->(J.stop i H/\End σ H) \/
  (J.go i H/\∃N:St->Hp->Prop,(∀σ' H',N σ' H'->∃m',m'<m/\W (i+1) m' σ' H')/\∀x H',J.IL i H x H'->g x σ H' λσ2 H2=>tt σ2 H2 λb H3=>if b=true then ta N σ2 H3 else N σ2 H3)
section
variable {X:Cx}{e:Expr}{d:Nat}{g:WZ}{acc:UT}{after:Sem Fin->Sem Fin}{tg:TG}{tt:TT}{ta:jC}
theorem xN (hx:X.xe=λ_ _=>False)(hc:X.calm=true)(F:fG e d g acc X.env after)(hg:PG X g.target tg)(ht:qf X g.ifs tt)(ha:mQ X after ta)
  {it:Addr} {fp:List Addr} {tn:Nat->Heap->Prop} {J:It} (T:Turn X.prog X.w X.K g.target J fp it tn) {pins:List (Addr×Obj)} {σ:St} {H:Hp} {s:UW} {End:St->Hp->Prop}
  (I:Inv X pins σ H s) (st:tn 0 s.heap) (hf:∀b∈fp,dU X pins H b) (h:eM J tg tt ta End σ H) :
  XR (model X.prog X.w) X.A (.compLoop e d (.ref it) acc X.env) (λr s'=>r=.ok .next/\∃σ' H',Inv X pins σ' H' s'/\End σ' H') s:=by
 obtain⟨W,⟨m0,w0⟩,turn⟩:=h;have tN:∀{H':Hp},(∀b∈fp,H' b=none)->∀b∈fp,dU X pins H' b:=λhn b hb=>⟨hn b hb,(hf b hb).2⟩;refine codeAny_loop (F.quiet _) (λn s'=>∃i σ' H',Inv X pins σ' H' s'/\tn i s'.heap/\(∀b∈fp,H' b=none)/\W i n σ' H') (λn s3 hI=>?_) m0 ⟨0,σ,H,I,st,λb hb=>(hf b hb).1,w0⟩;obtain⟨i,σ3,H3,I3,k6,Lh,w3⟩:=hI;rw[F.under];have HE:(model X.prog X.w).den (.compLoop e d (.ref it) acc X.env)=(kR g after e d (.ref it) acc X.env).onRaise (λx=>do noteFrame x X.env;theTreesLotGoes x):=by
  rw[<- F.turn];show (if (Yg e d (.ref it) acc X.env).isFrame then _ else _)=_
  rw[F.Gv];rfl
 rw[HE];refine wpAny_noted ?_;unfold kR;rcases turn i n σ3 H3 w3 with⟨stop,qn⟩|⟨go,N,hN,step⟩
 ·refine UR (WW (UR (bC (T.done X rfl rfl rfl hc i pins s3 σ3 H3 _ I3 (tN Lh) k6 stop) λr s4 ⟨hr,I4⟩=>?_)));subst hr;exact UY ⟨rfl,σ3,H3,I4,qn⟩
 ·refine UR (WW (UR (bC (T.item X rfl rfl rfl hc i pins s3 σ3 H3 _ I3 (tN Lh) k6 go) λr s4 ⟨u,hr,h4⟩=>?_)));subst hr;refine UR (bC h4 λ_ s5 ⟨x,H5,I5,r5,y5,FL,Pq⟩=>?_);have P2:=I5.pinned (tN Pq) (T.obj _ _ FL);refine UR (bC (d6 hx (hg _ s5 σ3 H5 x u _ P2 r5 (step x H5 y5))) λ_ s6 ⟨σ6,H6,I6,q6⟩=>?_);refine UR (bC (d6 hx (ht _ s6 σ6 H6 _ I6 q6)) λok s7 ⟨H7,I7,q7⟩=>?_);have Bu:∀{σ8:St} {H8:Hp} {s8:UW},Inv X (pins++lG fp s5.heap) σ8 H8 s8->N σ8 H8->∃m,m<n/\∃i σ' H',Inv X pins σ' H' s8/\tn i s8.heap/\(∀b∈fp,H' b=none)/\W i m σ' H':=λ{σ8 H8 s8} I8 n8=>by
   obtain⟨m',hm,w8⟩:=hN σ8 H8 n8;refine⟨m',hm,i+1,σ8,H8,I8.ib,T.keep _ _ _ FL λb hb o e=>(I8.pin (b,o) (VE _ (VE _ (fu hb e)))).1,λb hb=>?_,w8⟩;obtain⟨o,e,d⟩:=T.obj _ _ FL b hb;exact(I8.pin (b,o) (VE _ (VE _ (fu hb e)))).2.1
  cases ok with
  |false=>exact UY ⟨rfl,Bu I7 (by simpa using q7)⟩
  |true =>
   exact ha _ s7 σ6 H7 N _ _ _ I7 (by simpa using q7) λσ8 H8 s8 I8 n8=>UY ⟨rfl,Bu I8 n8⟩
theorem gW (hx:X.xe=λ_ _=>False)(hc:X.calm=true)(F:fG e d g acc X.env after)(hg:PG X g.target tg)(ht:qf X g.ifs tt)(ha:mQ X after ta)
  {it:Addr} {fp:List Addr} {tn:Nat->Heap->Prop} {J:It} (T:Turn X.prog X.w X.K g.target J fp it tn) {pins:List (Addr×Obj)} {σ:St} {H:Hp} {s:UW} {End:St->Hp->Prop}
  (I:Inv X pins σ H s) (st:tn 0 s.heap) (hf:∀b∈fp,dU X pins H b) (h:eM J tg tt ta End σ H) :
  XR (model X.prog X.w) X.A (.compStart e d (.ref it) acc X.env) (λr s'=>r=.ok .next/\∃σ' H',Inv X pins σ' H' s'/\End σ' H') s:=by
 have lp:=xN hx hc F hg ht ha T I st hf h;refine ZC ?_;rw[F.Fy];have HE:(model X.prog X.w).den (.compStart e d (.ref it) acc X.env)=(compStart e d (.ref it) acc X.env).onRaise (λx=>do noteFrame x X.env;X5 theWindowsPlace):=by
  show (if (ZR e d (.ref it) acc X.env).isFrame then _ else _)=_
  rw[F.JH];rfl
 rw[HE];refine wpAny_notedAt ?_;unfold compStart;rw[F.cl];simp only[Option.elim_some,F.sync];show Vq _ _ (ask >>= _) _ _ s;refine UR (Yi (wpAny_ite ?_))
 split
 ·first
   |exact UR (UY (UY (And.intro (F.quiet _) lp)))
   |exact UY (And.intro (F.quiet _) lp)
 ·have h2:∀(E:UT->UW->Prop),Vq (model X.prog X.w) X.A (Yo (.ref it)) (λL5 s'=>(Yg e d L5 acc X.env).quiet=true/\XR (model X.prog X.w) X.A (.compLoop e d L5 acc X.env) (λr s'=>r=.ok .next/\∃σ' H',Inv X pins σ' H' s'/\End σ' H') s') E s :=
   λE=>T.self X.A 0 s _ E st ⟨F.quiet _,lp⟩
  first
   |exact UR (Xa (UR (WW (UR (XT (h2 _) (λL5 s' h'=>UY h') λ_ _ x=>x)))))
   | (refine UR (Xa ?_);exact UR (WW (UR (XT (h2 _) (λL5 s' h'=>UY h') λ_ _ x=>x))))
theorem CD {g':WZ}{wi:TI}(hx:X.xe=λ_ _=>False)(hc:X.calm=true)(F:fG e (d+1) g' acc X.env after)(hi:PI X g'.target g'.iter wi)(hg:PG X g'.target tg)(ht:qf X g'.ifs tt)(ha:mQ X after ta)
  (hs:∀x,VG g'.iter X.env x=pure x:=by intro _;rfl) :
  mQ X (pM e d g' acc X.env) (λN σ H=>wi σ H λJ H1=>eM J tg tt ta N σ H1):=by
 intro pins s σ H N k Q E I h hk;unfold pM;refine UR (bC (d6 hx (hi pins s σ H _ I h)) λx s1 h1=>?_);refine UR (WW (UR (Zu (hs x) ?_)));refine UR (Wk (bC (d6 hx h1) λye s2 h2=>?_));obtain⟨it,fp,tn,J,H2,e1,I2,T,eK,f2,hl⟩:=h2;subst e1;refine UR (wpAny_runOwn (Xl (gW hx hc F hg ht ha T I2 eK f2 hl) λr s' hr=>?_));obtain⟨rfl,σ',H',I',q⟩:=hr;exact hk σ' H' s' I' q
theorem fT {elt:Expr}{te:TE}{a:Addr}(hx:X.xe=λ_ _=>False)(he:PE X elt te):
  mQ X (kY (vR elt (.ref a) X.env)) (λN σ H=>te σ H λv H1=>∃xs,H1 a=some (.lst xs)/\xs.length<U_/\N σ (upd H1 a (.lst (xs++[v])))):=by
 intro pins s σ H N k Q E I h hk;unfold kY vR;refine UR (UR (bC (d6 hx (he pins s σ H _ I h)) λu s1 ⟨v,H1,I1,r1,xs,hH,hz,q⟩=>?_));refine UR (bC (d6 hx <| gw (X:=X) pins s1 σ H1 (.ref a) [v] (.ref a) [u] (λw' H'=>N σ H') I1 rfl (.cons r1 .nil) ⟨a,xs,v,rfl,rfl,hH,hz,q⟩) λ_ s2 ⟨_,H2,I2,_,q2⟩=>?_)
 exact UY (hk σ H2 s2 I2 q2)
end
section
variable {X:Cx}{e:Expr}
structure g_ (X:Cx)(cn:Sem UT)(o:HO):Prop where
 ok:∀(pins:List (Addr×Obj)) (s:UW) (σ:St) (H:Hp) (Q:UT->UW->Prop) (E:UT->UW->Prop),Inv X pins σ H s ->
  (∀a s',s.heap.objs.size<=a->H a=none->(∀b o,s.heap.get? b=some o->s'.heap.get? b=some o)->Inv X pins σ (upd H a o) s'->Q (.ref a) s')->Vq (model X.prog X.w) X.A cn Q E s
theorem fV:g_ X (newList []) (.lst []) :=
 ⟨λpins s σ H Q E I h=>WS (h _ _ (UU _) I.fresh (λb o e=>UX _ e) (I.GK (its:=[]) (t':=s.toks) .nil (U7 _)))⟩
theorem Inv.sameBut {pins:List (Addr×Obj)}{σ:St}{H:Hp}{s:UW}{C:Addr}{h':Heap}(I:Inv X pins σ H s)(f:dU X pins H C)(hs:Wq C s.heap h'):Inv X pins σ H {s with heap:=h'}:=by
 obtain⟨f0,f1,f2,f3,f4,f5⟩:=f;exact I.turned (t':=s.toks) (λb o hb e=>(hs.2 b hb).trans e) f0 f1 f3 f4 f5
end
end L2
namespace ST
open PySem PySem.SetTable
def it:Nat->Nat->Nat
 |0,x=>x
 |n+1,x=>5*it n x+1
theorem uy (a:Nat):∀(b x:Nat),it (a+b) x=it b (it a x)
 |0,x=>rfl
 |b+1,x=>by
  show 5*it (a+b) x+1=5*it b (it a x)+1;rw[uy a b x]
theorem Al:∀j:Nat,∃a b:Nat,∀x,it (2 ^ j) x=(1+4*2 ^ j*a)*x+2 ^ j*(1+2*b)
 |0=>⟨1,0,λx=>by show 5*x+1=_;simp⟩
 |j+1=>by
  obtain⟨a,b,h⟩:=Al j;refine⟨a+2*2 ^ j*a*a,b+2 ^ j*a*(1+2*b),λx=>?_⟩;rw[show 2 ^ (j+1)=2 ^ j+2 ^ j by rw[Ys];lia,uy,h,h]
  generalize 2 ^ j=P
  grind
theorem lift:∀(j x t:Nat),∃k,k<2 ^ j/\it k x % 2 ^ j=t % 2 ^ j
 |0,x,t=>⟨0,by decide,by rw[Nat.pow_zero,Nat.mod_one,Nat.mod_one]⟩
 |j+1,x,t=>by
  obtain⟨k,hk,e⟩:=lift j x t;obtain⟨a,b,h⟩:=Al j;have hP:0<2 ^ j:=YQ (by decide)
  rw[Ys]
  by_cases q:it k x % (2 ^ j*2)=t % (2 ^ j*2)
  ·exact⟨k,by lia,q⟩
  ·refine⟨k+2 ^ j,by lia,?_⟩
   rw[uy,h];generalize it k x=y at *
   generalize 2 ^ j=P at *
   have e1:((1+4*P*a)*y+P*(1+2*b))=(y+P)+(P*2)*(2*a*y+b):=by grind
   rw[e1,Nat.add_mul_mod_self_left,Zx,Zx];rw[Zx,Zx,e]at q;rw[Nat.add_mod_right,Nat.add_div_right _ hP,e];have u1:y / P % 2<2:=XW _ (by decide)
   have u2:t / P % 2<2:=XW _ (by decide)
   have u3:y / P % 2≠t / P % 2:=λz=>q (by rw[z])
   have u4:(y / P).succ % 2=t / P % 2:=by lia
   rw[u4]
def da (m:Nat)(p:Probe):Probe:=advance {mask:=m,place:=#[],dummies:=#[],finger:=0,led:=true,moves:=0,plain:=true} p
def MW (m:Nat)(h:Int):Probe:=probeStart {mask:=m,place:=#[],dummies:=#[],finger:=0,led:=true,moves:=0,plain:=true} h
theorem FK (t:SetTable)(h:Int):probeStart t h=MW t.mask h:=rfl
def fJ (m:Nat)(h:Int):Nat->Probe
 |0=>MW m h
 |n+1=>da m (fJ m h n)
def cH (m:Nat)(h:Int)(n:Nat):Nat:=(fJ m h n).j
def lp (m:Nat)(h:Int):Nat->Nat×Nat
 |0=>(bits h % (m+1),bits h)
 |k+1=>leap m (lp m h k).1 (lp m h k).2
def IH (m:Nat)(x:Nat×Nat):Probe:={j:=x.1,more:=runEnd m x.1-x.1,i:=x.1,perturb:=x.2,dummy:=none}
theorem FY (m i:Nat):runEnd m i-i<=9:=by
 unfold runEnd
 split <;> lia
theorem uB (m:Nat)(h:Int)(x:Nat×Nat)(n:Nat)(e:fJ m h n=IH m x):∀d,d<=runEnd m x.1-x.1->fJ m h (n+d)={IH m x with j:=x.1+d,more:=runEnd m x.1-x.1-d}
 |0,_=>by rw[Zf,e];rfl
 |d+1,hd=>by
  show da m (fJ m h (n+d))=_;rw[uB m h x n e d (by lia)]
  unfold da advance;rw[if_pos (by show runEnd m x.1-x.1-d>0;lia)]
  rfl
theorem sM (m:Nat)(h:Int)(x:Nat×Nat)(n:Nat)(e:fJ m h n=IH m x):fJ m h (n+(runEnd m x.1-x.1)+1)=IH m (leap m x.1 x.2):=by
 show da m (fJ m h (n+(runEnd m x.1-x.1)))=_;rw[uB m h x n e _ (UU _)];unfold da advance;rw[if_neg (by show ¬ runEnd m x.1-x.1-(runEnd m x.1-x.1)>0;lia)]
 rfl
theorem Bq (m:Nat)(h:Int):∀k,∃n,n<=10*k/\fJ m h n=IH m (lp m h k)
 |0=>⟨0,UU _,rfl⟩
 |k+1=>by
  obtain⟨n,h1,h2⟩:=Bq m h k;refine⟨n+(runEnd m (lp m h k).1-(lp m h k).1)+1,?_,sM m h _ n h2⟩;have:=FY m (lp m h k).1;lia
theorem zZ (m:Nat)(h:Int):∀k,(lp m h k).2=bits h / 32 ^ k
 |0=>by rw[Nat.pow_zero,Nat.div_one];rfl
 |k+1=>by
  show (lp m h k).2 / 32=_;rw[zZ m h k,Nat.div_div_eq_div_mul,Ys]
theorem Eg (h:Int):bits h<2 ^ 64:=by
 unfold bits;have h1:=Int.emod_lt_of_pos h (show (0:Int)<2 ^ 64 by decide)
 have h2:=Int.emod_nonneg h (show (2 ^ 64:Int)≠0 by decide)
 lia
theorem Dd (m:Nat)(h:Int){k:Nat}(hk:13<=k):(lp m h k).2=0:=by
 rw[zZ];refine Nat.div_eq_of_lt (Vy (Eg h) ?_);have:32 ^ 13<=32 ^ k:=XG (by decide) hk
 exact VN (by decide) this
theorem EN {j:Nat}(h:Int):∀d,(lp (2 ^ j-1) h (13+d)).1=it d (lp (2 ^ j-1) h 13).1 % 2 ^ j:=by
 have hP:2 ^ j-1+1=2 ^ j:=by have:0<2 ^ j:=YQ (by decide);lia
 have lt:∀k,(lp (2 ^ j-1) h k).1<2 ^ j:=λk=>by
  cases k with
  |zero=>show bits h % (2 ^ j-1+1)<_;rw[hP];exact XW _ (by lia)
  |succ k=>show (_*5+1+_ / 32) % (2 ^ j-1+1)<_;rw[hP];exact XW _ (by lia)
 intro d
 induction d with
 |zero=>exact(Zo (lt 13)).symm
 |succ d ih =>
  show ((lp (2 ^ j-1) h (13+d)).1*5+1+(lp (2 ^ j-1) h (13+d)).2 / 32) % (2 ^ j-1+1)=(5*it d _+1) % 2 ^ j;rw[hP,Dd _ h (by lia),ih,Nat.zero_div,Zf,Nat.mul_comm]
  conv=>rhs;rw[Nat.add_mod,Nat.mul_mod]
  rw[Nat.add_mod,Nat.mul_mod,Nat.mod_mod]
theorem TX (j:Nat)(h:Int){t:Nat}(ht:t<2 ^ j):∃n,n<10*turns (2 ^ j-1)/\cH (2 ^ j-1) h n=t:=by
 obtain⟨k,hk,e⟩:=lift j (lp (2 ^ j-1) h 13).1 t;obtain⟨n,h1,h2⟩:=Bq (2 ^ j-1) h (13+k);refine⟨n,by unfold turns;lia,?_⟩
 unfold cH;rw[h2];show (lp (2 ^ j-1) h (13+k)).1=t;rw[EN,e,Zo ht]
abbrev g (xs:Array Nat)(i:Nat):Nat:=xs.getD i 0
theorem uI {xs:Array Nat}{i:Nat}(h:i<xs.size):xs[i]?=some (g xs i):=by
 rw[getElem?_pos xs i h,g,Vj,getElem?_pos xs i h];rfl
def Fh (xs:Array Nat):Prop:=∀i j,i<j->j<xs.size->g xs i<g xs j
theorem Fh.inj {xs:Array Nat}(r:Fh xs){i j:Nat}(hi:i<xs.size)(hj:j<xs.size)(e:g xs i=g xs j):i=j:=by
 rcases Ze i j with h|h|h
 ·have:=r i j h hj;lia
 ·exact h
 ·have:=r j i h hi;lia
theorem mO {xs:Array Nat}{j:Nat}(r:Fh xs):∀(f lo hi:Nat),hi<=xs.size->lo<=hi->hi-lo<=f->(∀k,k<lo->g xs k<j)->(∀k,hi<=k->k<xs.size->j<=g xs k) ->
  below.go xs j f lo hi<=xs.size/\(∀k,k<below.go xs j f lo hi->g xs k<j)/\(∀k,below.go xs j f lo hi<=k->k<xs.size->j<=g xs k)
 |0,lo,hi,h1,h2,h3,h4,h5=>by
  obtain rfl:lo=hi:=by lia
  exact⟨h1,h4,h5⟩
 |f+1,lo,hi,h1,h2,h3,h4,h5=>by
  unfold below.go
  by_cases hl:lo<hi
  ·rw[if_pos hl];dsimp only;have hm:(lo+hi) / 2<xs.size:=by lia
   have e:xs.getD ((lo+hi) / 2) j=g xs ((lo+hi) / 2):=by
    rw[g,Vj,Vj,getElem?_pos xs _ hm];rfl
   rw[e]
   by_cases hc:g xs ((lo+hi) / 2)<j
   ·rw[if_pos hc];refine mO r f _ _ h1 (by lia) (by lia) (λk hk=>?_) h5
    by_cases OX:k=(lo+hi) / 2
    ·rw[OX];exact hc
    ·have:=r k ((lo+hi) / 2) (by lia) hm;lia
   ·rw[if_neg hc];refine mO r f _ _ (by lia) (by lia) (by lia) h4 (λk hk Iw=>?_)
    by_cases OX:k=(lo+hi) / 2
    ·rw[OX];lia
    ·have:=r ((lo+hi) / 2) k (by lia) Iw;lia
  ·rw[if_neg hl];obtain rfl:lo=hi:=by lia
   exact⟨h1,h4,h5⟩
theorem fz {xs:Array Nat}(r:Fh xs)(j:Nat):below xs j<=xs.size/\(∀k,k<below xs j->g xs k<j)/\(∀k,below xs j<=k->k<xs.size->j<=g xs k) :=
 mO r xs.size 0 xs.size (UU _) (U7 _) (UU _) (λk hk=>by lia) (λk h1 h2=>by lia)
theorem below_at {xs:Array Nat}(r:Fh xs){i:Nat}(hi:i<xs.size):below xs (g xs i)=i:=by
 obtain⟨h1,h2,h3⟩:=fz r (g xs i);rcases Ze (below xs (g xs i)) i with h|h|h
 ·have:=h3 (below xs (g xs i)) (UU _) (by lia)
  have:=r _ _ h hi;lia
 ·exact h
 ·have:=h2 i h;lia
def qg (t:SetTable)(x:Nat):Prop:=∃i,i<t.place.size/\g t.place i=x
theorem nO {t:SetTable}(r:Fh t.place){i:Nat}(hi:i<t.place.size):t.slot (g t.place i)=.live i:=by
 unfold slot;dsimp only;rw[below_at r hi,if_pos (by rw[uI hi];exact beq_self_eq_true _)]
theorem wG {t:SetTable}(r:Fh t.place)(d:t.dummies=#[]){x:Nat}(h:¬ qg t x):t.slot x=.empty:=by
 unfold slot;dsimp only;rw[if_neg ?_,if_neg ?_]
 ·rw[d];unfold has;simp
 ·intro q;have q:=eq_of_beq q;have hl:below t.place x<t.place.size:=by
   rcases V6 (below t.place x) t.place.size with z|z
   ·exact z
   ·rw[WG z]at q;cases q
  rw[uI hl]at q;exact h ⟨_,hl,VA q⟩
structure WF (t:SetTable)(hs:List Int):Prop where
 ID:t.dummies=#[]
 sz:t.place.size=hs.length
 wO:Fh t.place
 Rh:∀i,i<t.place.size->g t.place i<=t.mask
 EL:∃j,3<=j/\t.mask=2 ^ j-1
 room:t.place.size<=t.mask
 Qm:∀i h,hs[i]?=some h->∃n,cH t.mask h n=g t.place i/\∀k,k<n->qg t (cH t.mask h k)
theorem least {p:Nat->Prop}[DecidablePred p]:∀n,p n->∃m,m<=n/\p m/\∀k,k<m->¬ p k:=by
 intro n
 induction n using Nat.strongRecOn with
 |_ n ih =>
  intro hn
  by_cases h:∃k,k<n/\p k
  ·obtain⟨k,hk,hp⟩:=h;obtain⟨m,h1,h2,h3⟩:=ih k hk hp;exact⟨m,by lia,h2,h3⟩
  ·exact⟨n,UU _,hn,λk hk hp=>h ⟨k,hk,hp⟩⟩
instance (t:SetTable):DecidablePred (qg t):=λx=>decidable_of_iff (∃i,i<t.place.size/\g t.place i=x) Iff.rfl
theorem WF.hole {t:SetTable}{hs:List Int}(w:WF t hs):∃x,x<=t.mask/\¬ qg t x:=by
 refine Xm λAB=>?_;have all:∀x,x<=t.mask->qg t x:=λx hx=>Xm λq=>AB ⟨x,hx,q⟩;have up:∀x,x<=t.mask->∃i,i<t.place.size/\g t.place i=x/\x<=i:=by
  intro x
  induction x with
  |zero =>
   intro hx;obtain⟨i,h1,h2⟩:=all 0 hx;exact⟨i,h1,h2,U7 _⟩
  |succ x ih =>
   intro hx;obtain⟨i,h1,h2,h3⟩:=ih (by lia)
   obtain⟨i',h4,h5⟩:=all (x+1) hx;refine⟨i',h4,h5,?_⟩;rcases V6 i i' with q|q
   ·lia
   ·rcases V6 i' i with q2|q2
    ·have:=w.wO i' i q2 h1;lia
    ·obtain rfl:i=i':=by lia
     lia
 obtain⟨i,h1,h2,h3⟩:=up t.mask (UU _);have:=w.room;lia
theorem WF.first {t:SetTable}{hs:List Int}(w:WF t hs)(h:Int):∃n,n<10*turns t.mask/\¬ qg t (cH t.mask h n)/\∀k,k<n->qg t (cH t.mask h k):=by
 obtain⟨x,hx,hf⟩:=w.hole;obtain⟨j,_,hj⟩:=w.EL;have yf:x<2 ^ j:=by have:0<2 ^ j:=YQ (by decide);lia
 obtain⟨n,h1,h2⟩:=TX j h yf;rw[<- hj]at h1 h2;obtain⟨m,g1,g2,g3⟩:=least (p:=λn=>¬ qg t (cH t.mask h n)) n (by rw[h2];exact hf)
 exact⟨m,by lia,g2,λk hk=>Xm λq=>g3 k hk q⟩
theorem jf (m:Nat)(h:Int):∀n,(fJ m h n).dummy=none
 |0=>rfl
 |n+1=>by
  show (da m (fJ m h n)).dummy=none;unfold da advance
  split
  ·exact jf m h n
  ·exact jf m h n
theorem qM {t:SetTable}{hs:List Int}(w:WF t hs)(ha:Nat->Int)(h:Int){N:Nat}(hN:¬ qg t (cH t.mask h N))(hO:∀k,k<N->qg t (cH t.mask h k)):∀(d n f:Nat),n+d=N->d<f ->
  (probe.go t ha h f (fJ t.mask h n)=some (.empty (cH t.mask h N) none)/\∀k,n<=k->k<N->∀i,i<t.place.size->g t.place i=cH t.mask h k->ha i≠h) \/
  ∃m i,n<=m/\m<N/\i<t.place.size/\g t.place i=cH t.mask h m/\ha i=h/\probe.go t ha h f (fJ t.mask h n)=some (.candidate (cH t.mask h m) i (fJ t.mask h (m+1)))/\∀k,n<=k->k<m->∀i,i<t.place.size->g t.place i=cH t.mask h k->ha i≠h
 |0,n,f,e,hf=>by
  obtain rfl:n=N:=by lia
  obtain⟨f,rfl⟩:∃f',f=f'+1:=⟨f-1,by lia⟩
  refine .inl ⟨?_,λk h1 h2=>by lia⟩
  unfold probe.go;rw[show t.slot (fJ t.mask h n).j=.empty from wG w.wO w.ID hN]
  dsimp only;rw[jf];rfl
 |d+1,n,f,e,hf=>by
  obtain⟨f,rfl⟩:∃f',f=f'+1:=⟨f-1,by lia⟩
  obtain⟨i,hi,hg⟩:=hO n (by lia)
  have Iq:t.slot (fJ t.mask h n).j=.live i:=by
   show t.slot (cH t.mask h n)=.live i;rw[<- hg];exact nO w.wO hi
  by_cases hh:ha i=h
  ·refine .inr ⟨n,i,UU _,by lia,hi,hg,hh,?_,λk h1 h2=>by lia⟩
   unfold probe.go;rw[Iq];dsimp only;rw[if_pos (by rw[hh];exact beq_self_eq_true _)]
   rfl
  ·have st:probe.go t ha h (f+1) (fJ t.mask h n)=probe.go t ha h f (fJ t.mask h (n+1)):=by
    conv=>lhs;unfold probe.go
    rw[Iq];dsimp only;rw[if_neg (by simpa using hh)]
    rfl
   rw[st];have here:∀i',i'<t.place.size->g t.place i'=cH t.mask h n->ha i'≠h:=λi' h1 h2=>by
    rw[w.wO.inj h1 hi (h2.trans hg.symm)];exact hh
   rcases qM w ha h hN hO d (n+1) f (by lia) (by lia)with⟨q1,q2⟩|⟨m,i',q1,q2,q3,q4,q5,q6,q7⟩
   ·refine .inl ⟨q1,λk h1 h2=>?_⟩
    by_cases hk:k=n
    ·subst hk;exact here
    ·exact q2 k (by lia) h2
   ·refine .inr ⟨m,i',by lia,q2,q3,q4,q5,q6,λk h1 h2=>?_⟩
    by_cases hk:k=n
    ·subst hk;exact here
    ·exact q7 k (by lia) h2
theorem l7 {α:Type}(xs:Array α)(p:Nat)(x:α):(insertAt xs p x).toList=xs.toList.take p++x::xs.toList.drop p:=by
 unfold insertAt;rw[Wi,WC,YS,YS,X3,X3,V4];simp[Wo]
theorem Ar {α:Type}{xs:Array α}{p:Nat}{x:α}(h:p<=xs.size):(insertAt xs p x).size=xs.size+1:=by
 rw[<- U4,l7,Vu,Vd,Vl,XF,U4];lia
theorem dv {xs:Array Nat}{p x:Nat}(h:p<=xs.size)(k:Nat):g (insertAt xs p x) k=if k<p then g xs k else if k=p then x else g xs (k-1):=by
 have e:∀(ys:Array Nat) (k:Nat),g ys k=(ys.toList[k]?).getD 0:=λys k=>by rw[g,Vj,Vh]
 rw[e,e,e,l7]
 by_cases h1:k<p
 ·rw[if_pos h1,Wh (by rw[Vl,U4];lia),Xr h1]
 ·rw[if_neg h1,VR (by rw[Vl];lia),Vl,U4,show min p xs.size=p by lia]
  by_cases h2:k=p
  ·rw[if_pos h2,h2,XA];rfl
  ·rw[if_neg h2,show k-p=k-p-1+1 by lia,Xv,Xu,show p+(k-p-1)=k-1 by lia]
theorem WF.put {t:SetTable}{hs:List Int}(w:WF t hs){h:Int}{N:Nat}(hb:cH t.mask h N<=t.mask)(hN:¬ qg t (cH t.mask h N))(hO:∀k,k<N->qg t (cH t.mask h k))(hr:t.place.size+1<=t.mask):
  WF (t.put (cH t.mask h N)).1 (hs.take (t.put (cH t.mask h N)).2++h::hs.drop (t.put (cH t.mask h N)).2)/\(t.put (cH t.mask h N)).2<=t.place.size:=by
 obtain⟨b1,b2,b3⟩:=fz w.wO (cH t.mask h N);have hp:(t.put (cH t.mask h N)).2=below t.place (cH t.mask h N):=rfl;rw[hp];generalize hx:cH t.mask h N=x at *
 generalize hq:below t.place x=p at *
 have e:(t.put x).1={t with place:=insertAt t.place p x}:=by
  unfold SetTable.put;dsimp only;rw[w.ID,hq];unfold has;simp
 have ne:∀k,p<=k->k<t.place.size->x<g t.place k:=λk h1 h2=>by
  have:=b3 k h1 h2;rcases V6 x (g t.place k)with q|q
  ·exact q
  ·exact absurd ⟨k,h2,by lia⟩ hN
 have MV:(insertAt t.place p x).size=t.place.size+1:=Ar b1;have Qx:∀y,qg t y->qg {t with place:=insertAt t.place p x} y:=by
  rintro y ⟨i,h1,h2⟩
  by_cases hi:i<p
  ·exact⟨i,by show i<(insertAt t.place p x).size;lia,by show g (insertAt t.place p x) i=y;rw[dv b1,if_pos hi];exact h2⟩
  ·exact⟨i+1,by show i+1<(insertAt t.place p x).size;lia,by show g (insertAt t.place p x) (i+1)=y;rw[dv b1,if_neg (by lia),if_neg (by lia)];exact h2⟩
 rw[e];refine⟨⟨w.ID,?_,?_,?_,w.EL,?_,?_⟩,b1⟩
 ·show (insertAt t.place p x).size=_;rw[MV,Vu,Vd,Vl,XF,<- w.sz];lia
 ·intro i j aH hj;have hj:j<t.place.size+1:=by rw[<- MV];exact hj
  show g (insertAt t.place p x) i<g (insertAt t.place p x) j;rw[dv b1,dv b1]
  by_cases h1:i<p
  ·rw[if_pos h1]
   by_cases h2:j<p
   ·rw[if_pos h2];exact w.wO i j aH (by lia)
   ·rw[if_neg h2]
    by_cases h3:j=p
    ·rw[if_pos h3];exact b2 i h1
    ·rw[if_neg h3];exact w.wO i (j-1) (by lia) (by lia)
  ·rw[if_neg h1,if_neg (show ¬ j<p by lia)]
   by_cases h3:i=p
   ·rw[if_pos h3,if_neg (show ¬ j=p by lia)];exact ne _ (by lia) (by lia)
   ·rw[if_neg h3,if_neg (show ¬ j=p by lia)];exact w.wO (i-1) (j-1) (by lia) (by lia)
 ·intro i hi;have hi:i<t.place.size+1:=by rw[<- MV];exact hi
  show g (insertAt t.place p x) i<=t.mask;rw[dv b1]
  split
  ·exact w.Rh i (by lia)
  ·split
   ·exact hb
   ·exact w.Rh _ (by lia)
 ·show (insertAt t.place p x).size<=t.mask;lia
 ·intro i h' fK;show ∃n,cH t.mask h' n=g (insertAt t.place p x) i/\_;have old:∀i h',hs[i]?=some h'->∃n,cH t.mask h' n=g t.place i/\∀k,k<n->qg {t with place:=insertAt t.place p x} (cH t.mask h' k):=λi h' q=>by
   obtain⟨n,h1,h2⟩:=w.Qm i h' q;exact⟨n,h1,λk hk=>Qx _ (h2 k hk)⟩
  have hpl:p<=hs.length:=by rw[<- w.sz];exact b1
  by_cases h1:i<p
  ·rw[Wh (by rw[Vl];lia),Xr h1]at fK
   rw[dv b1,if_pos h1];exact old i h' fK
  ·rw[VR (by rw[Vl];lia),Vl,show min p hs.length=p by lia]at fK
   rw[dv b1,if_neg h1]
   by_cases h2:i=p
   ·rw[h2,XA]at fK;rw[if_pos h2];obtain rfl:h=h':=VA fK;exact⟨N,hx,λk hk=>Qx _ (hO k hk)⟩
   ·rw[show i-p=i-p-1+1 by lia,Xv,Xu,show p+(i-p-1)=i-1 by lia]at fK
    rw[if_neg h2];exact old (i-1) h' fK
theorem gk {m i:Nat}(h:i<=m):i<=runEnd m i/\runEnd m i<=m:=by
 unfold runEnd
 split <;> lia
theorem zh (m:Nat)(h:Int):∀n,(fJ m h n).j+(fJ m h n).more<=m
 |0=>by
  show bits h % (m+1)+(runEnd m (bits h % (m+1))-bits h % (m+1))<=m;have hl:bits h % (m+1)<=m:=Nat.le_of_lt_succ (XW _ (Nat.succ_pos _));have:=gk hl;lia
 |n+1=>by
  have ih:=zh m h n;show (da m (fJ m h n)).j+(da m (fJ m h n)).more<=m;unfold da advance
  split
  ·show (fJ m h n).j+1+((fJ m h n).more-1)<=m;lia
  ·show (leap m (fJ m h n).i (fJ m h n).perturb).1+(runEnd m (leap m (fJ m h n).i (fJ m h n).perturb).1-(leap m (fJ m h n).i (fJ m h n).perturb).1)<=m;have hl:(leap m (fJ m h n).i (fJ m h n).perturb).1<=m:=Nat.le_of_lt_succ (XW _ (Nat.succ_pos _));have:=gk hl;lia
theorem j_ (m:Nat)(h:Int)(n:Nat):cH m h n<=m:=by
 have:=zh m h n;unfold cH;lia
abbrev Ow:=Array (Option Nat)
def fC (o:Ow)(j:Nat):Bool:=(o.getD j (some 0)).isNone
theorem oE {m:Nat}{o:Ow}(h:Int):∀(f b n:Nat) (j:Nat),fJ m h n=IH m (lp m h b)->layClean.free m o f (lp m h b).1 (lp m h b).2=some j->∃N,n<=N/\cH m h N=j/\fC o j=true/\∀k,n<=k->k<N->fC o (cH m h k)=false
 |0,b,n,j,_,e=>by cases e
 |f+1,b,n,j,hb,e=>by
  unfold layClean.free at e;have N3:∀d,d<=runEnd m (lp m h b).1-(lp m h b).1->cH m h (n+d)=(lp m h b).1+d:=λd hd=>by
   unfold cH;rw[uB m h _ n hb d hd]
  have hl:(lp m h b).1<=m:=by
   have:=j_ m h n;unfold cH at this;rw[hb]at this;exact this
  have hr:=gk hl;cases hf:(UZ (runEnd m (lp m h b).1+1-(lp m h b).1)).find? (λk=>(o.getD ((lp m h b).1+k) (some 0)).isNone)with
  |some k =>
   rw[hf]at e;dsimp only at e;obtain⟨h1,h2,h3⟩:=List.find?_range_eq_some.mp hf;have h2:=V8.mp h2;refine⟨n+k,by lia,?_,?_,λx g1 g2=>?_⟩
   ·rw[N3 k (by lia)]
    exact VA e
   ·rw[<- VA e];exact h1
   ·have:=h3 (x-n) (by lia)
    rw[show x=n+(x-n) by lia,N3 (x-n) (by lia)]
    unfold fC;simpa using this
  |none =>
   rw[hf]at e;dsimp only at e;have h3:=List.find?_range_eq_none.mp hf;obtain⟨N,q1,q2,q3,q4⟩:=oE h f (b+1) (n+(runEnd m (lp m h b).1-(lp m h b).1)+1) j (sM m h _ n hb) e;refine⟨N,by lia,q2,q3,λx g1 g2=>?_⟩
   by_cases hx:n+(runEnd m (lp m h b).1-(lp m h b).1)+1<=x
   ·exact q4 x hx g2
   ·have:=h3 (x-n) (by lia)
    rw[show x=n+(x-n) by lia,N3 (x-n) (by lia)]
    unfold fC;simpa using this
theorem oF {m:Nat}{o:Ow}(h:Int):∀(f b:Nat),layClean.free m o f (lp m h b).1 (lp m h b).2=none->∀d,d<f->(lp m h (b+d)).1<=m->fC o (lp m h (b+d)).1=false
 |0,b,_,d,hd,_=>by lia
 |f+1,b,e,d,hd,hl=>by
  unfold layClean.free at e;cases hf:(UZ (runEnd m (lp m h b).1+1-(lp m h b).1)).find? (λk=>(o.getD ((lp m h b).1+k) (some 0)).isNone)with
  |some k =>
   rw[hf]at e;cases e
  |none =>
   rw[hf]at e;dsimp only at e;cases d with
   |zero =>
    have:=List.find?_range_eq_none.mp hf 0 (by have:=gk hl;rw[Zf]at this;lia)
    unfold fC;simpa using this
   |succ d =>
    have:=oF h f (b+1) e d (by lia) (by rw[show b+1+d=b+(d+1) by lia];exact hl)
    rw[show b+1+d=b+(d+1) by lia]at this
    exact this
theorem GJ (j:Nat)(h:Int){t:Nat}(ht:t<2 ^ j):∃k,k<turns (2 ^ j-1)/\(lp (2 ^ j-1) h k).1=t:=by
 obtain⟨k,hk,e⟩:=lift j (lp (2 ^ j-1) h 13).1 t;refine⟨13+k,by unfold turns;lia,?_⟩
 rw[EN,e,Zo ht]
def ow (o:Ow)(j:Nat):Option Nat:=o.getD j none
theorem dN {α:Type}{f f':Nat->Option α}:∀(l:List Nat),(∀k∈l,f' k=f k)->l.filterMap f'=l.filterMap f
 |[],_=>rfl
 |x::l,h=>by
  rw[VV,VV,h x Vs,dN l λk hk=>h k (Vi _ hk)]
theorem rS {α:Type}{f f':Nat->Option α}(l:List Nat)(h:∀k∈l,f' k=f k):l.filterMap f'=l.filterMap f:=dN l h
theorem rQ {α:Type}(f f':Nat->Option α)(j:Nat)(v:α)(h1:f j=none)(h2:f' j=some v)(h3:∀k,k≠j->f' k=f k):∀N,j<N->((UZ N).filterMap f').Perm (v::(UZ N).filterMap f)
 |0,h=>by lia
 |N+1,h=>by
  rw[XJ,YG,YG]
  by_cases e:j=N
  ·subst e;have e1:(UZ j).filterMap f'=(UZ j).filterMap f:=by
    exact dN _ λk hk=>h3 k (Vw (V8.mp hk))
   rw[e1,VV,h2,VV,h1,List.filterMap_nil,List.filterMap_nil];show ((UZ j).filterMap f++[v]).Perm (v::((UZ j).filterMap f++[]));rw[Wf];exact List.perm_append_comm
  ·have ih:=rQ f f' j v h1 h2 h3 N (by lia)
   have e2:[N].filterMap f'=[N].filterMap f:=dN _ λk hk=>by
    rw[U9.mp hk];exact h3 N (λz=>e z.symm)
   rw[e2];exact ih.append_right _
theorem rT {α:Type}(f:Nat->Option α):∀N,(∀k,k<N->(f k).isSome=true)->((UZ N).filterMap f).length=N
 |0,_=>rfl
 |N+1,h=>by
  rw[XJ,YG,Vu,rT f N λk hk=>h k (by lia)]
  have:=h N (by lia)
  cases e:f N with
  |none=>rw[e]at this;cases this
  |some x=>rw[VV,e];rfl
structure Ld (m:Nat)(hs:Array Int)(o:Ow)(k:Nat):Prop where
 sz:o.size=m+1
 ND:((UZ (m+1)).filterMap (ow o)).Perm (UZ k)
 way:∀j a,ow o j=some a->a<k/\∃n,cH m (hs.getD a 0) n=j/\∀x,x<n->fC o (cH m (hs.getD a 0) x)=false
theorem lJ {o:Ow}{j:Nat}(h:j<o.size):fC o j=true↔ow o j=none:=by
 unfold fC ow;rw[Vj,Vj,getElem?_pos o j h];show (o[j]).isNone=true↔o[j]=none;exact ZV
theorem Ld.next {j0:Nat}{hs:Array Int}{o:Ow}{k:Nat}(L:Ld (2 ^ j0-1) hs o k)(hk:k<=2 ^ j0-1)(h:Int)(hh:hs.getD k 0=h):
  ∃j,layClean.free (2 ^ j0-1) o (turns (2 ^ j0-1)) (bits h % (2 ^ j0-1+1)) (bits h)=some j/\Ld (2 ^ j0-1) hs (o.setIfInBounds j (some k)) (k+1):=by
 have hP:0<2 ^ j0:=YQ (by decide)
 generalize hm:2 ^ j0-1=m at *
 obtain⟨x,hx,SO⟩:∃x,x<=m/\ow o x=none:=by
  refine Xm λAB=>?_;have:=rT (ow o) (m+1) λx hx=>by
   cases e:ow o x with
   |none=>exact absurd ⟨x,by lia,e⟩ AB
   |some _=>rfl
  rw[L.ND.length_eq,Vm]at this;lia
 cases hf:layClean.free m o (turns m) (bits h % (m+1)) (bits h)with
 |none =>
  exfalso
  obtain⟨c,hc,he⟩:=GJ j0 h (t:=x) (by lia)
  rw[hm]at hc he;have:=oF (m:=m) (o:=o) h (turns m) 0 hf c hc (by rw[Xb,he];exact hx)
  rw[Xb,he]at this;have q:=(lJ (o:=o) (j:=x) (by rw[L.sz];lia)).mpr SO
  rw[q]at this;cases this
 |some j =>
  refine⟨j,rfl,?_⟩;obtain⟨N,_,q2,q3,q4⟩:=oE (m:=m) (o:=o) h (turns m) 0 0 j rfl hf;have hj:j<=m:=by rw[<- q2];exact j_ m h N
  have OY:j<o.size:=by rw[L.sz];lia
  have K1:ow o j=none:=(lJ OY).mp q3;have same:∀i,i≠j->ow (o.setIfInBounds j (some k)) i=ow o i:=λi hi=>by
   unfold ow;rw[Vj,Vj,Zj (λz=>hi z.symm)]
  have here:ow (o.setIfInBounds j (some k)) j=some k:=by
   unfold ow;rw[Vj,YJ OY];rfl
  have Jf:∀i,fC o i=false->fC (o.setIfInBounds j (some k)) i=false:=λi hi=>by
   unfold fC at *
   rw[Vj]at *
   by_cases e:i=j
   ·subst e;rw[YJ OY];rfl
   ·rw[Zj (λz=>e z.symm)];exact hi
  refine⟨by rw[Yh];exact L.sz,?_,λi a Mb=>?_⟩
  ·refine(rQ (ow o) _ j k K1 here same (m+1) (by lia)).trans ?_
   refine(L.ND.cons k).trans ?_;rw[XJ];exact(List.perm_append_singleton k _).symm
  ·by_cases e:i=j
   ·subst e;rw[here]at Mb;obtain rfl:=VA Mb;refine⟨Nat.lt_succ_self _,N,by rw[hh];exact q2,λx hx=>Jf _ ?_⟩
    rw[hh];exact q4 x (U7 _) hx
   ·rw[same i e]at Mb;obtain⟨g1,n,g2,g3⟩:=L.way i a Mb;exact⟨by lia,n,g2,λx hx=>Jf _ (g3 x hx)⟩
theorem mN {j0:Nat}{hs:Array Int}(hk:hs.size<=2 ^ j0-1):∀(l:List Int) (k:Nat) (o:Ow),hs.toList.drop k=l->k+l.length=hs.size->Ld (2 ^ j0-1) hs o k ->
  ∃o',(l.foldl (λ(acc:Option (Ow×Nat)) h=>do
   let (owner,k) <- acc
   let j <- layClean.free (2 ^ j0-1) owner (turns (2 ^ j0-1)) (bits h % (2 ^ j0-1+1)) (bits h)
   pure (owner.setIfInBounds j (some k),k+1)) (some (o,k)))=some (o',hs.size)/\Ld (2 ^ j0-1) hs o' hs.size
 |[],k,o,e,z,L=>by
  obtain rfl:k=hs.size:=z;exact⟨o,rfl,L⟩
 |h::l,k,o,e,z,L=>by
  rw[Vd]at z;have eZ:k<hs.toList.length:=by rw[U4];lia
  rw[VO eZ]at e;injection e with e1 e2
  have hh:hs.getD k 0=h:=by
   rw[Vj,<- Vh,U6 eZ,e1];rfl
  obtain⟨j,q1,q2⟩:=L.next (by lia) h hh
  rw[XM];show ∃o',(l.foldl _ (do
   let j <- layClean.free (2 ^ j0-1) o (turns (2 ^ j0-1)) (bits h % (2 ^ j0-1+1)) (bits h)
   pure (o.setIfInBounds j (some k),k+1)))=_/\_
  rw[q1];exact mN hk l (k+1) _ e2 (by lia) q2
theorem Ld.start (m:Nat)(hs:Array Int):Ld m hs (Array.replicate (m+1) none) 0:=by
 have e:∀j,ow (Array.replicate (m+1) none) j=none:=λj=>by
  unfold ow;rw[Vj,Array.getElem?_replicate]
  split <;> rfl
 refine⟨Array.size_replicate,?_,λj a h=>by rw[e]at h;cases h⟩
 rw[dN (f:=λ_=>(none:Option Nat)) _ λk _=>e k];have:∀l:List Nat,l.filterMap (λ_=>(none:Option Nat))=[]:=λl=>by
  induction l with
  |nil=>rfl
  |cons x l ih=>rw[VV];exact ih
 rw[this];exact .refl _
theorem Di {j0:Nat}{hs:Array Int}(h3:3<=j0)(hk:hs.size<=2 ^ j0-1)(finger moves:Nat)(led plain:Bool):
  ∃t order,laid (2 ^ j0-1) finger moves led plain hs=some (t,order)/\t.mask=2 ^ j0-1/\t.led=led/\t.plain=plain/\t.moves=moves/\order.toList.Perm (UZ hs.size)/\WF t (order.toList.map λa=>hs.getD a 0)/\t.place.size=hs.size:=by
 obtain⟨o,e1,L⟩:=mN hk hs.toList 0 _ rfl (by rw[Xb,U4]) (Ld.start _ hs)
 have e2:layClean (2 ^ j0-1) hs=some o:=by
  unfold layClean;rw[<- Array.foldl_toList];exact congrArg (Option.map (·.1)) e1
 generalize hm:2 ^ j0-1=m at *
 have JW:∀(l:List Nat),((l.filterMap λj=>(o.getD j none).map (j,·)).map (·.2))=l.filterMap (ow o):=λl=>by
  rw[List.map_filterMap];refine rS l λj _=>?_;rw[Option.map_map];show ((o.getD j none).map λa=>a)=_;rw[Option.map_id'];rfl
 generalize K2:((UZ (m+1)).filterMap λj=>(o.getD j none).map (j,·))=live at *
 have pw:live.Pairwise (λx y=>x.1<y.1):=by
  rw[<- K2,List.pairwise_filterMap];refine List.pairwise_lt_range.imp λ{a b} Lg x hx y hy=>?_;obtain⟨_,_,rfl⟩:=Vv.mp hx;obtain⟨_,_,rfl⟩:=Vv.mp hy;exact Lg
 have mem:∀x∈live,x.1<m+1/\ow o x.1=some x.2:=λx hx=>by
  rw[<- K2]at hx;obtain⟨j,hj,e⟩:=XY.mp hx;obtain⟨a,ha,rfl⟩:=Vv.mp e;exact⟨V8.mp hj,ha⟩
 have ord:(live.map (·.2)).Perm (UZ hs.size):=by
  rw[<- K2,JW];exact L.ND
 have len:live.length=hs.size:=by
  have:=ord.length_eq;rw[US,Vm]at this;exact this
 have gp:∀i (hi:i<live.length),g (live.map (·.1)).toArray i=(live[i]).1:=λi hi=>by
  rw[g,Vj,YF,U8,U6 hi];rfl
 refine⟨{mask:=m,place:=(live.map (·.1)).toArray,dummies:=#[],finger,led,moves,plain},(live.map (·.2)).toArray,?_,rfl,rfl,rfl,rfl,ord,?_,?_⟩
 ·unfold laid;rw[e2,<- K2];rfl
 ·have NA:(live.map (·.1)).toArray.size=live.length:=by rw[Vk,US]
  refine⟨rfl,?_,?_,?_,⟨j0,h3,hm.symm⟩,?_,?_⟩
  ·show (live.map (·.1)).toArray.size=_;rw[NA,US,US]
  ·intro i j aH hj;have hj:j<live.length:=by rw[<- NA];exact hj
   show g (live.map (·.1)).toArray i<g (live.map (·.1)).toArray j;rw[gp i (by lia),gp j hj]
   exact X1.mp pw i j (by lia) hj aH
  ·intro i hi;have hi:i<live.length:=by rw[<- NA];exact hi
   show g (live.map (·.1)).toArray i<=m;rw[gp i hi];have:=(mem _ (W9 hi)).1;lia
  ·show (live.map (·.1)).toArray.size<=m;lia
  ·intro i h hi;show ∃n,cH m h n=g (live.map (·.1)).toArray i/\_;rw[U8,U8]at hi;have AI:i<live.length:=by
    rcases V6 i live.length with q|q
    ·exact q
    ·rw[VT q]at hi;cases hi
   rw[U6 AI]at hi;have hi:hs.getD (live[i]).2 0=h:=VA hi;obtain⟨_,n,g2,g3⟩:=L.way _ _ (mem _ (W9 AI)).2;rw[hi]at g2 g3;refine⟨n,by rw[gp i AI];exact g2,λk hk=>?_⟩
   have hv:=j_ m h k;have SJ:cH m h k<o.size:=by rw[L.sz];lia
   have:=g3 k hk;cases eo:ow o (cH m h k)with
   |none =>
    rw[(lJ SJ).mpr eo]at this;cases this
   |some a =>
    have gR:(cH m h k,a)∈live:=by
     rw[<- K2];exact XY.mpr ⟨cH m h k,V8.mpr (by lia),by show (ow o (cH m h k)).map _=_;rw[eo];rfl⟩
    obtain⟨i',fK,e'⟩:=List.getElem_of_mem gR;exact⟨i',by show i'<(live.map (·.1)).toArray.size;lia,by show g (live.map (·.1)).toArray i'=_;rw[gp i' fK,e']⟩
 ·show (live.map (·.1)).toArray.size=hs.size;rw[Vk,US];exact len
end ST
namespace TS
open PySem PyProof.Rows
def d_:Bool->Va->Array Va->Nat->Nat->Nat->StateT VY Sem (Option Nat):=sortPriv% PySem.Builtin.gallop
def lQ:Array Va->Array Va->StateT VY Sem (Array Va):=sortPriv% PySem.Builtin.mergeLo
def lR:Array Va->Array Va->StateT VY Sem (Array Va):=sortPriv% PySem.Builtin.mergeHi
abbrev lh (st:VY)(g:Nat):VY:=SortSt.mk' (kindOf st) (VD st) (Vr st) g (Xy st)
theorem uH (left:Bool)(key:Va)(arr:Array Va)(base n hint:Nat):d_ left key arr base n hint=(do
  let ask:=λ(at_:Nat)=>(do
   let z <- elem' arr (base+at_)
   if left then lt' z key else return (<- lt' key z).map (!·):StateT VY Sem (Option Bool))
  let mut before:=0
  let mut step:=1
  let mut u:=0
  let mut v:=0
  let some up <- ask hint|return none
  if up then
   let room:=n-hint
   for _ in [0:n] do
    if step >= room then break
    let some on <- ask (hint+step)|return none
    if !on then break
    before:=step
    step:=2*step+1
   u:=hint+before+1
   v:=hint+min step room
  else
   let room:=hint+1
   for _ in [0:n] do
    if step >= room then break
    let some hit <- ask (hint-step)|return none
    if hit then break
    before:=step
    step:=2*step+1
   u:=hint+1-min step room
   v:=hint-before
  for _ in [0:n] do
   if u >= v then break
   let mid:=u+(v-u) / 2
   let some on <- ask mid|return none
   if on then u:=mid+1 else v:=mid
  return some v):=rfl
theorem rl (p q:Array Va):lQ p q=(do
  rule "list.sort.merge-lo"
  let all:=p.size+q.size
  let rest:=λ(to:Array Va) (i j:Nat)=>to++p.extract i p.size++q.extract j q.size
  let tail:=λ(to:Array Va) (i j:Nat)=>to++q.extract j q.size++p.extract i p.size
  let mut to:Array Va:=#[<- elem' q 0]
  let mut i:=0
  let mut j:=1
  if j==q.size then return rest to i j
  if i+1==p.size then return tail to i j
  let mut mg:=gallopOf (<- get)
  for _ in [0:all] do
   let mut m:=0
   let mut n:=0
   for _ in [0:all] do
    let some MI <- lt' (<- elem' q j) (<- elem' p i)|return rest to i j
    if MI then
     to:=to.push (<- elem' q j);j:=j+1;n:=n+1;m:=0
     if j==q.size then return rest to i j
     if n >= mg then break
    else
     to:=to.push (<- elem' p i);i:=i+1;m:=m+1;n:=0
     if i+1==p.size then return tail to i j
     if m >= mg then break
   rule "list.sort.gallop"
   mg:=mg+1
   for _ in [0:all] do
    if mg>1 then mg:=mg-1
    modify λst=>lh st mg
    let some k <- d_ false (<- elem' q j) p i (p.size-i) 0|return rest to i j
    m:=k
    if k>0 then
     to:=to++p.extract i (i+k);i:=i+k
     if i+1==p.size then return tail to i j
     if i==p.size then return rest to i j
    to:=to.push (<- elem' q j);j:=j+1
    if j==q.size then return rest to i j
    let some k <- d_ true (<- elem' p i) q j (q.size-j) 0|return rest to i j
    n:=k
    if k>0 then
     to:=to++q.extract j (j+k);j:=j+k
     if j==q.size then return rest to i j
    to:=to.push (<- elem' p i);i:=i+1
    if i+1==p.size then return tail to i j
    if m<7&&n<7 then break
   mg:=mg+1
   modify λst=>lh st mg
  unsupported "internal:list.sort.merge-bound"):=rfl
theorem rm (p q:Array Va):lR p q=(do
  rule "list.sort.merge-hi"
  let all:=p.size+q.size
  let rest:=λ(to:Array Va) (i j:Nat)=>p.extract 0 i++q.extract 0 j++to.reverse
  let tail:=λ(to:Array Va) (i j:Nat)=>q.extract 0 j++p.extract 0 i++to.reverse
  let mut i:=p.size-1
  let mut j:=q.size
  let mut to:Array Va:=#[<- elem' p i]
  if i==0 then return rest to i j
  if j==1 then return tail to i j
  let mut mg:=gallopOf (<- get)
  for _ in [0:all] do
   let mut m:=0
   let mut n:=0
   for _ in [0:all] do
    let some MI <- lt' (<- elem' q (j-1)) (<- elem' p (i-1))|return rest to i j
    if MI then
     i:=i-1;to:=to.push (<- elem' p i);m:=m+1;n:=0
     if i==0 then return rest to i j
     if m >= mg then break
    else
     j:=j-1;to:=to.push (<- elem' q j);n:=n+1;m:=0
     if j==1 then return tail to i j
     if n >= mg then break
   rule "list.sort.gallop"
   mg:=mg+1
   for _ in [0:all] do
    if mg>1 then mg:=mg-1
    modify λst=>lh st mg
    let some h <- d_ false (<- elem' q (j-1)) p 0 i (i-1)|return rest to i j
    let k:=i-h
    m:=k
    if k>0 then
     to:=to++(p.extract h i).reverse;i:=h
     if i==0 then return rest to i j
    j:=j-1;to:=to.push (<- elem' q j)
    if j==1 then return tail to i j
    let some h <- d_ true (<- elem' p (i-1)) q 0 j (j-1)|return rest to i j
    let k:=j-h
    n:=k
    if k>0 then
     to:=to++(q.extract h j).reverse;j:=h
     if j==1 then return tail to i j
     if j==0 then return rest to i j
    i:=i-1;to:=to.push (<- elem' p i)
    if i==0 then return rest to i j
    if m<7&&n<7 then break
   mg:=mg+1
   modify λst=>lh st mg
  unsupported "internal:list.sort.merge-bound"):=rfl
theorem rp (i:Nat):mergeAt' i=(do
  let st <- get
  let (some (sa,na,pw),some (sb,nb,_)):=((Vr st)[i]?,(Vr st)[i+1]?)|unsupported "internal:list.sort.pending"
  set (XE st (((Vr st).setIfInBounds i (sa,na+nb,pw)).eraseIdxIfInBounds (i+1)))
  let some k <- d_ false (<- elem' (VD st) sb) (VD st) sa na 0|return false
  let (sa,na):=(sa+k,na-k)
  if na==0 then return true
  let some nb <- d_ true (<- elem' (VD st) (sa+na-1)) (VD st) sb nb (nb-1)|return false
  if nb==0 then return true
  let x:=(VD st).extract sa sb
  let y:=(VD st).extract sb (sb+nb)
  let got <- if na<=nb then lQ x y else lR x y
  modify λs2=>Wc s2 (got.toList.zipIdx.foldl (λa (p,j)=>a.setIfInBounds (sa+j) p) (VD s2))
  return (Xy (<- get)).isNone):=rfl
structure dj (c:Va->Va->Bool):Prop where
 Ly:∀x y,c x y=true->c y x=false
 Qz:∀x y z,c x z=true->c x y=true\/c y z=true
def le (c:Va->Va->Bool)(x y:Va):Prop:=c y x=false
section
variable {c:Va->Va->Bool}
theorem dj.refl (O:dj c)(x:Va):le c x x:=by
 cases h:c x x
 ·exact h
 ·exact O.Ly _ _ h
theorem dj.trans (O:dj c){x y z:Va}(h1:le c x y)(h2:le c y z):le c x z:=by
 cases h:c z x
 ·exact h
 ·rcases O.Qz _ y _ h with q|q
  ·exact absurd (q.symm.trans h2) (by simp)
  ·exact absurd (q.symm.trans h1) (by simp)
theorem dj.of_lt (O:dj c){x y:Va}(h:c x y=true):le c x y:=O.Ly _ _ h
def el (a:Array Va)(i:Nat):Va:=a.getD i (Value.none,Value.none)
theorem iN {a:Array Va}{i:Nat}(h:i<a.size):a[i]?=some (el a i):=by
 rw[getElem?_pos a i h,el,Vj,getElem?_pos a i h];rfl
theorem vT {a:Array Va}{i:Nat}{x:Va}(h:a[i]?=some x):el a i=x:=by
 rw[el,Vj,h];rfl
theorem dO {a b:Array Va}{i j:Nat}(h:a[i]?=b[j]?):el a i=el b j:=by
 rw[el,el,Vj,Vj,h]
def SR (c:Va->Va->Bool)(a:Array Va)(lo hi:Nat):Prop:=∀i j,lo<=i->i<=j->j<hi->le c (el a i) (el a j)
def jE (prog:U0)(w:Vf)(A:VW)(E:UT->UW->Prop)(s:UW)(κ:Xp)(c:Va->Va->Bool)(S:Va->Prop):Prop :=
 ∀(x y:Va) (st:VY) (Q:Option Bool->VY->Prop),S x->S y->kindOf st=κ->Q (some (c x y)) st->wpS (model prog w) A E s (lt' x y) Q st
end
section
variable {prog:U0}{w:Vf}{A:VW}{E:UT->UW->Prop}{s:UW}{κ:Xp}{c:Va->Va->Bool}{S:Va->Prop}
theorem aO {a:Array Va}{i:Nat}{Q:Va->VY->Prop}{st:VY}(h:i<a.size)(q:Q (el a i) st):wpS (model prog w) A E s (elem' a i) Q st:=by
 rw[elem'_eq,iN h];exact Vc q
def dQ (c:Va->Va->Bool)(left:Bool)(key:Va)(a:Array Va)(base i:Nat):Bool:=if left=true then c (el a (base+i)) key else !c key (el a (base+i))
theorem Ee (O:dj c){left:Bool}{key:Va}{a:Array Va}{base n i j:Nat}(hs:SR c a base (base+n))(aH:i<=j)(hj:j<n)(h:dQ c left key a base j=true):dQ c left key a base i=true:=by
 have hl:=hs (base+i) (base+j) (by lia) (by lia) (by lia)
 unfold dQ at *
 cases left with
 |true =>
  rw[if_pos rfl]at *
  rcases O.Qz _ (el a (base+i)) _ h with q|q
  ·exact absurd (q.symm.trans hl) (by simp)
  ·exact q
 |false =>
  rw[if_neg (by simp)]at *
  rw[X_]at *
  exact O.trans hl h
theorem ia (L:jE prog w A E s κ c S){left:Bool}{key:Va}{a:Array Va}{base n i:Nat}{Q:Option Bool->VY->Prop}{st:VY}(hk:kindOf st=κ)(hK:S key)(hA:∀i,i<n->S (el a (base+i)))(hn:base+n<=a.size)(hi:i<n)
  (h:Q (some (dQ c left key a base i)) st):wpS (model prog w) A E s (do
   let z <- elem' a (base+i)
   if left then lt' z key else return (<- lt' key z).map (!·):StateT VY Sem (Option Bool)) Q st:=by
 refine U5 (aO (by lia) ?_)
 unfold dQ at h;cases left with
 |true =>
  rw[if_pos rfl]at *
  exact L _ _ st Q (hA i hi) hK hk h
 |false =>
  rw[if_neg (by simp)]at *
  exact U5 (L _ _ st _ hK (hA i hi) hk (Vc h))
theorem dz (O:dj c)(L:jE prog w A E s κ c S){left:Bool}{key:Va}{a:Array Va}{base n hint:Nat}{Q:Option Nat->VY->Prop}{st:VY}(hk:kindOf st=κ)(hK:S key)(hA:∀i,i<n->S (el a (base+i)))(hn:base+n<=a.size)
  (hs:SR c a base (base+n)) (hh:hint<n) (h:∀k,k<=n->(∀i,i<k->dQ c left key a base i=true)->(∀i,k<=i->i<n->dQ c left key a base i=false)->Q (some k) st) :
  wpS (model prog w) A E s (d_ left key a base n hint) Q st:=by
 rw[uH];dsimp only;have up:∀{i j},i<=j->j<n->dQ c left key a base j=true->dQ c left key a base i=true:=λh1 h2 h3=>Ee O hs h1 h2 h3;refine U5 (ia L hk hK hA hn hh ?_);dsimp only;have dn:∀{i j},i<=j->j<n->dQ c left key a base i=false->dQ c left key a base j=false:=λ{i j} h1 h2 h3=>by
  cases q:dQ c left key a base j
  ·rfl
  ·rw[up h1 h2 q]at h3;exact absurd h3 (by simp)
 cases Iz:dQ c left key a base hint with
 |true =>
  rw[if_pos rfl];refine U5 (Wv (V1 (I:=λx r aC=>aC=st/\∃be da,r=(none,be,da)/\hint+be<n/\be<da/\x+1<=da/\dQ c left key a base (hint+be)=true)
   (Q:=λr aC=>aC=st/\∃be da,r=(none,be,da)/\hint+be<n/\be<da/\dQ c left key a base (hint+be)=true/\(n-hint<=da\/(hint+da<n/\dQ c left key a base (hint+da)=false))) ?_ ?_ ?_) ?_)
  ·rintro x r aC _ hx ⟨rfl,be,da,rfl,h1,h2,h3,h4⟩;dsimp only
   by_cases hr:da >= n-hint
   ·rw[if_pos hr];exact Vc ⟨rfl,be,da,rfl,h1,h2,h4,.inl hr⟩
   ·rw[if_neg hr];refine U5 (ia L hk hK hA hn (by lia) ?_)
    dsimp only;cases hb:dQ c left key a base (hint+da)with
    |true =>
     rw[if_neg (by simp)]
     exact Vc ⟨rfl,da,_,rfl,by lia,by lia,by lia,hb⟩
    |false =>
     rw[if_pos (by simp)]
     exact Vc ⟨rfl,be,da,rfl,h1,h2,h4,.inr ⟨by lia,hb⟩⟩
  ·rintro r aC ⟨rfl,be,da,rfl,h1,h2,h3,h4⟩;exact⟨rfl,be,da,rfl,h1,h2,h4,.inl (by lia)⟩
  ·exact⟨rfl,0,1,rfl,by lia,by lia,by lia,Iz⟩
  rintro r aC ⟨e0,be,da,rfl,h1,h2,h4,h5⟩;rw[e0];dsimp only;have g1:∀i,i<hint+be+1->dQ c left key a base i=true:=λi hi=>up (j:=hint+be) (by lia) h1 h4
  have g2:∀i,hint+min da (n-hint)<=i->i<n->dQ c left key a base i=false:=λi hi fK=>by
   rcases h5 with q|⟨q1,q2⟩
   ·lia
   ·exact dn (i:=hint+da) (by lia) fK q2
  refine U5 (Wv (V1 (I:=λx r aC=>aC=st/\∃u v,r=(none,u,v)/\u<=v/\v<=n/\v-u<=n-x/\(∀i,i<u->dQ c left key a base i=true)/\(∀i,v<=i->i<n->dQ c left key a base i=false))
   (Q:=λr aC=>aC=st/\∃v,r=(none,v,v)/\v<=n/\(∀i,i<v->dQ c left key a base i=true)/\(∀i,v<=i->i<n->dQ c left key a base i=false)) ?_ ?_ ?_) ?_)
  ·rintro x r aC _ hx ⟨rfl,u,v,rfl,h1,h2,h3,h4,h5⟩;dsimp only
   by_cases Kb:u >= v
   ·rw[if_pos Kb];obtain rfl:u=v:=by lia
    exact Vc ⟨rfl,u,rfl,h2,h4,h5⟩
   ·rw[if_neg Kb];refine U5 (ia L hk hK hA hn (by lia) ?_)
    dsimp only;cases hb:dQ c left key a base (u+(v-u) / 2)with
    |true =>
     rw[if_pos rfl];exact Vc ⟨rfl,_,v,rfl,by lia,h2,by lia,λi hi=>up (j:=u+(v-u) / 2) (by lia) (by lia) hb,h5⟩
    |false =>
     rw[if_neg (by simp)]
     exact Vc ⟨rfl,u,_,rfl,by lia,by lia,by lia,h4,λi hi fK=>dn (i:=u+(v-u) / 2) (by lia) (by lia) hb⟩
  ·rintro r aC ⟨rfl,u,v,rfl,h1,h2,h3,h4,h5⟩;obtain rfl:u=v:=by lia
   exact⟨rfl,u,rfl,h2,h4,h5⟩
  ·exact⟨rfl,_,_,rfl,by lia,by lia,by lia,by assumption,by assumption⟩
  ·rintro r aC ⟨rfl,v,rfl,h2,h4,h5⟩;exact Vc (h v h2 h4 h5)
 |false =>
  rw[if_neg (by simp)]
  refine U5 (Wv (V1 (I:=λx r aC=>aC=st/\∃be da,r=(none,be,da)/\be<=hint/\be<da/\x+1<=da/\dQ c left key a base (hint-be)=false)
   (Q:=λr aC=>aC=st/\∃be da,r=(none,be,da)/\be<=hint/\be<da/\dQ c left key a base (hint-be)=false/\(hint+1<=da\/(da<=hint/\dQ c left key a base (hint-da)=true))) ?_ ?_ ?_) ?_)
  ·rintro x r aC _ hx ⟨rfl,be,da,rfl,h1,h2,h3,h4⟩;dsimp only
   by_cases hr:da >= hint+1
   ·rw[if_pos hr];exact Vc ⟨rfl,be,da,rfl,h1,h2,h4,.inl hr⟩
   ·rw[if_neg hr];refine U5 (ia L hk hK hA hn (by lia) ?_)
    dsimp only;cases hb:dQ c left key a base (hint-da)with
    |true =>
     rw[if_pos rfl];exact Vc ⟨rfl,be,da,rfl,h1,h2,h4,.inr ⟨by lia,hb⟩⟩
    |false =>
     rw[if_neg (by simp)]
     exact Vc ⟨rfl,da,_,rfl,by lia,by lia,by lia,hb⟩
  ·rintro r aC ⟨rfl,be,da,rfl,h1,h2,h3,h4⟩;exact⟨rfl,be,da,rfl,h1,h2,h4,.inl (by lia)⟩
  ·exact⟨rfl,0,1,rfl,by lia,by lia,by lia,Iz⟩
  rintro r aC ⟨e0,be,da,rfl,h1,h2,h4,h5⟩;rw[e0];dsimp only;have g1:∀i,i<hint+1-min da (hint+1)->dQ c left key a base i=true:=λi hi=>by
   rcases h5 with q|⟨q1,q2⟩
   ·lia
   ·exact up (j:=hint-da) (by lia) (by lia) q2
  have g2:∀i,hint-be<=i->i<n->dQ c left key a base i=false:=λi hi fK=>dn (i:=hint-be) hi fK h4;refine U5 (Wv (V1 (I:=λx r aC=>aC=st/\∃u v,r=(none,u,v)/\u<=v/\v<=n/\v-u<=n-x/\(∀i,i<u->dQ c left key a base i=true)/\(∀i,v<=i->i<n->dQ c left key a base i=false))
   (Q:=λr aC=>aC=st/\∃v,r=(none,v,v)/\v<=n/\(∀i,i<v->dQ c left key a base i=true)/\(∀i,v<=i->i<n->dQ c left key a base i=false)) ?_ ?_ ?_) ?_)
  ·rintro x r aC _ hx ⟨rfl,u,v,rfl,h1,h2,h3,h4,h5⟩;dsimp only
   by_cases Kb:u >= v
   ·rw[if_pos Kb];obtain rfl:u=v:=by lia
    exact Vc ⟨rfl,u,rfl,h2,h4,h5⟩
   ·rw[if_neg Kb];refine U5 (ia L hk hK hA hn (by lia) ?_)
    dsimp only;cases hb:dQ c left key a base (u+(v-u) / 2)with
    |true =>
     rw[if_pos rfl];exact Vc ⟨rfl,_,v,rfl,by lia,h2,by lia,λi hi=>up (j:=u+(v-u) / 2) (by lia) (by lia) hb,h5⟩
    |false =>
     rw[if_neg (by simp)]
     exact Vc ⟨rfl,u,_,rfl,by lia,by lia,by lia,h4,λi hi fK=>dn (i:=u+(v-u) / 2) (by lia) (by lia) hb⟩
  ·rintro r aC ⟨rfl,u,v,rfl,h1,h2,h3,h4,h5⟩;obtain rfl:u=v:=by lia
   exact⟨rfl,u,rfl,h2,h4,h5⟩
  ·exact⟨rfl,_,_,rfl,by lia,by lia,by lia,by assumption,by assumption⟩
  ·rintro r aC ⟨rfl,v,rfl,h2,h4,h5⟩;exact Vc (h v h2 h4 h5)
end
section
variable {c:Va->Va->Bool}{p q:Array Va}{t:List Va}{i j:Nat}
theorem u5 {a:Array Va}{i:Nat}(h:i<a.size):a.toList.take (i+1)=a.toList.take i++[el a i]:=by
 have e:a.toList[i]?=some (el a i):=by rw[Vh];exact iN h
 rw[ZO,e];rfl
theorem vU {a:Array Va}{i:Nat}(h:i<a.size):a.toList.drop i=el a i::a.toList.drop (i+1):=by
 have hl:i<a.toList.length:=by rw[U4];exact h
 have e:a.toList[i]=el a i:=by
  have h1:=U6 hl;rw[Vh,iN h]at h1;exact(VA h1).symm
 rw[VO hl,e]
structure Mg (c:Va->Va->Bool)(p q:Array Va)(t:List Va)(i j:Nat):Prop where
 hi:i<=p.size
 hj:j<=q.size
 perm:t.Perm (p.toList.take i++q.toList.take j)
 gC:t.Pairwise (le c)
 ap:∀x∈t,∀k,i<=k->k<p.size->le c x (el p k)
 aq:∀x∈t,∀k,j<=k->k<q.size->le c x (el q k)
def Gd (c:Va->Va->Bool)(p q:Array Va)(t:List Va):Prop:=t.Perm (p.toList++q.toList)/\t.Pairwise (le c)
theorem qw {x:Va}(h:t.Pairwise (le c))(hx:∀y∈t,le c y x):(t++[x]).Pairwise (le c):=by
 rw[List.pairwise_append];exact⟨h,List.pairwise_singleton _ _,λy hy z hz=>by rw[U9.mp hz];exact hx y hy⟩
theorem Mg.jJ (m:Mg c p q t i j)(hj:j<q.size)(sq:SR c q 0 q.size)(hle:∀k,i<=k->k<p.size->le c (el q j) (el p k)):Mg c p q (t++[el q j]) i (j+1) where
 hi:=m.hi
 hj:=hj
 perm:=by
  rw[u5 hj,<- V4];exact m.perm.append_right _
 gC:=qw m.gC λy hy=>m.aq y hy j (UU _) hj
 ap:=λx hx k h1 h2=>by
  rcases Vg.mp hx with h|h
  ·exact m.ap x h k h1 h2
  ·rw[U9.mp h];exact hle k h1 h2
 aq:=λx hx k h1 h2=>by
  rcases Vg.mp hx with h|h
  ·exact m.aq x h k (by lia) h2
  ·rw[U9.mp h];exact sq j k (by lia) (by lia) h2
theorem Mg.jK (m:Mg c p q t i j)(hi:i<p.size)(sp:SR c p 0 p.size)(hle:∀k,j<=k->k<q.size->le c (el p i) (el q k)):Mg c p q (t++[el p i]) (i+1) j where
 hi:=hi
 hj:=m.hj
 perm:=by
  rw[u5 hi];refine(m.perm.append_right _).trans ?_;rw[V4,V4];exact YH _ List.perm_append_comm
 gC:=qw m.gC λy hy=>m.ap y hy i (UU _) hi
 ap:=λx hx k h1 h2=>by
  rcases Vg.mp hx with h|h
  ·exact m.ap x h k (by lia) h2
  ·rw[U9.mp h];exact sp i k (by lia) (by lia) h2
 aq:=λx hx k h1 h2=>by
  rcases Vg.mp hx with h|h
  ·exact m.aq x h k h1 h2
  ·rw[U9.mp h];exact hle k h1 h2
theorem f9 {a:Array Va}{i k:Nat}(h:i+k<a.size):(a.toList.drop i).take (k+1)=(a.toList.drop i).take k++[el a (i+k)]:=by
 have e:(a.toList.drop i)[k]?=some (el a (i+k)):=by rw[Xu,Vh];exact iN h
 rw[ZO,e];rfl
theorem Mg.ij (m:Mg c p q t i j)(sp:SR c p 0 p.size):∀(k:Nat),i+k<=p.size->(∀x,x<k->∀y,j<=y->y<q.size->le c (el p (i+x)) (el q y))->Mg c p q (t++(p.toList.drop i).take k) (i+k) j
 |0,_,_=>by simpa using m
 |k+1,h,hle=>by
  have m':=Mg.ij m sp k (by lia) λx hx=>hle x (by lia)
  rw[f9 (by lia),<- V4,<- Nat.add_assoc]
  exact m'.jK (by lia) sp (hle k (by lia))
theorem Mg.ie (m:Mg c p q t i j)(sq:SR c q 0 q.size):∀(k:Nat),j+k<=q.size->(∀x,x<k->∀y,i<=y->y<p.size->le c (el q (j+x)) (el p y))->Mg c p q (t++(q.toList.drop j).take k) i (j+k)
 |0,_,_=>by simpa using m
 |k+1,h,hle=>by
  have m':=Mg.ie m sq k (by lia) λx hx=>hle x (by lia)
  rw[f9 (by lia),<- V4,<- Nat.add_assoc]
  exact m'.jJ (by lia) sq (hle k (by lia))
theorem Mg.full (m:Mg c p q t p.size q.size):Gd c p q t:=by
 refine⟨?_,m.gC⟩;have h:=m.perm;rw[Wo (by rw[U4];lia),Wo (by rw[U4];lia)]at h
 exact h
theorem cy (a:Array Va)(i j:Nat):(a.extract i j).toList=(a.toList.drop i).take (j-i):=by
 rw[YS,X3]
theorem sj {a:Array Va}{i j:Nat}(h:a.size<=i):(a.toList.drop i).take (j-i)=[]:=by
 rw[Yu (by rw[U4];exact h)]
 simp
theorem Mg.done {to:Array Va}(m:Mg c p q to.toList i j)(sp:SR c p 0 p.size)(sq:SR c q 0 q.size)(h:i=p.size\/j=q.size):Gd c p q (to++p.extract i p.size++q.extract j q.size).toList:=by
 rw[Wi,Wi,cy,cy];rcases h with rfl|rfl
 ·rw[sj (UU _),Wf];have m':=m.ie sq (q.size-j) (by have:=m.hj;lia) λx hx y h1 h2=>by lia
  rw[show j+(q.size-j)=q.size by have:=m.hj;lia]at m'
  exact m'.full
 ·rw[sj (a:=q) (UU _),Wf];have m':=m.ij sp (p.size-i) (by have:=m.hi;lia) λx hx y h1 h2=>by lia
  rw[show i+(p.size-i)=p.size by have:=m.hi;lia]at m'
  exact m'.full
theorem Mg.tail {to:Array Va}(O:dj c)(m:Mg c p q to.toList i j)(sp:SR c p 0 p.size)(sq:SR c q 0 q.size)(h:i+1=p.size)(hl:∀y,y<q.size->c (el q y) (el p (p.size-1))=true):Gd c p q (to++q.extract j q.size++p.extract i p.size).toList:=by
 rw[Wi,Wi,cy,cy];have m':=m.ie sq (q.size-j) (by have:=m.hj;lia) λx hx y h1 h2=>by
  rw[show y=p.size-1 by lia]
  exact O.of_lt (hl _ (by lia))
 rw[show j+(q.size-j)=q.size by have:=m.hj;lia]at m'
 have m2:=m'.ij sp (p.size-i) (by have:=m.hi;lia) λx hx y h1 h2=>by lia
 rw[show i+(p.size-i)=p.size by have:=m.hi;lia]at m2
 exact m2.full
theorem wb (to a:Array Va)(i k:Nat):(to++a.extract i (i+k)).toList=to.toList++(a.toList.drop i).take k:=by
 rw[Wi,cy,show i+k-i=k by lia]
theorem Mg.start (O:dj c)(sp:SR c p 0 p.size)(sq:SR c q 0 q.size)(hq:0<q.size)(hp:0<p.size)(h:c (el q 0) (el p 0)=true):Mg c p q [el q 0] 0 1:=by
 have m:Mg c p q [] 0 0:=⟨U7 _,U7 _,(by simp),.nil,(λx hx=>by cases hx),(λx hx=>by cases hx)⟩
 exact m.jJ hq sq λk _ hk=>O.trans (O.of_lt h) (sp 0 k (by lia) (by lia) hk)
end
structure jF (st aC:VY):Prop where
 kind:kindOf aC=kindOf st
 arr:VD aC=VD st
 pend:Vr aC=Vr st
 fail:Xy aC=Xy st
theorem jF.refl (st:VY):jF st st:=⟨rfl,rfl,rfl,rfl⟩
theorem jF.Mj {st aC:VY}(e:jF st aC)(g:Nat):jF st (lh aC g):=⟨e.kind,e.arr,e.pend,e.fail⟩
section
variable {prog:U0}{w:Vf}{A:VW}{E:UT->UW->Prop}{s:UW}{κ:Xp}{c:Va->Va->Bool}{S:Va->Prop}{p q:Array Va}
theorem tE (O:dj c)(L:jE prog w A E s κ c S){Q:Array Va->VY->Prop}{st:VY}(hk:kindOf st=κ)(Sp:∀i,i<p.size->S (el p i))(Sq:∀i,i<q.size->S (el q i))(sp:SR c p 0 p.size)(sq:SR c q 0 q.size)
  (hp:0<p.size) (hq:0<q.size) (hf:c (el q 0) (el p 0)=true) (hl:∀y,y<q.size->c (el q y) (el p (p.size-1))=true) (h:∀to aC,jF st aC->Gd c p q to.toList->Q to aC) :
  wpS (model prog w) A E s (lQ p q) Q st:=by
 rw[rl];refine U5 (YK (Xa ⟨rfl,?_⟩));dsimp only;refine U5 (aO hq ?_);have m0:Mg c p q (#[el q 0]:Array Va).toList 0 1:=Mg.start O sp sq hq hp hf
 by_cases h1:(1==q.size)=true
 ·rw[if_pos h1];exact Vc (h _ st (jF.refl st) (m0.done sp sq (.inr (by simpa using h1))))
 rw[if_neg h1]
 by_cases h2:(0+1==p.size)=true
 ·rw[if_pos h2];exact Vc (h _ st (jF.refl st) (m0.tail O sp sq (by simpa using h2) hl))
 rw[if_neg h2];refine U5 (X4 ?_);refine U5 (Wv (V1
  (I:=λx r aC=>jF st aC/\∃to i j mg,r=(none,to,i,j,mg)/\Mg c p q to.toList i j/\i+1<p.size/\j<q.size/\x<i+j)
  (Q:=λr aC=>jF st aC/\∃out r',r=(some out,r')/\Gd c p q out.toList) ?_ ?_ ?_) ?_)
 ·rintro x r aC _ hx ⟨e,to,i,j,mg,rfl,m,hi,hj,hb⟩;dsimp only;refine U5 (Wv (V1
   (I:=λy r aC=>jF st aC/\∃to i j m n,r=(none,to,i,j,m,n)/\Mg c p q to.toList i j/\i+1<p.size/\j<q.size/\x+min y 1<i+j)
   (Q:=λr aC=>jF st aC/\((∃out r',r=(some out,r')/\Gd c p q out.toList)\/∃to i j m n,r=(none,to,i,j,m,n)/\Mg c p q to.toList i j/\i+1<p.size/\j<q.size/\x+1<i+j)) ?_ ?_ ?_) ?_)
  ·rintro y r eK _ hy ⟨e2,to,i,j,ma,na,rfl,m,hi,hj,hb⟩;dsimp only;refine U5 (aO hj (U5 (aO (by lia) (U5 (L _ _ eK _ (Sq _ hj) (Sp _ (by lia)) (e2.kind.trans hk) ?_)))))
   dsimp only;cases hc:c (el q j) (el p i)with
   |true =>
    rw[if_pos rfl];refine U5 (aO hj ?_);have m1:Mg c p q (to.push (el q j)).toList i (j+1):=by
     rw[WC];exact m.jJ hj sq λk h1 h2=>O.trans (O.of_lt hc) (sp i k (by lia) h1 h2)
    by_cases e3:(j+1==q.size)=true
    ·rw[if_pos e3];exact Vc ⟨e2,.inl ⟨_,_,rfl,m1.done sp sq (.inr (by simpa using e3))⟩⟩
    rw[if_neg e3];have h3:j+1≠q.size:=by simpa using e3
    split
    ·exact Vc ⟨e2,.inr ⟨_,_,_,_,_,rfl,m1,hi,by lia,by lia⟩⟩
    ·exact Vc ⟨e2,_,_,_,_,_,rfl,m1,hi,by lia,by lia⟩
   |false =>
    rw[if_neg (by simp)]
    refine U5 (aO (by lia) ?_)
    have m1:Mg c p q (to.push (el p i)).toList (i+1) j:=by
     rw[WC];exact m.jK (by lia) sp λk h1 h2=>O.trans (show le c (el p i) (el q j) from hc) (sq j k (by lia) h1 h2)
    by_cases e3:(i+1+1==p.size)=true
    ·rw[if_pos e3];exact Vc ⟨e2,.inl ⟨_,_,rfl,m1.tail O sp sq (by simpa using e3) hl⟩⟩
    rw[if_neg e3];have h3:i+1+1≠p.size:=by simpa using e3
    split
    ·exact Vc ⟨e2,.inr ⟨_,_,_,_,_,rfl,m1,by lia,hj,by lia⟩⟩
    ·exact Vc ⟨e2,_,_,_,_,_,rfl,m1,by lia,hj,by lia⟩
  ·rintro r eK ⟨e2,to,i,j,ma,na,rfl,m,hi,hj,hb⟩;exact⟨e2,.inr ⟨_,_,_,_,_,rfl,m,hi,hj,by lia⟩⟩
  ·exact⟨e,_,_,_,_,_,rfl,m,hi,hj,by lia⟩
  rintro r eK ⟨e2,⟨out,r',rfl,g⟩|⟨to,i,j,ma,na,rfl,m,hi,hj,hb⟩⟩
  ·exact Vc ⟨e2,_,_,rfl,g⟩
  dsimp only;refine U5 (YK (Xa ⟨rfl,?_⟩));refine U5 (Wv (V1
   (I:=λy r aC=>jF st aC/\∃to i j mg m n,r=(none,to,i,j,mg,m,n)/\Mg c p q to.toList i j/\i+1<p.size/\j<q.size/\x+1<i+j)
   (Q:=λr aC=>jF st aC/\((∃out r',r=(some out,r')/\Gd c p q out.toList)\/∃to i j mg m n,r=(none,to,i,j,mg,m,n)/\Mg c p q to.toList i j/\i+1<p.size/\j<q.size/\x+1<i+j)) ?_ ?_ ?_) ?_)
  ·rintro y r eK _ hy ⟨e2,to,i,j,mg,ma,na,rfl,m,hi,hj,hb⟩;dsimp only;refine(λ(key:∀g:Nat,(?G:Nat->Prop) g)=>?main) ?key
   case main =>
    by_cases DA:mg>1
    ·rw[if_pos DA];generalize mg-1=g;exact key g
    ·rw[if_neg DA];exact key mg
   case key =>
    intro g;refine U5 (Xg ?_);have e':=λg=>e2.Mj (st:=st) g;refine U5 (aO (by lia) ?_)
    refine U5 (dz O L ((e' _).kind.trans hk) (Sq _ (by lia)) (λx hx=>Sp _ (by lia)) (by lia) (λa b h1 h2 h3=>sp a b (by lia) h2 (by lia)) (by lia) λk k1 k2 k3=>?_)
    dsimp only;have e':=e' g;have g0:∀x,x<k->le c (el p (i+x)) (el q j):=λx hx=>by
     have:=k2 x hx;unfold dQ at this;rw[if_neg (by simp),X_]at this
     exact this
    have Pp:∀y,i+k<=y->y<p.size->le c (el q j) (el p y):=λy h1 h2=>by
     have:=k3 (y-i) (by lia) (by lia)
     unfold dQ at this;rw[if_neg (by simp),Y7,show i+(y-i)=y by lia]at this
     exact O.of_lt this
    have Ma:i+k<p.size:=by
     rcases V6 (i+k) p.size with eZ|UH
     ·exact eZ
     ·have h1:=g0 (p.size-1-i) (by lia)
      rw[show i+(p.size-1-i)=p.size-1 by lia]at h1
      exact absurd ((hl j hj).symm.trans h1) (by simp)
    refine(λ(pQ:∀(t:Array Va) (a:Nat),Mg c p q t.toList a j->a+1<p.size->x+1<a+j->(∀y,a<=y->y<p.size->le c (el q j) (el p y))->(?G2:Array Va->Nat->Prop) t a)=>?zW) ?pQ
    case zW =>
     by_cases K4:k>0
     ·rw[if_pos K4];have m1:Mg c p q (to++p.extract i (i+k)).toList (i+k) j:=by
       rw[wb];exact m.ij sp k (by lia) λx hx y h1 h2=>O.trans (g0 x hx) (sq j y (by lia) h1 h2)
      obtain⟨a,ha⟩:∃a,a=i+k:=⟨_,rfl⟩;rw[<- ha]at m1 Pp Ma ⊢
      generalize to++p.extract i a=t at m1 ⊢
      by_cases e1:(a+1==p.size)=true
      ·rw[if_pos e1];exact Vc ⟨e',.inl ⟨_,_,rfl,m1.tail O sp sq (by simpa using e1) hl⟩⟩
      rw[if_neg e1];have yg:a+1≠p.size:=by simpa using e1
      rw[if_neg (by simp;lia)]
      exact pQ t a m1 (by lia) (by lia) Pp
     ·rw[if_neg K4];exact pQ to i m hi hb λy h1 h2=>Pp y (by lia) h2
    case pQ =>
     intro t a m1 hi hb g1;refine U5 (aO (by lia) ?_)
     have m2:Mg c p q (t.push (el q j)).toList a (j+1):=by
      rw[WC];exact m1.jJ hj sq g1
     by_cases e3:(j+1==q.size)=true
     ·rw[if_pos e3];exact Vc ⟨e',.inl ⟨_,_,rfl,m2.done sp sq (.inr (by simpa using e3))⟩⟩
     rw[if_neg e3];have h3:j+1≠q.size:=by simpa using e3
     refine U5 (aO (by lia) ?_)
     refine U5 (dz O L (e'.kind.trans hk) (Sp _ (by lia)) (λx hx=>Sq _ (by lia)) (by lia) (λa b h1 h2 h3=>sq a b (by lia) h2 (by lia)) (by lia) λk2 L4 N1 NZ=>?_)
     dsimp only;have Po:∀y,j+1+k2<=y->y<q.size->le c (el p a) (el q y):=λy h1 h2=>by
      have:=NZ (y-(j+1)) (by lia) (by lia)
      unfold dQ at this;rw[if_pos rfl,show j+1+(y-(j+1))=y by lia]at this
      exact this
     refine(λ(pP:∀(t':Array Va) (b:Nat),Mg c p q t'.toList a b->b<q.size->x+1<a+b->(∀y,b<=y->y<q.size->le c (el p a) (el q y))->(?G3:Array Va->Nat->Prop) t' b)=>?zV) ?pP
     case zV =>
      by_cases AH:k2>0
      ·rw[if_pos AH];have m3:Mg c p q (t.push (el q j)++q.extract (j+1) (j+1+k2)).toList a (j+1+k2):=by
        rw[wb];exact m2.ie sq k2 (by lia) λx hx y h1 h2=>O.trans (O.of_lt (show c (el q (j+1+x)) (el p a)=true from N1 x hx)) (sp _ y (by lia) h1 h2)
       obtain⟨b,me⟩:∃b,b=j+1+k2:=⟨_,rfl⟩;rw[<- me]at m3 Po ⊢
       generalize t.push (el q j)++q.extract (j+1) b=t' at m3 ⊢
       by_cases e4:(b==q.size)=true
       ·rw[if_pos e4];exact Vc ⟨e',.inl ⟨_,_,rfl,m3.done sp sq (.inr (by simpa using e4))⟩⟩
       rw[if_neg e4];have h4:b≠q.size:=by simpa using e4
       exact pP t' b m3 (by lia) (by lia) Po
      ·rw[if_neg AH];exact pP _ _ m2 (by lia) (by lia) λy h1 h2=>Po y (by lia) h2
     case pP =>
      intro t' b m3 hj hb g3;refine U5 (aO (by lia) ?_)
      have m4:Mg c p q (t'.push (el p a)).toList (a+1) b:=by
       rw[WC];exact m3.jK (by lia) sp g3
      by_cases e5:(a+1+1==p.size)=true
      ·rw[if_pos e5];exact Vc ⟨e',.inl ⟨_,_,rfl,m4.tail O sp sq (by simpa using e5) hl⟩⟩
      rw[if_neg e5];have h5:a+1+1≠p.size:=by simpa using e5
      split
      ·exact Vc ⟨e',.inr ⟨_,_,_,_,_,_,rfl,m4,by lia,by lia,by lia⟩⟩
      ·exact Vc ⟨e',_,_,_,_,_,_,rfl,m4,by lia,by lia,by lia⟩
  ·rintro r eK ⟨e2,to,i,j,mg,ma,na,rfl,m,hi,hj,hb⟩;exact⟨e2,.inr ⟨_,_,_,_,_,_,rfl,m,hi,hj,hb⟩⟩
  ·exact⟨e2,_,_,_,_,_,_,rfl,m,hi,hj,hb⟩
  rintro r eK ⟨e2,⟨out,r',rfl,g⟩|⟨to,i,j,mg,ma,na,rfl,m,hi,hj,hb⟩⟩
  ·exact Vc ⟨e2,_,_,rfl,g⟩
  dsimp only;refine U5 (Xg (Vc ⟨e2.Mj _,_,_,_,_,rfl,m,hi,hj,by lia⟩))
 ·rintro r aC ⟨e,to,i,j,mg,rfl,m,hi,hj,hb⟩
  exfalso
  rw[show max 0 (p.size+q.size)=p.size+q.size by lia]at hb
  lia
 ·exact⟨jF.refl st,_,_,_,_,rfl,m0,by simp at h2;lia,by simp at h1;lia,by lia⟩
 ·rintro r aC ⟨e,out,r',rfl,g⟩;exact Vc (h _ aC e g)
end
section
variable {c:Va->Va->Bool}{p q:Array Va}{t:List Va}{i j:Nat}
structure Mh (c:Va->Va->Bool)(p q:Array Va)(t:List Va)(i j:Nat):Prop where
 hi:i<=p.size
 hj:j<=q.size
 perm:t.Perm (p.toList.drop i++q.toList.drop j)
 gC:t.Pairwise (le c)
 ap:∀x∈t,∀k,k<i->le c (el p k) x
 aq:∀x∈t,∀k,k<j->le c (el q k) x
theorem oM {a:Array Va}{i:Nat}(h0:0<i)(h:i<=a.size):a.toList.drop (i-1)=el a (i-1)::a.toList.drop i:=by
 rw[vU (by lia),show i-1+1=i by lia]
theorem Mh.jK (m:Mh c p q t i j)(h0:0<i)(sp:SR c p 0 p.size)(hle:∀k,k<j->le c (el q k) (el p (i-1))):Mh c p q (el p (i-1)::t) (i-1) j where
 hi:=by have:=m.hi;lia
 hj:=m.hj
 perm:=by
  rw[oM h0 m.hi];exact m.perm.cons _
 gC:=Wu.mpr ⟨λx hx=>m.ap x hx _ (by lia),m.gC⟩
 ap:=λx hx k hk=>by
  rcases U1.mp hx with rfl|h
  ·exact sp k (i-1) (by lia) (by lia) (by have:=m.hi;lia)
  ·exact m.ap x h k (by lia)
 aq:=λx hx k hk=>by
  rcases U1.mp hx with rfl|h
  ·exact hle k hk
  ·exact m.aq x h k hk
theorem Mh.jJ (m:Mh c p q t i j)(h0:0<j)(sq:SR c q 0 q.size)(hle:∀k,k<i->le c (el p k) (el q (j-1))):Mh c p q (el q (j-1)::t) i (j-1) where
 hi:=m.hi
 hj:=by have:=m.hj;lia
 perm:=by
  rw[oM h0 m.hj];exact(m.perm.cons _).trans Yn.symm
 gC:=Wu.mpr ⟨λx hx=>m.aq x hx _ (by lia),m.gC⟩
 ap:=λx hx k hk=>by
  rcases U1.mp hx with rfl|h
  ·exact hle k hk
  ·exact m.ap x h k hk
 aq:=λx hx k hk=>by
  rcases U1.mp hx with rfl|h
  ·exact sq k (j-1) (by lia) (by lia) (by have:=m.hj;lia)
  ·exact m.aq x h k (by lia)
theorem nK {a:Array Va}{i k:Nat}(h0:k<i)(h:i<=a.size):(a.toList.drop (i-(k+1))).take (k+1)=el a (i-(k+1))::(a.toList.drop (i-k)).take k:=by
 rw[vU (by lia),show i-(k+1)+1=i-k by lia,List.take_succ_cons]
theorem Mh.yG (m:Mh c p q t i j)(sp:SR c p 0 p.size):∀(k:Nat),k<=i->(∀x,i-k<=x->x<i->∀y,y<j->le c (el q y) (el p x))->Mh c p q ((p.toList.drop (i-k)).take k++t) (i-k) j
 |0,_,_=>by simpa using m
 |k+1,h,hle=>by
  have m':=Mh.yG m sp k (by lia) λx h1 h2=>hle x (by lia) h2
  rw[nK (by lia) m.hi,Zr]
  exact m'.jK (by lia) sp λy hy=>hle _ (by lia) (by lia) y hy
theorem Mh.yF (m:Mh c p q t i j)(sq:SR c q 0 q.size):∀(k:Nat),k<=j->(∀x,j-k<=x->x<j->∀y,y<i->le c (el p y) (el q x))->Mh c p q ((q.toList.drop (j-k)).take k++t) i (j-k)
 |0,_,_=>by simpa using m
 |k+1,h,hle=>by
  have m':=Mh.yF m sq k (by lia) λx h1 h2=>hle x (by lia) h2
  rw[nK (by lia) m.hj,Zr]
  exact m'.jJ (by lia) sq λy hy=>hle _ (by lia) (by lia) y hy
theorem Mh.ij (m:Mh c p q t i j)(sp:SR c p 0 p.size){h:Nat}(hh:h<=i)(hle:∀x,h<=x->x<i->∀y,y<j->le c (el q y) (el p x)):Mh c p q ((p.toList.drop h).take (i-h)++t) h j:=by
 have m':=m.yG sp (i-h) (by lia) λx h1 h2=>hle x (by lia) h2
 rw[show i-(i-h)=h by lia]at m'
 exact m'
theorem Mh.ie (m:Mh c p q t i j)(sq:SR c q 0 q.size){h:Nat}(hh:h<=j)(hle:∀x,h<=x->x<j->∀y,y<i->le c (el p y) (el q x)):Mh c p q ((q.toList.drop h).take (j-h)++t) i h:=by
 have m':=m.yF sq (j-h) (by lia) λx h1 h2=>hle x (by lia) h2
 rw[show j-(j-h)=h by lia]at m'
 exact m'
theorem Mh.full (m:Mh c p q t 0 0):Gd c p q t:=⟨m.perm,m.gC⟩
theorem Jw (a b to:Array Va)(i j:Nat):(a.extract 0 i++b.extract 0 j++to.reverse).toList=(a.toList.drop 0).take (i-0)++((b.toList.drop 0).take (j-0)++to.toList.reverse):=by
 rw[Wi,Wi,cy,cy,Array.toList_reverse,V4]
theorem Mh.done {to:Array Va}(m:Mh c p q to.toList.reverse i j)(sp:SR c p 0 p.size)(sq:SR c q 0 q.size)(h:i=0\/j=0):Gd c p q (p.extract 0 i++q.extract 0 j++to.reverse).toList:=by
 rw[Jw];rcases h with rfl|rfl
 ·have m':=m.ie sq (h:=0) (U7 _) λx _ _ y hy=>by lia
  exact(m'.ij sp (h:=0) (U7 _) λx _ hx=>by lia).full
 ·have m':=m.ie sq (h:=0) (U7 _) λx _ hx=>by lia
  exact(m'.ij sp (h:=0) (U7 _) λx _ hx y hy=>by lia).full
theorem Mh.tail {to:Array Va}(O:dj c)(m:Mh c p q to.toList.reverse i j)(sp:SR c p 0 p.size)(sq:SR c q 0 q.size)(h:j=1)(hf:c (el q 0) (el p 0)=true):Gd c p q (q.extract 0 j++p.extract 0 i++to.reverse).toList:=by
 rw[Jw];subst h;have m':=m.ij sp (h:=0) (U7 _) λx _ hx y hy=>by
  obtain rfl:y=0:=by lia
  exact O.trans (O.of_lt hf) (sp 0 x (by lia) (by lia) (by have:=m.hi;lia))
 exact(m'.ie sq (h:=0) (U7 _) λx _ _ y hy=>by lia).full
theorem ip (to:Array Va)(x:Va):(to.push x).toList.reverse=x::to.toList.reverse:=by
 rw[WC,XQ];rfl
theorem v_ (to a:Array Va)(h i:Nat):(to++(a.extract h i).reverse).toList.reverse=(a.toList.drop h).take (i-h)++to.toList.reverse:=by
 rw[Wi,XQ,Array.toList_reverse,List.reverse_reverse,cy]
theorem Mh.start (sp:SR c p 0 p.size)(O:dj c)(hp:0<p.size)(hl:∀y,y<q.size->c (el q y) (el p (p.size-1))=true):Mh c p q [el p (p.size-1)] (p.size-1) q.size:=by
 have m:Mh c p q [] p.size q.size:=⟨UU _,UU _,by rw[Yu (by simp),Yu (by simp)];exact .refl _,.nil,(λx hx=>by cases hx),(λx hx=>by cases hx)⟩
 exact m.jK hp sp λk hk=>O.of_lt (hl k hk)
end
section
variable {prog:U0}{w:Vf}{A:VW}{E:UT->UW->Prop}{s:UW}{κ:Xp}{c:Va->Va->Bool}{S:Va->Prop}{p q:Array Va}
theorem tF (O:dj c)(L:jE prog w A E s κ c S){Q:Array Va->VY->Prop}{st:VY}(hk:kindOf st=κ)(Sp:∀i,i<p.size->S (el p i))(Sq:∀i,i<q.size->S (el q i))(sp:SR c p 0 p.size)(sq:SR c q 0 q.size)
  (hp:0<p.size) (hq:0<q.size) (hf:c (el q 0) (el p 0)=true) (hl:∀y,y<q.size->c (el q y) (el p (p.size-1))=true) (h:∀to aC,jF st aC->Gd c p q to.toList->Q to aC) :
  wpS (model prog w) A E s (lR p q) Q st:=by
 rw[rm];refine U5 (YK (Xa ⟨rfl,?_⟩));dsimp only;refine U5 (aO (by lia) ?_)
 have m0:Mh c p q (#[el p (p.size-1)]:Array Va).toList.reverse (p.size-1) q.size:=Mh.start sp O hp hl
 by_cases h1:(p.size-1==0)=true
 ·rw[if_pos h1];exact Vc (h _ st (jF.refl st) (m0.done sp sq (.inl (by simpa using h1))))
 rw[if_neg h1];have yg:p.size-1≠0:=by simpa using h1
 by_cases h2:(q.size==1)=true
 ·rw[if_pos h2];exact Vc (h _ st (jF.refl st) (m0.tail O sp sq (by simpa using h2) hf))
 rw[if_neg h2];have mT:q.size≠1:=by simpa using h2
 refine U5 (X4 ?_);refine U5 (Wv (V1
  (I:=λx r aC=>jF st aC/\∃i j to mg,r=(none,i,j,to,mg)/\Mh c p q to.toList.reverse i j/\0<i/\1<j/\i+j+x<p.size+q.size)
  (Q:=λr aC=>jF st aC/\∃out r',r=(some out,r')/\Gd c p q out.toList) ?_ ?_ ?_) ?_)
 ·rintro x r aC _ hx ⟨e,i,j,to,mg,rfl,m,hi,hj,hb⟩;dsimp only;refine U5 (Wv (V1
   (I:=λy r aC=>jF st aC/\∃i j to m n,r=(none,i,j,to,m,n)/\Mh c p q to.toList.reverse i j/\0<i/\1<j/\i+j+x+min y 1<p.size+q.size)
   (Q:=λr aC=>jF st aC/\((∃out r',r=(some out,r')/\Gd c p q out.toList)\/∃i j to m n,r=(none,i,j,to,m,n)/\Mh c p q to.toList.reverse i j/\0<i/\1<j/\i+j+x+1<p.size+q.size)) ?_ ?_ ?_) ?_)
  ·rintro y r eK _ hy ⟨e2,i,j,to,ma,na,rfl,m,hi,hj,hb⟩;dsimp only;have fK:=m.hi;have UD:=m.hj;refine U5 (aO (by lia) (U5 (aO (by lia) (U5 (L _ _ eK _ (Sq _ (by lia)) (Sp _ (by lia)) (e2.kind.trans hk) ?_)))))
   dsimp only;cases hc:c (el q (j-1)) (el p (i-1))with
   |true =>
    rw[if_pos rfl];refine U5 (aO (by lia) ?_)
    have m1:Mh c p q (to.push (el p (i-1))).toList.reverse (i-1) j:=by
     rw[ip];exact m.jK hi sp λk hk=>O.trans (sq k (j-1) (by lia) (by lia) (by lia)) (O.of_lt hc)
    by_cases e3:(i-1==0)=true
    ·rw[if_pos e3];exact Vc ⟨e2,.inl ⟨_,_,rfl,m1.done sp sq (.inl (by simpa using e3))⟩⟩
    rw[if_neg e3];have h3:i-1≠0:=by simpa using e3
    split
    ·exact Vc ⟨e2,.inr ⟨_,_,_,_,_,rfl,m1,by lia,hj,by lia⟩⟩
    ·exact Vc ⟨e2,_,_,_,_,_,rfl,m1,by lia,hj,by lia⟩
   |false =>
    rw[if_neg (by simp)]
    refine U5 (aO (by lia) ?_)
    have m1:Mh c p q (to.push (el q (j-1))).toList.reverse i (j-1):=by
     rw[ip];exact m.jJ (by lia) sq λk hk=>O.trans (sp k (i-1) (by lia) (by lia) (by lia)) (show le c (el p (i-1)) (el q (j-1)) from hc)
    by_cases e3:(j-1==1)=true
    ·rw[if_pos e3];exact Vc ⟨e2,.inl ⟨_,_,rfl,m1.tail O sp sq (by simpa using e3) hf⟩⟩
    rw[if_neg e3];have h3:j-1≠1:=by simpa using e3
    split
    ·exact Vc ⟨e2,.inr ⟨_,_,_,_,_,rfl,m1,hi,by lia,by lia⟩⟩
    ·exact Vc ⟨e2,_,_,_,_,_,rfl,m1,hi,by lia,by lia⟩
  ·rintro r eK ⟨e2,i,j,to,ma,na,rfl,m,hi,hj,hb⟩;exact⟨e2,.inr ⟨_,_,_,_,_,rfl,m,hi,hj,by lia⟩⟩
  ·exact⟨e,_,_,_,_,_,rfl,m,hi,hj,by lia⟩
  rintro r eK ⟨e2,⟨out,r',rfl,g⟩|⟨i,j,to,ma,na,rfl,m,hi,hj,hb⟩⟩
  ·exact Vc ⟨e2,_,_,rfl,g⟩
  dsimp only;refine U5 (YK (Xa ⟨rfl,?_⟩));refine U5 (Wv (V1
   (I:=λy r aC=>jF st aC/\∃i j to mg m n,r=(none,i,j,to,mg,m,n)/\Mh c p q to.toList.reverse i j/\0<i/\1<j/\i+j+x+1<p.size+q.size)
   (Q:=λr aC=>jF st aC/\((∃out r',r=(some out,r')/\Gd c p q out.toList)\/∃i j to mg m n,r=(none,i,j,to,mg,m,n)/\Mh c p q to.toList.reverse i j/\0<i/\1<j/\i+j+x+1<p.size+q.size)) ?_ ?_ ?_) ?_)
  ·rintro y r eK _ hy ⟨e2,i,j,to,mg,ma,na,rfl,m,hi,hj,hb⟩;dsimp only;refine(λ(key:∀g:Nat,(?G:Nat->Prop) g)=>?main) ?key
   case main =>
    by_cases DA:mg>1
    ·rw[if_pos DA];generalize mg-1=g;exact key g
    ·rw[if_neg DA];exact key mg
   case key =>
    intro g;refine U5 (Xg ?_);have e':=λg=>e2.Mj (st:=st) g;refine U5 (aO (by have:=m.hj;lia) ?_)
    refine U5 (dz O L ((e' _).kind.trans hk) (Sq _ (by have:=m.hj;lia)) (λx hx=>Sp _ (by have:=m.hi;lia)) (by have:=m.hi;lia) (λa b h1 h2 h3=>sp a b (by lia) h2 (by have:=m.hi;lia)) (by lia) λh k1 kx k3=>?_)
    dsimp only;have e':=e' g;have g0:∀x,x<h->le c (el p x) (el q (j-1)):=λx hx=>by
     have:=kx x hx;unfold dQ at this;rw[if_neg (by simp),X_,Xb]at this
     exact this
    have g5:∀x,h<=x->x<i->le c (el q (j-1)) (el p x):=λx h1 h2=>by
     have:=k3 x h1 h2;unfold dQ at this;rw[if_neg (by simp),Y7,Xb]at this
     exact O.of_lt this
    have mi:=m.hi;have mj:=m.hj;generalize hK:i-h=k;refine(λ(pQ:∀(t:Array Va) (a:Nat),Mh c p q t.toList.reverse a j->0<a->a<=i->(∀x,x<a->le c (el p x) (el q (j-1)))->(?G2:Array Va->Nat->Prop) t a)=>?zW) ?pQ
    case zW =>
     by_cases K4:k>0
     ·rw[if_pos K4];have m1:Mh c p q (to++(p.extract h i).reverse).toList.reverse h j:=by
       rw[v_];exact m.ij sp k1 λx h1 h2 y hy=>O.trans (sq y (j-1) (by lia) (by lia) (by lia)) (g5 x h1 h2)
      obtain⟨a,ha⟩:∃a,a=h:=⟨_,rfl⟩;obtain⟨t,ht⟩:∃t,t=to++(p.extract h i).reverse:=⟨_,rfl⟩;rw[<- ht]at m1 ⊢
      rw[<- ha]at m1 k1 g0 ⊢
      by_cases e1:(a==0)=true
      ·rw[if_pos e1];exact Vc ⟨e',.inl ⟨_,_,rfl,m1.done sp sq (.inl (by simpa using e1))⟩⟩
      rw[if_neg e1];have yg:a≠0:=by simpa using e1
      exact pQ t a m1 (by lia) k1 g0
     ·rw[if_neg K4];exact pQ to i m hi (UU _) λx hx=>g0 x (by lia)
    case pQ =>
     intro t a m1 hi ai g1;refine U5 (aO (by lia) ?_)
     have m2:Mh c p q (t.push (el q (j-1))).toList.reverse a (j-1):=by
      rw[ip];exact m1.jJ (by lia) sq g1
     by_cases e3:(j-1==1)=true
     ·rw[if_pos e3];exact Vc ⟨e',.inl ⟨_,_,rfl,m2.tail O sp sq (by simpa using e3) hf⟩⟩
     rw[if_neg e3];have h3:j-1≠1:=by simpa using e3
     refine U5 (aO (by lia) ?_)
     refine U5 (dz O L (e'.kind.trans hk) (Sp _ (by lia)) (λx hx=>Sq _ (by lia)) (by lia) (λa b h1 h2 h3=>sq a b (by lia) h2 (by lia)) (by lia) λh2 L4 N1 NZ=>?_)
     dsimp only;have g2:∀x,x<h2->c (el q x) (el p (a-1))=true:=λx hx=>by
      have:=N1 x hx;unfold dQ at this;rw[if_pos rfl,Xb]at this;exact this
     have g4:∀x,h2<=x->x<j-1->le c (el p (a-1)) (el q x):=λx h1 h2=>by
      have:=NZ x h1 h2;unfold dQ at this;rw[if_pos rfl,Xb]at this;exact this
     have Ta:0<h2:=by
      rcases Y5 h2 with z|z
      ·subst z;have h2:=O.trans (sp 0 (a-1) (by lia) (by lia) (by lia)) (g4 0 (UU _) (by lia))
       exact absurd (hf.symm.trans h2) (by simp)
      ·exact z
     generalize UL:j-1-h2=k2;refine(λ(pP:∀(t':Array Va) (b:Nat),Mh c p q t'.toList.reverse a b->1<b->b<=j-1->(∀k,k<b->le c (el q k) (el p (a-1)))->(?G3:Array Va->Nat->Prop) t' b)=>?zV) ?pP
     case zV =>
      by_cases AH:k2>0
      ·rw[if_pos AH];have m3:Mh c p q (t.push (el q (j-1))++(q.extract h2 (j-1)).reverse).toList.reverse a h2:=by
        rw[v_];exact m2.ie sq L4 λx h1 h2 y hy=>O.trans (sp y (a-1) (by lia) (by lia) (by lia)) (g4 x h1 h2)
       obtain⟨t',Ob⟩:∃t',t'=t.push (el q (j-1))++(q.extract h2 (j-1)).reverse:=⟨_,rfl⟩;obtain⟨b,me⟩:∃b,b=h2:=⟨_,rfl⟩;rw[<- Ob]at m3 ⊢
       rw[<- me]at m3 L4 g2 Ta ⊢
       by_cases e4:(b==1)=true
       ·rw[if_pos e4];exact Vc ⟨e',.inl ⟨_,_,rfl,m3.tail O sp sq (by simpa using e4) hf⟩⟩
       rw[if_neg e4];have h4:b≠1:=by simpa using e4
       rw[if_neg (by simp;lia)]
       exact pP t' b m3 (by lia) L4 λk hk=>O.of_lt (g2 k hk)
      ·rw[if_neg AH];exact pP _ _ m2 (by lia) (UU _) λk hk=>O.of_lt (g2 k (by lia))
     case pP =>
      intro t' b m3 hj bj g3;refine U5 (aO (by lia) ?_)
      have m4:Mh c p q (t'.push (el p (a-1))).toList.reverse (a-1) b:=by
       rw[ip];exact m3.jK (by lia) sp g3
      by_cases e5:(a-1==0)=true
      ·rw[if_pos e5];exact Vc ⟨e',.inl ⟨_,_,rfl,m4.done sp sq (.inl (by simpa using e5))⟩⟩
      rw[if_neg e5];have h5:a-1≠0:=by simpa using e5
      split
      ·exact Vc ⟨e',.inr ⟨_,_,_,_,_,_,rfl,m4,by lia,by lia,by lia⟩⟩
      ·exact Vc ⟨e',_,_,_,_,_,_,rfl,m4,by lia,by lia,by lia⟩
  ·rintro r eK ⟨e2,i,j,to,mg,ma,na,rfl,m,hi,hj,hb⟩;exact⟨e2,.inr ⟨_,_,_,_,_,_,rfl,m,hi,hj,hb⟩⟩
  ·exact⟨e2,_,_,_,_,_,_,rfl,m,hi,hj,hb⟩
  rintro r eK ⟨e2,⟨out,r',rfl,g⟩|⟨i,j,to,mg,ma,na,rfl,m,hi,hj,hb⟩⟩
  ·exact Vc ⟨e2,_,_,rfl,g⟩
  dsimp only;refine U5 (Xg (Vc ⟨e2.Mj _,_,_,_,_,rfl,m,hi,hj,by lia⟩))
 ·rintro r aC ⟨e,i,j,to,mg,rfl,m,hi,hj,hb⟩
  exfalso
  rw[show max 0 (p.size+q.size)=p.size+q.size by lia]at hb
  lia
 ·exact⟨jF.refl st,_,_,_,_,rfl,m0,by lia,by lia,by lia⟩
 ·rintro r aC ⟨e,out,r',rfl,g⟩;exact Vc (h _ aC e g)
end
section
variable {c:Va->Va->Bool}{a b:Array Va}
structure Rg (a b:Array Va)(lo hi:Nat):Prop where
 perm:b.Perm a
 out:∀k,(k<lo\/hi<=k)->el b k=el a k
theorem Rg.refl {lo hi:Nat}:Rg a a lo hi:=⟨ZG _,λ_ _=>rfl⟩
theorem Rg.trans {d:Array Va}{lo hi:Nat}(x:Rg a b lo hi)(y:Rg b d lo hi):Rg a d lo hi:=⟨y.perm.trans x.perm,λk h=>(y.out k h).trans (x.out k h)⟩
theorem Rg.mono {lo hi EO fK:Nat}(x:Rg a b lo hi)(h1:EO<=lo)(h2:hi<=fK):Rg a b EO fK:=⟨x.perm,λk h=>x.out k (by lia)⟩
theorem Rg.size {lo hi:Nat}(x:Rg a b lo hi):b.size=a.size:=x.perm.size_eq
theorem SR.congr {lo hi:Nat}(h:SR c a lo hi)(e:∀k,lo<=k->k<hi->el b k=el a k):SR c b lo hi:=λi j h1 h2 h3=>by
 rw[e i h1 (by lia),e j (by lia) h3]
 exact h i j h1 h2 h3
def NI (c:Va->Va->Bool)(a:Array Va)(lo hi:Nat):Prop:=∀i j,lo<=i->i<=j->j<hi->le c (el a j) (el a i)
theorem cf {i j:Nat}(hj:j<=a.size)(k:Nat):el (mirror a i j ((j-i) / 2)) k=if i<=k/\k<j then el a (i+j-1-k) else el a k:=by
 have e:=getElem?_mirror_all (i:=i) hj k
 by_cases h:i<=k/\k<j
 ·rw[if_pos h]at e ⊢
  exact dO e
 ·rw[if_neg h]at e ⊢
  exact dO e
theorem eR {i j:Nat}(hj:j<=a.size):Rg a (mirror a i j ((j-i) / 2)) i j:=⟨mirror_perm _ _ _ _,λk h=>by rw[cf hj,if_neg (by lia)]⟩
theorem n9 {i j:Nat}(hj:j<=a.size)(h:NI c a i j):SR c (mirror a i j ((j-i) / 2)) i j:=λx y h1 h2 h3=>by
 rw[cf hj,cf hj,if_pos (by lia),if_pos (by lia)]
 exact h _ _ (by lia) (by lia) (by lia)
theorem jl {lo i j:Nat}(L_:lo<=i)(hj:j<=a.size)(h:NI c a lo j)(he:∀x y,i<=x->x<j->i<=y->y<j->le c (el a x) (el a y)):NI c (mirror a i j ((j-i) / 2)) lo j:=λx y h1 h2 h3=>by
 rw[cf hj,cf hj]
 by_cases hx:i<=x/\x<j
 ·rw[if_pos hx,if_pos (by lia)]
  exact he _ _ (by lia) (by lia) (by lia) (by lia)
 ·rw[if_neg hx]
  by_cases hy:i<=y/\y<j
  ·rw[if_pos hy];exact h _ _ (by lia) (by lia) (by lia)
  ·rw[if_neg hy];exact h _ _ h1 h2 h3
theorem SR.snoc {lo n:Nat}(O:dj c)(h:SR c a lo (lo+n))(h1:0<n)(hn:le c (el a (lo+n-1)) (el a (lo+n))):SR c a lo (lo+(n+1)):=λi j h2 h3 h4=>by
 by_cases hj:j<lo+n
 ·exact h i j h2 h3 hj
 ·obtain rfl:j=lo+n:=by lia
  by_cases hi:i<lo+n
  ·exact O.trans (h i (lo+n-1) h2 (by lia) (by lia)) hn
  ·obtain rfl:i=lo+n:=by lia
   exact O.refl _
theorem NI.snoc {lo n:Nat}(O:dj c)(h:NI c a lo (lo+n))(h1:0<n)(hn:le c (el a (lo+n)) (el a (lo+n-1))):NI c a lo (lo+(n+1)):=λi j h2 h3 h4=>by
 by_cases hj:j<lo+n
 ·exact h i j h2 h3 hj
 ·obtain rfl:j=lo+n:=by lia
  by_cases hi:i<lo+n
  ·exact O.trans hn (h i (lo+n-1) h2 (by lia) (by lia))
  ·obtain rfl:i=lo+n:=by lia
   exact O.refl _
theorem SR.one {lo:Nat}(O:dj c):SR c a lo (lo+1):=λi j h1 h2 h3=>by
 obtain rfl:i=j:=by lia
 exact O.refl _
end
structure jD (κ:Xp)(a₀:Array Va)(st:VY):Prop where
 kind:kindOf st=κ
 fail:Xy st=none
 perm:(VD st).Perm a₀
section
variable {prog:U0}{w:Vf}{A:VW}{E:UT->UW->Prop}{s:UW}{κ:Xp}{c:Va->Va->Bool}{a₀:Array Va}
theorem jD.size {st:VY}(h:jD κ a₀ st):(VD st).size=a₀.size:=h.perm.size_eq
theorem jD.mem {st:VY}(h:jD κ a₀ st){i:Nat}(hi:i<a₀.size):el (VD st) i∈a₀.toList:=by
 have h1:i<(VD st).size:=by rw[h.size];exact hi
 refine(Xk.mp h.perm).mem_iff.mp ?_;have:=iN h1;rw[<- Vh]at this;exact VJ this
theorem jD.set {st:VY}{b:Array Va}{lo hi:Nat}(h:jD κ a₀ st)(r:Rg (VD st) b lo hi):jD κ a₀ (Wc st b):=⟨h.kind,h.fail,r.perm.trans h.perm⟩
theorem o4 (L:jE prog w A E s κ c (·∈a₀.toList)){st:VY}{i j:Nat}{Q:Option Bool->VY->Prop}(h:jD κ a₀ st)(hi:i<a₀.size)(hj:j<a₀.size)(q:Q (some (c (el (VD st) i) (el (VD st) j))) st):
  wpS (model prog w) A E s (ltAt' i j) Q st:=by
 rw[ltAt'_eq];refine U5 (X4 ?_);exact U5 (aO (by rw[h.size];exact hi) (U5 (aO (by rw[h.size];exact hj) (L _ _ st Q (h.mem hi) (h.mem hj) h.kind q))))
theorem h_ (L:jE prog w A E s κ c (·∈a₀.toList)){st:VY}{b:Array Va}{i j lo hi:Nat}{Q:Option Bool->VY->Prop}(h:jD κ a₀ st)(R:Rg (VD st) b lo hi)(hi:i<a₀.size)(hj:j<a₀.size)(q:Q (some (c (el b i) (el b j))) (Wc st b)):
  wpS (model prog w) A E s (ltAt' i j) Q (Wc st b):=o4 L (h.set R) hi hj q
theorem h8 {st:VY}{i j:Nat}{Q:Unit->VY->Prop}(q:Q () (Wc st (mirror (VD st) i j ((j-i) / 2)))):wpS (model prog w) A E s (reverseSlice' i j) Q st:=by
 rw[reverseSlice'_eq];exact Xg q
theorem yt (O:dj c)(L:jE prog w A E s κ c (·∈a₀.toList)){st:VY}{lo eP:Nat}{Q:Option Nat->VY->Prop}(h0:jD κ a₀ st)(h1:1<=eP)(hn:lo+eP<=a₀.size)
  (h:∀n b,1<=n->n<=eP->Rg (VD st) b lo (lo+eP)->SR c b lo (lo+n)->Q (some n) (Wc st b)):wpS (model prog w) A E s (countRun' lo eP) Q st:=by
 rw[countRun'_eq];dsimp only;refine U5 (Wv (V1 (I:=λx r aC=>aC=st/\∃n,r=(none,n)/\n=x/\SR c (VD st) lo (lo+n))
  (Q:=λr aC=>aC=st/\∃n,r=(none,n)/\1<=n/\n<=eP/\SR c (VD st) lo (lo+n)/\(n=eP\/(n<eP/\c (el (VD st) (lo+n)) (el (VD st) (lo+n-1))=true))) ?_ ?_ ?_) ?_)
 ·rintro x r aC EW hx ⟨rfl,n,rfl,rfl,hs⟩;dsimp only;refine U5 (o4 L h0 (by lia) (by lia) ?_)
  dsimp only;cases hc:c (el (VD aC) (lo+n)) (el (VD aC) (lo+n-1))with
  |true =>
   rw[if_pos rfl];exact Vc ⟨rfl,n,rfl,EW,by lia,hs,.inr ⟨by lia,hc⟩⟩
  |false =>
   rw[if_neg (by simp)]
   exact Vc ⟨rfl,n+1,rfl,rfl,hs.snoc O EW hc⟩
 ·rintro r aC ⟨rfl,n,rfl,hx,hs⟩;exact⟨rfl,n,rfl,by lia,by lia,hs,.inl (by lia)⟩
 ·exact⟨rfl,1,rfl,rfl,SR.one O⟩
 rintro r aC ⟨e0,n,rfl,QT,Iu,hs,hc⟩;rw[e0];dsimp only
 by_cases ON:(n==eP)=true
 ·rw[if_pos ON];exact Vc (h n (VD st) QT Iu Rg.refl hs)
 rw[if_neg ON];have SV:n≠eP:=by simpa using ON
 have hc:c (el (VD st) (lo+n)) (el (VD st) (lo+n-1))=true:=by
  rcases hc with q|q
  ·lia
  ·exact q.2
 refine(λ(key:∀b,Rg (VD st) b lo (lo+eP)->NI c b lo (lo+(n+1))->wpS (model prog w) A E s ?cont Q (Wc st b))=>?main) ?key
 case main =>
  by_cases h2:n>1
  ·rw[if_pos h2];refine U5 (o4 L h0 (by lia) (by lia) ?_)
   dsimp only;cases hr:c (el (VD st) lo) (el (VD st) (lo+n-1))with
   |true =>
    rw[if_pos rfl];exact Vc (h n (VD st) QT Iu Rg.refl hs)
   |false =>
    rw[if_neg (by simp)]
    refine U5 (h8 ?_);have hz:lo+n<=(VD st).size:=by have:=h0.size;lia
    have R0:Rg (VD st) (mirror (VD st) lo (lo+n) ((lo+n-lo) / 2)) lo (lo+eP):=(eR hz).mono (UU _) (by lia)
    have all:∀u v,lo<=u->u<lo+n->lo<=v->v<lo+n->le c (el (VD st) u) (el (VD st) v):=λu v h1 h2 h3 h4 =>
     O.trans (hs u (lo+n-1) h1 (by lia) (by lia)) (O.trans hr (hs lo v (UU _) h3 h4))
    have N0:NI c (mirror (VD st) lo (lo+n) ((lo+n-lo) / 2)) lo (lo+(n+1)):=by
     refine NI.snoc O (jl (UU _) hz (λu v h1 h2 h3=>all v u (by lia) (by lia) h1 (by lia)) λu v h1 h2 h3 h4=>all u v h1 h2 h3 h4) (by lia) ?_
     rw[cf hz,cf hz,if_neg (by lia),if_pos (by lia)]
     exact O.trans (O.of_lt hc) (all _ _ (by lia) (by lia) (by lia) (by lia))
    exact key _ R0 N0
  ·rw[if_neg h2];have N0:NI c (VD st) lo (lo+(n+1)):=NI.snoc O (λu v h1 h2 h3=>by
    obtain rfl:u=v:=by lia
    exact O.refl _) (by lia) (O.of_lt hc)
   show wpS _ _ _ _ _ Q (Wc st (VD st));exact key _ Rg.refl N0
 case key =>
  intro b0 R0 N0;refine U5 (YK (Xa ⟨rfl,?_⟩));refine U5 (Wv (V1 (I:=λx r aC=>∃b n jN,aC=Wc st b/\r=(none,n,jN)/\n=x/\Rg (VD st) b lo (lo+eP)/\NI c b lo (lo+n)/\jN<n/\(∀u v,lo+n-1-jN<=u->u<lo+n->lo+n-1-jN<=v->v<lo+n->le c (el b u) (el b v)))
   (Q:=λr aC=>∃b n jN,aC=Wc st b/\r=(none,n,jN)/\1<=n/\n<=eP/\Rg (VD st) b lo (lo+eP)/\NI c b lo (lo+n)/\jN<n/\(∀u v,lo+n-1-jN<=u->u<lo+n->lo+n-1-jN<=v->v<lo+n->le c (el b u) (el b v))) ?_ ?_ ?_) ?_)
  ·rintro x r aC EW hx ⟨b,n',jN,rfl,rfl,rfl,R,N,hq,he⟩;dsimp only;refine U5 (h_ L h0 R (by lia) (by lia) ?_)
   dsimp only;cases iX:c (el b (lo+n')) (el b (lo+n' - 1))with
   |true =>
    rw[if_pos rfl]
    by_cases AD:jN>0
    ·rw[if_pos AD];refine U5 (h8 (Vc ?_));have hz:lo+n'<=b.size:=by have:=R.size;have:=h0.size;lia
     refine⟨mirror b (lo+n' - (jN+1)) (lo+n') ((lo+n' - (lo+n' - (jN+1))) / 2),n'+1,0,rfl,rfl,rfl,R.trans ((eR hz).mono (by lia) (by lia)),?_,by lia,?_⟩
     ·refine NI.snoc O (jl (by lia) hz N λu v h1 h2 h3 h4=>he u v (by lia) h2 (by lia) h4) (by lia) ?_
      rw[cf hz,cf hz,if_neg (by lia),if_pos (by lia)]
      exact O.trans (O.of_lt iX) (he _ _ (by lia) (by lia) (by lia) (by lia))
     ·intro u v h1 h2 h3 h4;obtain rfl:u=v:=by lia
      exact O.refl _
    ·rw[if_neg AD];refine Vc ⟨b,n'+1,0,rfl,rfl,rfl,R,N.snoc O (by lia) (O.of_lt iX),by lia,?_⟩
     intro u v h1 h2 h3 h4;obtain rfl:u=v:=by lia
     exact O.refl _
   |false =>
    rw[if_neg (by simp)]
    refine U5 (h_ L h0 R (by lia) (by lia) ?_)
    dsimp only;cases mR:c (el b (lo+n' - 1)) (el b (lo+n'))with
    |true =>
     rw[if_pos rfl];exact Vc ⟨b,n',jN,rfl,rfl,by lia,by lia,R,N,hq,he⟩
    |false =>
     rw[if_neg (by simp)]
     refine Vc ⟨b,n'+1,jN+1,rfl,rfl,rfl,R,N.snoc O (by lia) mR,by lia,?_⟩
     have hl:∀u,lo+n' - 1-jN<=u->u<lo+(n'+1)->le c (el b u) (el b (lo+n'))/\le c (el b (lo+n')) (el b u):=λu h1 h2=>by
      by_cases hu:u<lo+n'
      ·exact⟨O.trans (he u (lo+n' - 1) h1 hu (by lia) (by lia)) iX,O.trans mR (he (lo+n' - 1) u (by lia) (by lia) h1 hu)⟩
      ·obtain rfl:u=lo+n':=by lia
       exact⟨O.refl _,O.refl _⟩
     intro u v h1 h2 h3 h4;exact O.trans (hl u (by lia) h2).1 (hl v (by lia) h4).2
  ·rintro r aC ⟨b,n',jN,rfl,rfl,hx,R,N,hq,he⟩;exact⟨b,n',jN,rfl,rfl,by lia,by lia,R,N,hq,he⟩
  ·refine⟨_,n+1,0,rfl,rfl,rfl,R0,N0,by lia,?_⟩
   intro u v h1 h2 h3 h4;obtain rfl:u=v:=by lia
   exact O.refl _
  rintro r aC ⟨b,n',jN,rfl,rfl,SX,SW,RB,NB,hq,he⟩;dsimp only
  by_cases AD:jN>0
  ·rw[if_pos AD];refine U5 (h8 ?_);have hz:lo+n'<=b.size:=by have:=RB.size;have:=h0.size;lia
   have NB:=jl (c:=c) (i:=lo+n' - (jN+1)) (by lia) hz NB λu v h1 h2 h3 h4=>he u v (by lia) h2 (by lia) h4
   have RB:=RB.trans ((eR (i:=lo+n' - (jN+1)) hz).mono (by lia) (by lia:lo+n'<=lo+eP))
   show wpS _ _ _ _ _ Q (Wc st (mirror b (lo+n' - (jN+1)) (lo+n') ((lo+n' - (lo+n' - (jN+1))) / 2)));generalize mirror b (lo+n' - (jN+1)) (lo+n') ((lo+n' - (lo+n' - (jN+1))) / 2)=b1 at NB RB;refine U5 (h8 ?_);have R2:Rg (VD st) (mirror b1 lo (lo+n') ((lo+n' - lo) / 2)) lo (lo+eP):=RB.trans ((eR (by have:=RB.size;have:=h0.size;lia)).mono (UU _) (by lia))
   have S2:SR c (mirror b1 lo (lo+n') ((lo+n' - lo) / 2)) lo (lo+n'):=n9 (by have:=RB.size;have:=h0.size;lia) NB
   show wpS _ _ _ _ _ Q (Wc st (mirror b1 lo (lo+n') ((lo+n' - lo) / 2)));generalize mirror b1 lo (lo+n') ((lo+n' - lo) / 2)=b2 at R2 S2;refine U5 (Wv (V1 (I:=λx r aC=>aC=Wc st b2/\∃m,r=(none,m)/\m=x/\SR c b2 lo (lo+m))
    (Q:=λr aC=>aC=Wc st b2/\∃m,r=(none,m)/\1<=m/\m<=eP/\SR c b2 lo (lo+m)) ?_ ?_ ?_) ?_)
   ·rintro x r aC EW hx ⟨rfl,m,rfl,rfl,hs⟩;dsimp only;refine U5 (h_ L h0 R2 (by lia) (by lia) ?_)
    dsimp only;cases hc:c (el b2 (lo+m)) (el b2 (lo+m-1))with
    |true =>
     rw[if_pos rfl];exact Vc ⟨rfl,m,rfl,by lia,by lia,hs⟩
    |false =>
     rw[if_neg (by simp)]
     exact Vc ⟨rfl,m+1,rfl,rfl,hs.snoc O (by lia) hc⟩
   ·rintro r aC ⟨rfl,m,rfl,hx,hs⟩;exact⟨rfl,m,rfl,by lia,by lia,hs⟩
   ·exact⟨rfl,n',rfl,rfl,S2⟩
   rintro r aC ⟨rfl,m,rfl,OS,HC,hs⟩;exact Vc (h m b2 OS HC R2 hs)
  ·rw[if_neg AD];refine U5 (h8 ?_);have R2:Rg (VD st) (mirror b lo (lo+n') ((lo+n' - lo) / 2)) lo (lo+eP):=RB.trans ((eR (by have:=RB.size;have:=h0.size;lia)).mono (UU _) (by lia))
   have S2:SR c (mirror b lo (lo+n') ((lo+n' - lo) / 2)) lo (lo+n'):=n9 (by have:=RB.size;have:=h0.size;lia) NB
   show wpS _ _ _ _ _ Q (Wc st (mirror b lo (lo+n') ((lo+n' - lo) / 2)));generalize mirror b lo (lo+n') ((lo+n' - lo) / 2)=b2 at R2 S2;refine U5 (Wv (V1 (I:=λx r aC=>aC=Wc st b2/\∃m,r=(none,m)/\m=x/\SR c b2 lo (lo+m))
    (Q:=λr aC=>aC=Wc st b2/\∃m,r=(none,m)/\1<=m/\m<=eP/\SR c b2 lo (lo+m)) ?_ ?_ ?_) ?_)
   ·rintro x r aC EW hx ⟨rfl,m,rfl,rfl,hs⟩;dsimp only;refine U5 (h_ L h0 R2 (by lia) (by lia) ?_)
    dsimp only;cases hc:c (el b2 (lo+m)) (el b2 (lo+m-1))with
    |true =>
     rw[if_pos rfl];exact Vc ⟨rfl,m,rfl,by lia,by lia,hs⟩
    |false =>
     rw[if_neg (by simp)]
     exact Vc ⟨rfl,m+1,rfl,rfl,hs.snoc O (by lia) hc⟩
   ·rintro r aC ⟨rfl,m,rfl,hx,hs⟩;exact⟨rfl,m,rfl,by lia,by lia,hs⟩
   ·exact⟨rfl,n',rfl,rfl,S2⟩
   rintro r aC ⟨rfl,m,rfl,OS,HC,hs⟩;exact Vc (h m b2 OS HC R2 hs)
end
section
variable {c:Va->Va->Bool}{a:Array Va}
theorem jw {src d:Nat}(hs:src<a.size)(hd:d<=src)(k:Nat):el (bubble a src d) k=if k=src-d then el a src else if src-d<k/\k<=src then el a (k-1) else el a k:=by
 have e:=getElem?_bubble hs d hd k
 by_cases h1:k=src-d
 ·rw[if_pos h1]at e ⊢
  exact dO e
 ·rw[if_neg h1]at e ⊢
  by_cases h2:src-d<k/\k<=src
  ·rw[if_pos h2]at e ⊢
   exact dO e
  ·rw[if_neg h2]at e ⊢
   exact dO e
theorem xV {lo k l:Nat}(O:dj c)(hk:lo+k<a.size)(hl:l<=k)(h:SR c a lo (lo+k))(h1:∀i,i<l->le c (el a (lo+i)) (el a (lo+k)))(h2:∀i,l<=i->i<k->le c (el a (lo+k)) (el a (lo+i))):
  SR c (bubble a (lo+k) (lo+k-(lo+l))) lo (lo+(k+1)):=λi j g1 g2 g3=>by
 rw[jw hk (by lia),jw hk (by lia),show lo+k-(lo+k-(lo+l))=lo+l by lia]
 have q1:∀i,lo<=i->i<lo+l->le c (el a i) (el a (lo+k)):=λi x y=>by
  have:=h1 (i-lo) (by lia)
  rwa [show lo+(i-lo)=i by lia]at this
 have q2:∀i,lo+l<=i->i<lo+k->le c (el a (lo+k)) (el a i):=λi x y=>by
  have:=h2 (i-lo) (by lia) (by lia)
  rwa [show lo+(i-lo)=i by lia]at this
 by_cases ei:i=lo+l
 ·rw[if_pos ei]
  by_cases ej:j=lo+l
  ·rw[if_pos ej];exact O.refl _
  ·rw[if_neg ej,if_pos (by lia)]
   exact q2 _ (by lia) (by lia)
 ·rw[if_neg ei]
  by_cases ej:j=lo+l
  ·rw[if_pos ej,if_neg (by lia)]
   exact q1 _ (by lia) (by lia)
  ·rw[if_neg ej]
   by_cases fi:lo+l<i/\i<=lo+k
   ·rw[if_pos fi,if_pos (by lia)]
    exact h _ _ (by lia) (by lia) (by lia)
   ·rw[if_neg fi]
    by_cases fj:lo+l<j/\j<=lo+k
    ·rw[if_pos fj];exact h _ _ (by lia) (by lia) (by lia)
    ·rw[if_neg fj];exact h _ _ (by lia) (by lia) (by lia)
theorem xW {src d:Nat}(hs:src<a.size)(hd:d<=src):Rg a (bubble a src d) (src-d) (src+1):=⟨bubble_perm _ _ _,λk h=>by
 rw[jw hs hd,if_neg (by lia),if_neg (by lia)]⟩
end
section
variable {prog:U0}{w:Vf}{A:VW}{E:UT->UW->Prop}{s:UW}{κ:Xp}{c:Va->Va->Bool}{a₀:Array Va}
theorem Fs (O:dj c)(L:jE prog w A E s κ c (·∈a₀.toList)){st:VY}{lo n ok:Nat}{Q:Bool->VY->Prop}(h0:jD κ a₀ st)(br:ok<=n)(h1:1<=n)(hn:lo+n<=a₀.size)(hs:SR c (VD st) lo (lo+ok))
  (h:∀b,Rg (VD st) b lo (lo+n)->SR c b lo (lo+n)->Q true (Wc st b)):wpS (model prog w) A E s (binarySort' lo n ok) Q st:=by
 rw[binarySort'_eq];refine U5 (Wv (V1 (I:=λk r aC=>r=(none,())/\k<=n/\∃b,aC=Wc st b/\Rg (VD st) b lo (lo+n)/\SR c b lo (lo+k))
  (Q:=λr aC=>r=(none,())/\∃b,aC=Wc st b/\Rg (VD st) b lo (lo+n)/\SR c b lo (lo+n)) ?_ ?_ ?_) ?_)
 ·rintro k r aC Iv hk ⟨rfl,_,b,rfl,R,uC⟩;dsimp only;have hz:b.size=a₀.size:=R.size.trans h0.size;refine U5 (Wv (V1 (I:=λx r aC=>aC=Wc st b/\∃l u,r=(none,l,u)/\l<=u/\u<=k/\u-l<=k-x/\(∀i,i<l->le c (el b (lo+i)) (el b (lo+k)))/\(∀i,u<=i->i<k->le c (el b (lo+k)) (el b (lo+i))))
   (Q:=λr aC=>aC=Wc st b/\∃l,r=(none,l,l)/\l<=k/\(∀i,i<l->le c (el b (lo+i)) (el b (lo+k)))/\(∀i,l<=i->i<k->le c (el b (lo+k)) (el b (lo+i)))) ?_ ?_ ?_) ?_)
  ·rintro x r aC _ hx ⟨rfl,l,u,rfl,g1,g2,g3,g4,g5⟩;dsimp only
   by_cases QU:l >= u
   ·rw[if_pos QU];obtain rfl:l=u:=by lia
    exact Vc ⟨rfl,l,rfl,g2,g4,g5⟩
   ·rw[if_neg QU];refine U5 (h_ L h0 R (by lia) (by lia) ?_)
    dsimp only;cases hc:c (el b (lo+k)) (el b (lo+(l+u) / 2))with
    |true =>
     rw[if_pos rfl];exact Vc ⟨rfl,l,_,rfl,by lia,by lia,by lia,g4,λi h1 h2=>O.trans (O.of_lt hc) (uC _ _ (by lia) (by lia) (by lia))⟩
    |false =>
     rw[if_neg (by simp)]
     exact Vc ⟨rfl,_,u,rfl,by lia,by lia,by lia,λi h1=>O.trans (uC _ _ (by lia) (by lia) (by lia)) (show le c (el b (lo+(l+u) / 2)) (el b (lo+k)) from hc),g5⟩
  ·rintro r aC ⟨rfl,l,u,rfl,g1,g2,g3,g4,g5⟩;obtain rfl:l=u:=by lia
   exact⟨rfl,l,rfl,g2,g4,g5⟩
  ·exact⟨rfl,0,k,rfl,U7 _,UU _,by lia,λi hi=>by lia,λi h1 h2=>by lia⟩
  rintro r aC ⟨rfl,l,rfl,g2,g4,g5⟩;dsimp only;rw[moveDown'_eq];refine U5 (Xg (Vc ⟨rfl,by lia,_,rfl,R.trans ((xW (a:=b) (by lia) (by lia)).mono (by lia) (by lia)),xV (a:=b) O (by lia) g2 uC g4 g5⟩))
 ·rintro r aC ⟨rfl,hx,b,rfl,R,uC⟩;rw[show max (max ok 1) n=n by lia]at uC
  exact⟨rfl,b,rfl,R,uC⟩
 ·refine⟨rfl,by lia,VD st,rfl,Rg.refl,?_⟩
  by_cases h2:ok=0
  ·subst h2;exact SR.one O
  ·rw[show max ok 1=ok by lia]
   exact hs
 ·rintro r aC ⟨rfl,b,rfl,R,uC⟩;exact Vc (h b R uC)
theorem rO (base:Nat):∀(l:List Va) (off:Nat) (a:Array Va),base+off+l.length<=a.size->∀k:Nat,
  ((l.zipIdx off).foldl (λx (z:Va×Nat)=>x.setIfInBounds (base+z.2) z.1) a)[k]?=if base+off<=k/\k<base+off+l.length then l[k-(base+off)]? else a[k]?
 |[],off,a,_,k=>by
  rw[if_neg (by rw[List.length_nil];lia)]
  rfl
 |x::l,off,a,h,k=>by
  rw[Vd]at h;rw[Zq,XM,rO base l (off+1) _ (by rw[Yh];lia)]
  by_cases h1:base+(off+1)<=k/\k<base+(off+1)+l.length
  ·rw[if_pos h1,if_pos (by rw[Vd];lia),show k-(base+off)=k-(base+(off+1))+1 by lia,Xv]
  ·rw[if_neg h1,Array.getElem?_setIfInBounds]
   by_cases h2:base+off=k
   ·subst h2;rw[if_pos rfl,if_pos (by lia),if_pos (by rw[Vd];lia),XA]
    rfl
   ·rw[if_neg h2,if_neg (by rw[Vd];lia)]
def BQ (a:Array Va)(base:Nat)(l:List Va):Array Va:=l.zipIdx.foldl (λx (z:Va×Nat)=>x.setIfInBounds (base+z.2) z.1) a
theorem oZ {a:Array Va}{base:Nat}{l:List Va}(h:base+l.length<=a.size)(k:Nat):(BQ a base l)[k]?=if base<=k/\k<base+l.length then l[k-base]? else a[k]?:=rO base l 0 a h k
theorem yq {a:Array Va}{base:Nat}{l:List Va}(h:base+l.length<=a.size):(BQ a base l).toList=a.toList.take base++(l++a.toList.drop (base+l.length)):=by
 apply WB;intro k;rw[Vh,oZ h];have hz:a.toList.length=a.size:=U4
 by_cases h1:base<=k/\k<base+l.length
 ·rw[if_pos h1,VR (by rw[Vl];lia),Vl,Wh (by lia)]
  congr 1
  lia
 ·rw[if_neg h1]
  by_cases h2:k<base
  ·rw[Wh (by rw[Vl];lia),Xr h2,Vh]
  ·rw[VR (by rw[Vl];lia),Vl,VR (by lia),Xu,Vh]
   congr 1
   lia
theorem FR (a:Array Va)(base m:Nat):a.toList=a.toList.take base++((a.toList.drop base).take m++a.toList.drop (base+m)):=by
 have h1:=(Ws base a.toList).symm;have h2:=(Ws m (a.toList.drop base)).symm;rw[List.drop_drop]at h2;rw[<- h2];exact h1
theorem Fp {a:Array Va}{base:Nat}{l:List Va}(h:base+l.length<=a.size)(hp:l.Perm ((a.toList.drop base).take l.length)):Rg a (BQ a base l) base (base+l.length) where
 perm:=by
  rw[Xk,yq h];refine List.Perm.trans ?_ (YC (FR a base l.length).symm);exact YH _ (hp.append_right _)
 out:=λk hk=>dO (by rw[oZ h,if_neg (by lia)])
end
section
variable {prog:U0}{w:Vf}{A:VW}{E:UT->UW->Prop}{s:UW}{κ:Xp}{c:Va->Va->Bool}{a₀:Array Va}
theorem BV {σ:Type}{M:Model}{Q:PUnit->σ->Prop}{st aC:σ}(h:Q ⟨⟩ aC):wpS M A E s (set aC:StateT σ Sem PUnit) Q st:=by
 unfold wpS;rw[StateT.run_set];exact UY ⟨rfl,h⟩
theorem uN {a:Array Va}{lo hi i:Nat}(h:i<hi-lo)(hh:hi<=a.size):el (a.extract lo hi) i=el a (lo+i) :=
 dO (by rw[Array.getElem?_extract,if_pos (by lia)])
theorem mC {a:Array Va}{lo hi:Nat}(hh:hi<=a.size):(a.extract lo hi).size=hi-lo:=by
 rw[Array.size_extract];lia
theorem vA {a:Array Va}{lo hi:Nat}(hh:hi<=a.size){z:Va}(h:z∈(a.extract lo hi).toList):∃u,lo<=u/\u<hi/\z=el a u:=by
 obtain⟨i,fK⟩:=YR h;rw[Vh]at fK;have eZ:i<(a.extract lo hi).size:=by
  rcases V6 i (a.extract lo hi).size with q|q
  ·exact q
  ·rw[WG q]at fK;cases fK
 rw[mC hh]at eZ;exact⟨lo+i,by lia,by lia,by rw[<- uN eZ hh,vT fK]⟩
theorem tG (O:dj c)(L:jE prog w A E s κ c (·∈a₀.toList)){st:VY}{i sa na pw sb nb Nz:Nat}{Q:Bool->VY->Prop}(h0:jD κ a₀ st)(p1:(Vr st)[i]?=some (sa,na,pw))(p2:(Vr st)[i+1]?=some (sb,nb,Nz))
  (uC:sb=sa+na) (Uz:1<=na) (Uy:1<=nb) (hz:sb+nb<=a₀.size) (s1:SR c (VD st) sa sb) (s2:SR c (VD st) sb (sb+nb))
  (h:∀aC,kindOf aC=κ->Xy aC=none->Vr aC=((Vr st).setIfInBounds i (sa,na+nb,pw)).eraseIdxIfInBounds (i+1)->Rg (VD st) (VD aC) sa (sb+nb)->SR c (VD aC) sa (sb+nb)->Q true aC) :
  wpS (model prog w) A E s (mergeAt' i) Q st:=by
 rw[rp];refine U5 (X4 ?_);rw[p1,p2];dsimp only;refine U5 (BV ?_);have hsz:=h0.size;have hm:∀{j},j<a₀.size->el (VD st) j∈a₀.toList:=λhj=>h0.mem hj;generalize ha:VD st=a at *
 have wy:kindOf (XE st (((Vr st).setIfInBounds i (sa,na+nb,pw)).eraseIdxIfInBounds (i+1)))=κ:=h0.kind;have FO:Xy (XE st (((Vr st).setIfInBounds i (sa,na+nb,pw)).eraseIdxIfInBounds (i+1)))=none:=h0.fail;have FP:VD (XE st (((Vr st).setIfInBounds i (sa,na+nb,pw)).eraseIdxIfInBounds (i+1)))=a:=ha;have Jd:Vr (XE st (((Vr st).setIfInBounds i (sa,na+nb,pw)).eraseIdxIfInBounds (i+1)))=((Vr st).setIfInBounds i (sa,na+nb,pw)).eraseIdxIfInBounds (i+1):=rfl;generalize hP:((Vr st).setIfInBounds i (sa,na+nb,pw)).eraseIdxIfInBounds (i+1)=P at *
 generalize XE st P=Je at *
 refine U5 (aO (by lia) ?_)
 refine U5 (dz O L wy (hm (by lia)) (λx hx=>hm (by lia)) (by lia) (λx y h1 h2 h3=>s1 x y h1 h2 (by lia)) (by lia) λk k1 k2 k3=>?_)
 dsimp only;have g0:∀x,sa<=x->x<sa+k->le c (el a x) (el a sb):=λx h1 h2=>by
  have:=k2 (x-sa) (by lia)
  unfold dQ at this;rw[if_neg (by simp),X_,show sa+(x-sa)=x by lia]at this
  exact this
 by_cases e1:(na-k==0)=true
 ·rw[if_pos e1];have e1:na-k=0:=by simpa using e1
  refine Vc (h Je wy FO Jd (by rw[FP];exact Rg.refl) ?_)
  rw[FP];intro x y h1 h2 h3
  by_cases hx:x<sb
  ·by_cases hy:y<sb
   ·exact s1 x y h1 h2 hy
   ·exact O.trans (g0 x h1 (by lia)) (s2 sb y (UU _) (by lia) h3)
  ·exact s2 x y (by lia) h2 h3
 rw[if_neg e1];have e1:na-k≠0:=by simpa using e1
 have g1:c (el a sb) (el a (sa+k))=true:=by
  have:=k3 k (UU _) (by lia)
  unfold dQ at this;rw[if_neg (by simp),Y7]at this
  exact this
 refine U5 (aO (by lia) ?_)
 refine U5 (dz O L wy (hm (by lia)) (λx hx=>hm (by lia)) (by lia) (λx y h1 h2 h3=>s2 x y h1 h2 (by lia)) (by lia) λm m1 m2 m3=>?_)
 dsimp only;rw[show sa+k+(na-k)-1=sb-1 by lia]at m2 m3
 have g2:∀x,sb<=x->x<sb+m->c (el a x) (el a (sb-1))=true:=λx h1 h2=>by
  have:=m2 (x-sb) (by lia)
  unfold dQ at this;rw[if_pos rfl,show sb+(x-sb)=x by lia]at this
  exact this
 have g3:∀x,sb+m<=x->x<sb+nb->le c (el a (sb-1)) (el a x):=λx h1 h2=>by
  have:=m3 (x-sb) (by lia) (by lia)
  unfold dQ at this;rw[if_pos rfl,show sb+(x-sb)=x by lia]at this
  exact this
 by_cases e2:(m==0)=true
 ·exfalso
  have e2:m=0:=by simpa using e2
  have:=O.trans (s1 (sa+k) (sb-1) (by lia) (by lia) (by lia)) (g3 sb (by lia) (by lia))
  exact absurd (g1.symm.trans this) (by simp)
 rw[if_neg e2];have e2:m≠0:=by simpa using e2
 have zx:(a.extract (sa+k) sb).size=sb-(sa+k):=mC (by lia)
 have zy:(a.extract sb (sb+m)).size=m:=by rw[mC (by lia)];lia
 have ex:∀{t},t<sb-(sa+k)->el (a.extract (sa+k) sb) t=el a (sa+k+t):=λht=>uN ht (by lia)
 have ey:∀{t},t<m->el (a.extract sb (sb+m)) t=el a (sb+t):=λht=>uN (by lia) (by lia)
 have fin:∀(out:Array Va) (eK:VY),jF Je eK->Gd c (a.extract (sa+k) sb) (a.extract sb (sb+m)) out.toList ->
   wpS (model prog w) A E s (do
    modify λs2=>Wc s2 (out.toList.zipIdx.foldl (λx z=>match z with|(p,j)=>x.setIfInBounds (sa+k+j) p) (VD s2))
    let y <- get
    pure (Xy y).isNone:StateT VY Sem Bool) Q eK:=by
  rintro out eK e ⟨gp,gs⟩;refine U5 (Xg (U5 (X4 (Vc ?_))));show Q (Xy eK).isNone (Wc eK (BQ (VD eK) (sa+k) out.toList));rw[e.fail,FO,e.arr,FP];have zo:out.toList.length=sb-(sa+k)+m:=by
   rw[gp.length_eq,Vu,U4,U4,zx,zy]
  have hb:sa+k+out.toList.length<=a.size:=by lia
  have xy:(a.toList.drop (sa+k)).take out.toList.length=(a.extract (sa+k) sb).toList++(a.extract sb (sb+m)).toList:=by
   rw[cy,cy,zo,show sb+m-sb=m by lia,List.take_add,List.drop_drop,show sa+k+(sb-(sa+k))=sb by lia]
  have R:Rg a (BQ a (sa+k) out.toList) (sa+k) (sa+k+out.toList.length):=Fp hb (by rw[xy];exact gp)
  refine h _ (e.kind.trans wy) (e.fail.trans FO) (e.pend.trans Jd) (R.mono (by lia) (by lia)) ?_
  show SR c (BQ a (sa+k) out.toList) sa (sb+nb);have HB:∀t,sa+k<=t->t<sb+m->∃z,out.toList[t-(sa+k)]?=some z/\el (BQ a (sa+k) out.toList) t=z/\((∃u,sa+k<=u/\u<sb/\z=el a u)\/∃u,sb<=u/\u<sb+m/\z=el a u):=by
   intro t h1 h2;have hl:t-(sa+k)<out.toList.length:=by lia
   refine⟨out.toList[t-(sa+k)],U6 hl,vT (by rw[oZ hb,if_pos (by lia)];exact U6 hl),?_⟩
   have gR:=gp.mem_iff.mp (W9 hl);rcases Vg.mp gR with q|q
   ·exact .inl (vA (by lia) q)
   ·exact .inr (vA (by lia) q)
  have Rc:∀t,t<sa+k->el (BQ a (sa+k) out.toList) t=el a t:=λt ht=>R.out t (.inl ht);have Mm:∀t,sb+m<=t->el (BQ a (sa+k) out.toList) t=el a t:=λt ht=>R.out t (.inr (by lia))
  intro x y h1 h2 h3
  by_cases hx:x<sa+k
  ·rw[Rc x hx]
   by_cases hy:y<sa+k
   ·rw[Rc y hy];exact s1 x y h1 h2 (by lia)
   ·by_cases N8:y<sb+m
    ·obtain⟨z,_,ez,N6⟩:=HB y (by lia) N8
     rw[ez];rcases N6 with⟨u,u1,u2,rfl⟩|⟨u,u1,u2,rfl⟩
     ·exact s1 x u h1 (by lia) u2
     ·exact O.trans (g0 x h1 hx) (s2 sb u (UU _) u1 (by lia))
    ·rw[Mm y (by lia)]
     exact O.trans (g0 x h1 hx) (s2 sb y (UU _) (by lia) h3)
  ·by_cases Ka:x<sb+m
   ·obtain⟨z,iz,ez,N6⟩:=HB x (by lia) Ka
    rw[ez]
    by_cases N8:y<sb+m
    ·obtain⟨z',Sz,Pw,_⟩:=HB y (by lia) N8
     rw[Pw]
     by_cases J9:x=y
     ·subst J9;rw[ez]at Pw;rw[Pw];exact O.refl _
     ·obtain⟨q1,q2⟩:=U3.mp iz;obtain⟨q3,q4⟩:=U3.mp Sz;have:=X1.mp gs _ _ q1 q3 (by lia)
      rw[q2,q4]at this;exact this
    ·rw[Mm y (by lia)]
     rcases N6 with⟨u,u1,u2,rfl⟩|⟨u,u1,u2,rfl⟩
     ·exact O.trans (s1 u (sb-1) (by lia) (by lia) (by lia)) (g3 y (by lia) h3)
     ·exact s2 u y (by lia) (by lia) h3
   ·rw[Mm x (by lia),Mm y (by lia)]
    exact s2 x y (by lia) h2 h3
 have go:∀(out:Array Va) (eK:VY),jF Je eK->Gd c (a.extract (sa+k) sb) (a.extract sb (sb+m)) out.toList->wpS (model prog w) A E s (do
    modify λs2=>Wc s2 (out.toList.zipIdx.foldl (λx z=>match z with|(p,j)=>x.setIfInBounds (sa+k+j) p) (VD s2))
    let y <- get
    pure (Xy y).isNone:StateT VY Sem Bool) Q eK:=fin
 have QM:0<(a.extract (sa+k) sb).size:=by lia
 have QL:0<(a.extract sb (sb+m)).size:=by lia
 have Sx:∀t,t<(a.extract (sa+k) sb).size->el (a.extract (sa+k) sb) t∈a₀.toList:=λt ht=>by rw[ex (by lia)];exact hm (by lia)
 have Sy:∀t,t<(a.extract sb (sb+m)).size->el (a.extract sb (sb+m)) t∈a₀.toList:=λt ht=>by rw[ey (by lia)];exact hm (by lia)
 have Qh:SR c (a.extract (sa+k) sb) 0 (a.extract (sa+k) sb).size:=λx y h1 h2 h3=>by
  rw[ex (by lia),ex (by lia)]
  exact s1 _ _ (by lia) (by lia) (by lia)
 have Qg:SR c (a.extract sb (sb+m)) 0 (a.extract sb (sb+m)).size:=λx y h1 h2 h3=>by
  rw[ey (by lia),ey (by lia)]
  exact s2 _ _ (by lia) (by lia) (by lia)
 have hf:c (el (a.extract sb (sb+m)) 0) (el (a.extract (sa+k) sb) 0)=true:=by
  rw[ex (by lia),ey (by lia)]
  exact g1
 have hl:∀y,y<(a.extract sb (sb+m)).size->c (el (a.extract sb (sb+m)) y) (el (a.extract (sa+k) sb) ((a.extract (sa+k) sb).size-1))=true:=λy hy=>by
  rw[ey (by lia),ex (by lia),show sa+k+((a.extract (sa+k) sb).size-1)=sb-1 by lia]
  exact g2 _ (by lia) (by lia)
 by_cases e3:na-k<=m
 ·rw[if_pos e3];exact U5 (tE O L wy Sx Sy Qh Qg QM QL hf hl go)
 ·rw[if_neg e3];exact U5 (tF O L wy Sx Sy Qh Qg QM QL hf hl go)
end
section
variable {c:Va->Va->Bool}{a b:Array Va}
def Runs (c:Va->Va->Bool)(a:Array Va):List (Nat×Nat×Nat)->Nat->Nat->Prop
 |[],lo,hi=>lo=hi
 |z::r,lo,hi=>z.1=lo/\1<=z.2.1/\SR c a lo (lo+z.2.1)/\Runs c a r (lo+z.2.1) hi
theorem Runs.app:∀{l r:List (Nat×Nat×Nat)} {lo hi:Nat},Runs c a (l++r) lo hi->∃m,Runs c a l lo m/\Runs c a r m hi
 |[],r,lo,hi,h=>⟨lo,rfl,h⟩
 |z::l,r,lo,hi,⟨h1,h2,h3,h4⟩=>by
  obtain⟨m,g1,g2⟩:=Runs.app h4;exact⟨m,⟨h1,h2,h3,g1⟩,g2⟩
theorem Runs.join:∀{l r:List (Nat×Nat×Nat)} {lo m hi:Nat},Runs c a l lo m->Runs c a r m hi->Runs c a (l++r) lo hi
 |[],r,lo,m,hi,h,g=>by
  obtain rfl:lo=m:=h;exact g
 |z::l,r,lo,m,hi,⟨h1,h2,h3,h4⟩,g=>⟨h1,h2,h3,Runs.join h4 g⟩
theorem Runs.len:∀{l:List (Nat×Nat×Nat)} {lo hi:Nat},Runs c a l lo hi->lo+l.length<=hi
 |[],lo,hi,h=>Nat.le_of_eq h
 |z::l,lo,hi,⟨h1,h2,h3,h4⟩=>by
  have:=Runs.len h4;rw[Vd];lia
theorem Runs.congr:∀{l:List (Nat×Nat×Nat)} {lo hi:Nat},Runs c a l lo hi->(∀k,lo<=k->k<hi->el b k=el a k)->Runs c b l lo hi
 |[],lo,hi,h,_=>h
 |z::l,lo,hi,⟨h1,h2,h3,h4⟩,e=>by
  have hl:=Runs.len h4;exact⟨h1,h2,h3.congr λk g1 g2=>e k g1 (by lia),Runs.congr h4 λk g1 g2=>e k (by lia) g2⟩
theorem Runs.pow:∀{l l':List (Nat×Nat×Nat)} {lo hi:Nat},Runs c a l lo hi->l'.map (λz=>(z.1,z.2.1))=l.map (λz=>(z.1,z.2.1))->Runs c a l' lo hi
 |[],[],_,_,h,_=>h
 |[],z::l',_,_,_,e=>by cases e
 |z::l,[],_,_,_,e=>by cases e
 |z::l,z'::l',lo,hi,⟨h1,h2,h3,h4⟩,e=>by
  rw[Vo,Vo]at e;injection e with e1 e2
  injection e1 with e3 e4
  exact⟨e3.trans h1,by rw[e4];exact h2,by rw[e4];exact h3,by rw[e4];exact Runs.pow h4 e2⟩
end
section
variable {prog:U0}{w:Vf}{A:VW}{E:UT->UW->Prop}{s:UW}{κ:Xp}{c:Va->Va->Bool}{a₀:Array Va}
theorem FT {α:Type}{l:List α}{i:Nat}(h:i+1<l.length):∃l1 x y l2,l=l1++x::y::l2/\l1.length=i:=by
 refine⟨l.take i,l[i],l[i+1],l.drop (i+2),?_,by rw[Vl];lia⟩
 rw[<- VO h,<- VO (by lia),Ws]
theorem nG (O:dj c)(L:jE prog w A E s κ c (·∈a₀.toList)){st:VY}{i hi:Nat}{Q:Bool->VY->Prop}(h0:jD κ a₀ st)(hr:Runs c (VD st) (Vr st).toList 0 hi)(hh:hi<=a₀.size)(Q3:i+1<(Vr st).size)
  (h:∀aC,jD κ a₀ aC->Rg (VD st) (VD aC) 0 hi->Runs c (VD aC) (Vr aC).toList 0 hi->(Vr aC).size+1=(Vr st).size->Q true aC) :
  wpS (model prog w) A E s (mergeAt' i) Q st:=by
 obtain⟨l1,⟨sa,na,pw⟩,⟨sb,nb,Nz⟩,l2,el,hl⟩:=FT (l:=(Vr st).toList) (i:=i) (by rw[U4];exact Q3)
 rw[el]at hr;obtain⟨m,r1,r2⟩:=hr.app;obtain⟨x1,x2,x3,y1,y2,y3,r3⟩:=r2;dsimp only at x1 x2 x3 y1 y2 y3 r3;have hlen:=r3.len;have QV:=r1.len;have p1:(Vr st)[i]?=some (sa,na,pw):=by
  rw[<- Vh,el,VR (by lia),hl,XA]
  rfl
 have p2:(Vr st)[i+1]?=some (sb,nb,Nz):=by
  rw[<- Vh,el,VR (by lia),hl,show i+1-i=1 by lia]
  rfl
 subst x1;refine tG O L h0 p1 p2 y1 x2 y2 (by lia) (by rw[y1];exact x3) (by rw[y1];exact y3) λaC k1 k2 k3 R S=>?_
 have ep:(Vr aC).toList=l1++(sa,na+nb,pw)::l2:=by
  rw[k3];have hz:i+1<((Vr st).setIfInBounds i (sa,na+nb,pw)).size:=by rw[Yh];exact Q3
  have e1:(((Vr st).setIfInBounds i (sa,na+nb,pw)).eraseIdxIfInBounds (i+1)).toList=((Vr st).toList.set i (sa,na+nb,pw)).eraseIdx (i+1):=by
   unfold Array.eraseIdxIfInBounds;rw[dif_pos hz,Array.toList_eraseIdx,Array.toList_setIfInBounds]
  rw[e1,el,<- hl,List.set_append_right _ _ (UU _),XA,List.set_cons_zero,List.eraseIdx_append_of_length_le (by lia),show l1.length+1-l1.length=1 by lia]
  rfl
 have out:∀k,(k<sa\/sb+nb<=k)->TS.el (VD aC) k=TS.el (VD st) k:=R.out;refine h aC ⟨k1,k2,R.perm.trans h0.perm⟩ (R.mono (U7 _) (by lia)) ?_ ?_
 ·rw[ep];refine Runs.join (r1.congr λk g1 g2=>out k (.inl (by lia))) ⟨rfl,by show 1<=na+nb;lia,?_,?_⟩
  ·show SR c (VD aC) sa (sa+(na+nb));rw[show sa+(na+nb)=sb+nb by lia]
   exact S
  ·show Runs c (VD aC) l2 (sa+(na+nb)) hi;rw[show sa+(na+nb)=sa+na+nb by lia]
   exact r3.congr λk g1 g2=>out k (.inr (by lia))
 ·have e2:(Vr aC).size=l1.length+(l2.length+1):=by rw[<- U4,ep,Vu,Vd]
  have e3:(Vr st).size=l1.length+(l2.length+1+1):=by rw[<- U4,el,Vu,Vd,Vd]
  lia
theorem lP:∀(f n r:Nat),1<=n->1<=minRun' f n r
 |0,n,r,h=>by show 1<=n+r;lia
 |f+1,n,r,h=>by
  rw[minRun'_succ]
  split
  ·lia
  ·exact lP f _ _ (by lia)
theorem Cy (p:Array (Nat×Nat×Nat))(i w:Nat):(p.modify i λx=>(x.1,x.2.1,w)).toList.map (λz=>(z.1,z.2.1))=p.toList.map (λz=>(z.1,z.2.1)):=by
 apply WB;intro k;rw[U8,U8,Vh,Vh,Array.getElem?_modify]
 split
 ·rw[Option.map_map];rfl
 ·rfl
theorem qm (O:dj c)(L:jE prog w A E s κ c (·∈a₀.toList)){st:VY}{Q:Unit->VY->Prop}(h0:jD κ a₀ st)(hp:Vr st=#[])(h2:2<=a₀.size)
  (h:∀aC,jD κ a₀ aC->SR c (VD aC) 0 a₀.size->Q () aC):wpS (model prog w) A E s sortRuns' Q st:=by
 rw[sortRuns'_eq];refine U5 (X4 ?_);dsimp only;rw[h0.size];have SY:=lP a₀.size a₀.size 0 (by lia)
 generalize minRun' a₀.size a₀.size 0=mr at SY;refine U5 (Wv (V1 (I:=λx r aC=>jD κ a₀ aC/\∃lo,r=(none,lo)/\lo<=a₀.size/\(a₀.size<=lo\/x<=lo)/\Runs c (VD aC) (Vr aC).toList 0 lo)
  (Q:=λr aC=>jD κ a₀ aC/\r=(none,a₀.size)/\Runs c (VD aC) (Vr aC).toList 0 a₀.size) ?_ ?_ ?_) ?_)
 ·rintro x r aC _ hx ⟨hS,lo,rfl,L_,S4,hr⟩;dsimp only
  by_cases hl:lo >= a₀.size
  ·rw[if_pos hl];obtain rfl:lo=a₀.size:=by lia
   exact Vc ⟨hS,rfl,hr⟩
  rw[if_neg hl];refine U5 (yt O L hS (by lia) (by lia) λn b n1 n2 R Sb=>?_)
  dsimp only;have td:jD κ a₀ (Wc aC b):=hS.set R;have pT:Runs c (VD (Wc aC b)) (Vr (Wc aC b)).toList 0 lo:=Runs.congr (b:=b) hr λk q1 q2=>R.out k (.inl q2);refine(λ(key:∀(N:Nat) (stx:VY),1<=N->lo+N<=a₀.size->Runs c (VD stx) (Vr stx).toList 0 lo->jD κ a₀ stx->SR c (VD stx) lo (lo+N)->(?G:Nat->VY->Prop) N stx)=>?main) ?key
  case main =>
   by_cases QS:n<mr
   ·rw[if_pos QS];refine U5 (YK (Xa ⟨rfl,?_⟩));refine U5 (Fs O L td (by lia) (by lia) (by lia) Sb λb' R' T4=>?_)
    rw[if_neg (by simp)]
    have Mi:1<=min (a₀.size-lo) mr:=by lia
    have Pj:lo+min (a₀.size-lo) mr<=a₀.size:=by lia
    have pT:Runs c (VD (Wc (Wc aC b) b')) (Vr (Wc (Wc aC b) b')).toList 0 lo:=Runs.congr (b:=b') pT λk q1 q2=>R'.out k (.inl q2);have td:jD κ a₀ (Wc (Wc aC b) b'):=td.set R';have Fg:SR c (VD (Wc (Wc aC b) b')) lo (lo+(min (a₀.size-lo) mr)):=T4;generalize Wc (Wc aC b) b'=stx at pT td Fg ⊢
    generalize min (a₀.size-lo) mr=N at Mi Pj Fg ⊢
    exact key N stx Mi Pj pT td Fg
   ·rw[if_neg QS];have Fg:SR c (VD (Wc aC b)) lo (lo+n):=Sb;exact key n _ n1 (by lia) pT td Fg
  case key =>
   intro N stx Mi Pj pT td Fg;refine U5 (X4 ?_);have LD:∀(k6:VY),jD κ a₀ k6->SR c (VD k6) lo (lo+N)->Runs c (VD k6) (Vr k6).toList 0 lo->jD κ a₀ (XE k6 ((Vr k6).push (lo,N,0)))/\∃EO,((none,lo+N):Option Unit×Nat)=(none,EO)/\EO<=a₀.size/\(a₀.size<=EO\/x+1<=EO)/\Runs c (VD k6) ((Vr k6).push (lo,N,0)).toList 0 EO:=λk6 g1 g2 g3 =>
    ⟨⟨g1.kind,g1.fail,g1.perm⟩,_,rfl,by lia,by lia,by rw[WC];exact g3.join ⟨rfl,Mi,g2,rfl⟩⟩
   cases hb:(Vr stx).back? with
   |none =>
    dsimp only;exact U5 (Xg (Vc (LD stx td Fg pT)))
   |some z =>
    obtain⟨s1,n1,p1⟩:=z;dsimp only;refine U5 (Wv (V1 (I:=λx r aC=>r=(none,())/\jD κ a₀ aC/\SR c (VD aC) lo (lo+N)/\Runs c (VD aC) (Vr aC).toList 0 lo)
     (Q:=λr aC=>r=(none,())/\jD κ a₀ aC/\SR c (VD aC) lo (lo+N)/\Runs c (VD aC) (Vr aC).toList 0 lo) ?_ ?_ ?_) ?_)
    ·rintro y r k6 _ _ ⟨rfl,g1,g2,g3⟩;refine U5 (X4 ?_)
     by_cases KZ:(Vr k6).size>1
     ·rw[if_pos KZ];cases hq:(Vr k6)[(Vr k6).size-2]? with
      |none =>
       dsimp only;exact Vc ⟨rfl,g1,g2,g3⟩
      |some z =>
       obtain⟨u,v,Qw⟩:=z;dsimp only
       split
       ·exact Vc ⟨rfl,g1,g2,g3⟩
       ·refine U5 (nG O L g1 g3 (by lia) (by lia) λFN f1 f2 f3 f4=>?_)
        exact Vc ⟨rfl,f1,g2.congr λk q1 q2=>f2.out k (.inr q1),f3⟩
     ·rw[if_neg KZ];dsimp only;exact Vc ⟨rfl,g1,g2,g3⟩
    ·rintro r k6 ⟨rfl,g1,g2,g3⟩;exact⟨rfl,g1,g2,g3⟩
    ·exact⟨rfl,td,Fg,pT⟩
    rintro r k6 ⟨rfl,g1,g2,g3⟩;dsimp only;refine U5 (Xg (U5 (Xg (Vc ?_))));exact LD (XE k6 _) ⟨g1.kind,g1.fail,g1.perm⟩ g2 (g3.pow (Cy _ _ _))
 ·rintro r aC ⟨hS,lo,rfl,L_,S4,hr⟩;obtain rfl:lo=a₀.size:=by lia
  exact⟨hS,rfl,hr⟩
 ·exact⟨h0,0,rfl,U7 _,.inr (UU _),by rw[hp];rfl⟩
 rintro r aC ⟨hS,rfl,hr⟩;dsimp only;refine U5 (Wv (V1 (I:=λx r aC=>r=(none,())/\jD κ a₀ aC/\Runs c (VD aC) (Vr aC).toList 0 a₀.size/\((Vr aC).size<=1\/(Vr aC).size+x<=a₀.size))
  (Q:=λr aC=>r=(none,())/\jD κ a₀ aC/\Runs c (VD aC) (Vr aC).toList 0 a₀.size/\(Vr aC).size<=1) ?_ ?_ ?_) ?_)
 ·rintro x r eK _ hx ⟨rfl,td,pT,hz⟩;refine U5 (X4 ?_)
  by_cases h1:(Vr eK).size<=1
  ·rw[if_pos h1];exact Vc ⟨rfl,td,pT,h1⟩
  rw[if_neg h1];refine U5 (nG O L td pT (UU _) ?_ λk6 Tr R3 SK Uu=>?_)
  ·split
   ·split <;> lia
   ·rw[if_neg (by simp)]
    lia
  ·exact Vc ⟨rfl,Tr,SK,.inr (by lia)⟩
 ·rintro r eK ⟨rfl,td,pT,hz⟩;exact⟨rfl,td,pT,by lia⟩
 ·refine⟨rfl,hS,hr,.inr ?_⟩;have:=hr.len;rw[U4]at this;lia
 ·rintro r eK ⟨rfl,td,pT,hz⟩;refine Vc (h eK td ?_)
  match hq:(Vr eK).toList,pT with
  |[],e=>
   have:(0:Nat)=a₀.size:=e;lia
  |[z],e =>
   obtain⟨e1,e2,e3,e4⟩:=e;have e4:0+z.2.1=a₀.size:=e4;rw[e4]at e3;exact e3
  |z::y::l,e =>
   have:(Vr eK).toList.length<=1:=by rw[U4];exact hz
   rw[hq]at this;simp at this
end
theorem lex_nil {y:List Int}:HT.lexLt [] y=decide (0<y.length):=by cases y <;> rfl
theorem iG {a b:Int}{x y:List Int}:HT.lexLt (a::x) (b::y)=if a=b then HT.lexLt x y else decide (a<b):=rfl
theorem rA:∀{x y:List Int},HT.lexLt x y=true->HT.lexLt y x=false
 |[],[],_=>rfl
 |[],_::_,_=>rfl
 |_::_,[],h=>by cases h
 |a::x,b::y,h=>by
  rw[iG]at h ⊢
  by_cases e:a=b
  ·rw[if_pos e]at h;rw[if_pos e.symm];exact rA h
  ·rw[if_neg e]at h;rw[if_neg λz=>e z.symm];have:=of_decide_eq_true h;exact decide_eq_false (by lia)
theorem vC:∀{x z:List Int} (y:List Int),HT.lexLt x z=true->HT.lexLt x y=true\/HT.lexLt y z=true
 |[],[],_,h=>by cases h
 |[],_::_,[],h=>.inr rfl
 |[],_::_,_::_,h=>.inl rfl
 |_::_,[],_,h=>by cases h
 |a::x,b::z,[],h=>.inr rfl
 |a::x,b::z,d::y,h=>by
  rw[iG]at h ⊢
  rw[iG]
  by_cases e:a=b
  ·subst e;rw[if_pos rfl]at h
   by_cases e2:a=d
   ·subst e2;rw[if_pos rfl,if_pos rfl];exact vC y h
   ·rw[if_neg e2,if_neg λq=>e2 q.symm]
    by_cases e3:a<d
    ·exact .inl (decide_eq_true e3)
    ·exact .inr (decide_eq_true (by lia))
  ·rw[if_neg e]at h;have h:=of_decide_eq_true h
   by_cases e2:a=d
   ·subst e2;rw[if_neg e];exact .inr (decide_eq_true h)
   ·rw[if_neg e2]
    by_cases e3:a<d
    ·exact .inl (decide_eq_true e3)
    ·rw[if_neg (by lia)]
     exact .inr (decide_eq_true (by lia))
def byKey (kf:UT->List Int)(x y:Va):Bool:=HT.lexLt (kf x.1) (kf y.1)
theorem CI (kf:UT->List Int):dj (byKey kf):=⟨λ_ _ h=>rA h,λ_ y _ h=>vC (kf y.1) h⟩
section
variable {prog:U0}{w:Vf}{A:VW}{E:UT->UW->Prop}{s:UW}
theorem rq {b:Bool}{Q:Bool->UW->Prop}:∀{ns ms:List Int} {us vs:List UT} (i:Nat),Yv us ns->Yv vs ms->Q (HT.lexLt ns ms) s->PySem.W.KatLex prog w A b (decide (ns.length<ms.length)) Q (us.zip vs) i s
 |[],ms,us,vs,i,hu,hv,q=>by
  cases hu;rw[Zg];rw[lex_nil]at q;exact PySem.W.kat_nil q
 |n::ns,[],us,vs,i,hu,hv,q=>by
  cases hv;rw[List.zip_nil_right];exact PySem.W.kat_nil q
 |n::ns,m::ms,us,vs,i,hu,hv,q=>by
  cases hu with
  |cons _ t hu =>
   cases hv with
   |cons _ t' hv =>
    rw[XX];refine PySem.W.kat_cons (wpAny_eqBool_int ?_);rw[iG]at q
    by_cases e:n=m
    ·subst e;rw[if_pos rfl]at q;rw[beq_self_eq_true];have:=rq (b:=b) (Q:=Q) (i+1) hu hv q;rw[show decide ((n::ns).length<(n::ms).length)=decide (ns.length<ms.length) by rw[Vd,Vd];congr 1;simp]
     exact PySem.W.kat_yes this
    ·rw[if_neg e]at q;rw[show (n==m)=false from beq_eq_false_iff_ne.mpr e]
     refine PySem.W.kat_no ?_;cases b&&i==0 with
     |true=>exact oneLt_int q
     |false=>exact PySem.W.kat_one _ _ (lt_int q)
def nD (h:Heap)(kf:UT->List Int)(a:Addr)(vs:List UT):Prop :=
 ∀v∈vs,∃t o xs k,v=.ref t/\t≠a/\h.get? t=some o/\o.cls=.type "tuple" /\ o.data=.seq xs k/\Yv xs.toList (kf v)/\kf v≠[]
theorem xj {kf:UT->List Int}{a:Addr}{vs:List UT}{b:Bool}{a₀:Array Va}(T:nD s.heap kf a vs)(hm:∀z∈a₀.toList,z.1∈vs):jE prog w A E s (tuples' b) (byKey kf) (·∈a₀.toList):=by
 intro x y st Q hx hy hk q;obtain⟨t,o,xs,n,e1,_,e2,_,e3,e4,_⟩:=T _ (hm _ hx);obtain⟨t',o',MH,n',f1,_,f2,_,f3,f4,_⟩:=T _ (hm _ hy);rw[lt'_eq];refine U5 (X4 ?_);rw[hk,e1,f1];have z1:xs.size=(kf x.1).length:=by rw[<- U4];exact e4.length
 have z2:MH.size=(kf y.1).length:=by rw[<- U4];exact f4.length
 refine U5 (YK (Yc (PySem.W.kat_lt e2 e3 f2 f3 ?_)));rw[z1,z2];exact rq 0 e4 f4 ⟨rfl,Vc q⟩
theorem kS {kf:UT->List Int}{a:Addr}{h:Heap}:∀{vs:List UT},nD h kf a vs->∃fs:List UT,PySem.W.KatTups h vs fs/\fs.length=vs.length/\∀f∈fs,∃n t,f=Value.int n t
 |[],_=>⟨[],trivial,rfl,λf hf=>by cases hf⟩
 |v::vs,T=>by
  obtain⟨fs,h1,h2,h3⟩:=kS (vs:=vs) λu hu=>T u (Vi _ hu);obtain⟨t,o,xs,k,rfl,_,e2,e3,e4,e5,e6⟩:=T v Vs;obtain⟨f,r,ef,n,tk,hn⟩:∃f r,xs.toList=f::r/\∃n tk,f=Value.int n tk:=by
   generalize kf (.ref t)=ks at e5 e6;generalize xs.toList=us at e5;cases e5 with
   |nil=>exact absurd rfl e6
   |cons n tk r=>exact⟨_,_,rfl,_,_,rfl⟩
  have e:xs[0]?=some f:=by rw[<- Vh,ef];rfl
  exact⟨f::fs,PySem.W.KatTups.cons e2 e3 e4 e h1,by rw[Vd,Vd,h2],λg hg=>by
   rcases U1.mp hg with rfl|hg
   ·exact⟨_,_,hn⟩
   ·exact h3 g hg⟩
theorem xo {kf:UT->List Int}{a:Addr}{vs:List UT}{Q:Xp->UW->Prop}(T:nD s.heap kf a vs)(h0:0<vs.length)(q:Q (tuples' true) s):Vq (model prog w) A (keyKind' vs.toArray) Q E s:=by
 obtain⟨fs,h1,h2,h3⟩:=kS T;refine PySem.W.kat_kind (T:=.type "int") h1 (by lia) (λv hv=>?_) (by decide) q
 obtain⟨n,t,rfl⟩:=h3 v hv;exact .now
theorem yX {α:Type}{R:α->α->Prop}:∀{l:List α},l.length<2->l.Pairwise R
 |[],_=>.nil
 |[x],_=>List.pairwise_singleton _ _
 |_::_::_,h=>by
  rw[Vd,Vd]at h;lia
theorem um {a:Addr} {vs:List UT} {n:Nat} {κ:Xp} {c:UT->UT->Bool} {P:PySem.Fin->UW->Prop} (ho:s.heap.get? a=some (W4 "list" vs.toArray n)) (hz:vs.length<=1000000) (O:dj λx y=>c x.1 y.1)
  (T:∀s':UW,(∀t o,t≠a->s.heap.get? t=some o->s'.heap.get? t=some o)->(2<=vs.length->∀(Q:Xp->UW->Prop),Q κ s'->Vq (model prog w) A (keyKind' vs.toArray) Q E s')/\jE prog w A E s' κ (λx y=>c x.1 y.1) (·∈(vs.toArray.zip vs.toArray).toList))
  (h:∀out:List UT,out.Perm vs->out.Pairwise (λx y=>c y x=false)->P (.done (.ret .none)) {s with heap:=sortedHeap s.heap a vs out.toArray}) :
  Vq (model prog w) A (XC.«list.sort» ⟨[.ref a],[]⟩) P E s:=by
 have la:a<s.heap.objs.size:=Vb ho;obtain⟨ep,hc⟩:∃ep,(s.heap.update a (Xi λ_=>#[])).get? a=some (W4 "list" #[] ep):=⟨_,get?_update_seq ho (λ_=>#[])⟩;have old:∀t o,t≠a->s.heap.get? t=some o->(((s.heap.update a (Xi λ_=>#[])).push (W4 "tuple" vs.toArray 0)).push (W4 "list" #[] 0)).get? t=some o:=λt o ht e =>
  UX _ (UX _ (by rw[Heap.get?_update_ne _ _ _ _ ht];exact e))
 have oC:(((s.heap.update a (Xi λ_=>#[])).push (W4 "tuple" vs.toArray 0)).push (W4 "list" #[] 0)).get? a=some (W4 "list" #[] ep):=UX _ (UX _ hc);have big:∀m:Nat,m<=vs.length->m<=U_:=λm hm=>by rw[V2];lia
 have zz:vs.toArray.size=vs.length:=by simp
 rw[list_sort_plain];refine UR (listItems_at ho rfl ?_);refine UR (listUpdate_at ho rfl ?_ (big _ (Nat.le_of_eq zz)) (U7 _));refine UR (seqEpoch_at hc rfl ?_);refine UR (wpAny_newTuple ?_ (big _ (UU _)));refine UR (wpAny_newList ?_ (U7 _));refine Wk ?_;show Vq (model prog w) A _ P E {s with heap:=((s.heap.update a (Xi λ_=>#[])).push (W4 "tuple" vs.toArray 0)).push (W4 "list" #[] 0)}
 dsimp only;have done:∀aC:VY,(VD aC).Perm (vs.toArray.zip vs.toArray)->(VD aC).toList.Pairwise (le λx y=>c x.1 y.1)->P (.done (.ret .none)) {s with heap:=sortedHeap s.heap a vs ((VD aC).map (·.2))}:=λaC hp hs=>by
  have h1:∀z∈(VD aC).toList,z.1=z.2:=λz hz=>by
   have:=(Xk.mp hp).mem_iff.mp hz;rw[Zt]at this;obtain⟨i,hi⟩:=YR this;rw[List.getElem?_zip_eq_some]at hi;exact VA (hi.1.symm.trans hi.2)
  have e2:(VD aC).map (·.2)=((VD aC).toList.map (·.2)).toArray:=by
   apply Array.toList_inj.mp;rw[Array.toList_map]
  rw[e2];refine h _ ?_ ?_
  ·have:=(Xk.mp hp).map (λz:Va=>z.2);rw[Zt]at this;refine this.trans (YC ?_);exact List.map_snd_zip (by simp)
  ·rw[WA];refine hs.imp_of_mem λ{x y} hx hy hl=>?_;rw[<- h1 x hx,<- h1 y hy];exact hl
 by_cases h2:vs.toArray.size<2
 ·rw[if_pos h2,if_pos h2];refine UR (UY ?_);rw[StateT.run_pure];refine UR (UY ?_);dsimp only;refine UR (seqEpoch_at oC rfl ?_);refine UR (listUpdate_at oC rfl ?_ (U7 _) (by rw[ZU,ZT];exact VN (big _ (by lia)) (X7 _)))
  simp only[bne_self_eq_false,X0,if_false];refine UY (done (SortSt.mk' general' (vs.toArray.zip vs.toArray) #[] 7 none) (ZG _) ?_);refine yX ?_;show (vs.toArray.zip vs.toArray).toList.length<2;rw[U4,ZT];lia
 ·rw[if_neg h2,if_neg h2];obtain⟨hK,L⟩:=T {s with heap:=((s.heap.update a (Xi λ_=>#[])).push (W4 "tuple" vs.toArray 0)).push (W4 "list" #[] 0)} old
  refine UR (hK (by lia) _ ?_)
  have zp:(vs.toArray.zip vs.toArray).size=vs.length:=by rw[ZT];lia
  refine UR (XT (qm (Q:=λ_ aC=>(VD aC).Perm (vs.toArray.zip vs.toArray)/\Xy aC=none/\SR (λx y=>c x.1 y.1) (VD aC) 0 vs.length) O L
   (st:=SortSt.mk' κ (vs.toArray.zip vs.toArray) #[] 7 none) ⟨rfl,rfl,ZG _⟩ rfl (by lia) λaC g1 g2=>⟨g1.perm,g1.fail,by rw[zp]at g2;exact g2⟩) ?_ λ_ _ e=>e)
  rintro⟨⟨⟩,aC⟩ s' ⟨rfl,hp,hf,hs⟩;dsimp only;have zs:(VD aC).size=vs.length:=hp.size_eq.trans zp;refine UR (seqEpoch_at oC rfl ?_);refine UR (listUpdate_at oC rfl ?_ (U7 _) (by rw[ZU,zs];exact VN (big _ (UU _)) (X7 _)))
  rw[hf];simp only[bne_self_eq_false,X0,if_false];refine UY (done aC hp ?_);rw[X1];intro i j hi hj aH;rw[U4]at hi hj;have:=hs i j (U7 _) (by lia) (by lia)
  have ei:el (VD aC) i=(VD aC).toList[i]:=vT (by rw[<- Vh];exact U6 _)
  have ej:el (VD aC) j=(VD aC).toList[j]:=vT (by rw[<- Vh];exact U6 _)
  rw[ei,ej]at this;exact this
theorem lW {a:Addr} {vs:List UT} {n:Nat} {kf:UT->List Int} {P:PySem.Fin->UW->Prop} (ho:s.heap.get? a=some (W4 "list" vs.toArray n)) (hz:vs.length<=1000000) (T:nD s.heap kf a vs)
  (h:∀out:List UT,out.Perm vs->out.Pairwise (λx y=>HT.lexLt (kf y) (kf x)=false)->P (.done (.ret .none)) {s with heap:=sortedHeap s.heap a vs out.toArray}) :
  Vq (model prog w) A (XC.«list.sort» ⟨[.ref a],[]⟩) P E s:=by
 refine um (κ:=tuples' true) (c:=λx y=>HT.lexLt (kf x) (kf y)) ho hz (CI kf) (λs' kp=>?_) h;have T':nD s'.heap kf a vs:=λv hv=>by
  obtain⟨t,o,xs,k,e1,e2,e3,r⟩:=T v hv;exact⟨t,o,xs,k,e1,e2,kp t o e2 e3,r⟩
 exact⟨λh2 Q q=>xo T' (by lia) q,xj T' λz hz=>by
  rw[Zt]at hz;exact(YA hz).1⟩
end
end TS
namespace ST
open PySem PyProof.Rows
section
variable {prog:U0}{w:Vf}{A:VW}{E:UT->UW->Prop}{s:UW}
abbrev TK (prog:U0)(w:Vf):=Yj (intKind prog w)
abbrev kH (prog:U0)(w:Vf)(k:List Int):Int:=(TK prog w).hash k
abbrev ent (prog:U0)(w:Vf)(x:Addr×List Int):Int×UT:=(kH prog w x.2,.ref x.1)
structure cQ (prog:U0)(w:Vf)(o:Obj)(ts:List (Addr×List Int))(es:Array (Int×UT))(ep:Nat)(t:SetTable):Prop where
 ex:o.ExactSet
 dat:o.data=.set es ep t
 HP:es.toList=ts.map (ent prog w)
 wf:WF t (ts.map λx=>kH prog w x.2)
 M9:t.place.size*5<t.mask*3
 EL:t.mask<=8191
 led:t.led=!w.params.followText "set-order"
 Im:t.plain=true
 NQ:(ts.map (·.2)).Nodup
def Ek (prog:U0)(w:Vf)(h:Heap)(ts:List (Addr×List Int)):Prop:=∀x∈ts,(TK prog w).is h x.2 x.1
theorem cQ.fits {o:Obj}{ts:List (Addr×List Int)}{es:Array (Int×UT)}{ep:Nat}{t:SetTable}(S:cQ prog w o ts es ep t):t.fits es.size=true:=by
 have h1:=S.wf.sz;have h2:es.size=ts.length:=by rw[<- U4,S.HP,US]
 rw[US]at h1;unfold SetTable.fits SetTable.fill;rw[S.wf.ID,h2,h1];have:=S.M9;simp;lia
theorem cQ.size {o:Obj}{ts:List (Addr×List Int)}{es:Array (Int×UT)}{ep:Nat}{t:SetTable}(S:cQ prog w o ts es ep t):es.size=ts.length/\t.place.size=ts.length:=by
 have h1:=S.wf.sz;rw[US]at h1;exact⟨by rw[<- U4,S.HP,US],h1⟩
theorem xO (d:Nat)(n:Int)(tk:Tok):ofAClassStatement d (.int n tk)=pure false:=by
 cases d <;> rfl
theorem qp {k:List Int}{b:Addr}{Q:Bool->UW->Prop}(hk:(TK prog w).is s.heap k b)(q:Q false s):Vq (model prog w) A (ofAClassStatement 8 (.ref b)) Q E s:=by
 obtain⟨o,items,n,ho,hc,hd,hi⟩:=hk;have hT:s.TypeIs (.ref b) "tuple" := ⟨o,ho,hc⟩;unfold ofAClassStatement;refine UR (wpAny_typeOf hT ?_);dsimp only;rw[if_pos (by rfl)]
 refine UR (UY ?_);rw[if_neg (by simp)]
 refine UR (Ww ho hd ?_);dsimp only;rw[<- Array.forIn_toList];refine UR (Zl _ (λrest r s'=>r=(none,())/\s'=s/\∀v∈rest,∃n tk,v=Value.int n tk) _ ?_ ?_ _ _ ⟨rfl,rfl,?_⟩)
 ·rintro v rest r s' ⟨rfl,rfl,nj⟩;obtain⟨n,tk,rfl⟩:=nj v Vs;rw[xO];refine UR (UY ?_);rw[if_neg (by simp)]
  exact UY ⟨rfl,rfl,λu hu=>nj u (Vi _ hu)⟩
 ·rintro r s' ⟨rfl,rfl,_⟩;exact UY q
 ·generalize items.toList=vs at hi
  induction hi with
  |nil=>intro v hv;cases hv
  | @cons k v ks vs h1 h2 ih =>
   intro u hu;rcases U1.mp hu with rfl|hu
   ·obtain⟨t,rfl⟩:=Zb h1;exact⟨_,_,rfl⟩
   ·exact ih u hu
theorem BR {k:List Int}{b:Addr}(hk:(TK prog w).is s.heap k b)(l:List (Addr×List Int)){Q:Bool->UW->Prop}(T:Ek prog w s.heap l)(q:Q false s):Vq (model prog w) A (searchCouldBeSeen (.ref b) (l.map λx=>Value.ref x.1)) Q E s:=by
 unfold searchCouldBeSeen;refine UR (Zl _ (λrest r s'=>r=(none,())/\s'=s/\∀v∈rest,∃x∈l,v=Value.ref x.1) _ ?_ ?_ _ _ ⟨rfl,rfl,?_⟩)
 ·rintro v rest r s' ⟨rfl,rfl,nj⟩;obtain⟨x,hx,rfl⟩:=nj v Vs;have E6:∀v∈rest,∃x∈l,v=Value.ref x.1:=λu hu=>nj u (Vi _ hu);dsimp only
  split
  ·exact UY ⟨rfl,rfl,E6⟩
  ·refine UR ((TK prog w).quiet hk ?_);rw[if_neg (by simp)]
   refine UR ((TK prog w).quiet (T x hx) ?_);rw[if_neg (by simp)]
   refine UR (qp hk ?_);rw[if_neg (by simp)]
   refine UR (qp (T x hx) ?_);rw[if_neg (by simp)]
   exact UY ⟨rfl,rfl,E6⟩
 ·rintro r s' ⟨rfl,rfl,_⟩;exact UY q
 ·intro v hv;obtain⟨x,hx,rfl⟩:=Vx.mp hv;exact⟨x,hx,rfl⟩
end
end ST
namespace L2
open PySem PySem.Spec PyProof.Rows
inductive D where
 |bK|bl (b:Bool)|int (i:Int)|str (x:Str)|obj (a:Addr)
 |tup (ds:List D)|lst (ds:List D)
 |dT (ks:List (List Key)) (ds:List D)|dK (ks:List Key) (ds:List D)
 |sT (ts:List (List Int))
def FX (P:U0)(w:Vf)(a:Addr)(ts:List (Addr×List Int))(h:Heap):Prop:=∃o es ep t,h.get? a=some o/\ST.cQ P w o ts es ep t
abbrev Em (P:U0)(w:Vf)(a:Addr)(ts:List (Addr×List Int)):HO:=.ext (FX P w a ts)
def El (P:U0)(w:Vf)(H:Hp)(a:Addr)(ts:List (List Int)):Prop :=
 ∃de:List (Addr×List Int),H a=some (Em P w a de)/\(∀x∈de,H x.1=some (.tup (x.2.map V.int)))/\(de.map (·.2)).Perm ts
section
variable (P:U0)(w:Vf)(W:Addr->Prop)(H:Hp)
mutual
def az:D->V->Prop
 |.bK,v=>v=.bK
 |.bl b,v=>v=.bl b
 |.int i,v=>v=.int i
 |.str x,v=>v=.str x
 |.obj a,v=>v=.ref a
 |.tup ds,v=>∃a vs,v=.ref a/\H a=some (.tup vs)/\aj ds vs
 |.lst ds,v=>∃a vs,v=.ref a/\H a=some (.lst vs)/\¬ W a/\aj ds vs
 |.dT ks ds,v=>∃a vs,v=.ref a/\H a=some (.dT (ks.zip vs))/\ks.length=vs.length/\¬ W a/\aj ds vs
 |.dK ks ds,v=>∃a vs,v=.ref a/\H a=some (.dK (ks.zip vs))/\ks.length=vs.length/\¬ W a/\aj ds vs
 |.sT ts,v=>∃a,v=.ref a/\El P w H a ts/\¬ W a
def aj:List D->List V->Prop
 |[],vs=>vs=[]
 |d::ds,vs=>∃v r,vs=v::r/\az d v/\aj ds r
end
end
mutual
def D.flat:D->Bool
 |.tup ds=>D.bY ds
 |.lst _=>false
 |.dT _ _=>false
 |.dK _ _=>false
 |.sT _=>false
 |_=>true
def D.bY:List D->Bool
 |[]=>true
 |d::ds=>D.flat d&&D.bY ds
end
structure Kp (W:Addr->Prop)(H H':Hp):Prop where
 out:∀b o,H b=some o->¬ W b->H' b=some o
 tup:∀b xs,H b=some (.tup xs)->H' b=some (.tup xs)
theorem Kp.refl {W:Addr->Prop}{H:Hp}:Kp W H H:=⟨λ_ _ e _=>e,λ_ _ e=>e⟩
theorem Kp.trans {W:Addr->Prop}{H H1 H2:Hp}(a:Kp W H H1)(b:Kp W H1 H2):Kp W H H2:=⟨λc o e n=>b.out c o (a.out c o e n) n,λc xs e=>b.tup c xs (a.tup c xs e)⟩
theorem ay.kp {W:Addr->Prop}{H H':Hp}(h:ay H H'):Kp W H H':=⟨λb o e _=>h b o e,λb xs e=>h b _ e⟩
theorem Kp.mono {W W':Addr->Prop}{H H':Hp}(h:Kp W H H')(s:∀a,W a->W' a):Kp W' H H':=⟨λb o e n=>h.out b o e λz=>n (s b z),h.tup⟩
section
variable {P:U0}{w:Vf}{W W':Addr->Prop}{H H':Hp}
mutual
theorem az.keep (k:Kp W H H'):∀{d:D} {v:V},az P w W H d v->az P w W H' d v
 |.bK,_,h=>h
 |.bl _,_,h=>h
 |.int _,_,h=>h
 |.str _,_,h=>h
 |.obj _,_,h=>h
 |.tup ds,_,⟨a,vs,e,t,r⟩=>⟨a,vs,e,k.tup a vs t,aj.keep k r⟩
 |.lst ds,_,⟨a,vs,e,t,n,r⟩=>⟨a,vs,e,k.out a _ t n,n,aj.keep k r⟩
 |.dT ks ds,_,⟨a,vs,e,t,l,n,r⟩=>⟨a,vs,e,k.out a _ t n,l,n,aj.keep k r⟩
 |.dK ks ds,_,⟨a,vs,e,t,l,n,r⟩=>⟨a,vs,e,k.out a _ t n,l,n,aj.keep k r⟩
 |.sT ts,_,⟨a,e,⟨de,t,r,z⟩,n⟩=>⟨a,e,⟨de,k.out a _ t n,λx hx=>k.tup _ _ (r x hx),z⟩,n⟩
theorem aj.keep (k:Kp W H H'):∀{ds:List D} {vs:List V},aj P w W H ds vs->aj P w W H' ds vs
 |[],_,h=>h
 |d::ds,_,⟨v,r,e,h1,h2⟩=>⟨v,r,e,az.keep k h1,aj.keep k h2⟩
end
mutual
theorem az.aW (s:∀a,W' a->W a):∀{d:D} {v:V},az P w W H d v->az P w W' H d v
 |.bK,_,h=>h
 |.bl _,_,h=>h
 |.int _,_,h=>h
 |.str _,_,h=>h
 |.obj _,_,h=>h
 |.tup ds,_,⟨a,vs,e,t,r⟩=>⟨a,vs,e,t,aj.aW s r⟩
 |.lst ds,_,⟨a,vs,e,t,n,r⟩=>⟨a,vs,e,t,λz=>n (s a z),aj.aW s r⟩
 |.dT ks ds,_,⟨a,vs,e,t,l,n,r⟩=>⟨a,vs,e,t,l,λz=>n (s a z),aj.aW s r⟩
 |.dK ks ds,_,⟨a,vs,e,t,l,n,r⟩=>⟨a,vs,e,t,l,λz=>n (s a z),aj.aW s r⟩
 |.sT ts,_,⟨a,e,t,n⟩=>⟨a,e,t,λz=>n (s a z)⟩
theorem aj.aW (s:∀a,W' a->W a):∀{ds:List D} {vs:List V},aj P w W H ds vs->aj P w W' H ds vs
 |[],_,h=>h
 |d::ds,_,⟨v,r,e,h1,h2⟩=>⟨v,r,e,az.aW s h1,aj.aW s h2⟩
end
mutual
theorem az.flat:∀{d:D} {v:V},d.flat=true->az P w W H d v->az P w W' H d v
 |.bK,_,_,h=>h
 |.bl _,_,_,h=>h
 |.int _,_,_,h=>h
 |.str _,_,_,h=>h
 |.obj _,_,_,h=>h
 |.tup ds,_,f,⟨a,vs,e,t,r⟩=>⟨a,vs,e,t,aj.flat (by simpa[D.flat] using f) r⟩
 |.lst ds,_,f,_=>by simp[D.flat]at f
 |.dT ks ds,_,f,_=>by simp[D.flat]at f
 |.dK ks ds,_,f,_=>by simp[D.flat]at f
 |.sT ts,_,f,_=>by simp[D.flat]at f
theorem aj.flat:∀{ds:List D} {vs:List V},D.bY ds=true->aj P w W H ds vs->aj P w W' H ds vs
 |[],_,_,h=>h
 |d::ds,_,f,⟨v,r,e,h1,h2⟩=>by
  have f':(d.flat&&D.bY ds)=true:=f;rw[Vz]at f';exact⟨v,r,e,az.flat f'.1 h1,aj.flat f'.2 h2⟩
end
theorem az.same (s:ay H H'){d:D}{v:V}(h:az P w W H d v):az P w W H' d v:=h.keep s.kp
theorem aj.same (s:ay H H'){ds:List D}{vs:List V}(h:aj P w W H ds vs):aj P w W H' ds vs:=h.keep s.kp
theorem aj.length:∀{ds:List D} {vs:List V},aj P w W H ds vs->vs.length=ds.length
 |[],_,h=>by rw[show _=[] from h];rfl
 |d::ds,_,⟨v,r,e,h1,h2⟩=>by rw[e,Vd,Vd,aj.length h2]
theorem aj.get:∀{ds:List D} {vs:List V} {i:Nat} {d:D},aj P w W H ds vs->ds[i]?=some d->∃v,vs[i]?=some v/\az P w W H d v
 |[],_,_,_,_,e=>by simp at e
 |d::ds,_,0,_,⟨v,r,e,h1,h2⟩,e'=>by simp at e';subst e' e;exact⟨v,by simp,h1⟩
 |d::ds,_,i+1,_,⟨v,r,e,h1,h2⟩,e'=>by
  subst e;obtain⟨u,e1,e2⟩:=aj.get (i:=i) h2 (by simpa using e')
  exact⟨u,by simpa using e1,e2⟩
theorem aj.append:∀{ds ds':List D} {vs vs':List V},aj P w W H ds vs->aj P w W H ds' vs'->aj P w W H (ds++ds') (vs++vs')
 |[],_,_,_,h,h'=>by rw[show _=[] from h];exact h'
 |d::ds,_,_,_,⟨v,r,e,h1,h2⟩,h'=>by subst e;exact⟨v,_,rfl,h1,aj.append h2 h'⟩
theorem aj.one {d:D}{v:V}(h:az P w W H d v):aj P w W H [d] [v]:=⟨v,[],rfl,h,rfl⟩
theorem aj.take:∀{ds:List D} {vs:List V} (n:Nat),aj P w W H ds vs->aj P w W H (ds.take n) (vs.take n)
 |[],_,n,h=>by rw[show _=[] from h];simp[aj]
 |d::ds,_,0,_=>by simp[aj]
 |d::ds,_,n+1,⟨v,r,e,h1,h2⟩=>by subst e;exact⟨v,_,rfl,h1,aj.take n h2⟩
theorem aj.drop:∀{ds:List D} {vs:List V} (n:Nat),aj P w W H ds vs->aj P w W H (ds.drop n) (vs.drop n)
 |[],_,n,h=>by rw[show _=[] from h];simp[aj]
 |d::ds,_,0,h=>h
 |d::ds,_,n+1,⟨v,r,e,h1,h2⟩=>by subst e;exact aj.drop n h2
end
open PySem.SeqAt
abbrev Dm (W:Addr->Prop)(H:Hp):Prop:=∀a,W a->H a≠none
theorem Dm.same {W:Addr->Prop}{H H':Hp}(d:Dm W H)(s:ay H H'):Dm W H':=λa h e=>d a h (s.free e)
abbrev Rp (X:Cx)(W:Addr->Prop)(H:Hp)(d:D)(v:V):Prop:=az X.prog X.w W H d v
abbrev iU (X:Cx)(W:Addr->Prop)(H:Hp)(ds:List D)(vs:List V):Prop:=aj X.prog X.w W H ds vs
def Qo (X:Cx)(f:D->Option D):V->Hp->VK->Prop:=λx H Q=>∃W d1 d,Dm W H/\Rp X W H d1 x/\f d1=some d/\∀v H',ay H H'->Rp X W H' d v->Q v H'
def Qn (X:Cx)(f:D->D->Option D):R2:=λx y H Q=>∃W d1 d2 d,Dm W H/\Rp X W H d1 x/\Rp X W H d2 y/\f d1 d2=some d/\∀v H',ay H H'->Rp X W H' d v->Q v H'
def RX (X:Cx)(f:List D->Option D):List V->Hp->VK->Prop:=λxs H Q=>∃W ds d,Dm W H/\iU X W H ds xs/\f ds=some d/\∀v H',ay H H'->Rp X W H' d v->Q v H'
abbrev bS (X:Cx)(f:UT->UT->Sem UT)(g:D->D->Option D):Prop:=g9 X f (Qn X g)
abbrev cG (X:Cx)(f:UT)(g:List D->Option D):Prop:=eY X f (RX X g)
section
variable {X:Cx}{W:Addr->Prop}{H:Hp}
theorem vz {p:Addr}(d:Dm W H)(n:H p=none):¬ W p:=λz=>d p z n
theorem Rp.gM {p:Addr}{vs:List V}{ds:List D}(d:Dm W H)(n:H p=none)(r:iU X W H ds vs):Rp X W (upd H p (.lst vs)) (.lst ds) (.ref p) :=
 ⟨p,vs,rfl,aw,vz d n,r.same (ay.new n)⟩
theorem Rp.Fz {p:Addr}{vs:List V}{ds:List D}(n:H p=none)(r:iU X W H ds vs):Rp X W (upd H p (.tup vs)) (.tup ds) (.ref p) :=
 ⟨p,vs,rfl,aw,r.same (ay.new n)⟩
theorem iU.nil:iU X W H [] []:=rfl
theorem iU.cons {d:D}{ds:List D}{v:V}{vs:List V}(h:Rp X W H d v)(r:iU X W H ds vs):iU X W H (d::ds) (v::vs):=⟨v,vs,rfl,h,r⟩
end
def D.G7:D->Option Int
 |.int i=>some i
 |_=>none
def D.G6:D->Option (List D)
 |.lst a=>some a
 |_=>none
def D.J3:D->Option (List D)
 |.tup a=>some a
 |_=>none
def D.BF:D->Bool
 |.bK=>true
 |_=>false
theorem D.iI {d:D}{i:Int}(h:d.G7=some i):d=.int i:=by cases d <;> first|(cases h;rfl)|cases h
theorem D.l5 {d:D}{i:List D}(h:d.G6=some i):d=.lst i:=by cases d <;> first|(cases h;rfl)|cases h
theorem D.An {d:D}{i:List D}(h:d.J3=some i):d=.tup i:=by cases d <;> first|(cases h;rfl)|cases h
theorem D.rD {d:D}(h:d.BF=true):d=.bK:=by cases d <;> first|rfl|cases h
theorem D.Ds {d:D}:d=.bK↔d.BF=true:=⟨λe=>by rw[e];rfl,D.rD⟩
def pS (f:Int->Int->Option D)(a b:D):Option D:=match a.G7,b.G7 with
 |some i,some j=>f i j
 |_,_=>none
theorem jt {f:Int->Int->Option D}{a b d:D}(h:pS f a b=some d):∃i j,a=.int i/\b=.int j/\f i j=some d:=by
 unfold pS at h;cases ha:a.G7 with
 |none=>rw[ha]at h;cases h
 |some i =>
  cases hb:b.G7 with
  |none=>rw[ha,hb]at h;cases h
  |some j=>rw[ha,hb]at h;exact⟨i,j,D.iI ha,D.iI hb,h⟩
def GF (f:D->D->Option D)(g:List D->List D->Option D)(a b:D):Option D:=match a.G6,b.G6 with
 |some i,some j=>g i j
 |_,_=>f a b
theorem xk {f:D->D->Option D}{g:List D->List D->Option D}{a b d:D}(h:GF f g a b=some d):(∃i j,a=.lst i/\b=.lst j/\g i j=some d)\/f a b=some d:=by
 unfold GF at h;cases ha:a.G6 with
 |none=>rw[ha]at h;exact .inr h
 |some i =>
  cases hb:b.G6 with
  |none=>rw[ha,hb]at h;exact .inr h
  |some j=>rw[ha,hb]at h;exact .inl ⟨i,j,D.l5 ha,D.l5 hb,h⟩
def Bf:D->D->Option D:=GF (pS λi j=>some (.int (i+j))) λa b=>if a.length+b.length<=U_ then some (.lst (a++b)) else none
def PF:D->D->Option D:=pS λi j=>some (.int (i-j))
instance (i j:Int):Decidable (qh i j):=by unfold qh;infer_instance
instance (i j:Int):Decidable (BC i j):=by unfold BC;infer_instance
def Lq:D->D->Option D:=pS λi j=>if qh i j then some (.int (i*j)) else none
def Lr:D->D->Option D:=pS λi j=>if 0<j then some (.int (i % j)) else none
def PJ:D->Option D
 |.int i=>some (.int (-i))
 |_=>none
section
variable {X:Cx}
theorem fw {c:Prop}[Decidable c]{α:Type}{a b:α}(h:(if c then some a else none)=some b):c/\b=a:=by
 by_cases hc:c
 ·rw[if_pos hc]at h;cases h;exact⟨hc,rfl⟩
 ·rw[if_neg hc]at h;cases h
theorem EG {f:UT->UT->Sem UT}{C:Int->Int->Prop}{g:Int->Int->V}{h:Int->Int->D}{F:Int->Int->Option D}(ho:g9 X f (rI C g))(hF:∀i j d,F i j=some d->C i j/\d=h i j)
  (hg:∀(W:Addr->Prop) (H:Hp) i j,Rp X W H (h i j) (g i j)):bS X f (pS F):=by
 intro pins s σ H x y v u Q I rx ry hh;obtain⟨W,d1,d2,d,hd,r1,r2,e,q⟩:=hh;obtain⟨i,j,rfl,rfl,e⟩:=jt e;obtain⟨c,rfl⟩:=hF _ _ _ e;cases r1;cases r2;exact ho pins s σ H _ _ v u Q I rx ry ⟨i,j,rfl,rfl,c,q _ _ (ay.refl _) (hg W H i j)⟩
theorem zJ {f:UT->UT->Sem UT}{g:Int->Int->V}{h:Int->Int->D}(ho:g9 X f (BE g))
  (hg:∀(W:Addr->Prop) (H:Hp) i j,Rp X W H (h i j) (g i j)):bS X f (pS λi j=>some (h i j)):=by
 intro pins s σ H x y v u Q I rx ry hh;obtain⟨W,d1,d2,d,hd,r1,r2,e,q⟩:=hh;obtain⟨i,j,rfl,rfl,e⟩:=jt e;cases e;cases r1;cases r2;exact ho pins s σ H _ _ v u Q I rx ry ⟨i,j,rfl,rfl,q _ _ (ay.refl _) (hg W H i j)⟩
theorem bu:bS X (W5 .Sub) PF:=zJ (h:=λi j=>.int (i-j)) zG λ_ _ _ _=>rfl
theorem CK:bS X (W5 .Mult) Lq:=EG (h:=λi j=>.int (i*j)) ue (λ_ _ _ e=>fw e) λ_ _ _ _=>rfl
theorem CL:bS X (W5 .Mod) Lr:=EG (h:=λi j=>.int (i % j)) lK (λ_ _ _ e=>fw e) λ_ _ _ _=>rfl
theorem ic:LA X (unaryOp .USub) (Qo X PJ):=by
 intro pins s σ H x v Q I rx h;obtain⟨W,d1,d,hd,r1,e,q⟩:=h;cases d1 with
 |int i=>cases e;cases r1;exact yA pins s σ H _ v Q I rx ⟨i,rfl,q _ _ (ay.refl _) rfl⟩
 |_=>cases e
end
def Be (p:Int->Int->Bool):D->D->Option D:=pS λi j=>some (.bl (p i j))
abbrev TR:D->D->Option D:=Be λi j=>decide (i<j)
abbrev TU:D->D->Option D:=Be λi j=>decide (i<=j)
abbrev uR:D->D->Option D:=Be λi j=>decide (j<i)
abbrev TV:D->D->Option D:=Be λi j=>decide (j<=i)
section
variable {X:Cx}
theorem kl {p:Int->Int->Bool}{f:UT->UT->Sem UT}(ho:g9 X f (BE λi j=>.bl (p i j))):bS X f (Be p):=zJ (h:=λi j=>.bl (p i j)) ho λ_ _ _ _=>rfl
theorem lL:bS X (V7 .Lt) TR:=kl Jy
theorem pK:bS X (V7 .LtE) TU:=kl Jz
theorem zK:bS X (V7 .Gt) uR:=kl EF
theorem uf:bS X (V7 .GtE) TV:=kl JA
end
mutual
def D.pd:D->PyData
 |.bK=>.none
 |.bl b=>.bool b
 |.int i=>.int i
 |.str x=>.str x
 |.tup ds=>.tuple (D.sZ ds)
 |.lst ds=>.list (D.sZ ds)
 |_=>.dict []
def D.sZ:List D->List PyData
 |[]=>[]
 |d::ds=>d.pd::D.sZ ds
end
abbrev D.Cd (d:D):Bool:=shaped d.pd
mutual
theorem fP {X:Cx}{pins:List (Addr×Obj)}{σ:St}{H:Hp}{s:UW}(I:Inv X pins σ H s){W:Addr->Prop}:∀{d:D} {v:V} {u:UT},Rp X W H d v->RelV v u->d.pd.canLay0=true->∃as,Reads s.heap u d.pd as
 |.bK,_,_,h,r,_=>by cases h;cases r;exact⟨_,.none⟩
 |.bl b,_,_,h,r,_=>by cases h;cases r;exact⟨_,.bool b⟩
 |.int i,_,_,h,r,_=>by cases h;obtain⟨t,rfl⟩:=r;exact⟨_,.int i t⟩
 |.str x,_,_,h,r,_=>by cases h;obtain⟨t,rfl⟩:=r;exact⟨_,.str x t⟩
 |.tup ds,_,_,h,r,c=>by
  obtain⟨a,vs,rfl,e,q⟩:=h;cases r;obtain⟨its,rv,⟨o,ho,hc,n,hd⟩,hz⟩:=I.tuple (qj.of e);obtain⟨as,ha⟩:=fQ I q rv (by simpa[D.pd,Wm] using c)
  exact⟨_,.tuple ho hc hd (by simpa using ha)⟩
 |.lst ds,_,_,h,r,c=>by
  obtain⟨a,vs,rfl,e,_,q⟩:=h;cases r;obtain⟨z,its,n,rv,e'⟩:=I.br a _ e;obtain⟨as,ha⟩:=fQ I q rv (by simpa[D.pd,Wm] using c)
  exact⟨_,.list e' rfl rfl (by simpa using ha)⟩
 |.obj _,_,_,_,_,c=>by simp[D.pd,Wm]at c
 |.dT _ _,_,_,_,_,c=>by simp[D.pd,Wm]at c
 |.dK _ _,_,_,_,_,c=>by simp[D.pd,Wm]at c
 |.sT _,_,_,_,_,c=>by simp[D.pd,Wm]at c
theorem fQ {X:Cx}{pins:List (Addr×Obj)}{σ:St}{H:Hp}{s:UW}(I:Inv X pins σ H s){W:Addr->Prop}:∀{ds:List D} {vs:List V} {us:List UT},iU X W H ds vs->Vals vs us->Xz (D.sZ ds)=true->∃as,ReadsAll s.heap us (D.sZ ds) as
 |[],_,_,h,r,_=>by
  rw[show _=[] from h]at r
  cases r;exact⟨_,.nil⟩
 |d::ds,_,_,⟨v,vr,e,h1,h2⟩,r,c=>by
  subst e;have c':(d.pd.canLay0&&Xz (D.sZ ds))=true:=c;rw[Vz]at c';cases r with
  |cons r1 r2 =>
   obtain⟨as,ha⟩:=fP I h1 r1 c'.1;obtain⟨bs,hb⟩:=fQ I h2 r2 c'.2;exact⟨_,.cons ha hb⟩
end
def Lv (a b:D):Option D:=if a.Cd=true/\b.Cd=true then some (.bl (Xh a.pd b.pd)) else none
def Lp (a b:D):Option D:=if a.Cd=true/\b.Cd=true then some (.bl (!Xh a.pd b.pd)) else none
section
variable {X:Cx}
theorem cC (hu:X.A.units+64<XO):bS X (V7 .Eq) Lv:=by
 intro pins s σ H x y v u Q I rx ry h;obtain⟨W,d1,d2,d,hd,r1,r2,e,q⟩:=h;obtain⟨⟨s1,s2⟩,rfl⟩:=fw e;obtain⟨as,ra⟩:=fP I r1 rx (Yl s1);obtain⟨bs,rb⟩:=fP I r2 ry (Yl s2);exact compareEq_shaped ra rb s1 s2 hu ⟨.bl _,H,I,rfl,q _ _ (ay.refl _) rfl⟩
theorem jj (hu:X.A.units+64<XO):bS X (V7 .NotEq) Lp:=by
 intro pins s σ H x y v u Q I rx ry h;obtain⟨W,d1,d2,d,hd,r1,r2,e,q⟩:=h;obtain⟨⟨s1,s2⟩,rfl⟩:=fw e;obtain⟨as,ra⟩:=fP I r1 rx (Yl s1);obtain⟨bs,rb⟩:=fP I r2 ry (Yl s2);exact compareNe_shaped ra rb s1 s2 hu ⟨.bl _,H,I,rfl,q _ _ (ay.refl _) rfl⟩
def PL (a b:D):Option D:=match b.BF with
 |true=>some (.bl a.BF)
 |false=>none
def Lo (a b:D):Option D:=match b.BF with
 |true=>some (.bl (!a.BF))
 |false=>none
theorem Rp.C0 {W:Addr->Prop}{H:Hp}{d:D}{v:V}(h:Rp X W H d v):v=.bK↔d=.bK:=by
 cases d with
 |bK=>cases h;simp
 |bl b=>cases h;simp
 |int i=>cases h;simp
 |str x=>cases h;simp
 |obj a=>cases h;simp
 |tup ds=>obtain⟨a,vs,rfl,_⟩:=h;simp
 |lst ds=>obtain⟨a,vs,rfl,_⟩:=h;simp
 |dT ks ds=>obtain⟨a,vs,rfl,_⟩:=h;simp
 |dK ks ds=>obtain⟨a,vs,rfl,_⟩:=h;simp
 |sT ts=>obtain⟨a,rfl,_⟩:=h;simp
theorem rE {b d e:D}(h:(match b.BF with|true=>some d|false=>none)=some e):b=.bK/\e=d:=by
 cases q:b.BF with
 |true=>rw[q]at h;cases h;exact⟨D.rD q,rfl⟩
 |false=>rw[q]at h;cases h
theorem Rp.vy {W:Addr->Prop}{H:Hp}{d:D}{v:V}(h:Rp X W H d v):decide (v=.bK)=d.BF:=by
 have q:=h.C0.trans D.Ds;cases e:d.BF with
 |true=>exact decide_eq_true (q.mpr e)
 |false=>exact decide_eq_false λz=>by rw[q.mp z]at e;cases e
theorem pL:bS X (V7 .Is) PL:=by
 intro pins s σ H x y v u Q I rx ry h;obtain⟨W,d1,d2,d,hd,r1,r2,e,q⟩:=h;obtain⟨rfl,rfl⟩:=rE e;cases r2;exact Gm pins s σ H _ _ v u Q I rx ry ⟨rfl,q _ _ (ay.refl _) (congrArg V.bl r1.vy)⟩
theorem zI:bS X (V7 .IsNot) Lo:=by
 intro pins s σ H x y v u Q I rx ry h;obtain⟨W,d1,d2,d,hd,r1,r2,e,q⟩:=h;obtain⟨rfl,rfl⟩:=rE e;cases r2;exact CJ pins s σ H _ _ v u Q I rx ry ⟨rfl,q _ _ (ay.refl _) (congrArg (λb=>V.bl (!b)) r1.vy)⟩
end
section
variable {X:Cx}
def mV (a b:D):Option D:=match b.G7 with
 |some i=>match a.G6 with
  |some ds=>nB ds i
  |none=>match a.J3 with
   |some ds=>nB ds i
   |none=>none
 |none=>none
theorem Bc {a b d:D}(h:mV a b=some d):∃ds i,(a=.lst ds\/a=.tup ds)/\b=.int i/\nB ds i=some d:=by
 unfold mV at h;cases hb:b.G7 with
 |none=>rw[hb]at h;cases h
 |some i =>
  rw[hb]at h;cases ha:a.G6 with
  |some ds=>rw[ha]at h;exact⟨ds,i,.inl (D.l5 ha),D.iI hb,h⟩
  |none =>
   rw[ha]at h;cases ht:a.J3 with
   |some ds=>rw[ht]at h;exact⟨ds,i,.inr (D.An ht),D.iI hb,h⟩
   |none=>rw[ht]at h;cases h
theorem iU.nB {W:Addr->Prop}{H:Hp}{ds:List D}{vs:List V}{i:Int}{d:D}(h:iU X W H ds vs)(e:L2.nB ds i=some d):∃v,L2.nB vs i=some v/\Rp X W H d v:=by
 unfold L2.nB at *
 rw[h.length];cases q:vG ds.length i with
 |none=>rw[q]at e;cases e
 |some j =>
  rw[q]at e;exact aj.get h e
theorem G1:Fj X (Qn X mV):=by
 intro value slice pins s σ H x y v u Q I rx ry h hs;obtain⟨W,d1,d2,d,hd,r1,r2,e,q⟩:=h;obtain⟨ds,i,h,rfl,e⟩:=Bc e;cases r2;rcases h with rfl|rfl
 ·obtain⟨p,vs,rfl,h1,n1,q1⟩:=r1;obtain⟨z,hz,rz⟩:=iU.nB (X:=X) q1 e;exact d8 value slice pins s σ H _ _ v u Q I rx ry ⟨p,vs,i,z,rfl,rfl,cP.of h1,hz,q _ _ (ay.refl _) rz⟩ hs
 ·obtain⟨p,vs,rfl,h1,q1⟩:=r1;obtain⟨z,hz,rz⟩:=iU.nB (X:=X) q1 e;exact Ak value slice pins s σ H _ _ v u Q I rx ry ⟨p,vs,i,z,rfl,rfl,qj.of h1,hz,q _ _ (ay.refl _) rz⟩ hs
def cutD (xs:List D)(lo hi:Option Int):List D:=(xs.drop (HT.ly xs.length 0 lo)).take (HT.ly xs.length xs.length hi-HT.ly xs.length 0 lo)
def PH:D->Option Int->Option Int->Option D
 |.lst ds,lo,hi=>some (.lst (cutD ds lo hi))
 |_,_,_=>none
def PK:List D->Option D
 |[.lst ds]=>some (.int ds.length)
 |[.tup ds]=>some (.int ds.length)
 |_=>none
theorem oQ:cG X (.builtin "len") PK:=by
 intro pins s σ H xs us Q I r h;obtain⟨W,ds,d,hd,r1,e,q⟩:=h
 match ds,e with
 |[.lst es],e =>
  cases e;obtain⟨v,r',rfl,⟨p,vs,rfl,h1,n1,q1⟩,hr⟩:=r1;cases hr;refine iR pins s σ H _ us Q I r ⟨p,vs,rfl,.inl (cP.of h1),?_⟩;rw[q1.length];exact q _ _ (ay.refl _) rfl
 |[.tup es],e =>
  cases e;obtain⟨v,r',rfl,⟨p,vs,rfl,h1,q1⟩,hr⟩:=r1;cases hr;refine iR pins s σ H _ us Q I r ⟨p,vs,rfl,.inr (qj.of h1),?_⟩;rw[q1.length];exact q _ _ (ay.refl _) rfl
def dList:List D->Option D
 |[.lst ds]=>some (.lst ds)
 |[.tup ds]=>some (.lst ds)
 |_=>none
def Lu:List D->Option D
 |[.int i,.int j]=>some (.int (if j>i then j else i))
 |_=>none
def Ls:List D->Option D
 |[.int i,.int j]=>some (.int (if j<i then j else i))
 |_=>none
theorem oW {W:Addr->Prop}{H:Hp}{a b:D}{xs:List V}(h:iU X W H [a,b] xs):∃x y,xs=[x,y]/\Rp X W H a x/\Rp X W H b y:=by
 obtain⟨x,r,rfl,hx,y,r',rfl,hy,hr⟩:=h;cases hr;exact⟨x,y,rfl,hx,hy⟩
theorem jY {W:Addr->Prop}{H:Hp}{a:D}{xs:List V}(h:iU X W H [a] xs):∃x,xs=[x]/\Rp X W H a x:=by
 obtain⟨x,r,rfl,hx,hr⟩:=h;cases hr;exact⟨x,rfl,hx⟩
theorem uS (hc:X.calm=true):cG X (.builtin "max") Lu:=by
 intro pins s σ H xs us Q I r h;obtain⟨W,ds,d,hd,r1,e,q⟩:=h
 match ds,e with
 |[.int i,.int j],e =>
  cases e;obtain⟨x,y,rfl,hx,hy⟩:=oW r1;cases hx;cases hy;exact oO hc pins s σ H _ us Q I r ⟨i,j,rfl,q _ _ (ay.refl _) rfl⟩
theorem gY (hc:X.calm=true):cG X (.builtin "min") Ls:=by
 intro pins s σ H xs us Q I r h;obtain⟨W,ds,d,hd,r1,e,q⟩:=h
 match ds,e with
 |[.int i,.int j],e =>
  cases e;obtain⟨x,y,rfl,hx,hy⟩:=oW r1;cases hx;cases hy;exact xQ hc pins s σ H _ us Q I r ⟨i,j,rfl,q _ _ (ay.refl _) rfl⟩
def PM:List D->Option D
 |[.int i]=>some (.int i)
 |[.bl k]=>some (.int (if k then 1 else 0))
 |_=>none
theorem xU:cG X (.type "int") PM:=by
 intro pins s σ H xs us Q I r h;obtain⟨W,ds,d,hd,r1,e,q⟩:=h
 match ds,e with
 |[.int i],e =>
  cases e;obtain⟨x,rfl,hx⟩:=jY r1;cases hx;exact jz pins s σ H _ us Q I r (.inl ⟨i,rfl,q _ _ (ay.refl _) rfl⟩)
 |[.bl k],e =>
  cases e;obtain⟨x,rfl,hx⟩:=jY r1;cases hx;exact jz pins s σ H _ us Q I r (.inr ⟨k,rfl,q _ _ (ay.refl _) rfl⟩)
end
abbrev yi:=List (Option D)
abbrev Ic:=yi->(D->Prop)->Prop
abbrev sU:=yi->(List D->Prop)->Prop
def uX (P:U0)(w:Vf)(W:Addr->Prop)(H:Hp)(σ:St)(ρ:yi):Prop:=∀(i:Nat) (d:D),ρ[i]?=some (some d)->∃v,σ[i]?=some (some v)/\az P w W H d v
theorem uX.keep {P:U0}{w:Vf}{W:Addr->Prop}{H H':Hp}{σ:St}{ρ:yi}(e:uX P w W H σ ρ)(k:Kp W H H'):uX P w W H' σ ρ:=λi d h=>by
 obtain⟨v,h1,h2⟩:=e i d h;exact⟨v,h1,h2.keep k⟩
theorem uX.same {P:U0}{w:Vf}{W:Addr->Prop}{H H':Hp}{σ:St}{ρ:yi}(e:uX P w W H σ ρ)(s:ay H H'):uX P w W H' σ ρ:=e.keep s.kp
theorem PE.pre {X:Cx}{e:Expr}{t t':TE}(h:PE X e t)(k:∀σ H Q,t' σ H Q->t σ H Q):PE X e t':=λpins s σ H Q I q=>h pins s σ H Q I (k σ H Q q)
theorem PT.pre {X:Cx}{e:Expr}{t t':TT}(h:PT X e t)(k:∀σ H Q,t' σ H Q->t σ H Q):PT X e t':=λpins s σ H Q I q=>h pins s σ H Q I (k σ H Q q)
theorem PA.pre {X:Cx}{es:List Expr}{t t':TA}(h:PA X es t)(k:∀σ H Q,t' σ H Q->t σ H Q):PA X es t':=λpos pins s σ H Q I q=>h pos pins s σ H Q I (k σ H Q q)
structure IK (P:U0)(w:Vf)(W:Addr->Prop)(σ:St)(H:Hp)(ρ:yi):Prop where
 dm:Dm W H
 env:uX P w W H σ ρ
abbrev SE (X:Cx):(Addr->Prop)->St->Hp->yi->Prop:=IK X.prog X.w
theorem IK.same {P:U0}{w:Vf}{W:Addr->Prop}{σ:St}{H H':Hp}{ρ:yi}(e:IK P w W σ H ρ)(s:ay H H'):IK P w W σ H' ρ:=⟨e.dm.same s,e.env.same s⟩
def tD (X:Cx)(φ:Ic):TE:=λσ H Q=>∃W ρ,SE X W σ H ρ/\φ ρ λd=>∀v H',ay H H'->Rp X W H' d v->Q v H'
def I9 (X:Cx)(φ:sU):TA:=λσ H Q=>∃W ρ,SE X W σ H ρ/\φ ρ λds=>∀vs H',ay H H'->iU X W H' ds vs->Q vs H'
structure PV (X:Cx)(e:Expr)(φ:Ic):Prop where
 mono:∀ρ R R',(∀d,R d->R' d)->φ ρ R->φ ρ R'
 pe:PE X e (tD X φ)
structure LC (X:Cx)(es:List Expr)(φ:sU):Prop where
 mono:∀ρ R R',(∀d,R d->R' d)->φ ρ R->φ ρ R'
 pa:PA X es (I9 X φ)
section
variable {X:Cx}{a e:Expr}{es:List Expr}{φ:Ic}{φs:sU}{pos:Pos}{W:Addr->Prop}{σ:St}{H:Hp}{ρ:yi}
theorem tD.of (h:PV X e φ)(se:SE X W σ H ρ){R:D->Prop}{Q:VK}(hr:φ ρ R)(k:∀d v H',R d->ay H H'->Rp X W H' d v->Q v H'):tD X φ σ H Q :=
 ⟨W,ρ,se,h.mono ρ _ _ (λd hd v H' s r=>k d v H' hd s r) hr⟩
theorem I9.of (h:LC X es φs)(se:SE X W σ H ρ){R:List D->Prop}{Q:List V->Hp->Prop}(hr:φs ρ R)(k:∀ds vs H',R ds->ay H H'->iU X W H' ds vs->Q vs H'):I9 X φs σ H Q :=
 ⟨W,ρ,se,h.mono ρ _ _ (λd hd v H' s r=>k d v H' hd s r) hr⟩
def Pt (i:Nat):Ic:=λρ R=>∃d,ρ[i]?=some (some d)/\R d
theorem eE {i:Nat}{x:Str}(hN:X.N[i]?=some x:=by rfl)(hv:sQ X.env.scope x:=by first|exact .inl rfl|exact .inr (.inl rfl)|exact .inr (.inr rfl))(hd:(x==("__debug__" : Str))=false:=by decide)(gG:(x==("__classdict__" : Str))=false:=by decide):
  PV X (.Name x pos) (Pt i):=⟨λρ R R' k Oq=> by obtain⟨d,e,h⟩ := Oq;exact⟨d,e,k d h⟩,(cT hN hv hd gG).pre λσ H Q Oo=> by
 obtain⟨W,ρ,se,d,e,q⟩ := Oo;obtain⟨v,h1,h2⟩:=se.env i d e;exact⟨v,h1,q v H (ay.refl _) h2⟩⟩
theorem PW.pre {t t':TT}(h:PW X e t)(k:∀σ H Q,t' σ H Q->t σ H Q):PW X e t':=λw pins s σ H Q I q=>h w pins s σ H Q I (k σ H Q q)
def Pu:sU:=λ_ R=>R []
def Lj (φ:Ic)(φs:sU):sU:=λρ R=>φ ρ λd=>φs ρ λds=>R (d::ds)
theorem Cp:LC X [] Pu:=⟨λρ R R' k h=>k _ h,cU.pre λσ H Q Om=> by obtain⟨W,ρ,se,q⟩ := Om;exact q [] H (ay.refl _) rfl⟩
theorem qL (ha:PV X a φ)(hr:LC X es φs)(hs:Ve (a::es) X.env=(false,eval a X.env)::Ve es X.env:=by rfl):LC X (a::es) (Lj φ φs) :=
 ⟨λρ R R' k h=>ha.mono ρ _ _ (λd q=>hr.mono ρ _ _ (λds q2=>k _ q2) q) h,(bo ha.pe hr.pa hs).pre λσ H Q ⟨W,ρ,se,h⟩ =>
  tD.of ha se h λd1 v1 H1 h1 s1 r1=>I9.of hr (se.same s1) h1 λds vs H2 q s2 r2=>q (v1::vs) H2 (s1.trans s2) (.cons (r1.same s2) r2)⟩
end
abbrev FD:=List D->(D->Prop)->Prop
def dy (F:FD):Prop:=∀ds R R',(∀d,R d->R' d)->F ds R->F ds R'
section
end
section
variable {X:Cx}{e:Expr}{pos:Pos}{σ:St}{H:Hp}
theorem Ii.pre {ops:List XZ}{rs:List Expr}{t t':V->TE}(h:Ii X ops rs t)(k:∀x σ H Q,t' x σ H Q->t x σ H Q):Ii X ops rs t':=λpos pins s σ H x v Q I r q=>h pos pins s σ H x v Q I r (k x σ H Q q)
theorem sW.pre {ops:List XZ}{rs:List Expr}{t t':V->TT}(h:sW X ops rs t)(k:∀x σ H Q,t' x σ H Q->t x σ H Q):sW X ops rs t':=λpos pins s σ H x v Q I r q=>h pos pins s σ H x v Q I r (k x σ H Q q)
theorem PO.pre {e:Option Expr}{t t':TO}(h:PO X e t)(k:∀σ H Q,t' σ H Q->t σ H Q):PO X e t':=λpins s σ H Q I q=>h pins s σ H Q I (k σ H Q q)
end
abbrev NF:D->Prop:=λd=>d.flat=true
section
abbrev NL:D->Prop:=λd=>match d with | .lst ds=>D.bY ds=true|d=>d.flat=true
end
section
variable {P:U0}{w:Vf}{W W':Addr->Prop}{H:Hp}
mutual
theorem az.grow (s:∀a,W' a->W a\/H a=none):∀{d:D} {v:V},az P w W H d v->az P w W' H d v
 |.bK,_,h=>h
 |.bl _,_,h=>h
 |.int _,_,h=>h
 |.str _,_,h=>h
 |.obj _,_,h=>h
 |.tup ds,_,⟨a,vs,e,t,r⟩=>⟨a,vs,e,t,aj.grow s r⟩
 |.lst ds,_,⟨a,vs,e,t,n,r⟩=>⟨a,vs,e,t,λz=>(s a z).elim n λq=>(by rw[t]at q;cases q),aj.grow s r⟩
 |.dT ks ds,_,⟨a,vs,e,t,l,n,r⟩=>⟨a,vs,e,t,l,λz=>(s a z).elim n λq=>(by rw[t]at q;cases q),aj.grow s r⟩
 |.dK ks ds,_,⟨a,vs,e,t,l,n,r⟩=>⟨a,vs,e,t,l,λz=>(s a z).elim n λq=>(by rw[t]at q;cases q),aj.grow s r⟩
 |.sT ts,_,⟨a,e,⟨de,t,r,z⟩,n⟩=>⟨a,e,⟨de,t,r,z⟩,λz=>(s a z).elim n λq=>(by rw[t]at q;cases q)⟩
theorem aj.grow (s:∀a,W' a->W a\/H a=none):∀{ds:List D} {vs:List V},aj P w W H ds vs->aj P w W' H ds vs
 |[],_,h=>h
 |d::ds,_,⟨v,r,e,h1,h2⟩=>⟨v,r,e,az.grow s h1,aj.grow s h2⟩
end
end
def T5 (X:Cx)(W:Addr->Prop)(J:It)(ds:List D)(H0:Hp):Prop:=∀(i:Nat) (H:Hp),Kp W H0 H ->
 (∀d,ds[i]?=some d->J.go i H/\∀x H1,J.IL i H x H1->ay H H1/\Rp X W H1 d x)/\(ds.length<=i->J.stop i H)
def xZ (X:Cx)(W:Addr->Prop)(J:It)(ds:List D)(H0:Hp):Prop:=∀W':Addr->Prop,(∀b,W' b->W b\/H0 b=none)->T5 X W' J ds H0
abbrev Ib:=yi->(List D->Prop)->Prop
structure Ri (X:Cx)(tg iter:Expr)(ι:Ib):Prop where
 mono:∀ρ R R',(∀d,R d->R' d)->ι ρ R->ι ρ R'
 pi:PI X tg iter λσ H R=>∃W ρ,SE X W σ H ρ/\ι ρ λds=>∀J H',ay H H'->xZ X W J ds H'->R J H'
section
variable {X:Cx}{tg e:Expr}
theorem PI.pre {iter:Expr}{t t':TI}(h:PI X tg iter t)(k:∀σ H R,t' σ H R->t σ H R):PI X tg iter t':=λpins s σ H R I q=>h pins s σ H R I (k σ H R q)
theorem rC {W:Addr->Prop}{H:Hp}{p:Addr}{vs:List V}{ds:List D}(h1:H p=some (.lst vs))(n1:¬ W p)(q1:iU X W H ds vs):xZ X W (Mu X.K p) ds H:=λW' hW i H' k=>by
 have h2:=k.out p _ h1 λz=>(hW p z).elim n1 λq=>by rw[h1]at q;cases q
 replace q1:=aj.grow hW q1;constructor
 ·intro d hd;obtain⟨v,hv,rv⟩:=aj.get q1 hd;refine⟨⟨vs,v,cP.of h2,hv⟩,λx H1 y=>?_⟩;obtain⟨rfl,y⟩:=y;have e:=y vs (cP.of h2);rw[hv]at e;cases e;exact⟨ay.refl _,rv.keep k⟩
 ·intro hl;exact⟨vs,cP.of h2,by rw[q1.length];exact hl⟩
def pC (lo:Int)(n:Nat):List D:=(UZ n).map λ(k:Nat)=>D.int (lo+(k:Int))
theorem js {W:Addr->Prop}{H:Hp}{lo:Int}{n:Nat}:xZ X W (LI lo n) (pC lo n) H:=λ_ _ i H' k=>by
 constructor
 ·intro d hd;unfold pC at hd;rw[U8]at hd;have hi:i<n:=by
   by_cases h:i<n
   ·exact h
   ·rw[VT (by simpa using h)]at hd;cases hd
  rw[WD hi]at hd;cases hd;refine⟨hi,λx H1 y=>?_⟩;obtain⟨rfl,rfl⟩:=y;exact⟨ay.refl _,rfl⟩
 ·intro hl;unfold pC at hl;rw[US,Vm]at hl;exact hl
end
section
variable {X:Cx}{tg:Expr}{wt:List Expr}
theorem PG.pre {t t':TG}(h:PG X tg t)(k:∀v σ H Q,t' v σ H Q->t v σ H Q):PG X tg t':=λpins s σ H v u Q I r q=>h pins s σ H v u Q I r (k v σ H Q q)
theorem Fi.pre {t t':Ff}(h:Fi X wt t)(k:∀v σ H Q,t' v σ H Q->t v σ H Q):Fi X wt t':=λpins s σ H v u Q I r q=>h pins s σ H v u Q I r (k v σ H Q q)
end
theorem l0 {H:Hp}{a:Addr}{o o':HO}(h:H a=some o)(ht:∀xs,o≠.tup xs):Kp (·=a) H (upd H a o') :=
 ⟨λb u e n=>by rw[ar n];exact e,λb xs e=>by rw[ar (EJ e h (λz=>ht xs z.symm))];exact e⟩
section
end
section
end
section
end
section
variable {σ:St}{β:bg}{own:Nat->List Addr}
def aM (own:Nat->List Addr)(i:Nat)(as:List Addr):Nat->List Addr:=λj=>if j=i then as else own j
theorem bW {own:Nat->List Addr}{i j:Nat}{a:Addr}(h:a∈aM own i [] j):a∈own j/\j≠i:=by
 unfold aM at h
 by_cases e:j=i
 ·rw[if_pos e]at h;cases h
 ·rw[if_neg e]at h;exact⟨h,e⟩
theorem bc {α:Type}{β:List α}{i j:Nat}{x:α}(h:i≠j):(β.set i x)[j]?=β[j]?:=by rw[WU,if_neg h]
theorem bD {α:Type}{β:List α}{i:Nat}{x y:α}(h:(β.set i x)[i]?=some y):y=x/\i<β.length:=by
 rw[WU,if_pos rfl]at h
 by_cases hi:i<β.length
 ·rw[if_pos hi]at h;cases h;exact⟨rfl,hi⟩
 ·rw[if_neg hi]at h;cases h
theorem get_set {α:Type}{σ:List α}{i:Nat}{x:α}(h:i<σ.length):(σ.set i x)[i]?=some x:=by rw[WU,if_pos rfl,if_pos h]
end
structure Sn (Z:Hp×(Addr->Prop))(H:Hp)(W:Addr->Prop):Prop where
 w:∀b,W b->Z.2 b\/Z.1 b=none
 k:Kp (λb=>Z.2 b\/Z.1 b=none) Z.1 H
 d:∀b,Z.1 b≠none->H b≠none
theorem Sn.refl {H:Hp}{W:Addr->Prop}:Sn (H,W) H W:=⟨λ_ z=>.inl z,Kp.refl,λ_ z=>z⟩
theorem Sn.same {Z:Hp×(Addr->Prop)}{H H':Hp}{W:Addr->Prop}(n:Sn Z H W)(s:ay H H'):Sn Z H' W:=⟨n.w,n.k.trans s.kp,λb z e=>n.d b z (s.free e)⟩
theorem Sn.free {Z:Hp×(Addr->Prop)}{H:Hp}{W:Addr->Prop}(n:Sn Z H W){a:Addr}(h:H a=none):Z.1 a=none:=by
 cases q:Z.1 a with
 |none=>rfl
 |some o=>exact absurd h (n.d a (by rw[q];intro z;cases z))
theorem Sn.upd {Z:Hp×(Addr->Prop)}{H:Hp}{W:Addr->Prop}(n:Sn Z H W){a:Addr}{o o':HO}(h:H a=some o)(ht:∀xs,o≠.tup xs)(wa:W a):Sn Z (L2.upd H a o') W :=
 ⟨n.w,n.k.trans ((l0 h ht).mono λb z=>by rw[z];exact n.w a wa),λb z e=>by
  by_cases hb:b=a
  ·subst hb;rw[aw]at e;cases e
  ·rw[ar hb]at e;exact n.d b z e⟩
theorem Sn.trans {Z:Hp×(Addr->Prop)}{H1 H:Hp}{W1 W:Addr->Prop}(n1:Sn Z H1 W1)(n:Sn (H1,W1) H W):Sn Z H W:=by
 have big:∀b,W1 b\/H1 b=none->Z.2 b\/Z.1 b=none:=λb z=>z.elim (n1.w b) λq=>.inr (n1.free q);exact⟨λb z=>big b (n.w b z),n1.k.trans (n.k.mono big),λb z=>n.d b (n1.d b z)⟩
section
variable {X:Cx}{st:Stmt}{rest:List Stmt}{σ:St}{H:Hp}
theorem PS.pre {t t':TS}(h:PS X st t)(k:∀D σ H,t' D σ H->t D σ H):PS X st t':=λpins s σ H D I q=>h pins s σ H D I (k D σ H q)
theorem qk.pre {t t':TS}(h:qk X rest t)(k:∀D σ H,t' D σ H->t D σ H):qk X rest t':=λpins s σ H D I q=>h pins s σ H D I (k D σ H q)
end
section
variable {b:Expr}{H:Hp}
theorem held {P:U0}{w:Vf}{W W2:Addr->Prop}{H2:Hp}{d:D}{v:V}(r:az P w W H d v)(n:Sn (H,W) H2 W2):az P w W2 H2 d v :=
 az.aW n.w (az.keep n.k (az.grow (λb z=>z) r))
end
theorem Sn.kp {Z:Hp×(Addr->Prop)}{H H':Hp}{W:Addr->Prop}(n:Sn Z H W)(k:Kp W H H')(dn:∀c,H c≠none->H' c≠none):Sn Z H' W:=⟨n.w,n.k.trans (k.mono n.w),λb z=>dn b (n.d b z)⟩
section
end
section
end
end L2
namespace T6
open PySem PySem.Spec PyProof.Rows
section
open PySem.SeqAt
open PySem.AutoSeq1 (wpAny_loadPart')
open PySem.MeetsSeq PySem.MeetsSeq2 PySem.MeetsSeq3
end
section
end
section
open PySem.SeqAt
open PySem.AutoSeq1 (wpAny_loadPart')
open PySem.MeetsSeq PySem.MeetsSeq2 PySem.MeetsSeq3
end
section
end
end T6
namespace L2
open PySem PySem.Spec PySem.SeqAt PyProof.Rows
def bp:List D->Option (List Int)
 |[]=>some []
 |.int i::ds=>(bp ds).map (i::·)
 |_::_=>none
theorem rF:∀{ds:List D} {ns:List Int},bp ds=some ns->ds=ns.map D.int
 |[],_,h=>by cases h;rfl
 |.int i::ds,_,h=>by
  obtain⟨ns,h1,rfl⟩:=Vv.mp h;rw[Vo,<- rF h1]
 |.bK::_,_,h=>by cases h
 |.bl _::_,_,h=>by cases h
 |.str _::_,_,h=>by cases h
 |.obj _::_,_,h=>by cases h
 |.tup _::_,_,h=>by cases h
 |.lst _::_,_,h=>by cases h
 |.dT _ _::_,_,h=>by cases h
 |.dK _ _::_,_,h=>by cases h
 |.sT _::_,_,h=>by cases h
theorem oz:∀(ns:List Int),bp (ns.map D.int)=some ns
 |[]=>rfl
 |n::ns=>by rw[Vo];show (bp (ns.map D.int)).map _=_;rw[oz ns];rfl
theorem b_ {P:U0}{w:Vf}{W:Addr->Prop}{H:Hp}:∀{ns:List Int} {vs:List V},aj P w W H (ns.map D.int) vs->vs=ns.map V.int
 |[],_,h=>h
 |n::ns,_,⟨v,r,e,h1,h2⟩=>by rw[e,b_ h2,show v=V.int n from h1];rfl
theorem ou {P:U0}{w:Vf}{W:Addr->Prop}{H:Hp}:∀(ns:List Int),aj P w W H (ns.map D.int) (ns.map V.int)
 |[]=>rfl
 |n::ns=>⟨_,_,rfl,rfl,ou ns⟩
section
end
end L2
namespace TS
open PySem PyProof.Rows
section
variable {prog:U0}{w:Vf}{A:VW}{E:UT->UW->Prop}{s:UW}
theorem tR {x:UT}{vs:List UT}{kf:UT->List Int}{Q:UT->UW->Prop}(hz:vs.length<=1000000)
  (col:∀(B:VW) (R:List UT->UW->Prop),B.units<=A.units+1->(∀(h':Heap) (tk:Nat),(∀b o,s.heap.get? b=some o->h'.get? b=some o)->s.heap.objs.size<=h'.objs.size->R vs {s with heap:=h',toks:=tk})->Vq (model prog w) B (collect x) R E s)
  (T:nD s.heap kf s.heap.objs.size vs)
  (h:∀(out:List UT) (l:Addr) (h':Heap) (tk:Nat) (n:Nat),out.Perm vs->out.Pairwise (λx y=>HT.lexLt (kf y) (kf x)=false)->s.heap.objs.size<=l->(∀b o,s.heap.get? b=some o->h'.get? b=some o)->h'.get? l=some (W4 "list" out.toArray n)->Q (.ref l) {s with heap:=h',toks:=tk}) :
  Vq (model prog w) A (call (.builtin "sorted") [x]) Q E s:=by
 refine ZW kind_sorted plain_sorted entry_sorted (args_sorted1 _) ?_;unfold XC.«sorted»
 refine UR (m:=checkCount "sorted" 1 1 _) (UY ?_);refine UR (col A.in1 _ (UU _) λh' tk kp Sm=>?_);have nl:vs.length<=U_:=by rw[V2];lia
 refine UR (wpAny_newList ?_ nl);have hl:(h'.push (W4 "list" vs.toArray 0)).get? h'.objs.size=some (W4 "list" vs.toArray 0):=Vp _ rfl;have T':nD (h'.push (W4 "list" vs.toArray 0)) kf h'.objs.size vs:=λv hv=>by
  obtain⟨t,o,xs,k,e1,_,e3,r⟩:=T v hv;exact⟨t,o,xs,k,e1,Vw (Vb (kp _ _ e3)),UX _ (kp _ _ e3),r⟩
 refine UR (Wk (Wl slot_list_sort ⟨_,hl,rfl⟩ entry_list_sort (lW (s:={s with heap:=h'.push (W4 "list" vs.toArray 0),toks:=tk}) hl hz T' λout hp hs=>⟨_,rfl,?_⟩) (args_list_sort _)))
 obtain⟨n,hn⟩:=sortedHeap_at (out:=out.toArray) hl;refine UY ⟨_,rfl,h out h'.objs.size _ tk n hp hs Sm (λb o e=>?_) hn⟩;have hb:=Vb (kp _ _ e);rw[sortedHeap_old (Vw hb) (by rw[size_push'];exact XB hb)]
 exact UX _ (kp _ _ e)
end
end TS
namespace L2
open PySem PySem.Spec PyProof.Rows
def uv (H:Hp):UT->List Int
 |.ref t=>match H t with
  |some (.tup xs)=>xs.filterMap fun
   |.int i=>some i
   |_=>none
  |_=>[]
 |_=>[]
theorem rR:∀ns:List Int,((ns.map V.int).filterMap fun
   |.int i=>some i
   |_=>none)=ns
 |[]=>rfl
 |n::ns=>by
  rw[Vo,VV];dsimp only;rw[rR ns]
theorem l3 {H:Hp}{t:Addr}{ns:List Int}(h:H t=some (.tup (ns.map V.int))):uv H (.ref t)=ns:=by
 unfold uv;dsimp only;rw[h];exact rR ns
def E7 (H:Hp):UT->Addr×List Int
 |.ref t=>(t,uv H (.ref t))
 |_=>(0,[])
abbrev xY (H:Hp)(ts:List (Addr×List Int)):Prop:=∀t∈ts,H t.1=some (.tup (t.2.map V.int))/\t.2≠[]
abbrev qt (t:Addr×List Int):V:=.ref t.1
theorem i3:∀{ts:List (Addr×List Int)} {us:List UT},Vals (ts.map qt) us->us=ts.map λt=>Value.ref t.1
 |[],_,.nil=>rfl
 |t::ts,_,.cons r q=>by
  rw[Vo,<- i3 q];cases r;rfl
theorem je:∀(ts:List (Addr×List Int)),Vals (ts.map qt) (ts.map λt=>Value.ref t.1)
 |[]=>.nil
 |t::ts=>.cons rfl (je ts)
theorem nR {H:Hp}{ts:List (Addr×List Int)}(T:xY H ts){out:List UT}(hp:out.Perm (ts.map λt=>Value.ref t.1)):out=(out.map (E7 H)).map (λt=>Value.ref t.1)/\(out.map (E7 H)).Perm ts:=by
 constructor
 ·rw[Wg];refine(VH (g:=id) λv hv=>?_).trans (List.map_id _) |>.symm
  obtain⟨t,ht,rfl⟩:=Vx.mp (hp.mem_iff.mp hv);rfl
 ·refine(hp.map (E7 H)).trans (YC ?_);rw[Wg];refine(VH (g:=id) λt ht=>?_).trans (List.map_id _);show (t.1,uv H (.ref t.1))=t;rw[l3 (T t ht).1]
theorem u0 {P:U0}{w:Vf}{H:Hp}{h:Heap}{ts:List (Addr×List Int)}(ok:hG P w H h)(T:xY H ts){a:Addr}(ha:h.objs.size<=a):TS.nD h (uv H) a (ts.map λt=>Value.ref t.1):=λv hv=>by
 obtain⟨t,ht,rfl⟩:=Vx.mp hv;obtain⟨h1,h2⟩:=T t ht;obtain⟨_,its,r,o,ho,hc,n,hd⟩:=(show bb P w H h t.1 (.tup (t.2.map V.int)) from ok _ _ h1)
 exact⟨t.1,o,_,n,rfl,Vw (Vy (Vb ho) ha),ho,hc,hd,by rw[l3 h1];exact intsAre_of (by simpa using r),by rw[l3 h1];exact h2⟩
section
variable {X:Cx}
theorem p_:eY X (.builtin "sorted") (λxs H Q=>∃(p:Addr) (ts:List (Addr×List Int)),xs=[.ref p]/\cP X.K H p (ts.map qt)/\xY H ts/\ts.length<=1000000 /\
  ∀(l:Addr) (de:List (Addr×List Int)),H l=none->de.Perm ts->de.Pairwise (λx y=>HT.lexLt y.2 x.2=false)->Q (.ref l) (upd H l (.lst (de.map qt)))):=by
 intro pins s σ H xs us Q I r h;obtain⟨p,ts,rfl,hq,T,hz,q⟩:=h;obtain⟨u,rfl,rx⟩:=vals1 r;cases rx;obtain⟨its,r',pl,hl⟩:=I.list hq;obtain rfl:=i3 r';have nl:(ts.map λt=>Value.ref t.1).length<=U_:=by rw[US,V2];lia
 refine TS.tR (kf:=uv H) (by rw[US];exact hz) (λB R _ hR=>?_) (u0 I.br T (UU _)) λout l h' tk n hp hs hle kp ho=>?_
 ·refine collect_list pl.isList (hR _ s.toks (λb o e=>?_) ?_) nl
  ·have hb:=Vb e;rw[Heap.get?_update_ne _ _ _ _ (Vw hb)];exact UX _ e
  ·rw[Heap.size_update,size_push'];exact X7 _
 ·obtain⟨e1,e2⟩:=nR T hp;have zl:out.length=ts.length:=by rw[hp.length_eq,US]
  refine⟨.ref l,_,I.laid (t':=tk) (o:=.lst ((out.map (E7 H)).map qt)) kp hle ?_,rfl,q l _ (I.br.fresh hle) e2 ?_⟩
  ·refine⟨by rw[US,US,zl,V2];lia,out,n,?_,ho⟩
   have:=je (out.map (E7 H));rw[<- e1]at this;exact this
  ·rw[WA];refine hs.imp_of_mem λ{x y} hx hy hh=>?_;obtain⟨t,ht,rfl⟩:=Vx.mp (hp.mem_iff.mp hx);obtain⟨t',Ob,rfl⟩:=Vx.mp (hp.mem_iff.mp hy);exact hh
end
end L2
namespace ST
open PySem PyProof.Rows
section
variable {prog:U0}{w:Vf}{A:VW}{E:UT->UW->Prop}{s:UW}
variable {a b:Addr}{o:Obj}{ts:List (Addr×List Int)}{es:Array (Int×UT)}{ep:Nat}{t:SetTable}{k:List Int}
theorem cQ.at (S:cQ prog w o ts es ep t){i:Nat}(hi:i<t.place.size):∃x,ts[i]?=some x/\es[i]?=some (ent prog w x):=by
 have hl:i<ts.length:=by rw[<- S.size.2];exact hi
 exact⟨ts[i],U6 hl,by rw[<- Vh,S.HP,U8,U6 hl];rfl⟩
theorem zQ (S:cQ prog w o ts es ep t):t.gaveWay=false:=by
 obtain⟨j,hj,e⟩:=S.wf.EL;unfold SetTable.gaveWay;rw[e];obtain⟨i,rfl⟩:∃i,j=i+1:=⟨j-1,by lia⟩
 have:0<2 ^ i:=YQ (by decide)
 rw[Ys];have:(2 ^ i*2-1) % 2=1:=by lia
 rw[this];rfl
theorem mW (ho:s.heap.get? a=some o)(S:cQ prog w o ts es ep t)(T:Ek prog w s.heap ts)(hk:(TK prog w).is s.heap k b)(hu:A.units<XO){jB:Bool}{N:Nat}{Q:SetFound->UW->Prop}
  (hN:¬ qg t (cH t.mask (kH prog w k) N)) (hO:∀x,x<N->qg t (cH t.mask (kH prog w k) x)) (UK:N<10*SetTable.turns t.mask)
  (Qf:(∀x∈ts,x.2≠k)->Q (.free (cH t.mask (kH prog w k) N) false) s) (Qt:∀i:Option Nat,(∃x∈ts,x.2=k)->(jB=false->i.isSome=true)->Q (.there i) s) :
  ∀(d n f:Nat) (yK:Option SetTable.Probe),yK.getD (MW t.mask (kH prog w k))=fJ t.mask (kH prog w k) n->n+d=N->d<f ->
   (∀m,m<n->∀i x,i<t.place.size->g t.place i=cH t.mask (kH prog w k) m->ts[i]?=some x->x.2≠k) ->
   Vq (model prog w) A (setSearchFrom a (.ref b) (kH prog w k) jB f yK) Q E s:=by
 intro d
 induction d using Nat.strongRecOn with
 |_ d ih =>
  intro n f yK EY l_ Md K_;obtain⟨f,rfl⟩:∃f',f=f'+1:=⟨f-1,by lia⟩
  unfold setSearchFrom;refine UR (Wy ho S.dat S.fits ?_);dsimp only;rw[zQ S,if_neg (by simp)]
  rw[FK,EY];generalize QQ:SetTable.probe t _ (kH prog w k) (fJ t.mask (kH prog w k) n)=pr;have hash:∀i x,i<t.place.size->ts[i]?=some x->(es[i]?.map (·.1)).getD 0=kH prog w x.2:=λi x hi hx=>by
   obtain⟨y,h1,h2⟩:=S.at hi;rw[hx]at h1;obtain rfl:=VA h1;rw[h2];rfl
  rcases qM S.wf (λi=>(es[i]?.map (·.1)).getD 0) (kH prog w k) hN hO d n (10*SetTable.turns t.mask) l_ (by lia)with⟨q1,q2⟩|⟨m,i,q1,q2,q3,q4,q5,q6,q7⟩
  ·have e:pr=some (.empty (cH t.mask (kH prog w k) N) none):=QQ.symm.trans q1;rw[e];dsimp only;refine UY (Qf λx hx BG=>?_);obtain⟨i,hi⟩:=YR hx;have AI:i<t.place.size:=by
    rw[S.size.2];exact(U3.mp hi).1
   obtain⟨n',g1,g2⟩:=S.wf.Qm i (kH prog w x.2) (by rw[U8,hi];rfl)
   rw[BG]at g1 g2;have Dz:n'<N:=by
    rcases V6 n' N with z|z
    ·exact z
    ·rcases V6 N n' with z2|z2
     ·exact absurd (g2 N z2) hN
     ·obtain rfl:N=n':=by lia
      exact absurd ⟨i,AI,g1.symm⟩ hN
   rcases V6 n' n with z|z
   ·exact K_ n' z i x AI g1.symm hi BG
   ·exact q2 n' z Dz i AI g1.symm (by rw[hash i x AI hi,BG])
  ·have e:pr=some (.candidate (cH t.mask (kH prog w k) m) i (fJ t.mask (kH prog w k) (m+1))):=QQ.symm.trans q6;rw[e];dsimp only;obtain⟨x,EW,Ka⟩:=S.at q3;have J_:x∈ts:=VJ EW;have EZ:t.slot (cH t.mask (kH prog w k) m)=.live i:=by rw[<- q4];exact nO S.wf.wO q3
   refine(λ(key:?G)=>?main) ?key
   case main =>
    cases hl:t.led with
    |true =>
     rw[if_neg (by simp)]
     exact key
    |false =>
     rw[if_pos (by simp)]
     have Od:(es.filter (·.1==kH prog w k)).toList.map (·.2)=(ts.filter λx=>kH prog w x.2==kH prog w k).map λx=>Value.ref x.1:=by
      rw[Array.toList_filter,S.HP,List.filter_map,Wg];rfl
     rw[Od];refine UR (BR hk _ (λy hy=>T y (VB.mp hy).1) ?_);rw[if_neg (by simp)]
     exact key
   case key =>
    rw[Ka];dsimp only;refine UR (Wk ((TK prog w).eqBool hu (T x J_) hk ?_));refine UR (Wy ho S.dat S.fits ?_);dsimp only;have BH:t.sameMemory t.moves t.mask=some true:=by
     unfold SetTable.sameMemory;rw[if_pos (beq_self_eq_true _)]
    by_cases BG:x.2=k
    ·rw[decide_eq_true BG];cases jB with
     |true =>
      rw[if_pos (by rfl)]
      exact UY (Qt none ⟨x,J_,BG⟩ (λz=>by cases z))
     |false =>
      rw[if_neg (by simp),BH]
      dsimp only;rw[if_pos rfl,EZ];dsimp only;rw[Ka];dsimp only;refine UR (wpAny_isSame_ref_self ?_);rw[if_pos rfl];refine UR (UY ?_);exact UY (Qt (some i) ⟨x,J_,BG⟩ (λ_=>rfl))
    ·rw[decide_eq_false BG,if_neg (by simp),BH]
     dsimp only;rw[if_pos rfl,EZ];dsimp only;rw[Ka];dsimp only;refine UR (wpAny_isSame_ref_self ?_);rw[if_pos rfl];refine UR (UY ?_);dsimp only;rw[if_neg (by simp)]
     refine ih (N-(m+1)) (by lia) (m+1) f _ rfl (by lia) (by lia) λm' UB i' x' h1 h2 h3=>?_
     rcases V6 m' n with z|z
     ·exact K_ m' z i' x' h1 h2 h3
     ·by_cases e2:m'=m
      ·subst e2;obtain rfl:=S.wf.wO.inj h1 q3 (h2.trans q4.symm);rw[EW]at h3;obtain rfl:=VA h3;exact BG
      ·intro z2;exact q7 m' z (by lia) i' h1 h2 (by rw[hash i' x' h1 h3,z2])
end
theorem sP (n:Nat):∀(f j:Nat),n<2 ^ (j+f)->∃j',j<=j'/\SetTable.sizeAbove.go n f (2 ^ j)=2 ^ j'/\n<2 ^ j'/\(j'=j\/2 ^ (j' - 1)<=n)
 |0,j,h=>⟨j,UU _,rfl,h,.inl rfl⟩
 |f+1,j,h=>by
  unfold SetTable.sizeAbove.go
  by_cases hc:2 ^ j<=n
  ·rw[if_pos hc,<- Ys];obtain⟨j',h1,h2,h3,h4⟩:=sP n f (j+1) (by rw[show j+1+f=j+(f+1) by lia];exact h)
   refine⟨j',by lia,h2,h3,.inr ?_⟩
   rcases h4 with rfl|h4
   ·exact hc
   ·exact h4
  ·rw[if_neg hc];exact⟨j,UU _,rfl,by lia,.inl rfl⟩
theorem Bx {n:Nat}(h:n<=4000):∃j,3<=j/\SetTable.sizeAbove n=2 ^ j/\n<2 ^ j/\2 ^ j<=8192:=by
 obtain⟨j,h1,h2,h3,h4⟩:=sP n 64 3 (Nat.lt_of_le_of_lt h (by decide))
 refine⟨j,h1,h2,h3,?_⟩;rcases h4 with rfl|h4
 ·decide
 ·have:j-1<12:=by
   rcases V6 (j-1) 12 with z|z
   ·exact z
   ·have:2 ^ 12<=2 ^ (j-1):=XG (by decide) z
    lia
  have:2 ^ j<=2 ^ 12:=XG (by decide) (by lia)
  lia
theorem DF (d:Nat)(n:Int)(tk:Tok):hashByValue d (.int n tk)=pure true:=by
 cases d <;> rfl
section
variable {prog:U0}{w:Vf}{A:VW}{E:UT->UW->Prop}{s:UW}
variable {a b:Addr}{o:Obj}{ts:List (Addr×List Int)}{es:Array (Int×UT)}{ep:Nat}{t:SetTable}{k:List Int}
theorem Fq {Q:Bool->UW->Prop}(hk:(TK prog w).is s.heap k b)(q:Q true s):Vq (model prog w) A (hashByValue 8 (.ref b)) Q E s:=by
 obtain⟨o,items,n,ho,hc,hd,hi⟩:=hk;have hT:s.TypeIs (.ref b) "tuple" := ⟨o,ho,hc⟩;unfold hashByValue;refine UR (wpAny_specialOf hT F.slot_tuple_hash.lookup ?_);dsimp only;refine UR (Ww ho hd ?_);dsimp only[Option.getD_some];rw[<- Array.forIn_toList];refine UR (Zl _ (λrest r s'=>r=(none,())/\s'=s/\∀v∈rest,∃n tk,v=Value.int n tk) _ ?_ ?_ _ _ ⟨rfl,rfl,?_⟩)
 ·rintro v rest r s' ⟨rfl,rfl,nj⟩;obtain⟨n,tk,rfl⟩:=nj v Vs;rw[DF];refine UR (UY ?_);rw[if_neg (by simp)]
  exact UY ⟨rfl,rfl,λu hu=>nj u (Vi _ hu)⟩
 ·rintro r s' ⟨rfl,rfl,_⟩;exact UY q
 ·generalize items.toList=vs at hi
  induction hi with
  |nil=>intro v hv;cases hv
  | @cons k v ks vs h1 h2 ih =>
   intro u hu;rcases U1.mp hu with rfl|hu
   ·obtain⟨t,rfl⟩:=Zb h1;exact⟨_,_,rfl⟩
   ·exact ih u hu
theorem wm (ho:s.heap.get? a=some o)(S:cQ prog w o ts es ep t)(T:Ek prog w s.heap ts)(hk:(TK prog w).is s.heap k b)(hu:A.units<XO){jB:Bool}{Q:SetFound->UW->Prop}
  (Qf:∀N,(∀x∈ts,x.2≠k)->¬ qg t (cH t.mask (kH prog w k) N)->(∀x,x<N->qg t (cH t.mask (kH prog w k) x))->Q (.free (cH t.mask (kH prog w k) N) false) s)
  (Qt:∀i:Option Nat,(∃x∈ts,x.2=k)->(jB=false->i.isSome=true)->Q (.there i) s) :
  Vq (model prog w) A (setSearch a (.ref b) (kH prog w k) jB) Q E s:=by
 obtain⟨N,h1,h2,h3⟩:=S.wf.first (kH prog w k)
 have hm:=S.EL;unfold setSearch;exact mW ho S T hk hu h2 h3 h1 (λq=>Qf N q h2 h3) Qt N 0 100000 none rfl (Xb N) (by unfold SetTable.turns at h1;lia) λm hm=>by lia
theorem vK {h:Heap}(ho:h.get? a=some o)(hd:o.data=.set es ep t)(eh:Array (Int×UT))(t':SetTable):(h.update a (Y4 eh t')).get? a=some {o with data:=.set eh (ep+1) t'}:=by
 have e:=YI (Y4 eh t') ho (by rw[putSet_of eh t' hd];rfl)
 rw[e,putSet_of eh t' hd]
theorem zB {α:Type}(l:List α)(p:Nat)(x:α):(l.take p++x::l.drop p).Perm (x::l):=by
 refine Yn.trans (List.Perm.cons x ?_);rw[Ws]
theorem yr (ho:s.heap.get? a=some o)(hx:o.ExactSet)(hd:o.data=.set es ep t)(he:es.toList=ts.map (ent prog w))(hw:WF t (ts.map λx=>kH prog w x.2))(UA:0<ts.length)(hn:ts.length<=1000)
  (OU:t.led=!w.params.followText "set-order") (hpl:t.plain=true) (l_:(ts.map (·.2)).Nodup) {Q:Unit->UW->Prop}
  (q:∀(de:List (Addr×List Int)) (eh:Array (Int×UT)) (t':SetTable),de.Perm ts->cQ prog w {o with data:=.set eh (ep+1) t'} de eh (ep+1) t'->Q () {s with heap:=s.heap.update a (Y4 eh t')}) :
  Vq (model prog w) A (setRelay a (SetTable.grown ts.length)) Q E s:=by
 have hz:es.size=ts.length:=by rw[<- U4,he,US]
 have hp:t.place.size=ts.length:=by have:=hw.sz;rw[US]at this;exact this
 have hf:t.fits es.size=true:=by
  unfold SetTable.fits SetTable.fill;rw[hw.ID,hz,hp];have:=hw.room;simp;lia
 unfold setRelay;refine UR (Wy ho hd hf ?_);dsimp only;have hg:SetTable.grown ts.length=ts.length*4:=by unfold SetTable.grown;rw[if_neg (by lia)]
 rw[hg];obtain⟨j,j3,ja,jb,jc⟩:=Bx (n:=ts.length*4) (by lia)
 rw[ja,if_neg (by rw[V2];lia)]
 have hs:(es.map (·.1)).size=ts.length:=by rw[ZU,hz]
 obtain⟨t',order,e1,e2,e3,e4,e5,e6,e7,e8⟩:=Di (hs:=es.map (·.1)) j3 (by lia) t.finger (t.movedTo (2 ^ j-1)) t.led t.plain
 rw[hs]at e6 e8;have er:t.relaid (es.map (·.1)) (ts.length*4)=some (t',order):=by
  unfold SetTable.relaid;rw[ja];exact e1
 rw[er];have gd:∀i,i<ts.length->es[i]?=some (ent prog w (ts.getD i (0,[]))):=λi hi=>by
  rw[<- Vh,he,U8,U6 hi,WM,U6 hi];rfl
 have gS:(order.filterMap (es[·]?)).toList=(order.toList.map λi=>ts.getD i (0,[])).map (ent prog w):=by
  rw[Array.toList_filterMap,Wg];have:∀l:List Nat,(∀i∈l,i<ts.length)->l.filterMap (es[·]?)=l.map (ent prog w ∘ λi=>ts.getD i (0,[])):=λl=>by
   induction l with
   |nil=>intro _;rfl
   |cons i l ih =>
    intro h;rw[VV,gd i (h i Vs),Vo,ih λy hy=>h y (Vi _ hy)];rfl
  exact this _ λi hi=>V8.mp (e6.mem_iff.mp hi)
 have AA:(order.toList.map λi=>ts.getD i (0,[])).Perm ts:=by
  refine(e6.map _).trans (YC ?_);apply WB;intro i;rw[U8]
  by_cases hi:i<ts.length
  ·rw[WD hi,U6 hi];show some (ts.getD i (0,[]))=_;rw[WM,U6 hi];rfl
  ·rw[VT (by rw[Vm];lia),VT (by lia)]
   rfl
 have hsz:(order.filterMap (es[·]?)).size=es.size:=by
  rw[<- U4,gS,US,AA.length_eq,hz]
 refine UR ?_;show Vq _ _ (if (order.filterMap (es[·]?)).size != es.size then _ else _) _ _ _
 rw[hsz,if_neg (by simp)]
 refine UY ?_;dsimp only;refine wpAny_storeSet_of ho hd (q _ _ t' AA ⟨hx,rfl,gS,?_,?_,by lia,e3.trans OU,e4.trans hpl,?_⟩) (by rw[hsz,hz,V2];lia)
 ·rw[Wg];have:(order.toList.map λi=>(es.map (·.1)).getD i 0)=order.toList.map ((λx=>kH prog w x.2) ∘ λi=>ts.getD i (0,[])):=by
   refine VH λi hi=>?_;have hi:=V8.mp (e6.mem_iff.mp hi);rw[Vj,Array.getElem?_map,gd i hi];rfl
  rw[<- this];exact e7
 ·rw[e8,e2];lia
 ·exact((AA.map (·.2)).nodup_iff).mpr l_
theorem yu (ho:s.heap.get? a=some o)(S:cQ prog w o ts es ep t)(T:Ek prog w s.heap ts)(hk:(TK prog w).is s.heap k b)(hu:A.units<XO)(hn:ts.length<1000)(f:Nat){Q:Bool->UW->Prop}
  (q:∀(h':Heap) (o':Obj) (de:List (Addr×List Int)) (eh:Array (Int×UT)) (pY:Nat) (t':SetTable) (added:Bool),Wq a s.heap h'->h'.get? a=some o'->cQ prog w o' de eh pY t' ->
   ((∃x∈ts,x.2=k)->de=ts)->((∀x∈ts,x.2≠k)->de.Perm ((b,k)::ts))->Q added {s with heap:=h'}) :
  Vq (model prog w) A (setAddHashedIn a (.ref b) (kH prog w k) (f+1)) Q E s:=by
 unfold setAddHashedIn;refine UR (Wy ho S.dat S.fits ?_);dsimp only;rw[if_neg (by simp[byScan,Value.scannable])]
 refine UR (wm ho S T hk hu (λN g1 g2 g3=>?_) λi g1 g2=>?_)
 ·dsimp only;refine UR (Wy ho S.dat S.fits ?_);dsimp only;have hr:t.place.size+1<=t.mask:=by
   have:=S.M9;obtain⟨j,hj,e⟩:=S.wf.EL;have:2 ^ 3<=2 ^ j:=XG (by decide) hj
   lia
  obtain⟨W,hp⟩:=S.wf.put (j_ _ _ _) g2 g3 hr;have pe:(t.put (cH t.mask (kH prog w k) N)).1.plain=t.plain/\(t.put (cH t.mask (kH prog w k) N)).1.led=t.led/\(t.put (cH t.mask (kH prog w k) N)).1.mask=t.mask:=⟨rfl,rfl,rfl⟩;have pf:(t.put (cH t.mask (kH prog w k) N)).1.dummies=#[]:=W.ID;generalize (t.put (cH t.mask (kH prog w k) N)).1=t1 at *
  generalize (t.put (cH t.mask (kH prog w k) N)).2=p at *
  obtain⟨NH,Qu,R9⟩:=pe;rw[NH,S.Im,if_pos rfl];refine UR (Fq hk ?_);rw[if_pos rfl];have hz:=S.size;have HN:(SetTable.insertAt es p (kH prog w k,Value.ref b)).toList=(ts.take p++(b,k)::ts.drop p).map (ent prog w):=by
   rw[l7,S.HP,Vn,Vo,Y0,List.map_drop]
  have W1:WF t1 ((ts.take p++(b,k)::ts.drop p).map λx=>kH prog w x.2):=by
   rw[Vn,Vo,Y0,List.map_drop];exact W
  have pm:(ts.take p++(b,k)::ts.drop p).Perm ((b,k)::ts):=zB ts p (b,k);have jn:(ts.take p++(b,k)::ts.drop p).length=ts.length+1:=pm.length_eq;have C7:((ts.take p++(b,k)::ts.drop p).map (·.2)).Nodup:=by
   refine((pm.map (·.2)).nodup_iff).mpr ?_;rw[Vo,Vt];exact⟨λhm=>by
    obtain⟨x,hx,e⟩:=Vx.mp hm;exact g1 x hx e,S.NQ⟩
  have B4:(SetTable.insertAt es p (kH prog w k,Value.ref b)).size=ts.length+1:=by rw[<- U4,HN,US,jn]
  have Us:t1.place.size=ts.length+1:=by have:=W1.sz;rw[US,jn]at this;exact this
  refine UR (wpAny_storeSet_of ho S.dat ?_ (by rw[B4,V2];lia))
  have K0:=vK ho S.dat (SetTable.insertAt es p (kH prog w k,Value.ref b)) t1;have Jg:Wq a s.heap (s.heap.update a (Y4 (SetTable.insertAt es p (kH prog w k,Value.ref b)) t1)):=Xn _ _ _;have fin:∀(h':Heap) (o':Obj) (de:List (Addr×List Int)) (eh:Array (Int×UT)) (pY:Nat) (t':SetTable),Wq a s.heap h'->h'.get? a=some o'->cQ prog w o' de eh pY t'->de.Perm (ts.take p++(b,k)::ts.drop p)->Q true {s with heap:=h'} :=
   λh' o' de eh pY t' q1 q2 q3 q4=>q h' o' de eh pY t' true q1 q2 q3 (λxA=>by obtain⟨x,hx,e⟩:=xA;exact absurd e (g1 x hx)) λ_=>q4.trans pm
  by_cases rH:t1.tooFull=true
  ·rw[rH,if_pos (by rfl)]
   have Tb:SetTable.grown (es.size+1)=SetTable.grown (ts.take p++(b,k)::ts.drop p).length:=by rw[jn,hz.1]
   rw[Tb];refine UR (yr (s:={s with heap:=s.heap.update a (Y4 (SetTable.insertAt es p (kH prog w k,Value.ref b)) t1)}) K0 S.ex rfl HN W1 (by lia) (by lia) (Qu.trans S.led) (NH.trans S.Im) C7 λde eh t' r1 r2=>UY ?_)
   have SU:=vK K0 rfl eh t';exact fin _ _ de eh _ t' (Jg.trans (Xn _ _ _)) SU r2 r1
  ·rw[if_neg (by simpa using rH)]
   refine UY (fin _ _ _ _ _ _ Jg K0 ⟨S.ex,rfl,HN,W1,?_,by rw[R9];exact S.EL,Qu.trans S.led,NH.trans S.Im,C7⟩ (.refl _))
   unfold SetTable.tooFull SetTable.fill at rH;rw[pf]at rH;simp at rH;lia
 ·dsimp only;exact UY (q s.heap o ts es ep t false (Heap.SameBut.refl _ _) ho S (λ_=>rfl) λg=>absurd g1 λAu=>by obtain⟨x,hx,e⟩:=Au;exact g x hx e)
theorem Ft (ho:s.heap.get? a=some o)(S:cQ prog w o ts es ep t)(T:Ek prog w s.heap ts)(hk:(TK prog w).is s.heap k b)(hu:A.units<XO)(hn:ts.length<1000){Q:Bool->UW->Prop}
  (q:∀(h':Heap) (o':Obj) (de:List (Addr×List Int)) (eh:Array (Int×UT)) (pY:Nat) (t':SetTable) (added:Bool) (tk:Nat),s.toks<=tk->Wq a s.heap h'->h'.get? a=some o'->cQ prog w o' de eh pY t' ->
   ((∃x∈ts,x.2=k)->de=ts)->((∀x∈ts,x.2≠k)->de.Perm ((b,k)::ts))->Q added {s with heap:=h',toks:=tk}) :
  Vq (model prog w) A (setAdd a (.ref b)) Q E s:=by
 unfold setAdd;refine Wk ?_;refine UR ((TK prog w).pyHash hu hk ?_);unfold setAddHashed;refine Wk ?_;exact yu (s:={s with toks:=s.toks+(TK prog w).draws k}) ho S T hk hu hn 99999 λh' o' de eh pY t' added r1 r2 r3 r4 r5=>q h' o' de eh pY t' added _ (Ym _ _) r1 r2 r3 r4 r5
end
theorem mL {α:Type}:∀{l:List α} {i:Nat} (h:i<l.length),(l[i]::l.eraseIdx i).Perm l
 |[],_,h=>absurd h (ZD _)
 |x::l,0,_=>.refl _
 |x::l,i+1,h=>by
  have h':i<l.length:=by rw[Vd]at h;lia
  show (l[i]::x::l.eraseIdx i).Perm (x::l);exact(List.Perm.swap _ _ _).trans ((mL h').cons x)
theorem vm {α:Type}(next:Nat->Nat):∀(f k:Nat) (left:List α) (out:Array α),f=left.length->(pickOrder.go next f k left out).toList.Perm (out.toList++left)
 |0,k,left,out,e=>by
  obtain rfl:left=[]:=List.length_eq_zero_iff.mp e.symm;unfold pickOrder.go;rw[Wf]
 |f+1,k,left,out,e=>by
  unfold pickOrder.go;have hi:next k % left.length<left.length:=XW _ (by lia)
  rw[U6 hi];dsimp only;refine(vm next f (k+1) _ _ (by rw[List.length_eraseIdx_of_lt hi];lia)).trans ?_
  rw[WC,V4];exact YH _ (mL hi)
theorem wX {α:Type}(next:Nat->Nat)(xs:Array α):(pickOrder next xs).toList.Perm xs.toList:=by
 have:=vm next xs.size 0 xs.toList #[] (by rw[U4])
 exact this
theorem bM:Slot "set_iterator" "__next__" "set_iterator.__next__" :=
 .of (owner:="set_iterator") (n:="__next__") (by rw[typeLookup_type,builtinLookup_eq_fast];kernel_rfl) (by decide +kernel) (by decide +kernel) (by decide +kernel)
  (by first|exact .inl (by decide +kernel)|exact .inr (by decide +kernel)) (by rw[ZK];kernel_rfl)
theorem gD:Slot "set_iterator" "__iter__" "set_iterator.__iter__" :=
 .of (owner:="set_iterator") (n:="__iter__") (by rw[typeLookup_type,builtinLookup_eq_fast];kernel_rfl) (by decide +kernel) (by decide +kernel) (by decide +kernel)
  (by first|exact .inl (by decide +kernel)|exact .inr (by decide +kernel)) (by rw[ZK];kernel_rfl)
theorem f7:entryFor table "set_iterator.__next__" = some XC.«set_iterator.__next__»:=entryFor_of_tree (by kernel_rfl)
theorem mE:entryFor table "set_iterator.__iter__" = some XC.«dict_keyiterator.__iter__» :=
 entryFor_alias (id':="dict_keyiterator.__iter__") (by kernel_rfl) rfl (by decide +kernel) (by kernel_rfl)
theorem mG:entryFor table "set.__iter__" = some XC.«frozenset.__iter__» :=
 entryFor_alias (id':="frozenset.__iter__") (by kernel_rfl) rfl (by decide +kernel) (by kernel_rfl)
theorem gJ (a:UT):argsOk "set_iterator.__next__" ⟨[a],[]⟩:=by unfold argsOk;kernel_rfl
theorem nC (a:UT):argsOk "set_iterator.__iter__" ⟨[a],[]⟩:=by unfold argsOk;kernel_rfl
section
variable {prog:U0}{w:Vf}{A:VW}{E:UT->UW->Prop}{s:UW}
variable {a:Addr}{o:Obj}{ts:List (Addr×List Int)}{es:Array (Int×UT)}{ep:Nat}{t:SetTable}
abbrev Bm (w:Vf):Bool:=w.params.followText "set-order"
theorem iZ {Q:Bool->UW->Prop}(q:Q (Bm w) s):Vq (model prog w) A setsByText Q E s:=by
 unfold setsByText;exact UR (Yi (UY q))
def bN (w:Vf)(a:Addr)(ep:Nat)(es:Array (Int×UT)):Array (Int×UT):=if Bm w=true then pickOrder (w.params.setOrder a ep) es else es
theorem gf (w:Vf)(a:Addr)(ep:Nat)(es:Array (Int×UT)):(bN w a ep es).toList.Perm es.toList:=by
 unfold bN
 split
 ·exact wX _ _
 ·exact .refl _
theorem xb (S:cQ prog w o ts es ep t){Q:Bool->UW->Prop}(ho:s.heap.get? a=some o)(q:Q false s):Vq (model prog w) A (setDrawn a) Q E s:=by
 unfold setDrawn;refine UR (Wy ho S.dat S.fits ?_);dsimp only;refine UR (iZ (UY ?_));have:(!Bm w&&(!t.plain&&decide (es.size>1)))=false:=by rw[S.Im];simp
 show Q (!Bm w&&(!t.plain&&decide (es.size>1))) s;rw[this];exact q
theorem kM (ho:s.heap.get? a=some o)(S:cQ prog w o ts es ep t){sl i:Nat}{Q:Option (UT×Nat)->UW->Prop}(Iq:Bm w=false->SetTable.below t.place sl=i)
  (q1:∀e,(bN w a ep es)[i]?=some e->∀FU:Nat,(Bm w=false->SetTable.below t.place FU=i+1)->Q (some (e.2,FU)) s) (q2:(bN w a ep es)[i]?=none->Q none s) :
  Vq (model prog w) A (setNext a sl i ep) Q E s:=by
 unfold setNext;refine UR (Wy ho S.dat S.fits ?_);dsimp only;refine UR (iZ ?_);cases hb:Bm w with
 |true =>
  rw[if_pos rfl,if_neg (by simp)]
  unfold setWalk;refine UR (UR (Wy ho S.dat S.fits ?_));dsimp only;refine UR (iZ ?_);rw[hb,if_pos rfl];refine UR (Yi (UY (UY ?_)));have e:bN w a ep es=pickOrder (w.params.setOrder a ep) es:=by unfold bN;rw[hb,if_pos rfl]
  rw[e]at q1 q2;show Q (((pickOrder (w.params.setOrder a ep) es)[i]?).map λe=>(e.2,sl)) s;cases hx:(pickOrder (w.params.setOrder a ep) es)[i]? with
  |none=>exact q2 hx
  |some x=>exact q1 x hx sl (λz=>by rw[hb]at z;cases z)
 |false =>
  rw[if_neg (by simp)]
  have e:bN w a ep es=es:=by unfold bN;rw[hb,if_neg (by simp)]
  rw[e]at q1 q2;have hd:(!t.plain&&decide (es.size>1))=false:=by rw[S.Im];rfl
  show Vq _ _ (if (!t.plain&&decide (es.size>1))=true then _ else _) _ _ _
  rw[hd,if_neg (by simp)]
  have hl:t.led=true:=by
   rw[S.led];show (!Bm w)=true;rw[hb];rfl
  refine UR ?_;show Vq _ _ (if (!t.led&&!es.isEmpty)=true then _ else _) _ _ _
  rw[hl,if_neg (by simp)]
  refine UY (UY ?_);rw[Iq hb];have hz:=S.size
  by_cases hi:i<t.place.size
  ·have h1:es[i]?=some es[i]:=getElem?_pos es i (by omega)
   rw[h1,uI hi];refine q1 _ h1 _ λ_=>?_;obtain⟨b1,b2,b3⟩:=fz S.wf.wO (g t.place i+1);rcases Ze (SetTable.below t.place (g t.place i+1)) (i+1)with z|z|z
   ·have:=b3 i (by omega) hi
    omega
   ·exact z
   ·have:=b2 (i+1) z;have:=S.wf.wO i (i+1) (by omega) (by omega)
    omega
  ·have h1:es[i]?=none:=WG (by omega)
   rw[h1];exact q2 h1
end
section
variable {prog:U0}{w:Vf}{A:VW}{E:UT->UW->Prop}{s:UW}
variable {a b it:Addr}{o:Obj}{ts:List (Addr×List Int)}{es:Array (Int×UT)}{ep:Nat}{t:SetTable}
def pB (sl i:Nat)(a:Addr)(n ep:Nat):Obj:={cls:=.type "set_iterator",dict:=none,data:=.fields #[.int sl 0,.int i 0,.ref a,.int n 0,.int ep 0],slots:=#[]}
theorem k_ {sl i n:Nat} (h:s.heap.get? it=some (pB sl i a n ep)):s.TypeIs (.ref it) "set_iterator" := ⟨_,h,rfl⟩
def II (prog:U0)(w:Vf)(it a:Addr)(ts:List (Addr×List Int))(es:Array (Int×UT))(ep:Nat)(i:Nat)(h:Heap):Prop :=
 ∃sl o t,h.get? it=some (pB sl i a es.size ep)/\h.get? a=some o/\cQ prog w o ts es ep t/\(Bm w=false->SetTable.below t.place sl=i)
theorem yW (AE:a≠it){i:Nat}{e:Int×UT}{Q:Option UT->UW->Prop}(st:II prog w it a ts es ep i s.heap)(he:(bN w a ep es)[i]?=some e)
  (q:∀h',II prog w it a ts es ep (i+1) h'->Wq it s.heap h'->Q (some e.2) {s with heap:=h'}):Vq (model prog w) A (XU (.ref it)) Q E s:=by
 obtain⟨sl,o,t,hi,ho,S,hb⟩:=st;have hT:=k_ hi;unfold XU;refine UR (Yc (Wz (name:=XS "__next__") hT bM (Wl bM hT f7 ?_ (gJ _))));unfold XC.«set_iterator.__next__»
 refine UR (UY ?_);refine UR (wpAny_fieldsOf hi rfl ?_);dsimp only;refine UR (YV ho S.dat S.fits ?_);rw[if_neg (by simp)]
 refine UR (kM (i:=i) ho S (λz=>by simpa using hb z) (λe' K8 FU Kg=>?_) λhn=>?_)
 ·rw[he]at K8;obtain rfl:=VA K8;dsimp only;refine UR (Wt hi (by simp) λh1 g1 Jg=>?_)
  refine UR (Wt (s:={s with heap:=h1}) g1 (by simp) λh2 g2 Ql=>?_)
  refine UY ⟨_,rfl,UY (q h2 ⟨FU,o,t,?_,?_,S,Kg⟩ (Jg.trans Ql))⟩
  ·rw[g2];rfl
  ·rw[(Jg.trans Ql).2 a AE];exact ho
 ·rw[he]at hn;cases hn
theorem Cc (hh:A.handled=none)(AE:a≠it){i:Nat}{Q:Option UT->UW->Prop}(st:II prog w it a ts es ep i s.heap)(he:(bN w a ep es)[i]?=none)
  (q:∀h',Heap.ExtBut it s.heap h'->Q none {s with heap:=h'}):Vq (model prog w) A (XU (.ref it)) Q E s:=by
 obtain⟨sl,o,t,hi,ho,S,hb⟩:=st;have hT:=k_ hi;unfold XU;refine UR (Yc (Wz (name:=XS "__next__") hT bM (Wl bM hT f7 ?_ (gJ _))));unfold XC.«set_iterator.__next__»
 refine UR (UY ?_);refine UR (wpAny_fieldsOf hi rfl ?_);dsimp only;refine UR (YV ho S.dat S.fits ?_);rw[if_neg (by simp)]
 refine UR (kM (i:=i) ho S (λz=>by simpa using hb z) (λe' K8 FU Kg=>?_) λhn=>?_)
 ·rw[he]at K8;cases K8
 ·dsimp only;refine UR (ZI hi rfl (by simp) ?_)
  refine UR ?_;simp only[newExc,newTuple];refine UR (WS ?_ (by size_fits))
  refine UR (m:=YN _ _) (Zu (a:=Value.none) (by first|rfl|(simp only[YN];rfl)) ?_)
  refine WS ?_ (by size_fits)
  simp only[raiseNew];refine UR (wpAny_handled ?_);rw[show A.in1.handled=none from hh]
  refine UR (UY (wpAny_throw ?_));refine UR (Zk (T:="StopIteration") (b:=true) ⟨_,Vp _ rfl,rfl⟩ isSubtype_stop ?_);exact UY (q _ (((Xn ..).extBut.push _).push _))
theorem yV {i:Nat}{Q:UT->UW->Prop}(st:II prog w it a ts es ep i s.heap)(q:Q (.ref it) s):Vq (model prog w) A (Yo (.ref it)) Q E s:=by
 obtain⟨sl,o,t,hi,ho,S,hb⟩:=st;have hT:=k_ hi;refine wpAny_pyIter_slot hT gD (Wl gD hT mE ?_ (nC _));show Vq _ _ (ret (.ref it)) _ _ s;exact UY ⟨_,rfl,"set_iterator",_,hT,bM.lookup,q⟩
theorem wH (hh:A.handled=none)(AE:a≠it):Walks prog w A it [it,a] [it] es.size (λi v=>∃e,(bN w a ep es)[i]?=some e/\v=e.2) (II prog w it a ts es ep) where
 sub:=λb hb=>by rw[U9.mp hb];exact Vs
 frame:=λi h h' ⟨sl,o,t,h1,h2,h3⟩ hk=>⟨sl,o,t,hk it Vs _ h1,hk a (Vi _ Vs) _ h2,h3⟩
 item:=λi s Q E hi st hQ=>by
  have hz:(bN w a ep es).size=es.size:=by
   have:=(gf w a ep es).length_eq;rw[U4,U4]at this;exact this
  have he:(bN w a ep es)[i]?=some (bN w a ep es)[i]:=getElem?_pos _ i (by lia)
  exact yW AE st he λh' aC sb=>hQ _ h' s.toks ⟨_,he,rfl⟩ aC λb o hb e=>sb.extBut b o (λz=>hb (by rw[z];exact U9.mpr rfl)) e
 done:=λs Q E st hQ=>by
  have hz:(bN w a ep es).size=es.size:=by
   have:=(gf w a ep es).length_eq;rw[U4,U4]at this;exact this
  exact Cc hh AE st (WG (by lia)) λh' eb=>hQ h' s.toks λb o hb e=>eb b o (λz=>hb (by rw[z];exact U9.mpr rfl)) e
 self:=λi s Q E st hQ=>yV st hQ
theorem lb (ho:s.heap.get? a=some o) (S:cQ prog w o ts es ep t):s.TypeIs (.ref a) "set" := ⟨o,ho,S.ex.1⟩
theorem BS (ho:s.heap.get? a=some o)(S:cQ prog w o ts es ep t){Q:UT->UW->Prop}(q:Q (.ref s.heap.objs.size) {s with heap:=s.heap.push (pB 0 0 a es.size ep)}):
  Vq (model prog w) A (Yo (.ref a)) Q E s:=by
 have hT:=lb ho S;refine wpAny_pyIter_slot hT F.slot_set_iter (Wl F.slot_set_iter hT mG ?_ (F.args_set_iter_1 _));unfold XC.«frozenset.__iter__» Builtin.Frozenset.slot0 Builtin.Frozenset.sizeOf;refine UR (UR (UY (UY ?_)));refine UR (UR (YV ho S.dat S.fits (UY ?_)));refine UR (xb S ho ?_);rw[if_neg (by simp)]
 refine UR (UY ?_);refine UR (wpAny_setEpoch_of ho S.dat S.fits ?_);unfold newFields;refine UR (WS (UY ⟨_,rfl,"set_iterator",_,⟨_,Vp _ rfl,rfl⟩,bM.lookup,?_⟩) (by size_fits))
 exact q
theorem BU (ho:s.heap.get? a=some o)(S:cQ prog w o ts es ep t){Q:Bool->UW->Prop}(q:Q false s):Vq (model prog w) A (ZH (.ref a)) Q E s:=by
 have hT:=lb ho S;unfold ZH;refine UR (wpAny_specialOf hT PySem.F.slot_set_len.lookup ?_);generalize Q0:("set.__len__" : String)=SF
 wp_delta
 rw[show splitId SF=some ("set","__len__") from by subst Q0;decide +kernel]
 subst Q0;refine UR (Zk (T:="set") (b:=true) hT (by rw[ZK];kernel_rfl) ?_)
 refine wpAny_ite_split (λLg=>absurd Lg (by decide)) (λ_=>?_)
 refine wpAny_ite_split (λ_=>?_) (λLg=>absurd (by decide +kernel) Lg)
 refine UR (wpAny_typeOf hT ?_);exact UY q
theorem Cf (prog:U0)(w:Vf)(a:Addr)(o:Obj)(ts:List (Addr×List Int))(es:Array (Int×UT))(ep:Nat)(t:SetTable)(S:cQ prog w o ts es ep t):
  PySem.W.KdlSrc prog w "set" a a es.size (λi v=>∃e,(bN w a ep es)[i]?=some e/\v=e.2) (λh=>h.get? a=some o) where
 type:=λs ho=>lb ho S
 there:=λh ho=>⟨Vb ho,Vb ho⟩
 keep:=λh h' ho hk=>hk a (.inl rfl) _ ho
 notList:=by decide
 notTuple:=by decide
 hint:=λA E s Q ho q=>BU ho S q
 iter:=λA s hh ho=>⟨pB 0 0 a es.size ep,II prog w s.heap.objs.size a ts es ep,λE Q q=>BS ho S q,wH hh (Vw (Vb ho)),
  0,o,t,Vp _ rfl,UX _ ho,S,λ_=>by
   obtain⟨b1,b2,b3⟩:=fz S.wf.wO 0;rcases Y5 (SetTable.below t.place 0)with z|z
   ·exact z
   ·have:=b2 0 z;lia⟩
theorem qS {α β:Type}{f:α->β}:∀{ts:List α} {l:List β},l.Perm (ts.map f)->∃us:List α,us.Perm ts/\l=us.map f
 |[],l,h=>⟨[],.refl _,List.perm_nil.mp h⟩
 |x::ts,l,h=>by
  obtain⟨l1,l2,rfl⟩:=List.append_of_mem (h.mem_iff.mpr (show f x∈(x::ts).map f from Vs))
  have h':(l1++l2).Perm (ts.map f):=(Yn.symm.trans h).cons_inv;obtain⟨us,h1,h2⟩:=qS h';obtain⟨u1,u2,rfl,e1,e2⟩:=List.map_eq_append_iff.mp h2.symm;refine⟨u1++x::u2,Yn.trans (h1.cons x),?_⟩;rw[Vn,Vo,e1,e2]
end
section
variable {prog:U0}{w:Vf}{A:VW}{E:UT->UW->Prop}{s:UW}
variable {o:Obj}{ts:List (Addr×List Int)}{es:Array (Int×UT)}{ep:Nat}{t:SetTable}
def lN (w:Vf):Obj:={cls:=.type "set",dict:=none,data:=.set #[] 0 (.fresh 0 0 (!Bm w))}
theorem C4 (prog:U0)(w:Vf):cQ prog w (lN w) [] #[] 0 (.fresh 0 0 (!Bm w)) where
 ex:=⟨rfl,rfl,rfl⟩
 dat:=rfl
 HP:=rfl
 wf:=⟨rfl,rfl,λi j _ hj=>absurd hj (ZD _),λi hi=>absurd hi (ZD _),⟨3,UU _,rfl⟩,U7 _,λi h hi=>by simp at hi⟩
 M9:=by show 0*5<7*3;decide
 EL:=by show 7<=8191;decide
 led:=rfl
 Im:=rfl
 NQ:=VQ
theorem zX {xs:List UT} {R:UT->UW->Prop} (hc:checkBuiltinCall "set.__new__" ⟨.type "set" :: xs,[]⟩=pure ()) (hx:xs=[]\/∃v,xs=[v]) (q:R (.ref s.heap.objs.size) {s with heap:=s.heap.push (lN w)}) :
  XR (model prog w) A (.call (.builtin "set.__new__") ⟨.type "set" :: xs,[]⟩) (wants R E) s:=by
 refine ZC ?_;show Vq _ A.in1 (checkBuiltinCall "set.__new__" ⟨.type "set" :: xs,[]⟩ >>= λ_=>again (.builtin "set.__new__" ⟨.type "set" :: xs,[]⟩)) _ _ s;refine UR (Zu hc (UY ⟨plainId_quiet F.plain_set_new _,Yz F.entry_set_new ?_⟩));rw[YT F.plain_set_new _];unfold XC.«set.__new__» Builtin.Frozenset.newClass;have RL:=sub_set_self;obtain⟨hp,gs,dr,tk,os⟩:=s;rcases hx with rfl|⟨v,rfl⟩
 all_goals
  dsimp only
  wp_walk
  refine Yi (UY ?_);dsimp only;simp only[newObj];exact UR (wpAny_alloc (UY (UY q)))
theorem xl {I:Addr}{fp wr:List Addr}{G:Array GenState->Array GenState->Prop}{vs:List (Addr×List Int)}{St:Nat->UW->Prop}{R:Result->UW->Prop}(hu:A.in1.units<XO)
  {n:Nat} {P:Nat->UT->Prop} (W:WalksS prog w A.in1 I fp wr G n P St) (OO:n=vs.length) (Ts:∀(i:Nat) (v:UT),P i v->∃x,vs[i]?=some x/\v=.ref x.1) (sa:Addr) (QP:sa∉fp) (hn:vs.length<1000) (hv:∀x∈vs,x.1∉wr/\x.1≠sa) :
  ∀(d i:Nat) (s:UW) (o:Obj) (ts:List (Addr×List Int)) (es:Array (Int×UT)) (ep:Nat) (t:SetTable),vs.length-i=d->i<=vs.length->St i s->Ek prog w s.heap vs->s.heap.get? sa=some o->cQ prog w o ts es ep t ->
   (∀x∈ts,x∈vs.take i)->(∀x∈vs.take i,∃y∈ts,y.2=x.2)->ts.length<=i ->
   (∀s' o' de eh pY t',Moved (sa::wr) G s s'->s'.heap.get? sa=some o'->cQ prog w o' de eh pY t'->(∀x∈de,x∈vs)->(∀x∈vs,∃y∈de,y.2=x.2)->R (.ok (.ret .none)) s') ->
   XR (model prog w) A (.builtin "set.update.loop" ⟨[.ref sa,.ref I],[]⟩) R s:=by
 subst OO;have oB:sa∉wr:=λz=>QP (W.sub _ z);have up:∀x∈wr,x∈sa::wr:=λx hx=>Vi _ hx;intro d
 induction d with
 |zero =>
  intro i s o ts es ep t hd hi st T ho S k1 k2 k3 hR;obtain rfl:i=vs.length:=by lia
  refine Yz F.entry_set_update_loop ?_;rw[YT F.plain_set_update_loop _];show Vq _ A.in1 (XU (.ref I) >>= _) _ _ s;refine UR (W.done s _ _ st λs' mv=>?_);rw[WJ]at k1 k2;exact UY (hR s' o ts es ep t (mv.mono up) (mv.heap sa _ oB ho) S k1 k2)
 |succ d ih =>
  intro i s o ts es ep t hd hi st T ho S k1 k2 k3 hR;have lt:i<vs.length:=by lia
  refine Yz F.entry_set_update_loop ?_;rw[YT F.plain_set_update_loop _];show Vq _ A.in1 (XU (.ref I) >>= _) _ _ s;refine UR (W.item i s _ _ lt st λv s1 hP Je mv=>?_);obtain⟨x,hx,rfl⟩:=Ts i v hP;have J_:x∈vs:=VJ hx;have T1:Ek prog w s1.heap vs:=λy hy=>by
   obtain⟨oy,its,n,g1,g2⟩:=T y hy;exact⟨oy,its,n,mv.heap _ _ (hv y hy).1 g1,g2⟩
  have K0:=mv.heap sa _ oB ho;refine UR (Wk (Ft K0 S (λy hy=>T1 y (List.mem_of_mem_take (k1 y hy))) (T1 x J_) hu (by lia) λh' o' de eh pY t' added tk r0 r1 r2 r3 r4 r5=>?_))
  have RA:vs.take (i+1)=vs.take i++[x]:=by rw[ZO,hx];rfl
  have keep:∀c oc,c≠sa->s1.heap.get? c=some oc->h'.get? c=some oc:=λc oc hc e=>by rw[r1.2 c hc];exact e
  have step:(∀y∈de,y∈vs.take (i+1))/\(∀y∈vs.take (i+1),∃z∈de,z.2=y.2)/\de.length<=i+1:=by
   rw[RA]
   by_cases xB:∃y∈ts,y.2=x.2
   ·rw[r4 xB];refine⟨λy hy=>V9 _ (k1 y hy),λy hy=>?_,by lia⟩
    rcases Vg.mp hy with z|z
    ·exact k2 y z
    ·rw[U9.mp z];exact xB
   ·have pm:=r5 λy hy e=>xB ⟨y,hy,e⟩;refine⟨λy hy=>?_,λy hy=>?_,by rw[pm.length_eq,Vd];lia⟩
    ·rcases U1.mp (pm.mem_iff.mp hy)with rfl|z
     ·exact VE _ (U9.mpr rfl)
     ·exact V9 _ (k1 y z)
    ·rcases Vg.mp hy with z|z
     ·obtain⟨u,hu,e⟩:=k2 y z;exact⟨u,pm.mem_iff.mpr (Vi _ hu),e⟩
     ·rw[U9.mp z];exact⟨x,pm.mem_iff.mpr Vs,rfl⟩
  have Sk:Moved (sa::wr) G s {s1 with heap:=h',toks:=tk} :=
   (mv.mono up).then_heap r0 λc oc hc e=>keep c oc (λz=>hc (by rw[z];exact Vs)) e
  refine UY ⟨plainId_quiet F.plain_set_update_loop _,ih (i+1) _ o' de eh pY t' (by lia) lt (W.frame _ s1 _ _ Je r0 λc hc oc e=>keep c oc (λz=>QP (by rw[<- z];exact hc)) e) (λy hy=>?_) r2 r3 step.1 step.2.1 step.2.2 λs' o2 Rz TF TH t2 m1 m2 m3 m4 m5=>hR s' o2 Rz TF TH t2 (Moved.trans W.gtrans Sk m1) m2 m3 m4 m5⟩
  obtain⟨oy,its,n,g1,g2⟩:=T1 y hy;exact⟨oy,its,n,keep _ _ (hv y hy).2 g1,g2⟩
end
section
variable {prog:U0}{w:Vf}{A:VW}{E:UT->UW->Prop}{s:UW}
theorem xP {l:Addr}{vs:List (Addr×List Int)}{Q:UT->UW->Prop}(hh:A.handled=none)(hu:A.units+16<XO)(hl:s.heap.IsList l (vs.map λx=>Value.ref x.1).toArray)(hn:vs.length<1000)(T:Ek prog w s.heap vs)
  (q:∀(h':Heap) (tk:Nat) (o':Obj) (ts:List (Addr×List Int)) (es:Array (Int×UT)) (ep:Nat) (t:SetTable),(∀c oc,s.heap.get? c=some oc->h'.get? c=some oc)->h'.get? s.heap.objs.size=some o'->cQ prog w o' ts es ep t ->
   (∀x∈ts,x∈vs)->(∀x∈vs,∃y∈ts,y.2=x.2)->Q (.ref s.heap.objs.size) {s with heap:=h',toks:=tk}) :
  Vq (model prog w) A (call (.type "set") [.ref l]) Q E s:=by
 obtain⟨cx,Up,Sl⟩:=F.called_set.mro;have QH:=F.called_set.made;have RK:=F.called_set.sub;refine wpAny_call (ZC ?_);show Vq _ _ (callAny (.type "set") _) _ _ _;refine UY ⟨Code.quiet_builtin _ (by decide +kernel),Yz F.entry_type_call ?_⟩
 rw[Around.under_plain (weight_type_call_type "set" [.ref l] []) rfl];have t1:=F.called_set.notType;have t2:=F.called_set.canCreate;have t3:=F.typeCall_set_1 (.ref l)
 repeat (any_goals (first|assumption|wp_step))
 have ls:l<s.heap.objs.size:=by obtain⟨ol,OK,_⟩:=hl;exact Vb OK
 refine Xl (zX (w:=w) (E:=E) (xs:=[.ref l]) (R:=λob sx=>ob=.ref s.heap.objs.size/\sx={s with heap:=s.heap.push (lN w)}) (F.newCall_set_1 _) (.inr ⟨_,rfl⟩) ⟨rfl,rfl⟩) λr sx hr=>?_
 cases r with
 |error e=>exact hr
 |ok fl =>
  cases fl with
  |ret ob =>
   obtain⟨rfl,rfl⟩:=hr;have hS:(s.heap.push (lN w)).get? s.heap.objs.size=some (lN w):=Vp _ rfl;have hT:Shared.TypeIs {s with heap:=s.heap.push (lN w)} (.ref s.heap.objs.size) "set" := ⟨_,hS,rfl⟩
   have i1:=F.called_set.init.lookup;have i2:=F.called_set.init.bind (.ref s.heap.objs.size)
   repeat (any_goals (first|assumption|wp_step))
   refine Xl (codeAny_call_builtin (R:=wants (λr s2=>r=.none/\Q (.ref s.heap.objs.size) s2) E) F.called_set.init.plain F.entry_set_init (check_set_init_1 hT ?_)) λr2 s2 pT=>?_
   ·obtain⟨ol,OK,AL,nl,Q5⟩:=hl;obtain⟨c1,c2,c3,c4⟩:=ol;simp only at AL Q5;subst AL Q5;have OJ:(s.heap.push (lN w)).get? l=some {cls:=.type "list",dict:=c2,data:=.seq (vs.map λx=>Value.ref x.1).toArray nl,slots:=c4}:=UX _ OK;have u1:=F.sub_list_set;have u2:=F.sub_list_frozenset;have u3:(Y3 "list" == Y3 "dict")=false:=by decide
    have QW:(s.heap.push (lN w)).IsList l (vs.map λx=>Value.ref x.1).toArray:=⟨_,OJ,rfl,nl,rfl⟩;unfold XC.«set.__init__» noKeywords Builtin.Frozenset.updateFrom;generalize Tt:Yo=PI
    wp_walk
    subst Tt;refine wpAny_pyIter_list QW ?_;refine UR (wpAny_runValue ?_);have SG:A.in1.in1.in1.handled=none:=by simp[hh]
    have uu:A.in1.in1.in1.units<XO:=by
     have e1:∀B:VW,B.in1.units=B.units+1:=λB=>rfl;rw[e1,e1,e1];lia
    have nI:l≠(s.heap.push (lN w)).objs.size:=by rw[WO];exact Vw (XB ls)
    have hf:s.heap.objs.size∉[(s.heap.push (lN w)).objs.size,l]:=by
     rw[WO];simp only[U1,VZ,or_false,not_or];exact⟨Vw (Nat.lt_succ_self _),Zd ls⟩
    have old:∀x∈vs,x.1<s.heap.objs.size:=λx hx=>by
     obtain⟨oy,its,n,g1,g2⟩:=T x hx;exact Vb g1
    refine xl (vs:=vs) uu ((Walks.list SG _ l nI _).toS) (by simp) (λi v hv=>?_) s.heap.objs.size hf hn (λx hx=>?_) vs.length 0 _ (lN w) [] #[] 0 _ (by lia) (U7 _) ⟨⟨_,Vp _ rfl,rfl,rfl⟩,QW.push _⟩ (λx hx=>?_) (UX _ hS) (C4 prog w) (λx hx=>by cases hx) (λx hx=>by simp at hx) (U7 _) λs' o' de eh pY t' m1 m2 m3 m4 m5=>?_
    ·have hv:(vs.map λx=>Value.ref x.1).toArray[i]?=some v:=hv;rw[YF,U8]at hv;obtain⟨x,e1,e2⟩:=Vv.mp hv;exact⟨x,e1,e2.symm⟩
    ·have:=old x hx;refine⟨λz=>?_,Vw this⟩;have z:=U9.mp z;rw[WO]at z;exact absurd z (Vw (XB this))
    ·obtain⟨oy,its,n,g1,g2⟩:=T x hx;exact⟨oy,its,n,UX _ (UX _ g1),g2⟩
    ·obtain⟨h',g',d',RC,NM⟩:=s';have eg:g'=s.gens:=m1.gens;have ed:d'=s.drawn:=m1.drawn;have eo:NM=s.os:=m1.os;subst eg ed eo;refine UY (UY ⟨rfl,q h' RC o' de eh pY t' (λc oc e=>?_) m2 m3 m4 m5⟩);have hc:=Vb e;refine m1.heap c oc (λz=>?_) (UX _ (UX _ e));rcases U1.mp z with z|z
     ·exact absurd z (Vw hc)
     ·have z:=U9.mp z;rw[WO]at z;exact absurd z (Vw (XB hc))
   ·cases r2 with
    |error e=>exact pT
    |ok Tx =>
     cases Tx with
     |ret r =>
      obtain⟨rfl,hq⟩:=pT
      repeat (any_goals (first|assumption|wp_step))
     |_=>exact pT.elim
  |_=>exact hr.elim
end
end ST
namespace TS
open PySem PyProof.Rows
section
variable {prog:U0}{w:Vf}{A:VW}{E:UT->UW->Prop}{s:UW}
theorem tP {x:UT}{vs:List UT}{kf:UT->List Int}{Q:UT->UW->Prop}(hz:vs.length<=1000000)
  (col:∀(R:List UT->UW->Prop),(∀(h':Heap) (tk:Nat),(∀b o,s.heap.get? b=some o->h'.get? b=some o)->R vs {s with heap:=h',toks:=tk})->Vq (model prog w) A.in1 (collect x) R E s)
  (T:nD s.heap kf s.heap.objs.size vs)
  (h:∀(out:List UT) (h1 h':Heap) (tk:Nat) (n:Nat),out.Perm vs->out.Pairwise (λx y=>HT.lexLt (kf y) (kf x)=false)->(∀b o,s.heap.get? b=some o->h1.get? b=some o)->(∀b o,h1.get? b=some o->h'.get? b=some o)->h'.get? h1.objs.size=some (W4 "list" out.toArray n)->Q (.ref h1.objs.size) {s with heap:=h',toks:=tk}) :
  Vq (model prog w) A (call (.builtin "sorted") [x]) Q E s:=by
 refine ZW kind_sorted plain_sorted entry_sorted (args_sorted1 _) ?_;unfold XC.«sorted»
 refine UR (m:=checkCount "sorted" 1 1 _) (UY ?_);refine UR (col _ λh' tk kp=>?_);have nl:vs.length<=U_:=by rw[V2];lia
 refine UR (wpAny_newList ?_ nl);have hl:(h'.push (W4 "list" vs.toArray 0)).get? h'.objs.size=some (W4 "list" vs.toArray 0):=Vp _ rfl;have T':nD (h'.push (W4 "list" vs.toArray 0)) kf h'.objs.size vs:=λv hv=>by
  obtain⟨t,o,xs,k,e1,_,e3,r⟩:=T v hv;exact⟨t,o,xs,k,e1,Vw (Vb (kp _ _ e3)),UX _ (kp _ _ e3),r⟩
 refine UR (Wk (Wl slot_list_sort ⟨_,hl,rfl⟩ entry_list_sort (lW (s:={s with heap:=h'.push (W4 "list" vs.toArray 0),toks:=tk}) hl hz T' λout hp hs=>⟨_,rfl,?_⟩) (args_list_sort _)))
 obtain⟨n,hn⟩:=sortedHeap_at (out:=out.toArray) hl;refine UY ⟨_,rfl,h out h' _ tk n hp hs kp (λb o e=>?_) hn⟩;have hb:=Vb e;rw[sortedHeap_old (Vw hb) (by rw[size_push'];exact XB hb)]
 exact UX _ e
end
end TS
namespace ST
open PySem PyProof.Rows
section
variable {prog:U0}{w:Vf}{s:UW}
theorem qo {a:Addr}{o:Obj}{ts:List (Addr×List Int)}{es:Array (Int×UT)}{ep:Nat}{t:SetTable}(ho:s.heap.get? a=some o)(S:cQ prog w o ts es ep t)(hn:ts.length<=1000):
  ∃us:List (Addr×List Int),us.Perm ts/\∀(A:VW) (E:UT->UW->Prop) (R:List UT->UW->Prop),A.handled=none->(∀(h':Heap) (tk:Nat),(∀b o,s.heap.get? b=some o->h'.get? b=some o)->R (us.map λx=>Value.ref x.1) {s with heap:=h',toks:=tk}) ->
  Vq (model prog w) A (collect (.ref a)) R E s:=by
 have hw:=gf w a ep es;rw[S.HP]at hw;obtain⟨us,h1,h2⟩:=qS hw;refine⟨us,h1,λA E R hh q=>?_⟩;refine PySem.W.kdu_collect (Cf prog w a o ts es ep t S) hh ho (by rw[S.size.1,V2];lia) λh' tk acc hk Lf=>?_
 have e:acc.toList=us.map λx=>Value.ref x.1:=by
  have hz:(bN w a ep es).size=es.size:=by
   have:=(gf w a ep es).length_eq;rw[U4,U4]at this;exact this
  have e2:us.map (λx=>Value.ref x.1)=(bN w a ep es).toList.map (·.2):=by
   rw[h2,Wg];rfl
  rw[e2];apply WB;intro i;rw[U8,Vh,Vh]
  by_cases hi:i<acc.size
  ·obtain⟨x,g1,g2⟩:=Lf.2 i acc[i] (getElem?_pos acc i hi);rw[getElem?_pos acc i hi,g1,g2];rfl
  ·have:=Lf.1;rw[WG (by lia),WG (by lia)]
   rfl
 rw[e];exact q h' tk hk
end
end ST
namespace L2
open PySem PySem.Spec PySem.SeqAt PyProof.Rows HT
theorem gO:∀{a b:List Int},lexLt a b=false->lexLt b a=false->a=b
 |[],[],_,_=>rfl
 |[],_::_,h,_=>by cases h
 |_::_,[],_,h=>by cases h
 |x::xs,y::ys,h1,h2=>by
  rw[gN]at h1 h2
  by_cases e:x=y
  ·subst e;rw[if_pos rfl]at h1 h2;rw[gO h1 h2]
  ·rw[if_neg e]at h1;rw[if_neg (λz=>e z.symm)]at h2;have:=of_decide_eq_false h1;have:=of_decide_eq_false h2;omega
theorem lZ:∀{a b:List Int},lexLt a b=true->lexLt b a=false
 |[],[],h=>by cases h
 |[],_::_,_=>rfl
 |_::_,[],h=>by cases h
 |x::xs,y::ys,h=>by
  rw[gN]at h ⊢
  by_cases e:x=y
  ·subst e;rw[if_pos rfl]at h ⊢
   exact lZ h
  ·rw[if_neg e]at h;rw[if_neg (λz=>e z.symm)];have:=of_decide_eq_true h;exact decide_eq_false (by lia)
theorem jP:∀{a b c:List Int},lexLt a b=true->lexLt b c=true->lexLt a c=true
 |[],[],_,h,_=>by cases h
 |[],_::_,[],_,h=>by cases h
 |[],_::_,_::_,_,_=>rfl
 |_::_,[],_,h,_=>by cases h
 |x::xs,y::ys,[],_,h=>by cases h
 |x::xs,y::ys,z::zs,h1,h2=>by
  rw[gN]at h1 h2 ⊢
  by_cases e:x=y
  ·subst e;rw[if_pos rfl]at h1
   by_cases e2:x=z
   ·subst e2;rw[if_pos rfl]at h2 ⊢
    exact jP h1 h2
   ·rw[if_neg e2]at h2 ⊢
    exact h2
  ·rw[if_neg e]at h1;have q1:=of_decide_eq_true h1
   by_cases e2:y=z
   ·subst e2;rw[if_neg e];exact h1
   ·rw[if_neg e2]at h2;have q2:=of_decide_eq_true h2;rw[if_neg (by omega)]
    exact decide_eq_true (by omega)
def uA (k:List Int):List (List Int)->List (List Int)
 |[]=>[k]
 |x::xs=>if lexLt x k=true then x::uA k xs else k::x::xs
def gC:List (List Int)->List (List Int)
 |[]=>[]
 |k::ks=>uA k (gC ks)
theorem ju (k:List Int):∀xs,(uA k xs).Perm (k::xs)
 |[]=>.refl _
 |x::xs=>by
  unfold uA
  split
  ·exact((ju k xs).cons x).trans (List.Perm.swap _ _ _)
  ·exact .refl _
theorem eO:∀ks,(gC ks).Perm ks
 |[]=>.refl _
 |k::ks=>(ju k (gC ks)).trans ((eO ks).cons k)
abbrev sR (ks:List (List Int)):Prop:=ks.Pairwise λx y=>HT.lexLt y x=false
theorem le_trans' {a b c:List Int}(h1:lexLt b a=false)(h2:lexLt c b=false):lexLt c a=false:=by
 cases h:lexLt c a with
 |false=>rfl
 |true =>
  cases hb:lexLt a b with
  |true=>rw[jP h hb]at h2;cases h2
  |false =>
   have:=gO hb h1;subst this;rw[h]at h2;cases h2
theorem oA (k:List Int):∀xs,sR xs->sR (uA k xs)
 |[],_=>by simp[uA]
 |x::xs,h=>by
  obtain⟨h1,h2⟩:=Wu.mp h;unfold uA
  split
  ·rename_i hx
   refine Wu.mpr ⟨λy hy=>?_,oA k xs h2⟩;rcases U1.mp ((ju k xs).mem_iff.mp hy)with rfl|hy
   ·exact lZ hx
   ·exact h1 y hy
  ·rename_i hx
   have yf:lexLt x k=false:=by cases q:lexLt x k <;> simp_all
   refine Wu.mpr ⟨λy hy=>?_,h⟩;rcases U1.mp hy with rfl|hy
   ·exact yf
   ·exact le_trans' yf (h1 y hy)
theorem k7:∀ks,sR (gC ks)
 |[]=>.nil
 |k::ks=>oA k _ (k7 ks)
theorem jG:∀{a b:List (List Int)},a.Perm b->sR a->sR b->a=b
 |[],b,p,_,_=>by rw[List.nil_perm.mp p]
 |x::a,[],p,_,_=>by have:=p.length_eq;simp at this
 |x::a,y::b,p,ha,hb=>by
  obtain⟨a1,a2⟩:=Wu.mp ha;obtain⟨b1,b2⟩:=Wu.mp hb;have J9:x=y:=by
   rcases U1.mp (p.mem_iff.mp (Vs (a:=x) (l:=a)))with h|h
   ·exact h
   ·rcases U1.mp (p.mem_iff.mpr (Vs (a:=y) (l:=b)))with h' | h'
    ·exact h'.symm
    ·exact gO (b1 x h) (a1 y h')
  subst J9;rw[jG (List.perm_cons x |>.mp p) a2 b2]
theorem yN {a b:List (List Int)}(p:a.Perm b)(h:sR a):a=gC b:=jG (p.trans (eO b).symm) h (k7 b)
def nv:List (List Int)->List (List Int)
 |[]=>[]
 |k::ks=>if k∈nv ks then nv ks else k::nv ks
theorem f_:∀l:List (List Int),(nv l).Nodup/\∀x,x∈nv l↔x∈l
 |[]=>⟨VQ,λ_=>Iff.rfl⟩
 |k::ks=>by
  obtain⟨h1,h2⟩:=f_ ks;unfold nv
  split
  ·rename_i h
   refine⟨h1,λx=>?_⟩;rw[h2 x,U1];exact⟨.inr,λz=>z.elim (λe=>by rw[e];exact(h2 k).mp h) id⟩
  ·rename_i h
   refine⟨Vt.mpr ⟨h,h1⟩,λx=>?_⟩;rw[U1,U1,h2 x]
theorem vV:∀l:List (List Int),(nv l).length<=l.length
 |[]=>UU _
 |k::ks=>by
  have:=vV ks;unfold nv
  split
  ·exact Nat.le_succ_of_le this
  ·simpa using this
abbrev kD (k:List Int):D:=.tup (k.map D.int)
def d7:List D->Option (List (List Int))
 |[]=>some []
 |.tup a::ds=>match bp a,d7 ds with
  |some k,some ks=>if k=[] then none else some (k::ks)
  |_,_=>none
 |_::_=>none
theorem l4:∀{ds:List D} {ks:List (List Int)},d7 ds=some ks->ds=ks.map kD/\∀k∈ks,k≠[]
 |[],_,h=>by cases h;exact⟨rfl,λ_ z=>nomatch z⟩
 |.tup a::ds,ks,h=>by
  have h':(match bp a,d7 ds with|some k,some ks=>if k=[] then none else some (k::ks)|_,_=>none)=some ks:=h
  cases ea:bp a with
  |none=>rw[ea]at h';cases h'
  |some k =>
   cases eb:d7 ds with
   |none=>rw[ea,eb]at h';cases h'
   |some kr =>
    rw[ea,eb]at h'
    by_cases hk:k=[]
    ·simp[hk]at h'
    ·simp only[hk,if_false,X6]at h';subst h';obtain⟨h1,h2⟩:=l4 eb;rw[Vo,<- h1,rF ea];refine⟨rfl,λx hx=>?_⟩;rcases U1.mp hx with rfl|hx
     ·exact hk
     ·exact h2 x hx
 |.bK::_,_,h=>by cases h
 |.bl _::_,_,h=>by cases h
 |.str _::_,_,h=>by cases h
 |.obj _::_,_,h=>by cases h
 |.int _::_,_,h=>by cases h
 |.lst _::_,_,h=>by cases h
 |.dT _ _::_,_,h=>by cases h
 |.dK _ _::_,_,h=>by cases h
 |.sT _::_,_,h=>by cases h
theorem jq:∀{ks:List (List Int)},(∀k∈ks,k≠[])->d7 (ks.map kD)=some ks
 |[],_=>rfl
 |k::ks,h=>by
  show (match bp (k.map D.int),d7 (ks.map kD)with|some k,some ks=>if k=[] then none else some (k::ks)|_,_=>none)=_
  rw[oz,jq λx hx=>h x (Vi _ hx)];simp[h k (Vs ..)]
section
variable {P:U0}{w:Vf}{W:Addr->Prop}{H:Hp}
theorem jo:∀{ks:List (List Int)} {vs:List V},(∀k∈ks,k≠[])->aj P w W H (ks.map kD) vs->∃ts:List (Addr×List Int),vs=ts.map qt/\xY H ts/\ts.map (·.2)=ks
 |[],_,_,h=>⟨[],h,(λ_ z=>nomatch z),rfl⟩
 |k::ks,_,hk,⟨v,r,e,⟨a,us,e1,e2,e3⟩,h2⟩=>by
  obtain⟨ts,q1,q2,q3⟩:=jo (λx hx=>hk x (Vi _ hx)) h2;refine⟨(a,k)::ts,by rw[e,e1,q1];rfl,λt ht=>?_,by rw[Vo,q3]⟩
  rcases U1.mp ht with rfl|ht
  ·rw[b_ e3]at e2;exact⟨e2,hk k (Vs ..)⟩
  ·exact q2 t ht
theorem gm:∀{ts:List (Addr×List Int)},(∀t∈ts,H t.1=some (.tup (t.2.map V.int)))->aj P w W H ((ts.map (·.2)).map kD) (ts.map qt)
 |[],_=>rfl
 |t::ts,h=>⟨_,_,rfl,⟨t.1,_,rfl,h t (Vs ..),ou t.2⟩,gm λx hx=>h x (Vi _ hx)⟩
def pZ:List D->Option D
 |[.lst ds]=>match d7 ds with
  |some ks=>if ks.length<=1000000 then some (.lst ((gC ks).map kD)) else none
  |none=>none
 |[.sT ts]=>if ts.length<=1000/\(∀k∈ts,k≠[]) then some (.lst ((gC ts).map kD)) else none
 |_=>none
theorem Am:∀{ns:List Int} {its:List UT},Vals (ns.map V.int) its->ItemsAre (intKind P w) ns its
 |[],_,.nil=>.nil
 |n::ns,_,.cons r t=>by
  obtain⟨tk,rfl⟩:=r;exact .cons (by show Zv n (.int n tk)=true;simp[Zv]) (Am t)
theorem FE {h:Heap}{ts:List (Addr×List Int)}(ok:hG P w H h)(T:∀t∈ts,H t.1=some (.tup (t.2.map V.int))):ST.Ek P w h ts:=λt ht=>by
 obtain⟨_,its,r,o,ho,hc,n,hd⟩:=(show bb P w H h t.1 (.tup (t.2.map V.int)) from ok _ _ (T t ht))
 refine⟨o,its.toArray,n,ho,hc,hd,?_⟩;exact Am r
def Fc:List D->Option D
 |[.lst ds]=>match d7 ds with
  |some ks=>if ks.length<1000 then some (.sT (nv ks)) else none
  |none=>none
 |_=>none
end
section
end
theorem xT {X:Cx} (hc:X.calm=true) (hu:X.A.units+16<XO):cG X (.type "set") Fc:=by
 intro pins s σ H xs us Q I r h;obtain⟨W,ds,d,hd,r1,e,q⟩:=h
 match ds,e with
 |[.lst es],e =>
  have e':(match d7 es with|some ks=>if ks.length<1000 then some (D.sT (nv ks)) else none|none=>none)=some d:=e
  cases ek:d7 es with
  |none=>rw[ek]at e';cases e'
  |some ks =>
   rw[ek]at e';obtain⟨hl,rfl⟩:=fw e';obtain⟨rfl,hk⟩:=l4 ek;obtain⟨x,rfl,p,vs,rfl,hp,n1,q1⟩:=jY r1;obtain⟨ts,rfl,T,rfl⟩:=jo hk q1;obtain⟨u,rfl,rx⟩:=vals1 r;cases rx;obtain⟨its,r',pl,hz⟩:=I.list (cP.of hp);obtain rfl:=i3 r';refine ST.xP (w:=X.w) (I.ok.hd hc) hu pl.isList (by simpa using hl) (FE I.br λt ht=>(T t ht).1) λh' tk o' de es ep t kp ho S m1 m2=>?_
   have HD:H s.heap.objs.size=none:=I.br.fresh (UU _);have nd:=f_ (ts.map (·.2));refine⟨.ref s.heap.objs.size,_,I.laid (t':=tk) (o:=Em X.prog X.w s.heap.objs.size de) kp (UU _) ?_,rfl,q _ _ (ay.new HD) ⟨_,rfl,⟨de,aw,λx hx=>?_,?_⟩,vz hd HD⟩⟩
   ·refine⟨⟨o',es,ep,t,ho,S⟩,⟨o',ho⟩,λh1 h2 uE k=>by obtain⟨o1,e1,TJ,t1,g1,g2⟩:=uE;exact⟨o1,e1,TJ,t1,k _ g1,g2⟩⟩
   ·exact(ay.new HD) _ _ (T x (m1 x hx)).1
   ·refine(List.perm_ext_iff_of_nodup S.NQ nd.1).mpr λk=>?_;rw[nd.2 k,Vx,Vx];constructor
    ·rintro⟨x,hx,rfl⟩;exact⟨x,m1 x hx,rfl⟩
    ·rintro⟨x,hx,rfl⟩;obtain⟨y,hy,e⟩:=m2 x hx;exact⟨y,hy,e⟩
def hV (ns:List Int):Prop:=∃x y:Int,ns=[x,y]/\0<=x/\0<=y/\y<2147483647
theorem Hand.ok {H:Hp}{h:Addr}(d:Hand H h):∃ns,H h=some (.lst (ns.map V.int))/\hV ns:=by
 obtain⟨x,y,e,h1,h2,h3⟩:=d;exact⟨[x,y],e,x,y,rfl,h1,h2,h3⟩
theorem hV.hand {H:Hp}{h:Addr}{ns:List Int}(e:H h=some (.lst (ns.map V.int)))(o:hV ns):Hand H h:=by
 obtain⟨x,y,rfl,h1,h2,h3⟩:=o;exact⟨x,y,e,h1,h2,h3⟩
def cF:FD:=λds R=>∃n:Int,ds=[.int n]/\0<n/\n<2 ^ 200/\∀r:Int,0<=r->r<n->R (.int r)
theorem cF.mono:dy cF:=λds R R' k ⟨n,e,h1,h2,q⟩=>⟨n,e,h1,h2,λr a b=>k _ (q r a b)⟩
section
end
section
variable {X:Cx}{W:Addr->Prop}{H:Hp}
theorem ui {p:Addr}{vs:List V}{ds:List D}(n:H p=none)(f:NL (.lst ds))(r:iU X W H ds vs):Rp X (λa=>H a≠none) (upd H p (.lst vs)) (.lst ds) (.ref p) :=
 ⟨p,vs,rfl,aw,λz=>z n,aj.flat f (r.same (ay.new n))⟩
def Ng (X:Cx)(f:D->D->Option D):R2:=λx y H Q=>∃W d1 d2 d,Dm W H/\Rp X W H d1 x/\Rp X W H d2 y/\f d1 d2=some d/\∀v H',ay H H'->Rp X W H' d v->(NL d->Rp X (λa=>H a≠none) H' d v)->Q v H'
def Nf (X:Cx)(f:List D->Option D):List V->Hp->VK->Prop:=λxs H Q=>∃W ds d,Dm W H/\iU X W H ds xs/\f ds=some d/\∀v H',ay H H'->Rp X W H' d v->(NL d->Rp X (λa=>H a≠none) H' d v)->Q v H'
def Jn (X:Cx)(f:D->Option Int->Option Int->Option D):V->Option Int->Option Int->Hp->VK->Prop:=λx lo hi H Q=>∃W d1 d,Dm W H/\Rp X W H d1 x/\f d1 lo hi=some d/\∀v H',ay H H'->Rp X W H' d v->(NL d->Rp X (λa=>H a≠none) H' d v)->Q v H'
abbrev LG (X:Cx)(f:UT->UT->Sem UT)(g:D->D->Option D):Prop:=g9 X f (Ng X g)
abbrev uY (X:Cx)(f:UT)(g:List D->Option D):Prop:=eY X f (Nf X g)
theorem au:LG X (W5 .Add) Bf:=by
 intro pins s σ H x y v u Q I rx ry h;obtain⟨W,d1,d2,d,hd,r1,r2,e,q⟩:=h;rcases xk e with⟨a,b,rfl,rfl,e⟩|e
 ·obtain⟨hl,rfl⟩:=fw e;obtain⟨p,vs,rfl,h1,n1,q1⟩:=r1;obtain⟨p',vs',rfl,h2,n2,q2⟩:=r2;exact zL pins s σ H _ _ v u Q I rx ry ⟨p,p',vs,vs',rfl,rfl,h1,h2,by rw[q1.length,q2.length];exact hl,λl uG=>q _ _ (ay.new uG) (Rp.gM hd uG (q1.append q2)) λf=>ui uG f (q1.append q2)⟩
 ·obtain⟨i,j,rfl,rfl,e⟩:=jt e;cases e;cases r1;cases r2;exact ug pins s σ H _ _ v u Q I rx ry ⟨i,j,rfl,rfl,q _ _ (ay.refl _) rfl λ_=>rfl⟩
theorem Cb:PZ X (Jn X PH):=by
 intro pins s σ H x v vl vu lo hi sl Q I rx hs pl pu h;obtain⟨W,d1,d,hd,r1,e,q⟩:=h;cases d1 with
 |lst ds =>
  cases e;obtain⟨p,vs,rfl,h1,n1,q1⟩:=r1;have rr:iU X W H (cutD ds lo hi) (sF vs lo hi):=by
   unfold sF cutD;rw[q1.length];exact(aj.drop _ q1).take _
  exact u_ pins s σ H _ v vl vu lo hi sl Q I rx hs pl pu ⟨p,vs,rfl,cP.of h1,λl hl=>q _ _ (ay.new hl) (Rp.gM hd hl rr) λf=>ui hl f rr⟩
 |_=>cases e
theorem sJ:uY X (.type "list") dList:=by
 intro pins s σ H xs us Q I r h;obtain⟨W,ds,d,hd,r1,e,q⟩:=h
 match ds,e with
 |[.lst es],e =>
  cases e;obtain⟨v,r',rfl,⟨p,vs,rfl,h1,n1,q1⟩,hr⟩:=r1;cases hr;exact iQ pins s σ H _ us Q I r ⟨p,vs,rfl,.inl (cP.of h1),λl hl=>q _ _ (ay.new hl) (Rp.gM hd hl q1) λf=>ui hl f q1⟩
 |[.tup es],e =>
  cases e;obtain⟨v,r',rfl,⟨p,vs,rfl,h1,q1⟩,hr⟩:=r1;cases hr;exact iQ pins s σ H _ us Q I r ⟨p,vs,rfl,.inr (qj.of h1),λl hl=>q _ _ (ay.new hl) (Rp.gM hd hl q1) λf=>ui hl f q1⟩
theorem qb:uY X (.builtin "sorted") (λds=>match ds with | [.lst ds]=>pZ [.lst ds]|_=>none):=by
 intro pins s σ H xs us Q I r h;obtain⟨W,ds,d,hd,r1,e,q⟩:=h
 match ds,e with
 |[.lst es],e =>
  have e':(match d7 es with|some ks=>if ks.length<=1000000 then some (D.lst ((gC ks).map kD)) else none|none=>none)=some d:=e
  cases ek:d7 es with
  |none=>rw[ek]at e';cases e'
  |some ks =>
   rw[ek]at e';obtain⟨hl,rfl⟩:=fw e';obtain⟨rfl,hk⟩:=l4 ek;obtain⟨x,rfl,p,vs,rfl,hp,n1,q1⟩:=jY r1;obtain⟨ts,rfl,T,rfl⟩:=jo hk q1;refine p_ pins s σ H _ us Q I r ⟨p,ts,rfl,cP.of hp,T,by simpa using hl,λl de uG rG OI=>?_⟩
   have eq:de.map (·.2)=gC (ts.map (·.2)):=yN (rG.map _) (WA.mpr OI);rw[<- eq]at q;have rk:=gm (P:=X.prog) (w:=X.w) (W:=W) (H:=H) (ts:=de) λt ht=>(T t (rG.mem_iff.mp ht)).1;exact q _ _ (ay.new uG) (Rp.gM hd uG rk) λf=>ui uG f rk
theorem qa (hc:X.calm=true):uY X (.builtin "sorted") (λds=>match ds with | [.sT ts]=>pZ [.sT ts]|_=>none):=by
 intro pins s σ H xs us Q I r h;obtain⟨W,ds,d,hd,r1,e,q⟩:=h
 match ds,e with
 |[.sT ks],e =>
  obtain⟨⟨hl,hk⟩,rfl⟩:=fw (show (if ks.length<=1000/\(∀k∈ks,k≠[]) then some (D.lst ((gC ks).map kD)) else none)=some d from e)
  obtain⟨x,rfl,p,rfl,⟨ts,hp,T,pm⟩,nW⟩:=jY r1;obtain⟨u,rfl,rx⟩:=vals1 r;cases rx;obtain⟨⟨o,es,ep,t,ho,S⟩,_,_⟩:=(show bb X.prog X.w H s.heap p (Em X.prog X.w p ts) from I.br p _ hp)
  have tl:ts.length=ks.length:=by rw[<- pm.length_eq,US]
  have T':xY H ts:=λt ht=>⟨T t ht,hk _ (pm.mem_iff.mp (Vx.mpr ⟨t,ht,rfl⟩))⟩;obtain⟨us,As,col⟩:=ST.qo (s:=s) ho S (by omega)
  have T2:xY H us:=λt ht=>T' t (As.mem_iff.mp ht);refine TS.tP (vs:=us.map λx=>Value.ref x.1) (kf:=uv H) (by rw[US,As.length_eq];omega) (λR hR=>col _ _ R (by simp[I.ok.hd hc]) λh' tk kp=>hR h' tk kp) (u0 I.br T2 (UU _)) λout h1 h' tk n uF hs k1 kp Dy=>?_
  ·obtain⟨e1,e2⟩:=nR T2 uF;have zl:out.length=us.length:=by rw[uF.length_eq,US]
   have eq:(out.map (E7 H)).map (·.2)=gC ks:=by
    refine yN ((e2.trans As).map _ |>.trans pm) ?_
    refine WA.mpr (WA.mpr ?_);refine hs.imp_of_mem λ{x y} hx hy hh=>?_;obtain⟨t,ht,rfl⟩:=Vx.mp (uF.mem_iff.mp hx);obtain⟨t',Ob,rfl⟩:=Vx.mp (uF.mem_iff.mp hy);exact hh
   have I1:Inv X pins σ H {s with heap:=h1,toks:=s.toks}:=I.kept k1
   have HD:H h1.objs.size=none:=I1.br.fresh (UU _);refine⟨.ref h1.objs.size,_,I1.laid (t':=tk) (o:=.lst ((out.map (E7 H)).map qt)) kp (UU _) ?_,rfl,q _ _ (ay.new HD) ?_ ?_⟩
   ·refine⟨by rw[US,US,zl,As.length_eq,V2];omega,out,n,?_,Dy⟩
    have:=je (out.map (E7 H));rw[<- e1]at this;exact this
   ·rw[<- eq];exact Rp.gM hd HD (gm λt ht=>(T2 t (e2.mem_iff.mp ht)).1)
   ·rw[<- eq];exact λf=>ui (W:=W) HD f (gm λt ht=>(T2 t (e2.mem_iff.mp ht)).1)
end
section
end
end L2
namespace L2.Q
open PySem PySem.Spec PySem.SeqAt PyProof.Rows
section
variable (P:U0)(w:Vf)(H:Hp)
mutual
def Own:D->V->List Addr->Prop
 |.tup ds,v,A=>∃a vs,v=.ref a/\H a=some (.tup vs)/\aI ds vs A
 |.lst ds,v,A=>∃a vs A',v=.ref a/\H a=some (.lst vs)/\A=a::A'/\aI ds vs A'
 |.dT ks ds,v,A=>∃a vs A',v=.ref a/\H a=some (.dT (ks.zip vs))/\ks.length=vs.length/\A=a::A'/\aI ds vs A'
 |.dK ks ds,v,A=>∃a vs A',v=.ref a/\H a=some (.dK (ks.zip vs))/\ks.length=vs.length/\A=a::A'/\aI ds vs A'
 |.sT ts,v,A=>∃a,v=.ref a/\El P w H a ts/\A=[a]
 |.bK,v,A=>v=.bK/\A=[]
 |.bl b,v,A=>v=.bl b/\A=[]
 |.int i,v,A=>v=.int i/\A=[]
 |.str x,v,A=>v=.str x/\A=[]
 |.obj a,v,A=>v=.ref a/\A=[]
def aI:List D->List V->List Addr->Prop
 |[],vs,A=>vs=[]/\A=[]
 |d::ds,vs,A=>∃v r A1 A2,vs=v::r/\A=A1++A2/\Own d v A1/\aI ds r A2
end
end
section
variable {P:U0}{w:Vf}{W:Addr->Prop}{H H':Hp}
theorem wI {a:Addr}{ts:List (List Int)}(k:∀b xs,H b=some (.tup xs)->H' b=some (.tup xs))(ha:∀o,H a=some o->H' a=some o)(h:El P w H a ts):El P w H' a ts :=
 let ⟨de,e,r,z⟩:=h;⟨de,ha _ e,λx hx=>k _ _ (r x hx),z⟩
mutual
theorem Own.keep (k:∀b xs,H b=some (.tup xs)->H' b=some (.tup xs)):∀{d:D} {v:V} {A:List Addr},(∀c∈A,∀o,H c=some o->H' c=some o)->Own P w H d v A->Own P w H' d v A
 |.tup ds,_,_,ha,⟨a,vs,e,t,r⟩=>⟨a,vs,e,k a vs t,aI.keep k ha r⟩
 |.lst ds,_,_,ha,⟨a,vs,A',e,t,eA,r⟩=>⟨a,vs,A',e,ha a (by rw[eA];simp) _ t,eA,aI.keep k (λc hc=>ha c (by rw[eA];simp[hc])) r⟩
 |.dT ks ds,_,_,ha,⟨a,vs,A',e,t,l,eA,r⟩=>⟨a,vs,A',e,ha a (by rw[eA];simp) _ t,l,eA,aI.keep k (λc hc=>ha c (by rw[eA];simp[hc])) r⟩
 |.dK ks ds,_,_,ha,⟨a,vs,A',e,t,l,eA,r⟩=>⟨a,vs,A',e,ha a (by rw[eA];simp) _ t,l,eA,aI.keep k (λc hc=>ha c (by rw[eA];simp[hc])) r⟩
 |.sT ts,_,_,ha,⟨a,e,r,eA⟩=>⟨a,e,wI k (λo ho=>ha a (by rw[eA];simp) o ho) r,eA⟩
 |.bK,_,_,_,h=>h
 |.bl _,_,_,_,h=>h
 |.int _,_,_,_,h=>h
 |.str _,_,_,_,h=>h
 |.obj _,_,_,_,h=>h
theorem aI.keep (k:∀b xs,H b=some (.tup xs)->H' b=some (.tup xs)):∀{ds:List D} {vs:List V} {A:List Addr},(∀c∈A,∀o,H c=some o->H' c=some o)->aI P w H ds vs A->aI P w H' ds vs A
 |[],_,_,_,h=>h
 |d::ds,_,_,ha,⟨v,r,A1,A2,e,eA,h1,h2⟩=>⟨v,r,A1,A2,e,eA,Own.keep k (λc hc=>ha c (by rw[eA];simp[hc])) h1,aI.keep k (λc hc=>ha c (by rw[eA];simp[hc])) h2⟩
end
mutual
theorem Own.rep:∀{d:D} {v:V} {A:List Addr},(∀c∈A,¬ W c)->Own P w H d v A->az P w W H d v
 |.tup ds,_,_,ha,⟨a,vs,e,t,r⟩=>⟨a,vs,e,t,aI.rep ha r⟩
 |.lst ds,_,_,ha,⟨a,vs,A',e,t,eA,r⟩=>⟨a,vs,e,t,ha a (by rw[eA];simp),aI.rep (λc hc=>ha c (by rw[eA];simp[hc])) r⟩
 |.dT ks ds,_,_,ha,⟨a,vs,A',e,t,l,eA,r⟩=>⟨a,vs,e,t,l,ha a (by rw[eA];simp),aI.rep (λc hc=>ha c (by rw[eA];simp[hc])) r⟩
 |.dK ks ds,_,_,ha,⟨a,vs,A',e,t,l,eA,r⟩=>⟨a,vs,e,t,l,ha a (by rw[eA];simp),aI.rep (λc hc=>ha c (by rw[eA];simp[hc])) r⟩
 |.sT ts,_,_,ha,⟨a,e,r,eA⟩=>⟨a,e,r,ha a (by rw[eA];simp)⟩
 |.bK,_,_,_,h=>h.1
 |.bl _,_,_,_,h=>h.1
 |.int _,_,_,_,h=>h.1
 |.str _,_,_,_,h=>h.1
 |.obj _,_,_,_,h=>h.1
theorem aI.rep:∀{ds:List D} {vs:List V} {A:List Addr},(∀c∈A,¬ W c)->aI P w H ds vs A->aj P w W H ds vs
 |[],_,_,_,h=>h.1
 |d::ds,_,_,ha,⟨v,r,A1,A2,e,eA,h1,h2⟩=>⟨v,r,e,Own.rep (λc hc=>ha c (by rw[eA];simp[hc])) h1,aI.rep (λc hc=>ha c (by rw[eA];simp[hc])) h2⟩
end
mutual
theorem Own.mU:∀{d:D} {v:V} {A:List Addr},Own P w H d v A->∀c∈A,H c≠none/\∀xs,H c≠some (.tup xs)
 |.tup ds,_,_,⟨a,vs,e,t,r⟩,c,hc=>aI.mU r c hc
 |.lst ds,_,_,⟨a,vs,A',e,t,eA,r⟩,c,hc=>by
  rw[eA]at hc;rcases U1.mp hc with rfl|hc
  ·rw[t];exact⟨λz=>(nomatch z),λxs z=>by cases z⟩
  ·exact aI.mU r c hc
 |.dT ks ds,_,_,⟨a,vs,A',e,t,l,eA,r⟩,c,hc=>by
  rw[eA]at hc;rcases U1.mp hc with rfl|hc
  ·rw[t];exact⟨λz=>(nomatch z),λxs z=>by cases z⟩
  ·exact aI.mU r c hc
 |.dK ks ds,_,_,⟨a,vs,A',e,t,l,eA,r⟩,c,hc=>by
  rw[eA]at hc;rcases U1.mp hc with rfl|hc
  ·rw[t];exact⟨λz=>(nomatch z),λxs z=>by cases z⟩
  ·exact aI.mU r c hc
 |.sT ts,_,_,⟨a,e,⟨de,t,r,z⟩,eA⟩,c,hc=>by
  rw[eA]at hc;rw[U9.mp hc,t];exact⟨λz=>(nomatch z),λxs z=>by cases z⟩
 |.bK,_,_,h,c,hc=>by rw[h.2]at hc;cases hc
 |.bl _,_,_,h,c,hc=>by rw[h.2]at hc;cases hc
 |.int _,_,_,h,c,hc=>by rw[h.2]at hc;cases hc
 |.str _,_,_,h,c,hc=>by rw[h.2]at hc;cases hc
 |.obj _,_,_,h,c,hc=>by rw[h.2]at hc;cases hc
theorem aI.mU:∀{ds:List D} {vs:List V} {A:List Addr},aI P w H ds vs A->∀c∈A,H c≠none/\∀xs,H c≠some (.tup xs)
 |[],_,_,h,c,hc=>by rw[h.2]at hc;cases hc
 |d::ds,_,_,⟨v,r,A1,A2,e,eA,h1,h2⟩,c,hc=>by
  rw[eA]at hc;rcases Vg.mp hc with hc|hc
  ·exact Own.mU h1 c hc
  ·exact aI.mU h2 c hc
end
mutual
theorem c8:∀{d:D} {v:V},d.flat=true->az P w W H d v->Own P w H d v []
 |.tup ds,_,f,⟨a,vs,e,t,r⟩=>⟨a,vs,e,t,gv (by simpa[D.flat] using f) r⟩
 |.lst ds,_,f,_=>by simp[D.flat]at f
 |.dT ks ds,_,f,_=>by simp[D.flat]at f
 |.dK ks ds,_,f,_=>by simp[D.flat]at f
 |.sT ts,_,f,_=>by simp[D.flat]at f
 |.bK,_,_,h=>⟨h,rfl⟩
 |.bl _,_,_,h=>⟨h,rfl⟩
 |.int _,_,_,h=>⟨h,rfl⟩
 |.str _,_,_,h=>⟨h,rfl⟩
 |.obj _,_,_,h=>⟨h,rfl⟩
theorem gv:∀{ds:List D} {vs:List V},D.bY ds=true->aj P w W H ds vs->aI P w H ds vs []
 |[],_,_,h=>⟨h,rfl⟩
 |d::ds,_,f,⟨v,r,e,h1,h2⟩=>by
  have f':(d.flat&&D.bY ds)=true:=f;rw[Vz]at f';exact⟨v,r,[],[],e,rfl,c8 f'.1 h1,gv f'.2 h2⟩
end
theorem aI.length:∀{ds:List D} {vs:List V} {A:List Addr},aI P w H ds vs A->vs.length=ds.length
 |[],_,_,h=>by rw[h.1];rfl
 |d::ds,_,_,⟨v,r,A1,A2,e,eA,h1,h2⟩=>by rw[e,Vd,Vd,aI.length h2]
theorem aI.append:∀{ds ds':List D} {vs vs':List V} {A A':List Addr},aI P w H ds vs A->aI P w H ds' vs' A'->aI P w H (ds++ds') (vs++vs') (A++A')
 |[],_,_,_,_,_,h,h'=>by rw[h.1,h.2];exact h'
 |d::ds,_,_,_,_,_,⟨v,r,A1,A2,e,eA,h1,h2⟩,h'=>by
  subst e eA;exact⟨v,_,A1,_,rfl,by rw[V4],h1,aI.append h2 h'⟩
theorem aI.one {d:D}{v:V}{A:List Addr}(h:Own P w H d v A):aI P w H [d] [v] A:=⟨v,[],A,[],rfl,by simp,h,rfl,rfl⟩
theorem aI.split:∀{ds:List D} {vs:List V} {A:List Addr} {i:Nat} {d:D},aI P w H ds vs A->ds[i]?=some d->∃v A1 A2 A3,vs[i]?=some v/\A=A1++(A2++A3)/\aI P w H (ds.take i) (vs.take i) A1/\Own P w H d v A2/\aI P w H (ds.drop (i+1)) (vs.drop (i+1)) A3
 |[],_,_,_,_,_,e=>by simp at e
 |d::ds,_,_,0,_,⟨v,r,A1,A2,e,eA,h1,h2⟩,e'=>by
  simp at e';subst e' e eA;exact⟨v,[],A1,A2,by simp,by simp,⟨rfl,rfl⟩,h1,by simpa using h2⟩
 |d::ds,_,_,i+1,_,⟨v,r,A1,A2,e,eA,h1,h2⟩,e'=>by
  subst e eA;obtain⟨u,B1,B2,B3,g1,g2,g3,g4,g5⟩:=aI.split (i:=i) h2 (by simpa using e')
  exact⟨u,A1++B1,B2,B3,by simpa using g1,by rw[g2];simp[V4],by simpa using ⟨v,_,A1,B1,rfl,rfl,h1,g3⟩,g4,by simpa using g5⟩
end
inductive Kd where
 |own|e9|old|bor
inductive B where
 |val (y:Bool) (d:D)|own (d:D)|hand (ok:List Int->Prop)|shl (y:Bool) (d:D)
abbrev bg:=List (Option B)
structure Cfg where
 H0:Hp
 IO:Addr->Prop
 /-- is the result to be JC own -/
 ro:Bool
 /-- what else NR data keeps off -/
 U:Addr->Prop:=λ_=>False
abbrev Wn (own:Nat->List Addr):Addr->Prop:=λa=>∃i,a∈own i
def av (C:Cfg)(W:Addr->Prop):Kd->Addr->Prop
 |.own,a=>W a\/C.H0 a≠none
 |.e9,a=>W a\/C.H0 a≠none
 |.old,a=>W a
 |.bor,_=>False
def gc (C:Cfg)(W:Addr->Prop)(k:Kd)(a:Addr):Prop:=av C W k a\/C.U a
abbrev yk (y:Bool):Kd:=match y with|true=>.e9|false=>.old
def RS:D->HO->List V->Prop
 |.lst _,o,vs=>o=.lst vs
 |.dT ks _,o,vs=>o=.dT (ks.zip vs)/\ks.length=vs.length
 |.dK ks _,o,vs=>o=.dK (ks.zip vs)/\ks.length=vs.length
 |_,_,_=>False
def RT:D->List D
 |.lst ds=>ds
 |.dT _ ds=>ds
 |.dK _ ds=>ds
 |_=>[]
def IJ (P:U0)(w:Vf)(W:Addr->Prop)(H:Hp)(d:D)(v:V)(A:List Addr):Prop:=∃a o vs,v=.ref a/\A=[a]/\H a=some o/\RS d o vs/\aj P w W H (RT d) vs
theorem IJ.map {P:U0}{w:Vf}{W W':Addr->Prop}{H H':Hp}{d:D}{v:V}{A:List Addr}(h:IJ P w W H d v A)(ha:∀c∈A,∀o,H c=some o->H' c=some o)(hr:∀ds vs,aj P w W H ds vs->aj P w W' H' ds vs):IJ P w W' H' d v A :=
 let ⟨a,o,vs,e1,e2,e3,e4,r⟩:=h;⟨a,o,vs,e1,e2,ha a (by rw[e2];simp) o e3,e4,hr _ _ r⟩
theorem IJ.rep {P:U0}{w:Vf}{W W':Addr->Prop}{H:Hp}{d:D}{v:V}{A:List Addr}(h:IJ P w W H d v A)(ha:∀c∈A,¬ W' c)(hs:∀ds vs,aj P w W H ds vs->aj P w W' H ds vs):az P w W' H d v:=by
 obtain⟨a,o,vs,rfl,rfl,e,sh,r⟩:=h;have na:=ha a (by simp)
 replace r:=hs _ _ r;cases d with
 |lst ds=>cases sh;exact⟨a,vs,rfl,e,na,r⟩
 |dT ks ds=>obtain⟨rfl,l⟩:=sh;exact⟨a,vs,rfl,e,l,na,r⟩
 |dK ks ds=>obtain⟨rfl,l⟩:=sh;exact⟨a,vs,rfl,e,l,na,r⟩
 |_=>exact sh.elim
structure bR (P:U0)(w:Vf)(C:Cfg)(σ:St)(H:Hp)(β:bg)(own:Nat->List Addr):Prop where
 len:β.length=σ.length
 val:∀(i:Nat) (y:Bool) (d:D),β[i]?=some (some (.val y d))->∃v,σ[i]?=some (some v)/\az P w (gc C (Wn own) (yk y)) H d v
 ow:∀(i:Nat) (d:D),β[i]?=some (some (.own d))->∃v,σ[i]?=some (some v)/\Own P w H d v (own i)/\∀c∈own i,C.H0 c=none
 l_:∀(i:Nat) (ok:List Int->Prop),β[i]?=some (some (.hand ok))->∃a ns,σ[i]?=some (some (.ref a))/\H a=some (.lst (ns.map V.int))/\ok ns/\own i=[a]/\((∀b,¬ C.IO b)\/C.IO a)
 dm:∀(i:Nat) (a:Addr),a∈own i->H a≠none/\(∀xs,H a≠some (.tup xs))/\(C.H0 a=none\/C.IO a)/\¬ C.U a
 mH:∀(i j:Nat) (a:Addr),a∈own i->a∈own j->i=j
 lM:∀i,(own i).Nodup
 kp:Kp C.IO C.H0 H
 iO:∀a,C.H0 a≠none->H a≠none
 shl:∀(i:Nat) (y:Bool) (d:D),β[i]?=some (some (.shl y d))->∃v,σ[i]?=some (some v)/\IJ P w (gc C (Wn own) (yk y)) H d v (own i)/\∀c∈own i,C.H0 c=none
abbrev SQ (X:Cx):=bR X.prog X.w
section
variable {P:U0}{w:Vf}{C:Cfg}{σ:St}{H H':Hp}{β:bg}{own:Nat->List Addr}{W W':Addr->Prop}
theorem bR.A9 (b:bR P w C σ H β own):Dm (Wn own) H:=λa ⟨i,h⟩=>(b.dm i a h).1
theorem bR.A_ (b:bR P w C σ H β own)(k:Kd):Dm (av C (Wn own) k) H:=λa h=>by
 cases k with
 |own=>exact h.elim (b.A9 a) (b.iO a)
 |e9=>exact h.elim (b.A9 a) (b.iO a)
 |old=>exact b.A9 a h
 |bor=>exact h.elim
theorem kB (s:∀a,W' a->W a)(k:Kd):∀a,av C W' k a->av C W k a:=λa h=>by
 cases k with
 |own=>exact h.imp (s a) id
 |e9=>exact h.imp (s a) id
 |old=>exact s a h
 |bor=>exact h
theorem iT (s:∀a,W' a->W a)(k:Kd):∀a,gc C W' k a->gc C W k a:=λa h=>h.imp (kB s k a) id
theorem bR.keep (b:bR P w C σ H β own)(k:Kp (λa=>H a=none) H H')(kp:Kp C.IO H H')(dn:∀a,H a≠none->H' a≠none):bR P w C σ H' β own:=by
 have ko:∀c o,H c=some o->H' c=some o:=λc o e=>k.out c o e (by rw[e];exact λz=>(nomatch z))
 have same:ay H H':=ko;exact⟨b.len,λi y d e=>let ⟨v,h1,h2⟩:=b.val i y d e;⟨v,h1,h2.same same⟩,λi d e=>let ⟨v,h1,h2,h3⟩:=b.ow i d e;⟨v,h1,h2.keep (λ_ _ e=>same _ _ e) (λc _ o e=>same c o e),h3⟩,
  λi ok e=>let ⟨a,ns,h1,h2,h3⟩:=b.l_ i ok e;⟨a,ns,h1,same _ _ h2,h3⟩,λi a h=>by
   obtain⟨h1,h2,h3⟩:=b.dm i a h;cases q:H a with
   |none=>exact absurd q h1
   |some o=>rw[same a o q];exact⟨λz=>(nomatch z),λxs z=>h2 xs (by rw[q];exact z),h3⟩,b.mH,b.lM,b.kp.trans kp,λa z=>dn a (b.iO a z),λi y d e=>let ⟨v,h1,h2,h3⟩:=b.shl i y d e;⟨v,h1,h2.map (λc _ o e=>same c o e) (λ_ _ r=>r.same same),h3⟩⟩
theorem bR.same (b:bR P w C σ H β own)(s:ay H H'):bR P w C σ H' β own:=b.keep s.kp s.kp λa z e=>z (s.free e)
theorem e_ {own:Nat->List Addr}{i:Nat}{a:Addr}(h:Wn (aM own i []) a):Wn own a:=let ⟨j,q⟩:=h;⟨j,(bW q).1⟩
theorem bt {own:Nat->List Addr}{i j:Nat}{A:List Addr}(h:i≠j):aM own i A j=own j:=by unfold aM;rw[if_neg (V5 h)]
theorem os_eq {own:Nat->List Addr}{i:Nat}{A:List Addr}:aM own i A i=A:=by unfold aM;rw[if_pos rfl]
theorem bR.eD {i:Nat}{d:D}{v:V}{y:Bool}(b:bR P w C σ H β own)(r:az P w (gc C (Wn own) (yk y)) H d v):bR P w C (σ.set i (some v)) H (β.set i (some (.val y d))) (aM own i []):=by
 have sub:∀y a,gc C (Wn (aM own i [])) (yk y) a->gc C (Wn own) (yk y) a:=λy=>iT (λa h=>e_ h) _;refine⟨by simp[b.len],λj y' d' e=>?_,λj d' e=>?_,λj ok e=>?_,λj a h=>b.dm j a (bW h).1,λj k a h1 h2=>b.mH j k a (bW h1).1 (bW h2).1,λj=>?_,b.kp,b.iO,λj y' d' e=>?_⟩
 ·by_cases aH:i=j
  ·subst aH;obtain⟨e',hl⟩:=bD e;cases e';exact⟨v,get_set (by rw[<- b.len];exact hl),r.aW (sub _)⟩
  ·rw[bc aH]at e ⊢
   obtain⟨u,h1,h2⟩:=b.val j y' d' e;exact⟨u,h1,h2.aW (sub _)⟩
 ·by_cases aH:i=j
  ·subst aH;obtain⟨e',hl⟩:=bD e;cases e'
  ·rw[bc aH]at e ⊢
   rw[bt aH];exact b.ow j d' e
 ·by_cases aH:i=j
  ·subst aH;obtain⟨e',hl⟩:=bD e;cases e'
  ·rw[bc aH]at e ⊢
   rw[bt aH];exact b.l_ j ok e
 ·by_cases aH:i=j
  ·rw[aH,os_eq];exact VQ
  ·rw[bt aH];exact b.lM j
 ·by_cases aH:i=j
  ·subst aH;obtain⟨e',hl⟩:=bD e;cases e'
  ·rw[bc aH]at e ⊢
   rw[bt aH];obtain⟨u,h1,h2,h3⟩:=b.shl j y' d' e;exact⟨u,h1,h2.map (λ_ _ _ z=>z) (λ_ _ r=>aj.aW (sub _) r),h3⟩
theorem bR.tV {i:Nat}{d:D}{v:V}{A:List Addr}(b:bR P w C σ H β own)(r:Own P w H d v A)(nd:A.Nodup)(nw:∀c∈A,C.H0 c=none/\¬ Wn own c/\C.U c):
  bR P w {C with U:=λ_=>False} (σ.set i (some v)) H (β.set i (some (.own d))) (aM own i A):=by
 have sub:∀y a,gc {C with U:=λ_=>False} (Wn (aM own i A)) (yk y) a->gc C (Wn own) (yk y) a:=λy a h=>by
  have q:∀a,Wn (aM own i A) a->Wn own a\/a∈A:=λa xA=>by
   obtain⟨j,q⟩:=xA
   by_cases aH:i=j
   ·rw[aH,os_eq]at q;exact .inr q
   ·rw[bt aH]at q;exact .inl ⟨j,q⟩
  have q':∀a,Wn (aM own i A) a->Wn own a\/C.U a:=λa z=>(q a z).imp id λz=>(nw a z).2.2;rcases h with h|h
  ·cases y with
   |true=>exact h.elim (λz=>(q' a z).imp .inl id) λz=>.inl (.inr z)
   |false=>exact q' a h
  ·exact h.elim
 have mem:∀{j c},c∈aM own i A j->(i=j/\c∈A)\/(i≠j/\c∈own j):=λ{j c} h=>by
  by_cases aH:i=j
  ·subst aH;rw[os_eq]at h;exact .inl ⟨rfl,h⟩
  ·rw[bt aH]at h;exact .inr ⟨aH,h⟩
 refine⟨by simp[b.len],λj y' d' e=>?_,λj d' e=>?_,λj ok e=>?_,λj a h=>?_,λj k a h1 h2=>?_,λj=>?_,b.kp,b.iO,λj y' d' e=>?_⟩
 ·by_cases aH:i=j
  ·subst aH;obtain⟨e',hl⟩:=bD e;cases e'
  ·rw[bc aH]at e ⊢
   obtain⟨u,h1,h2⟩:=b.val j y' d' e;exact⟨u,h1,h2.aW (sub _)⟩
 ·by_cases aH:i=j
  ·subst aH;obtain⟨e',hl⟩:=bD e;cases e';rw[os_eq];exact⟨v,get_set (by rw[<- b.len];exact hl),r,λc hc=>(nw c hc).1⟩
  ·rw[bc aH]at e ⊢
   rw[bt aH];exact b.ow j d' e
 ·by_cases aH:i=j
  ·subst aH;obtain⟨e',hl⟩:=bD e;cases e'
  ·rw[bc aH]at e ⊢
   rw[bt aH];exact b.l_ j ok e
 ·rcases mem h with⟨_,h⟩|⟨_,h⟩
  ·exact⟨(r.mU a h).1,(r.mU a h).2,.inl (nw a h).1,λz=>z⟩
  ·exact⟨(b.dm j a h).1,(b.dm j a h).2.1,(b.dm j a h).2.2.1,λz=>z⟩
 ·rcases mem h1 with⟨e1,h1⟩|⟨n1,h1⟩
  ·rcases mem h2 with⟨e2,h2⟩|⟨n2,h2⟩
   ·rw[<- e1,<- e2]
   ·exact absurd ⟨k,h2⟩ (nw a h1).2.1
  ·rcases mem h2 with⟨e2,h2⟩|⟨n2,h2⟩
   ·exact absurd ⟨j,h1⟩ (nw a h2).2.1
   ·exact b.mH j k a h1 h2
 ·by_cases aH:i=j
  ·rw[<- aH,os_eq];exact nd
  ·rw[bt aH];exact b.lM j
 ·by_cases aH:i=j
  ·subst aH;obtain⟨e',hl⟩:=bD e;cases e'
  ·rw[bc aH]at e ⊢
   rw[bt aH];obtain⟨u,h1,h2,h3⟩:=b.shl j y' d' e;exact⟨u,h1,h2.map (λ_ _ _ z=>z) (λ_ _ r=>aj.aW (sub _) r),h3⟩
theorem bR.freeze {i:Nat}{d:D}(b:bR P w C σ H β own)(h:β[i]?=some (some (.own d))):bR P w C σ H (β.set i (some (.val true d))) (aM own i []):=by
 obtain⟨v,h1,h2,h3⟩:=b.ow i d h;have e:σ.set i (some v)=σ:=by
  apply WB;intro j;rw[WU]
  by_cases aH:i=j
  ·subst aH;rw[if_pos rfl,h1];have:i<σ.length:=(U3.mp h1).1;rw[if_pos this]
  ·rw[if_neg aH]
 have q:=bR.eD (i:=i) (d:=d) (v:=v) (y:=true) (own:=aM own i []) (C:=C) (P:=P) (w:=w) (σ:=σ) (H:=H) (β:=β.set i none);have b':bR P w C σ H (β.set i none) (aM own i []):=by
  have sub:∀y a,gc C (Wn (aM own i [])) (yk y) a->gc C (Wn own) (yk y) a:=λy=>iT (λa h=>e_ h) _;refine⟨by simp[b.len],λj y' d' e=>?_,λj d' e=>?_,λj ok e=>?_,λj a h=>b.dm j a (bW h).1,λj k a h1 h2=>b.mH j k a (bW h1).1 (bW h2).1,λj=>?_,b.kp,b.iO,λj y' d' e=>?_⟩
  ·by_cases aH:i=j
   ·subst aH;obtain⟨e',hl⟩:=bD e;cases e'
   ·rw[bc aH]at e;obtain⟨u,h1,h2⟩:=b.val j y' d' e;exact⟨u,h1,h2.aW (sub _)⟩
  ·by_cases aH:i=j
   ·subst aH;obtain⟨e',hl⟩:=bD e;cases e'
   ·rw[bc aH]at e;rw[bt aH];exact b.ow j d' e
  ·by_cases aH:i=j
   ·subst aH;obtain⟨e',hl⟩:=bD e;cases e'
   ·rw[bc aH]at e;rw[bt aH];exact b.l_ j ok e
  ·by_cases aH:i=j
   ·rw[aH,os_eq];exact VQ
   ·rw[bt aH];exact b.lM j
  ·by_cases aH:i=j
   ·subst aH;obtain⟨e',hl⟩:=bD e;cases e'
   ·rw[bc aH]at e;rw[bt aH];obtain⟨u,h1,h2,h3⟩:=b.shl j y' d' e;exact⟨u,h1,h2.map (λ_ _ _ z=>z) (λ_ _ r=>aj.aW (sub _) r),h3⟩
 have q:=bR.eD (i:=i) (d:=d) (v:=v) (y:=true) b' (h2.rep λc hc z=>by
  rcases z with (z|z)|z
  ·obtain⟨j,hj⟩:=z;obtain⟨hj,ne⟩:=bW hj;exact ne (b.mH j i c hj hc)
  ·exact z (h3 c hc)
  ·exact(b.dm i c hc).2.2.2 z)
 rw[e,Zh]at q;have eo:aM (aM own i []) i []=aM own i []:=by
  funext j
  by_cases aH:i=j
  ·rw[<- aH,os_eq,os_eq]
  ·rw[bt aH,bt aH]
 rwa [eo]at q
abbrev Cfg.u (C:Cfg)(U:Addr->Prop):Cfg:={C with U:=U}
theorem bR.nH {U:Addr->Prop}(b:bR P w C σ H β own)(hU:∀a,U a->H a=none):bR P w (C.u U) σ H β own :=
 ⟨b.len,λi y d e=>let ⟨v,h1,h2⟩:=b.val i y d e;⟨v,h1,az.grow (λa z=>z.elim (λz=>.inl (.inl z)) λz=>.inr (hU a z)) h2⟩,b.ow,b.l_,λi a h=>let ⟨h1,h2,h3,_⟩:=b.dm i a h;⟨h1,h2,h3,λz=>h1 (hU a z)⟩,b.mH,b.lM,b.kp,b.iO,λi y d e=>let ⟨v,h1,h2,h3⟩:=b.shl i y d e;⟨v,h1,h2.map (λ_ _ _ z=>z) (λ_ _ r=>aj.grow (λa z=>z.elim (λz=>.inl (.inl z)) λz=>.inr (hU a z)) r),h3⟩⟩
theorem bR.QA {U:Addr->Prop}(b:bR P w (C.u U) σ H β own):bR P w (C.u λ_=>False) σ H β own :=
 ⟨b.len,λi y d e=>let ⟨v,h1,h2⟩:=b.val i y d e;⟨v,h1,az.aW (λa z=>z.elim .inl λz=>z.elim) h2⟩,b.ow,b.l_,λi a h=>let ⟨h1,h2,h3,_⟩:=b.dm i a h;⟨h1,h2,h3,λz=>z⟩,b.mH,b.lM,b.kp,b.iO,λi y d e=>let ⟨v,h1,h2,h3⟩:=b.shl i y d e;⟨v,h1,h2.map (λ_ _ _ z=>z) (λ_ _ r=>aj.aW (λa z=>z.elim .inl λz=>z.elim) r),h3⟩⟩
theorem bR.jZ {i:Nat}{y:Bool}{d:D}(b:bR P w C σ H β own)(e:β[i]?=some (some (.val y d))):∃v,σ[i]?=some (some v)/\az P w (av C (Wn own) (yk y)) H d v:=let ⟨v,h1,h2⟩:=b.val i y d e;⟨v,h1,az.aW (λa z=>.inl z) h2⟩
end
def KV (P:U0)(w:Vf)(C:Cfg)(Z:Hp×(Addr->Prop))(own:Nat->List Addr)(H:Hp):Kd->D->V->Prop
 |.own,d,v=>∃A,Own P w H d v A/\A.Nodup/\∀c∈A,Z.1 c=none/\¬ Wn own c/\C.H0 c=none
 |.e9,d,v=>az P w (av C (Wn own) .e9) H d v
 |.old,d,v=>az P w (av C (Wn own) .old) H d v
 |.bor,d,v=>az P w (av C (Wn own) .bor) H d v
structure P0 (P:U0)(w:Vf)(C:Cfg)(σ:St)(H:Hp)(own:Nat->List Addr)(p:Bool)(β':bg)(H':Hp)(aQ:Nat->List Addr):Prop where
 sq:bR P w C σ H' β' aQ
 sn:Sn (H,Wn own) H' (Wn aQ)
 pu:p=true->ay H H'/\aQ=own
 le:∀a,Wn aQ a->Wn own a
abbrev Out (X:Cx):=P0 X.prog X.w
section
variable {X:Cx}{C:Cfg}{σ:St}{H H1 H2 H':Hp}{own aD a5:Nat->List Addr}{p p':Bool}{β β1 β2 β':bg}{Z:Hp×(Addr->Prop)}{d:D}{v:V}{k:Kd}{P:U0}{w:Vf}
theorem Out.refl (s:SQ X C σ H β own)(p:Bool):Out X C σ H own p β H own:=⟨s,Sn.refl,λ_=>⟨ay.refl _,rfl⟩,λ_ z=>z⟩
theorem Out.trans (a:Out X C σ H own p β1 H1 aD)(b:Out X C σ H1 aD p' β2 H2 a5):Out X C σ H own (p&&p') β2 H2 a5:=⟨b.sq,a.sn.trans b.sn,λh=>by
 rw[Vz]at h;obtain⟨s1,e1⟩:=a.pu h.1;obtain⟨s2,e2⟩:=b.pu h.2;exact⟨s1.trans s2,e2.trans e1⟩,λc z=>a.le c (b.le c z)⟩
theorem Out.same (a:Out X C σ H own p β1 H1 aD)(s:ay H1 H2):Out X C σ H own p β1 H2 aD:=⟨a.sq.same s,a.sn.same s,λh=>let ⟨s1,e1⟩:=a.pu h;⟨s1.trans s,e1⟩,a.le⟩
theorem Out.wk (a:Out X C σ H own p β1 H1 aD)(h:p'=true->p=true):Out X C σ H own p' β1 H1 aD:=⟨a.sq,a.sn,λz=>a.pu (h z),a.le⟩
theorem KV.rep (h:KV P w C Z own H k d v):az P w (av C (Wn own) k) H d v:=by
 cases k with
 |own=>obtain⟨A,h1,h2,h3⟩:=h;exact h1.rep λc hc z=>z.elim (h3 c hc).2.1 λz=>z (h3 c hc).2.2
 |_=>exact h
theorem KV.e9 (h:KV P w C Z own H .own d v):KV P w C Z own H .e9 d v:=KV.rep (k:=.own) h
theorem KV.flat {W:Addr->Prop}(f:d.flat=true)(h:az P w W H d v):KV P w C Z own H .own d v:=⟨[],c8 f h,VQ,λc hc=>(nomatch hc)⟩
abbrev Kd.wk:Kd->Kd
 |.own=>.e9
 |.e9=>.e9
 |.old=>.old
 |.bor=>.bor
abbrev Kd.max:Kd->Kd->Kd
 |.bor,_=>.bor
 |_,.bor=>.bor
 |.old,_=>.old
 |_,.old=>.old
 |_,_=>.e9
theorem c5 {W:Addr->Prop}{a b:Kd}:∀c,av C W (a.max b) c->av C W a c:=λc h=>by
 cases a <;> cases b <;> first|exact h|exact h.elim|exact .inl h
theorem fA {W:Addr->Prop}{a b:Kd}:∀c,av C W (a.max b) c->av C W b c:=λc h=>by
 cases a <;> cases b <;> first|exact h|exact h.elim|exact .inl h
theorem KV.of (h:az P w (av C (Wn own) k.wk) H d v):KV P w C Z own H k.wk d v:=by
 cases k <;> exact h
theorem KV.Jh (h:KV P w C Z own H k d v)(s:ay H H'):KV P w C Z own H' k d v:=by
 cases k with
 |own=>obtain⟨A,h1,h2⟩:=h;exact⟨A,h1.keep (λb xs e=>s _ _ e) (λc _ o e=>s c o e),h2⟩
 |e9=>exact az.same s h
 |old=>exact az.same s h
 |bor=>exact az.same s h
theorem KV.held (hk:k≠.bor)(h:KV P w C Z own H k d v)(n:Sn (H,Wn own) H2 (Wn a5)):KV P w C Z a5 H2 k d v:=by
 cases k with
 |own =>
  obtain⟨A,h1,h2,h3⟩:=h;refine⟨A,h1.keep n.k.tup (λc hc o e=>n.k.out c o e λz=>z.elim (h3 c hc).2.1 λz=>(h1.mU c hc).1 z),h2,λc hc=>⟨(h3 c hc).1,λz=>(n.w c z).elim (h3 c hc).2.1 λz=>(h1.mU c hc).1 z,(h3 c hc).2.2⟩⟩
 |e9 =>
  have g:az P w (λa=>av C (Wn own) .e9 a\/H a=none) H d v:=az.grow (λb z=>z) h;exact az.aW (λb z=>z.elim (λz=>(n.w b z).imp .inl id) λz=>.inl (.inr z)) (az.keep (n.k.mono λb z=>z.imp .inl id) g)
 |old=>exact held (W:=Wn own) h n
 |bor=>exact absurd rfl hk
theorem KV.K7 (h:KV P w C Z own H k d v)(s:ay H H2)(e:a5=own):KV P w C Z a5 H2 k d v:=by rw[e];exact h.Jh s
abbrev hold (k:Kd)(p:Bool):Prop:=match k,p with
 |.bor,false=>False
 |_,_=>True
theorem KV.ho (h:KV P w C Z own H k d v)(o:Out X C σ H own p β' H2 a5)(hh:hold k p):KV P w C Z a5 H2 k d v:=by
 cases p with
 |true=>obtain⟨s,e⟩:=o.pu rfl;exact h.K7 s e
 |false=>exact h.held (by rintro rfl;exact hh) o.sn
theorem KV.later (h:KV P w C (H1,Wn aD) own H k d v)(n:Sn Z H1 (Wn aD)):KV P w C Z own H k d v:=by
 cases k with
 |own=>obtain⟨A,h1,h2,h3⟩:=h;exact⟨A,h1,h2,λc hc=>⟨n.free (h3 c hc).1,(h3 c hc).2⟩⟩
 |_=>exact h
end
abbrev aR:=bg->(D->Kd->bg->Prop)->Prop
abbrev aY:=bg->(Bool->bg->Prop)->Prop
abbrev cO:=bg->(List D->List Kd->bg->Prop)->Prop
def tQ (X:Cx)(C:Cfg)(p:Bool)(φ:aR):TE:=λσ H Q=>∃β own,SQ X C σ H β own/\φ β λd k β'=>∀v H' aQ,Out X C σ H own p β' H' aQ->KV X.prog X.w C (H,Wn own) aQ H' k d v->Q v H'
def iV (X:Cx)(C:Cfg)(p:Bool)(φ:aY):TT:=λσ H Q=>∃β own,SQ X C σ H β own/\φ β λb β'=>∀H' aQ,Out X C σ H own p β' H' aQ->Q b H'
def KF (P:U0)(w:Vf)(C:Cfg)(own:Nat->List Addr)(H:Hp):List Kd->List D->List V->List Addr->Prop
 |[],ds,vs,A=>ds=[]/\vs=[]/\A=[]
 |k::ks,ds,vs,A=>∃d dr v vr A1 A2,ds=d::dr/\vs=v::vr/\A=A1++A2/\(match k with | .own=>Own P w H d v A1|k=>A1=[]/\az P w (av C (Wn own) k) H d v)/\KF P w C own H ks dr vr A2
def sX (P:U0)(w:Vf)(C:Cfg)(Z:Hp×(Addr->Prop))(own:Nat->List Addr)(H:Hp)(ks:List Kd)(ds:List D)(vs:List V):Prop :=
 ∃A,KF P w C own H ks ds vs A/\A.Nodup/\∀c∈A,Z.1 c=none/\¬ Wn own c/\C.H0 c=none
def u6 (X:Cx)(C:Cfg)(p:Bool)(φ:cO):TA:=λσ H Q=>∃β own,SQ X C σ H β own/\φ β λds ks β'=>∀vs H' aQ,Out X C σ H own p β' H' aQ->sX X.prog X.w C (H,Wn own) aQ H' ks ds vs->Q vs H'
section
variable {C:Cfg}{H H1:Hp}{own aD:Nat->List Addr}{Z:Hp×(Addr->Prop)}{d:D}{v:V}{k:Kd}{P:U0}{w:Vf}{ks:List Kd}{ds:List D}{vs:List V}
theorem sX.nil:sX P w C Z own H [] [] []:=⟨[],⟨rfl,rfl,rfl⟩,VQ,λc hc=>(nomatch hc)⟩
theorem KF.mU:∀{ks:List Kd} {ds:List D} {vs:List V} {A:List Addr},KF P w C own H ks ds vs A->∀c∈A,H c≠none
 |[],_,_,_,⟨_,_,e⟩,c,hc=>by rw[e]at hc;cases hc
 |k::ks,_,_,_,⟨d,dr,v,vr,A1,A2,rfl,rfl,rfl,h1,h2⟩,c,hc=>by
  rcases Vg.mp hc with hc|hc
  ·cases k with
   |own=>exact(Own.mU h1 c hc).1
   |_=>rw[h1.1]at hc;cases hc
  ·exact KF.mU h2 c hc
theorem sX.cons (h1:KV P w C Z aD H1 k d v)(n:Sn (H1,Wn aD) H (Wn own))(yg:KV P w C Z own H k d v)(h2:sX P w C (H1,Wn aD) own H ks ds vs)(n0:Sn Z H1 (Wn aD)):sX P w C Z own H (k::ks) (d::ds) (v::vs):=by
 obtain⟨A2,f2,Gw,q2⟩:=h2;have z2:∀c∈A2,Z.1 c=none/\¬ Wn own c/\C.H0 c=none:=λc hc=>⟨n0.free (q2 c hc).1,(q2 c hc).2⟩;cases k with
 |own =>
  obtain⟨A1,o1,C7,q1⟩:=h1;obtain⟨UQ,Ut,Sg,Qq⟩:=(show KV P w C Z own H .own d v from KV.held (k:=.own) (λz=>(nomatch z)) (⟨A1,o1,C7,q1⟩:KV P w C Z aD H1 .own d v) n)
  have NN:Own P w H d v A1:=o1.keep n.k.tup (λc hc o e=>n.k.out c o e λz=>z.elim (q1 c hc).2.1 λz=>(o1.mU c hc).1 z);refine⟨A1++A2,⟨d,ds,v,vs,A1,A2,rfl,rfl,rfl,NN,f2⟩,V3.mpr ⟨C7,Gw,λa ha b hb e=>?_⟩,λc hc=>?_⟩
  ·subst e;exact(o1.mU a ha).1 (q2 a hb).1
  ·rcases Vg.mp hc with hc|hc
   ·exact⟨(q1 c hc).1,λz=>(n.w c z).elim (q1 c hc).2.1 λz=>(o1.mU c hc).1 z,(q1 c hc).2.2⟩
   ·exact z2 c hc
 |e9=>exact⟨A2,⟨d,ds,v,vs,[],A2,rfl,rfl,rfl,⟨rfl,yg⟩,f2⟩,Gw,z2⟩
 |old=>exact⟨A2,⟨d,ds,v,vs,[],A2,rfl,rfl,rfl,⟨rfl,yg⟩,f2⟩,Gw,z2⟩
 |bor=>exact⟨A2,⟨d,ds,v,vs,[],A2,rfl,rfl,rfl,⟨rfl,yg⟩,f2⟩,Gw,z2⟩
abbrev gQ:List Kd->Kd
 |[]=>.e9
 |k::ks=>Kd.max k (gQ ks)
theorem KF.i_:∀{ks:List Kd} {ds:List D} {vs:List V} {A:List Addr},KF P w C own H ks ds vs A->(∀c∈A,¬ Wn own c/\C.H0 c=none)->aj P w (av C (Wn own) (gQ ks)) H ds vs
 |[],_,_,_,⟨e1,e2,e⟩,_=>by rw[e1,e2];rfl
 |k::ks,_,_,_,⟨d,dr,v,vr,A1,A2,rfl,rfl,rfl,h1,h2⟩,hA=>by
  refine⟨v,vr,rfl,?_,aj.aW fA (KF.i_ h2 λc hc=>hA c (VE _ hc))⟩;cases k with
  |own=>exact az.aW c5 (Own.rep (W:=av C (Wn own) .own) (λc hc z=>z.elim (hA c (V9 _ hc)).1 λz=>z (hA c (V9 _ hc)).2) h1)
  |e9=>exact az.aW (c5 (a:=.e9)) h1.2
  |old=>exact az.aW (c5 (a:=.old)) h1.2
  |bor=>exact az.aW (c5 (a:=.bor)) h1.2
theorem sX.i_ (h:sX P w C Z own H ks ds vs):aj P w (av C (Wn own) (gQ ks)) H ds vs:=let ⟨A,h1,_,h3⟩:=h;h1.i_ λc hc=>(h3 c hc).2
theorem sX.bor (h:sX P w C Z own H ks ds vs):aj P w (λ_=>False) H ds vs:=aj.aW (λ_ z=>z.elim) h.i_
def we:List Kd->List D->Prop
 |k::ks,d::ds=>(match k with | .own=>True|_=>d.flat=true)/\we ks ds
 |_,_=>True
theorem KF.Gh:∀{ks:List Kd} {ds:List D} {vs:List V} {A:List Addr},KF P w C own H ks ds vs A->we ks ds->aI P w H ds vs A
 |[],_,_,_,⟨e1,e2,e⟩,_=>by rw[e1,e2,e];exact⟨rfl,rfl⟩
 |k::ks,_,_,_,⟨d,dr,v,vr,A1,A2,rfl,rfl,rfl,h1,h2⟩,⟨f1,f2⟩=>by
  refine⟨v,vr,A1,A2,rfl,rfl,?_,KF.Gh h2 f2⟩;cases k with
  |own=>exact h1
  |e9=>rw[h1.1];exact c8 f1 h1.2
  |old=>rw[h1.1];exact c8 f1 h1.2
  |bor=>rw[h1.1];exact c8 f1 h1.2
theorem iH:∀{ks:List Kd},(gQ ks).wk=gQ ks
 |[]=>rfl
 |k::ks=>by cases k <;> cases h:gQ ks <;> simp[gQ,Kd.max,h]
def Aj (ks:List Kd)(ds:List D)(K:Kd->Prop):Prop:=match ks.all (λk=>match k with | .own=>true|_=>false)with
 |true=>K .own
 |false=>(we ks ds/\K .own)\/K (gQ ks)
theorem Aj.mono {ks:List Kd}{ds:List D}{K K':Kd->Prop}(k:∀x,K x->K' x)(h:Aj ks ds K):Aj ks ds K':=by
 unfold Aj at *
 split
 ·next e=>rw[e]at h;exact k _ h
 ·next e=>rw[e]at h;exact h.imp (λz=>⟨z.1,k _ z.2⟩) (k _)
theorem Aj.of {ks:List Kd}{ds:List D}{K:Kd->Prop}(h:Aj ks ds K):(we ks ds/\K .own)\/K (gQ ks):=by
 unfold Aj at h
 split at h
 ·next e =>
  refine .inl ⟨?_,h⟩
  clear h
  induction ks generalizing ds with
  |nil=>cases ds <;> trivial
  |cons k ks ih =>
   cases ds with
   |nil=>trivial
   |cons d ds =>
    rw[List.all_cons,Vz]at e;refine⟨?_,ih e.2⟩;have e1:=e.1;cases k <;> first|trivial|cases e1
 ·exact h
end
structure PQ (X:Cx)(C:Cfg)(p:Bool)(e:Expr)(φ:aR):Prop where
 mono:∀β R R',(∀d k β,R d k β->R' d k β)->φ β R->φ β R'
 pe:PE X e (tQ X C p φ)
structure tj (X:Cx)(C:Cfg)(p:Bool)(e:Expr)(φ:aY):Prop where
 mono:∀β R R',(∀d β,R d β->R' d β)->φ β R->φ β R'
 pt:PT X e (iV X C p φ)
structure uW (X:Cx)(C:Cfg)(p:Bool)(e:Expr)(φ:aY):Prop where
 mono:∀β R R',(∀d β,R d β->R' d β)->φ β R->φ β R'
 pw:PW X e (iV X C p φ)
structure tq (X:Cx)(C:Cfg)(p:Bool)(es:List Expr)(φ:cO):Prop where
 mono:∀β R R',(∀d k β,R d k β->R' d k β)->φ β R->φ β R'
 pa:PA X es (u6 X C p φ)
section
variable {X:Cx}{C:Cfg}{a b c e:Expr}{es:List Expr}{φ φa φb:aR}{τ τa τb:aY}{φs:cO}{pos:Pos}{σ:St}{H H':Hp}{β:bg}{own:Nat->List Addr}{p p':Bool}
theorem tQ.of (h:PQ X C p e φ)(s:SQ X C σ H β own){R:D->Kd->bg->Prop}{Q:VK}(hr:φ β R)(k:∀d kd β' v H' aQ,R d kd β'->Out X C σ H own p β' H' aQ->KV X.prog X.w C (H,Wn own) aQ H' kd d v->Q v H'):tQ X C p φ σ H Q :=
 ⟨β,own,s,h.mono β _ _ (λd kd β' hd v H' aQ o r=>k d kd β' v H' aQ hd o r) hr⟩
theorem iV.of (h:tj X C p e τ)(s:SQ X C σ H β own){R:Bool->bg->Prop}{Q:Bool->Hp->Prop}(hr:τ β R)(k:∀t β' H' aQ,R t β'->Out X C σ H own p β' H' aQ->Q t H'):iV X C p τ σ H Q :=
 ⟨β,own,s,h.mono β _ _ (λt β' hd H' aQ o=>k t β' H' aQ hd o) hr⟩
theorem u6.of (h:tq X C p es φs)(s:SQ X C σ H β own){R:List D->List Kd->bg->Prop}{Q:List V->Hp->Prop}(hr:φs β R)(k:∀ds ks β' vs H' aQ,R ds ks β'->Out X C σ H own p β' H' aQ->sX X.prog X.w C (H,Wn own) aQ H' ks ds vs->Q vs H'):u6 X C p φs σ H Q :=
 ⟨β,own,s,h.mono β _ _ (λd kd β' hd v H' aQ o r=>k d kd β' v H' aQ hd o r) hr⟩
theorem uW.t (h:uW X C p e τ):tj X C p e τ:=⟨h.mono,h.pw.pt⟩
abbrev vk (y:Bool):D->Kd
 |.int _=>.own
 |.bl _=>.own
 |.bK=>.own
 |.str _=>.own
 |_=>yk y
def qB:B->(D->Kd->Prop)->Prop
 |.val y d,K=>K d (vk y d)
 |.own d,K=>K d .bor
 |.hand _,_=>False
 |.shl _ _,_=>False
def Nj (i:Nat):aR:=λβ R=>∃b,β[i]?=some (some b)/\qB b λd k=>R d k β
theorem GN {P:U0}{w:Vf}{Z:Hp×(Addr->Prop)}{y:Bool}{d:D}{v:V}(h:az P w (av C (Wn own) (yk y)) H d v):KV P w C Z own H (vk y d) d v:=by
 cases d with
 |int i=>exact KV.flat rfl h
 |bl i=>exact KV.flat rfl h
 |bK=>exact KV.flat rfl h
 |str i=>exact KV.flat rfl h
 |_=>cases y <;> exact h
theorem ab {i:Nat}{x:Str}(hN:X.N[i]?=some x:=by rfl)(hv:sQ X.env.scope x:=by first|exact .inl rfl|exact .inr (.inl rfl)|exact .inr (.inr rfl))(hd:(x==("__debug__" : Str))=false:=by decide)(gG:(x==("__classdict__" : Str))=false:=by decide):
  PQ X C true (.Name x pos) (Nj i):=⟨λβ R R' k xA=>by obtain⟨b,e,h⟩:=xA;exact⟨b,e,by cases b <;> first|exact k _ _ _ h|exact h⟩,(cT hN hv hd gG).pre λσ H Q Au=>by
 obtain⟨β,own,s,b,e,q⟩:=Au;cases b with
 |val y d=>obtain⟨v,h1,h2⟩:=s.jZ e;exact⟨v,h1,q v H own (Out.refl s _) (GN h2)⟩
 |own d=>obtain⟨v,h1,h2,h3⟩:=s.ow i d e;exact⟨v,h1,q v H own (Out.refl s _) (h2.rep λ_ _ z=>z)⟩
 |hand ok=>exact q.elim
 |shl _ _=>exact q.elim⟩
def Nt (i:Nat):aR:=λβ R=>∃d,β[i]?=some (some (.own d))/\R d .e9 (β.set i (some (.val true d)))
theorem t_ {i:Nat}{x:Str}(hN:X.N[i]?=some x:=by rfl)(hv:sQ X.env.scope x:=by first|exact .inl rfl|exact .inr (.inl rfl)|exact .inr (.inr rfl))(hd:(x==("__debug__" : Str))=false:=by decide)(gG:(x==("__classdict__" : Str))=false:=by decide):
  PQ X C false (.Name x pos) (Nt i):=⟨λβ R R' k Kj=>by obtain⟨b,e,h⟩:=Kj;exact⟨b,e,k _ _ _ h⟩,(cT hN hv hd gG).pre λσ H Q Hg=>by
 obtain⟨β,own,s,d,e,q⟩:=Hg;have f:=s.freeze e;obtain⟨v,h1,h2⟩:=f.jZ (y:=true) (get_set (by rw[s.len];obtain⟨v,h1,_⟩:=s.ow i d e;exact(U3.mp h1).1))
 exact⟨v,h1,q v H _ ⟨f,⟨λb z=>.inl (e_ z),Kp.refl,λ_ z=>z⟩,λz=>(nomatch z),λ_ z=>e_ z⟩ h2⟩⟩
def qC (d:D):aR:=λβ R=>R d .own β
theorem ah {i j}:PQ X C true (.Constant (.int i) j pos) (qC (.int i)):=⟨λρ R R' k h=>k _ _ _ h,a_.pre λσ H Q Hf=>by obtain⟨β,own,s,q⟩:=Hf;exact q _ H own (Out.refl s _) (KV.flat (W:=λ_=>False) rfl rfl)⟩
theorem lF {b j}:PQ X C true (.Constant (.bool b) j pos) (qC (.bl b)):=⟨λρ R R' k h=>k _ _ _ h,ED.pre λσ H Q Oj=>by obtain⟨β,own,s,q⟩:=Oj;exact q _ H own (Out.refl s _) (KV.flat (W:=λ_=>False) rfl rfl)⟩
theorem lD {j}:PQ X C true (.Constant .none j pos) (qC .bK):=⟨λρ R R' k h=>k _ _ _ h,Ge.pre λσ H Q He=>by obtain⟨β,own,s,q⟩:=He;exact q _ H own (Out.refl s _) (KV.flat (W:=λ_=>False) rfl rfl)⟩
def zd (X:Cx)(f:D->D->Option D)(N:D->Prop):R2:=λx y H Q=>∃W d1 d2 d,Dm W H/\Rp X W H d1 x/\Rp X W H d2 y/\f d1 d2=some d/\∀v H',ay H H'->Rp X W H' d v->(N d->Rp X (λa=>H a≠none) H' d v)->Q v H'
abbrev Ms (X:Cx)(f:UT->UT->Sem UT)(g:D->D->Option D)(N:D->Prop):Prop:=g9 X f (zd X g N)
theorem bS.m {f:UT->UT->Sem UT}{g:D->D->Option D}(h:bS X f g):Ms X f g NF:=λpins s σ H x y v u Q I rx ry ⟨W,d1,d2,d,hd,r1,r2,e,q⟩ =>
 h pins s σ H x y v u Q I rx ry ⟨W,d1,d2,d,hd,r1,r2,e,λv H' s r=>q v H' s r λf=>az.flat f r⟩
def kN (N:D->Prop)(d:D)(k:Kd)(K:Kd->Prop):Prop:=match d with
 |.int _=>K .own
 |.bl _=>K .own
 |.bK=>K .own
 |.str _=>K .own
 |.tup _=>K k
 |_=>(N d/\K .own)\/K k
theorem kN.mono {N:D->Prop}{d:D}{k:Kd}{K K':Kd->Prop}(h:∀x,K x->K' x)(q:kN N d k K):kN N d k K':=by
 cases d <;> first|exact h _ q|exact q.imp (λz=>⟨z.1,h _ z.2⟩) (h _)
theorem iB {P:U0}{w:Vf}{Z:Hp×(Addr->Prop)}{d:D}{v:V}(hd:Dm (Wn own) H)(h0:∀a,C.H0 a≠none->H a≠none)(hz:∀a,Z.1 a≠none->H a≠none)(f:NL d)(r:az P w (λa=>H a≠none) H' d v):KV P w C Z own H' .own d v:=by
 have nn:∀{a:Addr},¬ (H a≠none)->H a=none:=λ{a} h=>VP λz=>h z;have cl:∀{a:Addr},H a=none->Z.1 a=none/\¬ Wn own a/\C.H0 a=none:=λ{a} h=>⟨VP λz=>hz a z h,λz=>hd a z h,VP λz=>h0 a z h⟩;cases d with
 |lst ds =>
  obtain⟨a,vs,rfl,e,n,q⟩:=r;exact⟨[a],⟨a,vs,[],rfl,e,rfl,gv f q⟩,by simp,λc hc=>by rw[U9.mp hc];exact cl (nn n)⟩
 |_=>exact KV.flat f r
theorem KV.kN {N:D->Prop}{P:U0}{w:Vf}{Z:Hp×(Addr->Prop)}{d:D}{v:V}{k:Kd}{K:Kd->Prop}(hk:k.wk=k)(r:az P w (av C (Wn own) k) H' d v)(ro:N d->KV P w C Z own H' .own d v)(q:kN N d k K):∃k',K k'/\KV P w C Z own H' k' d v:=by
 have rk:KV P w C Z own H' k d v:=by rw[<- hk];exact KV.of (by rw[hk];exact r)
 cases d with
 |int i=>exact⟨_,q,KV.flat rfl r⟩
 |bl i=>exact⟨_,q,KV.flat rfl r⟩
 |bK=>exact⟨_,q,KV.flat rfl r⟩
 |str i=>exact⟨_,q,KV.flat rfl r⟩
 |tup ds=>exact⟨_,q,rk⟩
 |_=>exact q.elim (λz=>⟨_,z.2,ro z.1⟩) λz=>⟨_,z,rk⟩
structure BN (N:D->Prop):Prop where
 nl:∀d,N d->NL d
theorem aF:BN NL:=⟨λ_ h=>h⟩
theorem af:BN NF:=⟨λd h=>by cases d <;> first|exact h|cases h⟩
theorem EK {a b:Kd}:(a.max b).wk=a.max b:=by cases a <;> cases b <;> rfl
def yb (g:D->D->Option D)(N:D->Prop)(pb:Bool)(φa φb:aR):aR:=λβ R=>φa β λx ka β1=>hold ka pb/\φb β1 λy kb β2=>∃d,g x y=some d/\kN N d (ka.max kb) λk=>R d k β2
variable {g:D->D->Option D}{N:D->Prop}
theorem yb.mono (ha:PQ X C p a φa)(hb:PQ X C p' b φb):∀β R R',(∀d k β,R d k β->R' d k β)->yb g N p' φa φb β R->yb g N p' φa φb β R':=λβ R R' k h =>
 ha.mono β _ _ (λx ka β1 hx=>⟨hx.1,hb.mono β1 _ _ (λy kb β2 Az=>by obtain⟨d,e,q⟩:=Az;exact⟨d,e,q.mono λ_ z=>k _ _ _ z⟩) hx.2⟩) h
theorem tZ (hn:BN N)(ha:PQ X C p a φa)(hb:PQ X C p' b φb):∀σ H Q,tQ X C (p&&p') (yb g N p' φa φb) σ H Q->IW (zd X g N) (tQ X C p φa) (tQ X C p' φb) σ H Q:=λσ H Q ⟨β,own,s,h⟩ =>
 tQ.of ha s h λd1 k1 β1 v1 H1 aD ⟨hh,h1⟩ o1 r1=>tQ.of hb o1.sq h1 λd2 k2 β2 v2 H2 a5 Ay o2 r2=>by
  obtain⟨d,e,q⟩:=Ay;have Ex:=r1.ho o2 hh;refine⟨av C (Wn a5) (k1.max k2),d1,d2,d,o2.sq.A_ _,az.aW c5 Ex.rep,az.aW fA r2.rep,e,λv H' s3 r3 n3=>?_⟩;have o:=(o1.trans o2).same s3;obtain⟨k,q,r⟩:=KV.kN (Z:=(H,Wn own)) EK r3 (λn=>iB (H:=H2) o2.sq.A9 o2.sq.iO (λa z=>o2.sn.d a (o1.sn.d a z)) (hn.nl _ n) (n3 n)) q;exact q v H' a5 o r
theorem aE {op:Operator}(hn:BN N)(ho:Ms X (W5 op) g N)(ha:PQ X C p a φa)(hb:PQ X C p' b φb):PQ X C (p&&p') (.BinOp a op b pos) (yb g N p' φa φb):=⟨yb.mono ha hb,(c7 ho ha.pe hb.pe).pre (tZ hn ha hb)⟩
theorem lE {op:XZ}(hn:BN N)(ho:Ms X (V7 op) g N)(ha:PQ X C p a φa)(hb:PQ X C p' b φb)(hm:Xd op b=false:=by first|exact rd _ (by decide) (by decide)|rfl):PQ X C (p&&p') (.Compare a [op] [b] pos) (yb g N p' φa φb) :=
 ⟨yb.mono ha hb,(vo ho ha.pe hb.pe hm).pre (tZ hn ha hb)⟩
theorem aG (hn:BN N)(ho:Fj X (zd X g N))(ha:PQ X C p a φa)(hb:PQ X C p' b φb)(hs:kG b:=by exact λ_ _=>rfl):PQ X C (p&&p') (.Subscript a b pos) (yb g N p' φa φb):=⟨yb.mono ha hb,(jM ho ha.pe hb.pe hs).pre (tZ hn ha hb)⟩
def ze (φ:aR):aY:=λβ R=>φ β λd k β'=>∃b,d=.bl b/\R b β'
theorem aK {op:XZ}(hn:BN N)(ho:Ms X (V7 op) g N)(ha:PQ X C p a φa)(hb:PQ X C p' b φb)(hm:Xd op b=false:=by first|exact rd _ (by decide) (by decide)|rfl):tj X C (p&&p') (.Compare a [op] [b] pos) (ze (yb g N p' φa φb)) :=
 ⟨λβ R R' k h=>yb.mono ha hb β _ _ (λd kd β Ax=>by obtain⟨t,e,q⟩:=Ax;exact⟨t,e,k _ _ q⟩) h,(vf ho ha.pe hb.pe hm).pre λσ H Q ⟨β,own,s,h⟩ =>
  tQ.of ha s h λd1 k1 β1 v1 H1 aD ⟨hh,h1⟩ o1 r1=>tQ.of hb o1.sq h1 λd2 k2 β2 v2 H2 a5 Hq o2 r2=>by
   obtain⟨d,e,q⟩:=Hq;have Ex:=r1.ho o2 hh;refine⟨av C (Wn a5) (k1.max k2),d1,d2,d,o2.sq.A_ _,az.aW c5 Ex.rep,az.aW fA r2.rep,e,λv H' s3 r3 n3=>?_⟩;obtain⟨k,⟨t,et,q'⟩,r⟩:=KV.kN (Z:=(H,Wn own)) EK r3 (λn=>iB (H:=H2) o2.sq.A9 o2.sq.iO (λa z=>o2.sn.d a (o1.sn.d a z)) (hn.nl _ n) (n3 n)) q;subst et;cases r3;exact⟨t,rfl,q' H' a5 ((o1.trans o2).same s3)⟩⟩
theorem fo (ha:PQ X C p a φa)(he:∀whole,Zm a X.env whole=(do let v <- whole;X5 a.pos;holding [v] (truthy v)):=by intro _;rfl):tj X C p a (ze φa) :=
 ⟨λβ R R' k h=>ha.mono β _ _ (λd kd β' Ho=>by obtain⟨b,e,q⟩:=Ho;exact⟨b,e,k _ _ q⟩) h,(F5 ha.pe he).pre λσ H Q ⟨β,own,s,h⟩=>tQ.of ha s h λd k β' v H1 aD Hm o1 r1=>by
  obtain⟨b,e,q⟩:=Hm;subst e;cases r1.rep;exact⟨b,rfl,q H1 aD o1⟩⟩
def Jp (τ:aY):aY:=λβ R=>τ β λb β'=>R (!b) β'
theorem gu (ha:tj X C p a τ):tj X C p (.UnaryOp .Not a pos) (Jp τ) :=
 ⟨λβ R R' k h=>ha.mono β _ _ (λb β' q=>k _ _ q) h,(F6 ha.pt).pre λσ H Q Hl=>by obtain⟨β,own,s,h⟩:=Hl;exact iV.of ha s h λb β' H1 aD q o=>q H1 aD o⟩
variable {rest:List Expr}
def Js (τa τb:aY):aY:=λβ R=>τa β λt β1=>if t=true then τb β1 R else R false β1
def Nn (τa τb:aY):aY:=λβ R=>τa β λt β1=>if t=true then R true β1 else τb β1 R
theorem lB (ha:tj X C p a τ):uW X C p (.BoolOp .And [a] pos) τ:=⟨ha.mono,pw_and1 ha.pt⟩
theorem ki (ha:tj X C p a τ):uW X C p (.BoolOp .Or [a] pos) τ:=⟨ha.mono,pw_or1 ha.pt⟩
theorem Ej {p q:Bool}(z:(p&&q)=true):p=true:=by cases p <;> first|rfl|cases z
theorem PR {p q:Bool}(z:(p&&q)=true):q=true:=by cases p <;> first|exact z|cases z
theorem pG (ha:tj X C p a τa)(hb:uW X C p' (.BoolOp .And (b::rest) pos) τb):uW X C (p&&p') (.BoolOp .And (a::b::rest) pos) (Js τa τb) :=
 ⟨λβ R R' k h=>ha.mono β _ _ (λt β1 q=>by
   cases t
   ·exact k _ _ q
   ·exact hb.mono β1 _ _ k q) h,(pw_and ha.pt hb.pw).pre λσ H Q ⟨β,own,s,h⟩=>iV.of ha s h λt β1 H1 aD q o1=>by
  cases t
  ·exact q H1 aD (o1.wk Ej)
  ·exact iV.of hb.t o1.sq q λt' β2 H2 a5 q2 o2=>q2 H2 a5 (o1.trans o2)⟩
theorem pF (ha:tj X C p a τa)(hb:uW X C p' (.BoolOp .Or (b::rest) pos) τb):uW X C (p&&p') (.BoolOp .Or (a::b::rest) pos) (Nn τa τb) :=
 ⟨λβ R R' k h=>ha.mono β _ _ (λt β1 q=>by
   cases t
   ·exact hb.mono β1 _ _ k q
   ·exact k _ _ q) h,(pw_or ha.pt hb.pw).pre λσ H Q ⟨β,own,s,h⟩=>iV.of ha s h λt β1 H1 aD q o1=>by
  cases t
  ·exact iV.of hb.t o1.sq q λt' β2 H2 a5 q2 o2=>q2 H2 a5 (o1.trans o2)
  ·exact q H1 aD (o1.wk Ej)⟩
def Nw (φa φb:aR):aR:=λβ R=>φa β λx _ β1=>∃c,x=.bl c/\if c=true then φb β1 R else R (.bl false) .own β1
def Np (φa:aR):aR:=λβ R=>φa β λx _ β1=>∃c,x=.bl c/\R (.bl (!c)) .own β1
theorem zv {op}(h:PQ X C p a φ):PQ X C p (.BoolOp op [a] pos) φ:=⟨h.mono,Ga h.pe⟩
theorem Ad {P:U0}{w:Vf}{Z:Hp×(Addr->Prop)}{b:Bool}:KV P w C Z own H .own (.bl b) (.bl b):=KV.flat (W:=λ_=>False) rfl rfl
theorem ua (ha:PQ X C p a φa)(hb:PQ X C p' (.BoolOp .And (b::rest) pos) φb):PQ X C (p&&p') (.BoolOp .And (a::b::rest) pos) (Nw φa φb) :=
 ⟨λβ R R' k h=>ha.mono β _ _ (λd kd β1 ⟨c,e,q⟩=>⟨c,e,by
   cases c
   ·exact k _ _ _ q
   ·exact hb.mono β1 _ _ k q⟩) h,(Gg ha.pe hb.pe).pre λσ H Q ⟨β,own,s,h⟩=>tQ.of ha s h λd kd β1 v H1 aD Hk o1 r1=>by
  obtain⟨c,e,q⟩:=Hk;subst e;cases r1.rep;refine⟨c,rfl,?_⟩;cases c
  ·exact q _ H1 aD (o1.wk Ej) Ad
  ·exact tQ.of hb o1.sq q λd2 k2 β2 v2 H2 a5 q2 o2 r2=>q2 v2 H2 a5 (o1.trans o2) (r2.later o1.sn)⟩
theorem F7 (ha:PQ X C p a φa):PQ X C p (.UnaryOp .Not a pos) (Np φa) :=
 ⟨λβ R R' k h=>ha.mono β _ _ (λd kd β1 Hi=>by obtain⟨c,e,q⟩:=Hi;exact⟨c,e,k _ _ _ q⟩) h,(Gb ha.pe).pre λσ H Q ⟨β,own,s,h⟩=>tQ.of ha s h λd kd β1 v H1 aD Hh o1 r1=>by
  obtain⟨c,e,q⟩:=Hh;subst e;cases r1.rep;exact⟨c,rfl,q _ H1 aD o1 Ad⟩⟩
def R5 (g:D->Option D)(φa:aR):aR:=λβ R=>φa β λx _ β1=>∃d,g x=some d/\d.flat=true/\R d .own β1
theorem qR {op:UnaryOp}{g:D->Option D}(ho:LA X (unaryOp op) (Qo X g))(ha:PQ X C p a φa):PQ X C p (.UnaryOp op a pos) (R5 g φa) :=
 ⟨λβ R R' k h=>ha.mono β _ _ (λx _ β1 OA=>by obtain⟨d,e,f,q⟩:=OA;exact⟨d,e,f,k _ _ _ q⟩) h,(EC ho ha.pe).pre λσ H Q ⟨β,own,s,h⟩ =>
  tQ.of ha s h λd1 k1 β1 v1 H1 aD Oz o1 r1=>by obtain⟨d,e,f,q⟩:=Oz;exact⟨_,d1,d,o1.sq.A_ _,r1.rep,e,λv H' s2 r2=>q v H' aD (o1.same s2) (KV.flat f r2)⟩⟩
def Nq:cO:=λβ R=>R [] [] β
def Jr (pr:Bool)(φ:aR)(φs:cO):cO:=λβ R=>φ β λd k β1=>hold k pr/\φs β1 λds ks β2=>R (d::ds) (k::ks) β2
theorem ae:tq X C true [] Nq:=⟨λβ R R' k h=>k _ _ _ h,cU.pre λσ H Q Oy=>by obtain⟨β,own,s,q⟩:=Oy;exact q [] H own (Out.refl s _) sX.nil⟩
theorem aa (ha:PQ X C p a φ)(hr:tq X C p' es φs)(hs:Ve (a::es) X.env=(false,eval a X.env)::Ve es X.env:=by rfl):tq X C (p&&p') (a::es) (Jr p' φ φs) :=
 ⟨λβ R R' k h=>ha.mono β _ _ (λd kd β1 q=>⟨q.1,hr.mono β1 _ _ (λds ks β2 q2=>k _ _ _ q2) q.2⟩) h,(bo ha.pe hr.pa hs).pre λσ H Q ⟨β,own,s,h⟩ =>
  tQ.of ha s h λd1 k1 β1 v1 H1 aD Ox o1 r1=>by obtain⟨hh,h1⟩:=Ox;exact u6.of hr o1.sq h1 λds ks β2 vs H2 a5 q o2 r2=>q (v1::vs) H2 a5 (o1.trans o2) (sX.cons r1 o2.sn (r1.ho o2 hh) r2 o1.sn)⟩
def Nk (φs:cO):aR:=λβ R=>φs β λds ks β1=>ds.length<=U_/\Aj ks ds λk=>R (.tup ds) k β1
def Nr (φs:cO):aR:=λβ R=>φs β λds ks β1=>ds.length<=U_/\Aj ks ds λk=>R (.lst ds) k β1
theorem aI.same {P:U0}{w:Vf}{ds:List D}{vs:List V}{A:List Addr}(s:ay H H')(h:aI P w H ds vs A):aI P w H' ds vs A:=h.keep (λb xs e=>s _ _ e) λc _ o e=>s c o e
theorem GO {P:U0}{w:Vf}{Z:Hp×(Addr->Prop)}{ks:List Kd}{ds:List D}{vs:List V}{K:Kd->Prop}{q:Addr}(hq:H q=none)(h:sX P w C Z own H ks ds vs)(m:Aj ks ds K):∃k,K k/\KV P w C Z own (upd H q (.tup vs)) k (.tup ds) (.ref q):=by
 rcases m.of with⟨f,k⟩|k
 ·obtain⟨A,h1,h2,h3⟩:=h;exact⟨_,k,A,⟨q,vs,rfl,aw,(h1.Gh f).same (ay.new hq)⟩,h2,h3⟩
 ·refine⟨_,k,?_⟩;rw[<- iH];exact KV.of (by rw[iH];exact⟨q,vs,rfl,aw,h.i_.same (ay.new hq)⟩)
theorem GQ {P:U0}{w:Vf}{Z:Hp×(Addr->Prop)}{ks:List Kd}{ds:List D}{vs:List V}{K:Kd->Prop}{q:Addr}(hq:H q=none)(hd:Dm (Wn own) H)(h0:∀a,C.H0 a≠none->H a≠none)(hz:∀a,Z.1 a≠none->H a≠none)(h:sX P w C Z own H ks ds vs)(m:Aj ks ds K):∃k,K k/\KV P w C Z own (upd H q (.lst vs)) k (.lst ds) (.ref q):=by
 rcases m.of with⟨f,k⟩|k
 ·obtain⟨A,h1,h2,h3⟩:=h;refine⟨_,k,q::A,⟨q,vs,A,rfl,aw,rfl,(h1.Gh f).same (ay.new hq)⟩,Vt.mpr ⟨λz=>h1.mU q z hq,h2⟩,λc hc=>?_⟩;rcases U1.mp hc with rfl|hc
  ·exact⟨VP λz=>hz c z hq,λz=>hd c z hq,VP λz=>h0 c z hq⟩
  ·exact h3 c hc
 ·refine⟨_,k,?_⟩;have nq:¬ av C (Wn own) (gQ ks) q:=λz=>by
   cases e:gQ ks <;> rw[e]at z <;> first|exact z.elim (λz=>hd q z hq) λz=>h0 q z hq|exact hd q z hq|exact z
  rw[<- iH];exact KV.of (by rw[iH];exact⟨q,vs,rfl,aw,nq,h.i_.same (ay.new hq)⟩)
theorem sX.length {P:U0}{w:Vf}{Z:Hp×(Addr->Prop)}{ks:List Kd}{ds:List D}{vs:List V}(h:sX P w C Z own H ks ds vs):vs.length=ds.length:=h.i_.length
theorem bf {x1}(h:tq X C p es φs):PQ X C p (.Tuple es x1 pos) (Nk φs) :=
 ⟨λβ R R' k q=>h.mono β _ _ (λds ks β1 Ov=>by obtain⟨l,q⟩:=Ov;exact⟨l,q.mono λ_ z=>k _ _ _ z⟩) q,(zC h.pa).pre λσ H Q ⟨β,own,s,q⟩=>u6.of h s q λds ks β1 vs H1 aD ⟨l,q1⟩ o1 r1 =>
  ⟨by rw[r1.length];exact l,λq hq=>let ⟨k,q1,r⟩:=GO hq r1 q1;q1 _ _ aD (o1.same (ay.new hq)) r⟩⟩
theorem bh (h:tq X C p es φs):PQ X C p (.List es pos) (Nr φs) :=
 ⟨λβ R R' k q=>h.mono β _ _ (λds ks β1 Ou=>by obtain⟨l,q⟩:=Ou;exact⟨l,q.mono λ_ z=>k _ _ _ z⟩) q,(uc h.pa).pre λσ H Q ⟨β,own,s,q⟩=>u6.of h s q λds ks β1 vs H1 aD ⟨l,q1⟩ o1 r1 =>
  ⟨by rw[r1.length];exact l,λq hq=>let ⟨k,q1,r⟩:=GQ hq o1.sq.A9 o1.sq.iO (λa z=>o1.sn.d a z) r1 q1;q1 _ _ aD (o1.same (ay.new hq)) r⟩⟩
end
section
variable {X:Cx}{C:Cfg}{a b c e:Expr}{es:List Expr}{φ φa φb:aR}{φs:cO}{pos:Pos}{σ:St}{H H':Hp}{β:bg}{own:Nat->List Addr}{p:Bool}{g:D->D->Option D}{N:D->Prop}
abbrev oX:=D->Kd->aR
structure Mr (X:Cx)(C:Cfg)(ops:List XZ)(es:List Expr)(φ:oX):Prop where
 mono:∀x k β R R',(∀d k β,R d k β->R' d k β)->φ x k β R->φ x k β R'
 ch:Ii X ops es λx σ H Q=>∃β own d k,SQ X C σ H β own/\Rp X (av C (Wn own) k) H d x/\φ d k β λd' k' β'=>∀v H',ay H H'->SQ X C σ H' β' own->KV X.prog X.w C (H,Wn own) own H' k' d' v->Q v H'
 Rf:sW X ops es λx σ H Q=>∃β own d k,SQ X C σ H β own/\Rp X (av C (Wn own) k) H d x/\φ d k β λd' k' β'=>∃b,d'=.bl b/\∀H',ay H H'->SQ X C σ H' β' own->Q b H'
def Nv (g:D->D->Option D)(φb:aR):oX:=λx _ β R=>φb β λy _ β1=>∃b,g x y=some (.bl b)/\R (.bl b) .own β1
def Nu (g:D->D->Option D)(φb:aR)(φr:oX):oX:=λx _ β R=>φb β λy ky β1=>∃k,g x y=some (.bl k)/\if k=true then φr y ky β1 R else R (.bl false) .own β1
variable {op Gn:XZ}{ops:List XZ}{rs:List Expr}{φr:oX}
theorem Cv (ho:bS X (V7 op) g)(hb:PQ X C true b φb):Mr X C [op] [b] (Nv g φb) :=
 ⟨λx k β R R' h q=>hb.mono β _ _ (λy _ β1 uE=>by obtain⟨d,e,q⟩:=uE;exact⟨d,e,h _ _ _ q⟩) q,
  (HV ho hb.pe).pre λx σ H Q ⟨β,own,d,k,s,r,h⟩=>tQ.of hb s h λd2 k2 β2 v2 H2 a5 Au o2 r2=>by
    obtain⟨d',e,q⟩:=Au;obtain⟨s2,rfl⟩:=o2.pu rfl;exact⟨av C (Wn a5) (k.max k2),d,d2,.bl d',o2.sq.A_ _,az.aW c5 (r.same s2),az.aW fA r2.rep,e,λv H' s3 r3=>q v H' (s2.trans s3) (o2.sq.same s3) (KV.flat rfl r3)⟩,
  (Ec ho hb.pe).pre λx σ H Q ⟨β,own,d,k,s,r,h⟩=>tQ.of hb s h λd2 k2 β2 v2 H2 a5 Hg o2 r2=>by
    obtain⟨d',e,b,eb,q⟩:=Hg;obtain⟨s2,rfl⟩:=o2.pu rfl;cases eb;exact⟨av C (Wn a5) (k.max k2),d,d2,.bl d',o2.sq.A_ _,az.aW c5 (r.same s2),az.aW fA r2.rep,e,λv H' s3 r3=>by
      cases r3;exact⟨_,rfl,q H' (s2.trans s3) (o2.sq.same s3)⟩⟩⟩
theorem qQ (ho:bS X (V7 op) g)(hb:PQ X C true b φb)(hc:Mr X C (Gn::ops) (c::rs) φr):Mr X C (op::Gn::ops) (b::c::rs) (Nu g φb φr) :=
 ⟨λx k β R R' h q=>hb.mono β _ _ (λy ky β1 ⟨d,e,q⟩=>⟨d,e,by
   cases d
   ·exact h _ _ _ q
   ·exact hc.mono y ky β1 _ _ h q⟩) q,
  (Ed ho hb.pe hc.ch).pre λx σ H Q ⟨β,own,d,k,s,r,h⟩=>tQ.of hb s h λd2 k2 β2 v2 H2 a5 He o2 r2=>by
    obtain⟨t,e,q⟩:=He;obtain⟨s2,rfl⟩:=o2.pu rfl;refine⟨av C (Wn a5) (k.max k2),d,d2,.bl t,o2.sq.A_ _,az.aW c5 (r.same s2),az.aW fA r2.rep,e,λv H' s3 r3=>?_⟩;cases r3;refine⟨t,rfl,?_⟩;cases t
    · exact q _ H' (s2.trans s3) (o2.sq.same s3) Ad
    · exact⟨β2,a5,d2,k2,o2.sq.same s3,r2.rep.same s3,hc.mono d2 k2 β2 _ _ (λd' k' β' q' v Bz s4 sq r4=>q' v Bz ((s2.trans s3).trans s4) sq (r4.later ((o2.same s3).sn))) q⟩,
  (Bh ho hb.pe hc.Rf).pre λx σ H Q ⟨β,own,d,k,s,r,h⟩=>tQ.of hb s h λd2 k2 β2 v2 H2 a5 uD o2 r2=>by
    obtain⟨t,e,q⟩:=uD;obtain⟨s2,rfl⟩:=o2.pu rfl;refine⟨av C (Wn a5) (k.max k2),d,d2,.bl t,o2.sq.A_ _,az.aW c5 (r.same s2),az.aW fA r2.rep,e,λv H' s3 r3=>?_⟩;cases r3;refine⟨t,rfl,?_⟩;cases t
    · obtain⟨b,eb,q⟩:=q;cases eb;exact q H' (s2.trans s3) (o2.sq.same s3)
    · exact⟨β2,a5,d2,k2,o2.sq.same s3,r2.rep.same s3,hc.mono d2 k2 β2 _ _ (λd' k' β' Az=>by obtain⟨b,eb,q'⟩:=Az;exact⟨b,eb,λBz s4 sq=>q' Bz ((s2.trans s3).trans s4) sq⟩) q⟩⟩
def F4 (φa:aR)(φr:oX):aR:=λβ R=>φa β λx k β1=>φr x k β1 R
theorem wV {lI lH:XZ}(ha:PQ X C true a φa)(hc:Mr X C (lI::lH::ops) (b::c::rs) φr)(hm:lastMarks (lI::lH::ops) (b::c::rs)=false:=by with_unfolding_all rfl):
  tj X C true (.Compare a (lI::lH::ops) (b::c::rs) pos) (ze (F4 φa φr)) :=
 ⟨λβ R R' k h=>ha.mono β _ _ (λx kx β1 q=>hc.mono x kx β1 _ _ (λd kd β' Hr=>by obtain⟨b,e,q⟩:=Hr;exact⟨b,e,k _ _ q⟩) q) h,(wR ha.pe hc.Rf hm).pre λσ H Q ⟨β,own,s,h⟩=>tQ.of ha s h λd k β1 v H1 aD q o1 r1=>by
  obtain⟨s1,rfl⟩:=o1.pu rfl;exact⟨β1,aD,d,k,o1.sq,r1.rep,hc.mono d k β1 _ _ (λd' k' β' Ax=>by obtain⟨b,e,q'⟩:=Ax;exact⟨b,e,λBz s4 sq=>q' Bz aD ⟨sq,o1.sn.same s4,λ_=>⟨s1.trans s4,rfl⟩,o1.le⟩⟩) q⟩⟩
abbrev By:=bg->(Option Int->bg->Prop)->Prop
structure Mq (X:Cx)(C:Cfg)(e:Option Expr)(φ:By):Prop where
 mono:∀β R R',(∀d β,R d β->R' d β)->φ β R->φ β R'
 po:PO X e λσ H Q=>∃β own,SQ X C σ H β own/\φ β λo β'=>∀H',ay H H'->SQ X C σ H' β' own->Q o H'
theorem qP:Mq X C none (λβ R=>R none β):=⟨λβ R R' k h=>k _ _ h,vi.pre λσ H Q Aw=>by obtain⟨β,own,s,q⟩:=Aw;exact q H (ay.refl _) s⟩
theorem qO (ha:PQ X C true a φ):Mq X C (some a) (λβ R=>φ β λd _ β1=>∃i,d=.int i/\R (some i) β1) :=
 ⟨λβ R R' k h=>ha.mono β _ _ (λd _ β1 Av=>by obtain⟨i,e,q⟩:=Av;exact⟨i,e,k _ _ q⟩) h,(vh ha.pe).pre λσ H Q ⟨β,own,s,h⟩=>tQ.of ha s h λd k β1 v H1 aD Ho o1 r1=>by
  obtain⟨i,e,q⟩:=Ho;subst e;cases r1.rep;obtain⟨s1,rfl⟩:=o1.pu rfl;exact⟨i,rfl,q H1 s1 o1.sq⟩⟩
def R6 (φ:aR)(φl φh:By):aR:=λβ R=>φ β λx k β1=>φl β1 λl β2=>φh β2 λh β3=>∃d,PH x l h=some d/\kN NL d k.wk λk'=>R d k' β3
theorem Es {k:Kd}:k.wk.wk=k.wk:=by cases k <;> rfl
theorem Br {W:Addr->Prop}{k:Kd}:∀c,av C W k.wk c->av C W k c:=λc h=>by cases k <;> exact h
theorem Ez {lo hi:Option Expr}{φl φh:By}{p2:Pos}(ha:PQ X C p a φ)(hl:Mq X C lo φl)(hh:Mq X C hi φh):PQ X C p (.Subscript a (.Slice lo hi none p2) pos) (R6 φ φl φh) :=
 ⟨λβ R R' k h=>ha.mono β _ _ (λx kx β1 q=>hl.mono β1 _ _ (λl β2 q=>hh.mono β2 _ _ (λu β3 Hn=>by obtain⟨d,e,q⟩:=Hn;exact⟨d,e,q.mono λ_ z=>k _ _ _ z⟩) q) q) h,
  (qT Cb ha.pe hl.po hh.po).pre λσ H Q ⟨β,own,s,h⟩=>tQ.of ha s h λd k β1 v H1 aD q o1 r1 =>
    ⟨β1,aD,o1.sq,hl.mono β1 _ _ (λl β2 q H2 s2 RP=>⟨β2,aD,RP,hh.mono β2 _ _ (λu β3 Hl H3 s3 LS=>by
      obtain⟨d',e,q⟩:=Hl;refine⟨av C (Wn aD) k.wk,d,d',LS.A_ _,((az.aW Br r1.rep).same s2).same s3,e,λv H' s4 r4 n4=>?_⟩;obtain⟨k',q,r⟩:=KV.kN (Z:=(H,Wn own)) Es r4 (λn=>iB (H:=H3) LS.A9 LS.iO (λa z e=>o1.sn.d a z (s2.free (s3.free e))) n (n4 n)) q;exact q v H' aD ⟨LS.same s4,o1.sn.same ((s2.trans s3).trans s4),λz=>⟨(o1.pu z).1.trans ((s2.trans s3).trans s4),(o1.pu z).2⟩,o1.le⟩ r) q⟩) q⟩⟩
def Jm (X:Cx)(f:List D->Option D)(N:D->Prop):List V->Hp->VK->Prop:=λxs H Q=>∃W ds d,Dm W H/\iU X W H ds xs/\f ds=some d/\∀v H',ay H H'->Rp X W H' d v->(N d->Rp X (λa=>H a≠none) H' d v)->Q v H'
abbrev BA (X:Cx)(f:UT)(g:List D->Option D)(N:D->Prop):Prop:=eY X f (Jm X g N)
theorem cG.m {f:UT}{g:List D->Option D}(h:cG X f g):BA X f g NF:=λpins s σ H xs us Q I r ⟨W,ds,d,hd,r1,e,q⟩ =>
 h pins s σ H xs us Q I r ⟨W,ds,d,hd,r1,e,λv H' s r=>q v H' s r λf=>az.flat f r⟩
def jI (g:List D->Option D)(N:D->Prop)(φs:cO):aR:=λβ R=>φs β λds ks β1=>∃d,g ds=some d/\kN N d (gQ ks) λk=>R d k β1
variable {x:Str}{pp:Pos}{id T:String}{gs:List D->Option D}
theorem jI.mono (h:tq X C p es φs):∀β R R',(∀d k β,R d k β->R' d k β)->jI gs N φs β R->jI gs N φs β R':=λβ R R' k q=>h.mono β _ _ (λds ks β1 OG=>by obtain⟨d,e,q⟩:=OG;exact⟨d,e,q.mono λ_ z=>k _ _ _ z⟩) q
theorem qK (hn:BN N)(h:tq X C p es φs):∀σ H Q,tQ X C p (jI gs N φs) σ H Q->MS (Jm X gs N) (u6 X C p φs) σ H Q:=λσ H Q ⟨β,own,s,q⟩=>u6.of h s q λds ks β1 vs H1 aD OE o1 r1=>by
 obtain⟨d,e,q1⟩:=OE;refine⟨av C (Wn aD) (gQ ks),ds,d,o1.sq.A_ _,r1.i_,e,λv H' s2 r2 n2=>?_⟩;obtain⟨k',q,r⟩:=KV.kN (Z:=(H,Wn own)) iH r2 (λn=>iB (H:=H1) o1.sq.A9 o1.sq.iO (λa z=>o1.sn.d a z) (hn.nl _ n) (n2 n)) q1;exact q v H' aD (o1.same s2) r
theorem bU (Dz:BN N)(hc:BA X (.builtin id) gs N)(hm:X.mg x=none)(hv:VM x=some (.builtin id))(ha:tq X C p (e::es) φs)(hg:Gl X x:=by rfl)(hn:x≠"__name__" := by decide)(hdb:(x==("__debug__" : Str))=false:=by decide)
  (l8:Ve (e::es) X.env=(false,eval e X.env)::Ve es X.env:=by rfl) (hpl:(W6 pos (Ve es X.env)).any (·.1)=false:=by rfl) :
  PQ X C p (.Call (.Name x pp) (e::es) [] pos) (jI gs N φs):=⟨jI.mono ha,(iu hc hg hm hv ha.pa hn hdb (he:=l8) (hpl:=hpl)).pre (qK Dz ha)⟩
theorem ji (Dz:BN N)(hc:BA X (.type T) gs N)(hm:X.mg x=none)(hv:VM x=some (.type T))(ha:tq X C p (e::es) φs)(hg:Gl X x:=by rfl)(hn:x≠"__name__" := by decide)(hdb:(x==("__debug__" : Str))=false:=by decide)
  (l8:Ve (e::es) X.env=(false,eval e X.env)::Ve es X.env:=by rfl) (hpl:(W6 pos (Ve es X.env)).any (·.1)=false:=by rfl) :
  PQ X C p (.Call (.Name x pp) (e::es) [] pos) (jI gs N φs):=⟨jI.mono ha,(nS hc hg hm hv ha.pa hn hdb (he:=l8) (hpl:=hpl)).pre (qK Dz ha)⟩
end
def sV (P:U0)(w:Vf)(ro:Bool)(H H':Hp)(d:D)(v:V):Prop:=match ro with
 |true=>∃A,Own P w H' d v A/\A.Nodup/\∀c∈A,H c=none
 |false=>az P w (λa=>H a≠none) H' d v
abbrev rk (ro:Bool):Kd:=match ro with|true=>.own|false=>.e9
def dX (P:U0)(w:Vf)(ro:Bool)(F:FD):Sp:=λvs H Q _=>∃ds,aj P w (λ_=>False) H ds vs/\F ds λd=>∀v H',ay H H'->sV P w ro H H' d v->Q v H'
def i8 (P:U0)(w:Vf)(ok:List Int->Prop)(ro:Bool)(F:FD):Sp:=λvs H Q _=>∃h vs' ds ns,vs=.ref h::vs'/\H h=some (.lst (ns.map V.int))/\ok ns/\aj P w (λa=>a=h) H ds vs' /\
 F ds λd=>∀v H' xa,Kp (·=h) H H'->(∀c,H c≠none->H' c≠none)->H' h=some (.lst (xa.map V.int))->ok xa->sV P w ro H H' d v->Q v H'
section
variable {X:Cx}{C:Cfg}{k ih:Nat}{f:Addr}{fd:VL}{ps:List Str}{F:FD}{ro p:Bool}{x hx:Str}{pp pos px:Pos}{e:Expr}{es:List Expr}{φs:cO}{ok:List Int->Prop}{σ:St}{H H':Hp}{β:bg}{own:Nat->List Addr}{P:U0}{w:Vf}
theorem sV.kv {Z:Hp×(Addr->Prop)}{d:D}{v:V}(hd:Dm (Wn own) H)(h0:∀a,C.H0 a≠none->H a≠none)(hz:∀a,Z.1 a≠none->H a≠none)(h:sV P w ro H H' d v):KV P w C Z own H' (rk ro) d v:=by
 cases ro with
 |true =>
  obtain⟨A,h1,h2,h3⟩:=h;exact⟨A,h1,h2,λc hc=>⟨VP λz=>hz c z (h3 c hc),λz=>hd c z (h3 c hc),VP λz=>h0 c z (h3 c hc)⟩⟩
 |false=>exact az.aW (λa z=>z.elim (hd a) (h0 a)) h
def Nm (ro:Bool)(F:FD)(φs:cO):aR:=λβ R=>φs β λds _ β1=>F ds λd=>R d (rk ro) β1
theorem aT (mF:dy F)(G:aN X.prog X.w X.K X.mg X.base b6 k f fd ps (dX X.prog X.w ro F))(hr:dh k X.A)(hm:X.mg x=some (.ref f))(hk:PySem.W.keepIn X.K (.ref f)=true)(hb:Binds X.K fd ps [])(ha:tq X C p (e::es) φs)(hg:Gl X x:=by rfl)
  (hdb:(x==("__debug__" : Str))=false:=by decide)
  (l8:Ve (e::es) X.env=(false,eval e X.env)::Ve es X.env:=by rfl) (hpl:(W6 pos (Ve es X.env)).any (·.1)=false:=by rfl) :
  PQ X C p (.Call (.Name x pp) (e::es) [] pos) (Nm ro F φs) :=
 ⟨λβ R R' k h=>ha.mono β _ _ (λds ks β1 q=>mF ds _ _ (λd q=>k _ _ _ q) q) h,(vp G hr hg hm hk hb .nil EE ha.pa (hdb:=hdb) (he:=l8) (hpl:=hpl)).pre λσ H Q ⟨β,own,s,h⟩=>u6.of ha s h λds ks β1 vs H1 aD q o1 r1=>by
  rw[Wf];exact⟨ds,r1.bor,mF ds _ _ (λd q2 v H' s2 r2=>q2 v H' aD (o1.same s2) (r2.kv o1.sq.A9 o1.sq.iO λa z=>o1.sn.d a z)) q⟩⟩
theorem bR.drawn {i:Nat}{h:Addr}{xa:List Int}(b:bR P w C σ H β own)(e:β[i]?=some (some (.hand ok)))(hσ:σ[i]?=some (some (.ref h)))(k:Kp (·=h) H H')(e':H' h=some (.lst (xa.map V.int)))(o':ok xa)(dn:∀c,H c≠none->H' c≠none):bR P w C σ H' β own:=by
 obtain⟨a,ns,h1,h2,h3,h4,h5⟩:=b.l_ i ok e;rw[hσ]at h1;cases h1;have wh:Wn own h:=⟨i,by rw[h4];simp⟩
 have kW:∀y,Kp (gc C (Wn own) (yk y)) H H':=λy=>k.mono λc z=>by rw[z];cases y <;> first|exact .inl wh|exact .inl (.inl wh)
 have ne:∀j,j≠i->∀c∈own j,c≠h:=λj hj c hc z=>hj (b.mH j i c hc (by rw[h4,z];simp))
 refine⟨b.len,λj y d e=>let ⟨v,g1,g2⟩:=b.val j y d e;⟨v,g1,g2.keep (kW y)⟩,λj d ej=>?_,λj yd ej=>?_,λj c hc=>?_,b.mH,b.lM,⟨λc o z n=>?_,λc xs z=>k.tup c xs (b.kp.tup c xs z)⟩,λc z=>dn c (b.iO c z),λj y d ej=>by
  obtain⟨v,g1,g2,g3⟩:=b.shl j y d ej;have hj:j≠i:=λz=>by rw[z,e]at ej;cases ej
  exact⟨v,g1,g2.map (λc hc o eo=>k.out c o eo (ne j hj c hc)) (λ_ _ r=>r.keep (kW y)),g3⟩⟩
 ·obtain⟨v,g1,g2,g3⟩:=b.ow j d ej;have hj:j≠i:=λz=>by rw[z,e]at ej;cases ej
  exact⟨v,g1,g2.keep k.tup (λc hc o eo=>k.out c o eo (ne j hj c hc)),g3⟩
 ·by_cases hj:j=i
  ·subst hj;rw[e]at ej;cases ej;exact⟨h,xa,hσ,e',o',h4,h5⟩
  ·obtain⟨a,ms,g1,g2,g3,g4,g5⟩:=b.l_ j yd ej;exact⟨a,ms,g1,k.out a _ g2 (ne j hj a (by rw[g4];simp)),g3,g4,g5⟩
 ·obtain⟨g1,g2,g3⟩:=b.dm j c hc
  by_cases rL:c=h
  ·rw[rL,e'];rw[rL]at g3;exact⟨λz=>(nomatch z),λxs z=>(by cases z),g3⟩
  ·cases q:H c with
   |none=>exact absurd q g1
   |some o=>rw[k.out c o q rL];exact⟨λz=>(nomatch z),λxs z=>g2 xs (by rw[q];exact z),g3⟩
 ·refine k.out c o (b.kp.out c o z n) λq=>?_;subst q;rcases (b.dm i c (by rw[h4];simp)).2.2.1 with z0|z0
  ·rw[z0]at z;cases z
  ·exact n z0
def Jq (ih:Nat)(ok:List Int->Prop)(ro:Bool)(F:FD)(φs:cO):aR:=λβ R=>β[ih]?=some (some (.hand ok))/\φs β λds ks β1=>β1[ih]?=some (some (.hand ok))/\hold (gQ ks) false/\F ds λd=>R d (rk ro) β1
theorem bA (mF:dy F)(G:aN X.prog X.w X.K X.mg X.base b6 k f fd ps (i8 X.prog X.w ok ro F))(hr:dh k X.A)(hm:X.mg x=some (.ref f))(hk:PySem.W.keepIn X.K (.ref f)=true)(hb:Binds X.K fd ps [])(ha:tq X C p es φs)(hN:X.N[ih]?=some hx:=by rfl)
  (hv:sQ X.env.scope hx:=by first|exact .inl rfl|exact .inr (.inl rfl)|exact .inr (.inr rfl)) (hd:(hx==("__debug__" : Str))=false:=by decide) (gG:(hx==("__classdict__" : Str))=false:=by decide) (hg:Gl X x:=by rfl) (hdb:(x==("__debug__" : Str))=false:=by decide)
  (l8:Ve (.Name hx px::es) X.env=(false,eval (.Name hx px) X.env)::Ve es X.env:=by rfl) (hpl:(W6 pos (Ve es X.env)).any (·.1)=false:=by rfl) :
  PQ X C false (.Call (.Name x pp) (.Name hx px::es) [] pos) (Jq ih ok ro F φs) :=
 ⟨λβ R R' k OD=>by obtain⟨e,h⟩:=OD;exact⟨e,ha.mono β _ _ (λds ks β1 Hj=>by obtain⟨e,hh,q⟩:=Hj;exact⟨e,hh,mF ds _ _ (λd q=>k _ _ _ q) q⟩) h⟩,
  (vp G hr hg hm hk hb .nil EE (bo (cT (pos:=px) hN hv hd gG) ha.pa l8) (hdb:=hdb) (he:=l8) (hpl:=hpl)).pre λσ H Q OC=>by
  obtain⟨β,own,s,e,h⟩:=OC;obtain⟨hh,ns,h1,h2,h3,h4⟩:=s.l_ ih ok e;refine⟨.ref hh,h1,u6.of ha s h λds ks β1 vs H1 aD ⟨e1,ho,q⟩ o1 r1=>?_⟩;obtain⟨UG,Sd,g1,g2,g3,g4,g5⟩:=o1.sq.l_ ih ok e1;rw[h1]at g1;cases g1;have wh:Wn aD hh:=⟨ih,by rw[g4];simp⟩
  rw[Wf];refine⟨hh,vs,ds,Sd,rfl,g2,g3,aj.aW (λa z=>?_) r1.i_,mF ds _ _ (λd q v H' xa kp dn e' yd r=>?_) q⟩
  ·subst z;cases hk:gQ ks with
   |own=>exact .inl wh
   |e9=>exact .inl wh
   |old=>exact wh
   |bor=>rw[hk]at ho;exact ho.elim
  ·exact q v H' aD ⟨o1.sq.drawn e1 h1 kp e' yd dn,o1.sn.kp (kp.mono λb z=>by rw[z];exact wh) dn,λz=>(nomatch z),o1.le⟩ (r.kv o1.sq.A9 o1.sq.iO λa z=>o1.sn.d a z)⟩
end
abbrev Cfg.z (C:Cfg):Cfg:=C.u λ_=>False
def SB (X:Cx)(C:Cfg)(Z:Hp×(Addr->Prop))(σ:St)(H:Hp)(β:bg):Prop:=∃own,SQ X C.z σ H β own/\Sn Z H (Wn own)
structure fF where
 nx:bg->Prop
 rt:D->bg->Prop
 bk:bg->Prop:=λ_=>False
 ct:bg->Prop:=λ_=>False
def fF.up (E:fF)(n:bg->Prop):fF:=⟨n,E.rt,E.bk,E.ct⟩
def fF.lp (E:fF)(n:bg->Prop):fF:=⟨n,E.rt,E.nx,n⟩
structure Uh (X:Cx)(C:Cfg)(Z:Hp×(Addr->Prop))(E:fF)(D:Ends):Prop where
 nx:∀σ H β,SB X C Z σ H β->E.nx β->D.nx σ H
 rt:∀σ H β d v,SB X C Z σ H β->sV X.prog X.w C.ro C.H0 H d v->E.rt d β->D.rt v H
 bk:∀σ H β,SB X C Z σ H β->E.bk β->D.bk σ H
 ct:∀σ H β,SB X C Z σ H β->E.ct β->D.ct σ H
structure Le (E E':fF):Prop where
 nx:∀β,E.nx β->E'.nx β
 rt:∀d β,E.rt d β->E'.rt d β
 bk:∀β,E.bk β->E'.bk β
 ct:∀β,E.ct β->E'.ct β
abbrev En:=fF->bg->Prop
def Qe (X:Cx)(C:Cfg)(ψ:En):TS:=λD σ H=>∃Z E β,SB X C Z σ H β/\ψ E β/\Uh X C Z E D
structure PB (X:Cx)(C:Cfg)(st:Stmt)(ψ:En):Prop where
 mono:∀E E' β,Le E E'->ψ E β->ψ E' β
 ps:PS X st (Qe X C ψ)
structure tu (X:Cx)(C:Cfg)(st:List Stmt)(ψ:En):Prop where
 mono:∀E E' β,Le E E'->ψ E β->ψ E' β
 ps:qk X st (Qe X C ψ)
section
variable {X:Cx}{C:Cfg}{st:Stmt}{rest a b:List Stmt}{ψ ψ1 ψ2:En}{Z:Hp×(Addr->Prop)}{σ:St}{H H':Hp}{β β':bg}{pos pos':Pos}{e c:Expr}{φ:aR}{τ:aY}{p:Bool}{own aQ:Nat->List Addr}{i:Nat}{x:Str}
theorem Out.sb (n:Sn Z H (Wn own))(o:Out X C.z σ H own p β' H' aQ):SB X C Z σ H' β':=⟨aQ,o.sq,n.trans o.sn⟩
theorem aP:tu X C [] (λE β=>E.nx β):=⟨λE E' β l h=>l.nx β h,vg.pre λD σ H uE=>by obtain⟨Z,E,β,sb,h,ok⟩:=uE;exact ok.nx σ H β sb h⟩
theorem ag (h1:PB X C st ψ1)(h2:tu X C rest ψ2):tu X C (st::rest) (λE β=>ψ1 (E.up (ψ2 E)) β) :=
 ⟨λE E' β l h=>h1.mono {E with nx:=ψ2 E} {E' with nx:=ψ2 E'} β ⟨λβ' q=>h2.mono E E' β' l q,l.rt,l.bk,l.ct⟩ h,(dF h1.ps h2.ps).pre λD σ H ⟨Z,E,β,sb,h,ok⟩ =>
  ⟨Z,{E with nx:=ψ2 E},β,sb,h,⟨λσ' H' β' tX h'=>⟨Z,E,β',tX,h',ok⟩,ok.rt,ok.bk,ok.ct⟩⟩⟩
theorem ak (h1:PB X C st ψ):tu X C [st] ψ:=⟨h1.mono,gq h1.ps⟩
theorem ft (h1:PB X C st ψ1)(h2:tu X C rest ψ2):tu X C (st::rest) (λE β=>∃J:bg->Prop,ψ1 (E.up J) β/\∀β',J β'->ψ2 E β') :=
 ⟨λE E' β l Au=>by obtain⟨J,h,k⟩:=Au;exact⟨J,h1.mono {E with nx:=J} {E' with nx:=J} β ⟨λ_ q=>q,l.rt,l.bk,l.ct⟩ h,λβ' q=>h2.mono E E' β' l (k β' q)⟩,(dF h1.ps h2.ps).pre λD σ H ⟨Z,E,β,sb,⟨J,h,k⟩,ok⟩ =>
  ⟨Z,{E with nx:=J},β,sb,h,⟨λσ' H' β' tX h'=>⟨Z,E,β',tX,k β' h',ok⟩,ok.rt,ok.bk,ok.ct⟩⟩⟩
theorem nU:tu X C a (λ_ _=>False):=⟨λ_ _ _ _ h=>h.elim,wU.pre λD σ H He=>by obtain⟨Z,E,β,sb,h,ok⟩:=He;exact h.elim⟩
theorem bG (hc:tj X C.z p c τ)(ha:tu X C a ψ1)(hb:tu X C b ψ2):PB X C (.If c a b pos) (λE β=>τ β λt β'=>if t=true then ψ1 E β' else ψ2 E β') :=
 ⟨λE E' β l h=>hc.mono _ _ _ (λt β' q=>by
   cases t
   ·exact hb.mono E E' β' l q
   ·exact ha.mono E E' β' l q) h,(Ey hc.pt ha.ps hb.ps).pre λD σ H Hd=>by
  obtain⟨Z,E,β,⟨own,s,n⟩,h,ok⟩:=Hd;refine iV.of hc s h λt β' H1 aD q o1=>?_;cases t
  ·exact⟨Z,E,β',o1.sb n,q,ok⟩
  ·exact⟨Z,E,β',o1.sb n,q,ok⟩⟩
abbrev ET (d:D)(k:Kd)(K:B->Prop):Prop:=match k with
 |.own=>K (.val true d)
 |.e9=>K (.val true d)
 |.old=>K (.val false d)
 |.bor=>d.flat=true/\K (.val true d)
theorem ET.mono {d:D}{k:Kd}{K K':B->Prop}(h:∀b,K b->K' b)(q:ET d k K):ET d k K':=by
 cases k <;> first|exact h _ q|exact⟨q.1,h _ q.2⟩
theorem ET.of {P:U0}{w:Vf}{d:D}{v:V}{k:Kd}{K:B->Prop}(r:KV P w C Z own H k d v)(q:ET d k K):∃y,K (.val y d)/\az P w (av C (Wn own) (yk y)) H d v:=by
 cases k with
 |own=>exact⟨true,q,r.e9⟩
 |e9=>exact⟨true,q,r⟩
 |old=>exact⟨false,q,r⟩
 |bor=>exact⟨true,q.2,az.flat q.1 r⟩
theorem k9 {own:Nat->List Addr}{i:Nat}(n:Sn Z H (Wn own)):Sn Z H (Wn (aM own i [])):=⟨λb z=>n.w b (e_ z),n.k,n.d⟩
theorem a8 (he:PQ X C.z p e φ)(hN:X.N.Nodup)(hi:X.N[i]?=some x:=by rfl)(hx:Loc X.env.scope x:=by first|exact .inl rfl|exact .inr rfl)
  (hs:WR e (some (.Name x pos')) pos.line X.env=pure false:=by rfl) (hf:X.fn x=true\/X.env.scope.names.lookup x=some .local:=by first|exact .inl rfl|exact .inr rfl|assumption) :
  PB X C (.Assign [.Name x pos'] e pos) (λE β=>φ β λd k β'=>ET d k λb=>E.nx (β'.set i (some b))) :=
 ⟨λE E' β l q=>he.mono _ _ _ (λd k β' q=>q.mono λ_=>l.nx _) q,(t6 hN hi hx he.pe hs hf).pre λD σ H ⟨Z,E,β,⟨own,s,n⟩,q,ok⟩=>tQ.of he s q λd k β' v H' aQ q o r=>by
  obtain⟨y,q,r⟩:=q.of r;exact ok.nx _ _ _ ⟨_,o.sq.eD (az.aW (λa z=>z.elim id λz=>z.elim) r),k9 (n.trans o.sn)⟩ q⟩
abbrev Dn (k:Kd)(d:D):Prop:=match k with
 |.own=>True
 |_=>d.flat=true
theorem KV.fl {P:U0}{w:Vf}{d:D}{v:V}{k:Kd}(f:Dn k d)(r:KV P w C Z own H k d v):KV P w C Z own H .own d v:=by
 cases k with
 |own=>exact r
 |e9=>exact KV.flat f r.rep
 |old=>exact KV.flat f r.rep
 |bor=>exact KV.flat f r.rep
theorem cM (he:∀U,PQ X (C.u U) p e φ)(hN:X.N.Nodup)(hi:X.N[i]?=some x:=by rfl)(hx:Loc X.env.scope x:=by first|exact .inl rfl|exact .inr rfl)
  (hs:WR e (some (.Name x pos')) pos.line X.env=pure false:=by rfl) (hf:X.fn x=true\/X.env.scope.names.lookup x=some .local:=by first|exact .inl rfl|exact .inr rfl|assumption) :
  PB X C (.Assign [.Name x pos'] e pos) (λE β=>φ β λd k β'=>Dn k d/\E.nx (β'.set i (some (.own d)))) :=
 ⟨λE E' β l q=>(he λ_=>False).mono _ _ _ (λd k β' q=>⟨q.1,l.nx _ q.2⟩) q,λpins s σ H D I ⟨Z,E,β,⟨own,sq,n⟩,q,ok⟩ =>
  t6 hN hi hx (he λa=>H a=none).pe hs hf pins s σ H D I (tQ.of (he λa=>H a=none) (sq.nH (C:=C.z) (U:=λa=>H a=none) λa z=>z) q λd k β' v H' aQ Ht o r=>by
   obtain⟨f,q⟩:=Ht;obtain⟨A,h1,h2,h3⟩:=r.fl f;refine ok.nx _ _ _ ⟨_,o.sq.tV h1 h2 λc hc=>⟨(h3 c hc).2.2,(h3 c hc).2.1,(h3 c hc).1⟩,?_⟩ q;have m:=n.trans o.sn;exact⟨λb Hr=>by
    obtain⟨j,hj⟩:=Hr
    by_cases aH:i=j
    ·rw[<- aH,os_eq]at hj;exact .inr (n.free (h3 b hj).1)
    ·rw[bt aH]at hj;exact m.w b ⟨j,hj⟩,m.k,m.d⟩)⟩
theorem bR.Jt {P:U0}{w:Vf}{U U2:Addr->Prop}{d d':D}{v:V}{A':List Addr}{c:Addr}{o:HO}(b:bR P w (C.u U) σ H β own)(e:β[i]?=some (some (.own d)))(hσ:σ[i]?=some (some v))(hc:c∈own i)
  (r:Own P w (upd H c o) d' v A') (nd:A'.Nodup) (hA:∀a∈A',a∈own i\/(C.H0 a=none/\¬ Wn own a/\U a)) (hU:∀a,U2 a->U a) (Pl:∀a∈A',¬ U2 a):bR P w (C.u U2) σ (upd H c o) (β.set i (some (.own d'))) (aM own i A'):=by
 obtain⟨g1,g2,g3,g4⟩:=b.dm i c hc;obtain⟨oc,Hu⟩:∃oc,H c=some oc:=by
  cases q:H c with
  |none=>exact absurd q g1
  |some oc=>exact⟨oc,rfl⟩
 have ht:∀xs,oc≠.tup xs:=λxs z=>g2 xs (by rw[Hu,z])
 have k:Kp (·=c) H (upd H c o):=l0 Hu ht;have h0:∀a∈own i,C.H0 a=none:=by obtain⟨_,_,_,h⟩:=b.ow i d e;exact h
 have wc:Wn own c:=⟨i,hc⟩;have sub:∀y a,gc (C.u U2) (Wn (aM own i A')) (yk y) a->gc (C.u U) (Wn own) (yk y) a:=λy a h=>by
  have q:∀a,Wn (aM own i A') a->Wn own a\/U a:=λa Ay=>by
   obtain⟨j,q⟩:=Ay
   by_cases aH:i=j
   ·rw[aH,os_eq]at q;rcases hA a q with z|z
    ·exact .inl ⟨i,z⟩
    ·exact .inr z.2.2
   ·rw[bt aH]at q;exact .inl ⟨j,q⟩
  rcases h with h|h
  ·cases y with
   |true=>exact h.elim (λz=>(q a z).imp .inl id) λz=>.inl (.inr z)
   |false=>exact q a h
  ·exact .inr (hU a h)
 have mem:∀{j c},c∈aM own i A' j->(i=j/\c∈A')\/(i≠j/\c∈own j):=λ{j c} h=>by
  by_cases aH:i=j
  ·subst aH;rw[os_eq]at h;exact .inl ⟨rfl,h⟩
  ·rw[bt aH]at h;exact .inr ⟨aH,h⟩
 have LY:∀j,i≠j->∀a∈own j,a≠c:=λj aH a ha z=>aH (b.mH i j c hc (by rw[<- z];exact ha))
 refine⟨by simp[b.len],λj y' d2 e2=>?_,λj d2 e2=>?_,λj ok e2=>?_,λj a h=>?_,λj k2 a h1 h2=>?_,λj=>?_,⟨λa oa z n=>?_,λa xs z=>k.tup a xs (b.kp.tup a xs z)⟩,λa z=>?_,λj y' d2 e2=>by
  by_cases aH:i=j
  ·subst aH;obtain⟨e',hl⟩:=bD e2;cases e'
  ·rw[bc aH]at e2;rw[bt aH];obtain⟨u,h1,h2,h3⟩:=b.shl j y' d2 e2;exact⟨u,h1,h2.map (λa ha oa ea=>k.out a oa ea (LY j aH a ha)) (λ_ _ r=>aj.aW (sub _) (r.keep (k.mono λa z=>by rw[z];cases y' <;> first|exact .inl wc|exact .inl (.inl wc)))),h3⟩⟩
 ·by_cases aH:i=j
  ·subst aH;obtain⟨e',hl⟩:=bD e2;cases e'
  ·rw[bc aH]at e2;obtain⟨u,h1,h2⟩:=b.val j y' d2 e2;exact⟨u,h1,(h2.keep (k.mono λa z=>by rw[z];cases y' <;> first|exact .inl wc|exact .inl (.inl wc))).aW (sub _)⟩
 ·by_cases aH:i=j
  ·subst aH;obtain⟨e',hl⟩:=bD e2;cases e';rw[os_eq];exact⟨v,hσ,r,λa ha=>(hA a ha).elim (h0 a) λz=>z.1⟩
  ·rw[bc aH]at e2;rw[bt aH];obtain⟨u,h1,h2,h3⟩:=b.ow j d2 e2;exact⟨u,h1,h2.keep k.tup (λa ha oa ea=>k.out a oa ea (LY j aH a ha)),h3⟩
 ·by_cases aH:i=j
  ·subst aH;obtain⟨e',hl⟩:=bD e2;cases e'
  ·rw[bc aH]at e2;rw[bt aH];obtain⟨a,ns,h1,h2,h3,h4,h5⟩:=b.l_ j ok e2;exact⟨a,ns,h1,k.out a _ h2 (LY j aH a (by rw[h4];simp)),h3,h4,h5⟩
 ·rcases mem h with⟨_,h⟩|⟨aH,h⟩
  ·exact⟨(r.mU a h).1,(r.mU a h).2,.inl ((hA a h).elim (h0 a) λz=>z.1),Pl a h⟩
  ·obtain⟨q1,q2,q3,q4⟩:=b.dm j a h;rw[ar (LY j aH a h)];exact⟨q1,q2,q3,λz=>q4 (hU a z)⟩
 ·rcases mem h1 with⟨e1,h1⟩|⟨n1,h1⟩
  ·rcases mem h2 with⟨e2,h2⟩|⟨n2,h2⟩
   ·rw[<- e1,<- e2]
   ·rcases hA a h1 with z|z
    ·exact absurd (b.mH i k2 a z h2) n2
    ·exact absurd ⟨k2,h2⟩ z.2.1
  ·rcases mem h2 with⟨e2,h2⟩|⟨n2,h2⟩
   ·rcases hA a h2 with z|z
    ·exact absurd (b.mH i j a z h1) n1
    ·exact absurd ⟨j,h1⟩ z.2.1
   ·exact b.mH j k2 a h1 h2
 ·by_cases aH:i=j
  ·rw[<- aH,os_eq];exact nd
  ·rw[bt aH];exact b.lM j
 ·refine k.out a oa (b.kp.out a oa z n) λq=>?_;subst q;rw[h0 a hc]at z;cases z
 ·by_cases Q8:a=c
  ·rw[Q8,aw];exact λz=>(nomatch z)
  ·rw[ar Q8];exact b.iO a z
theorem bR.putIn {P:U0}{w:Vf}{U:Addr->Prop}{d d':D}{v:V}{A':List Addr}{c:Addr}{o:HO}(b:bR P w (C.u U) σ H β own)(e:β[i]?=some (some (.own d)))(hσ:σ[i]?=some (some v))(hc:c∈own i)
  (r:Own P w (upd H c o) d' v A') (nd:A'.Nodup) (hA:∀a∈A',a∈own i\/(C.H0 a=none/\¬ Wn own a/\U a)):bR P w C.z σ (upd H c o) (β.set i (some (.own d'))) (aM own i A') :=
 b.Jt (U2:=λ_=>False) e hσ hc r nd hA (λ_ z=>z.elim) λ_ _ z=>z
theorem k8 {A':List Addr}{c:Addr}{o:HO}{U:Addr->Prop}(n:Sn Z H (Wn own))(m:∀a,U a->Z.1 a=none)(hc:Wn own c)(Hu:∃oc,H c=some oc/\∀xs,oc≠.tup xs)(hA:∀a∈A',a∈own i\/(C.H0 a=none/\¬ Wn own a/\U a)):Sn Z (upd H c o) (Wn (aM own i A')):=by
 obtain⟨oc,h1,h2⟩:=Hu;have u:=Sn.upd (o':=o) n h1 h2 hc;exact⟨λb Ax=>by
  obtain⟨j,hj⟩:=Ax
  by_cases aH:i=j
  ·rw[<- aH,os_eq]at hj;rcases hA b hj with z|z
   ·exact n.w b ⟨i,z⟩
   ·exact .inr (m b z.2.2)
  ·rw[bt aH]at hj;exact n.w b ⟨j,hj⟩,u.k,u.d⟩
theorem bR.og {P:U0}{w:Vf}{ds:List D}(b:bR P w C σ H β own)(e:β[i]?=some (some (.own (.lst ds)))):∃a vs A',σ[i]?=some (some (.ref a))/\H a=some (.lst vs)/\own i=a::A'/\aI P w H ds vs A':=by
 obtain⟨v,h1,⟨a,vs,A',rfl,h2,h3,h4⟩,_⟩:=b.ow i _ e;exact⟨a,vs,A',h1,h2,h3,h4⟩
variable {px ap cp:Pos}
theorem cE (he:∀U,PQ X (C.u U) p e φ)(hN:X.N[i]?=some x:=by rfl)(hv:sQ X.env.scope x:=by first|exact .inl rfl|exact .inr (.inl rfl)|exact .inr (.inr rfl))(hd:(x==("__debug__" : Str))=false:=by decide)(gG:(x==("__classdict__" : Str))=false:=by decide)
  (eU:Xo (.Name x px) "append" X.env (eval (.Name x px) X.env)=eval (.Name x px) X.env:=by rfl)
  (pV:((W6 cp (Ve [e] X.env)).all (λx=>!x.1)&&(ZL cp (YM [] X.env)).all (λx=>x.1.isSome)&&decide ([e].length+([]:List X9).length+(if ([]:List X9).isEmpty then 0 else 1)<30))=true:=by rfl)
  (eT:(ap.endLine==cp.line)=true:=by rfl) (hs:Ve [e] X.env=(false,eval e X.env)::Ve [] X.env:=by rfl) (fx:(W6 cp (Ve [] X.env)).any (·.1)=false:=by rfl)
  (oB:WR (.Call (.Attribute (.Name x px) "append" ap) [e] [] cp) none pos.line X.env=pure false:=by rfl) :
  PB X C (.Expr (.Call (.Attribute (.Name x px) "append" ap) [e] [] cp) pos) (λE β=>(∃ds,β[i]?=some (some (.own (.lst ds))))/\φ β λd k β'=>Dn k d/\∃ds,β'[i]?=some (some (.own (.lst ds)))/\ds.length<U_/\E.nx (β'.set i (some (.own (.lst (ds++[d])))))):=by
 refine⟨λE E' β l Aw=>by obtain⟨h1,q⟩:=Aw;exact⟨h1,(he λ_=>False).mono _ _ _ (λd k β' Av=>by obtain⟨f,ds,h1,h2,q⟩:=Av;exact⟨f,ds,h1,h2,l.nx _ q⟩) q⟩,λpins s σ H D I ⟨Z,E,β,⟨own,sq,n⟩,⟨⟨TM,hb⟩,q⟩,ok⟩=>?_⟩
 refine kh (pos:=pos) (vq (apos:=ap) (cpos:=cp) PySem.F.plainAttrs_list PySem.F.slot_list_append PySem.F.type_list_append gw (cT (pos:=px) hN hv hd gG) (bo (he λa=>H a=none).pe cU hs) eU pV eT hs fx) oB pins s σ H D I ?_;obtain⟨a,vs,A',h1,h2,h3,h4⟩:=sq.og hb;refine⟨.ref a,h1,.inl ⟨rfl,vs,cP.of h2⟩,tQ.of (he λa=>H a=none) (sq.nH (C:=C.z) (U:=λa=>H a=none) λa z=>z) q λd k β' v H1 aD ⟨f,ds,me,hl,q⟩ o r=>?_⟩;obtain⟨a',vs',A1,g1,g2,g3,g4⟩:=o.sq.og me;rw[h1]at g1;cases g1;obtain⟨A,r1,r2,r3⟩:=r.fl f;have ha:a∈aD i:=by rw[g3];simp
 have nd:(a::(A1++A)).Nodup:=by
  have q:=o.sq.lM i;rw[g3]at q;refine Vt.mpr ⟨λz=>?_,V3.mpr ⟨(Vt.mp q).2,r2,λx hx y hy e=>?_⟩⟩
  ·rcases Vg.mp z with z|z
   ·exact(Vt.mp q).1 z
   ·exact(r3 a z).2.1 ⟨i,ha⟩
  ·subst e;exact(r3 x hy).2.1 ⟨i,by rw[g3];simp[hx]⟩
 have hA:∀b∈a::(A1++A),b∈aD i\/(C.H0 b=none/\¬ Wn aD b/\H b=none):=λb hb=>by
  rcases U1.mp hb with rfl|hb
  ·exact .inl ha
  ·rcases Vg.mp hb with hb|hb
   ·exact .inl (by rw[g3];simp[hb])
   ·exact .inr ⟨(r3 b hb).2.2,(r3 b hb).2.1,(r3 b hb).1⟩
 have kt:∀b xs,H1 b=some (.tup xs)->upd H1 a (.lst (vs'++[v])) b=some (.tup xs):=λb xs z=>by
  rw[ar (λz'=>by rw[z',g2]at z;cases z)];exact z
 have ne1:∀c∈A1,c≠a:=λc hc z=>by
  have q:=o.sq.lM i;rw[g3]at q;exact(Vt.mp q).1 (by rw[<- z];exact hc)
 have ne2:∀c∈A,c≠a:=λc hc z=>(r3 c hc).2.1 ⟨i,by rw[z];exact ha⟩
 have r':Own X.prog X.w (upd H1 a (.lst (vs'++[v]))) (.lst (ds++[d])) (.ref a) (a::(A1++A)) :=
  ⟨a,vs'++[v],A1++A,rfl,aw,rfl,(g4.keep kt λc hc oc ec=>by rw[ar (ne1 c hc)];exact ec).append (aI.one (r1.keep kt λc hc oc ec=>by rw[ar (ne2 c hc)];exact ec))⟩
 exact⟨a,vs',v,rfl,rfl,g2,by rw[g4.length];exact hl,ok.nx _ _ _ ⟨_,o.sq.putIn me h1 ha r' nd hA,k8 (n.trans o.sn) (λb z=>n.free z) ⟨i,ha⟩ ⟨_,g2,λxs z=>by cases z⟩ hA⟩ q⟩
end
abbrev cR:=D->Kd->bg->(bg->Prop)->Prop
abbrev oY:=List D->Kd->bg->(bg->Prop)->Prop
structure tw (X:Cx)(C:Cfg)(tg:Expr)(T:List Nat)(γ:cR):Prop where
 mono:∀d k β R R',(∀r,R r->R' r)->γ d k β R->γ d k β R'
 pg:PG X tg λv σ H Q=>∃own β d k,SQ X C σ H β own/\Rp X (gc C (Wn own) k) H d v/\γ d k β λβ'=>∀σ' aQ,SQ X C σ' H β' aQ->(∀a,Wn aQ a->Wn own a)->(∀j,j∉T->σ'[j]?=σ[j]?)->Q σ' H
structure Eo (X:Cx)(C:Cfg)(wt:List Expr)(T:List Nat)(γ:oY):Prop where
 mono:∀d k β R R',(∀r,R r->R' r)->γ d k β R->γ d k β R'
 Qs:Fi X wt λvs σ H Q=>∃own β ds k,SQ X C σ H β own/\iU X (gc C (Wn own) k) H ds vs/\γ ds k β λβ'=>∀σ' aQ,SQ X C σ' H β' aQ->(∀a,Wn aQ a->Wn own a)->(∀j,j∉T->σ'[j]?=σ[j]?)->Q σ' H
section
variable {X:Cx}{C:Cfg}{tg:Expr}{wt:List Expr}{γ:cR}{γs:oY}{T T':List Nat}{pos:Pos}{e:Expr}{φ:aR}{p:Bool}
def Tw (i:Nat):cR:=λd k β R=>ET d k λb=>R (β.set i (some b))
theorem ao {i:Nat}{x:Str}(hN:X.N.Nodup)(hi:X.N[i]?=some x:=by rfl)(hx:Loc X.env.scope x:=by first|exact .inl rfl|exact .inr rfl)
  (hf:X.fn x=true\/X.env.scope.names.lookup x=some .local:=by first|exact .inl rfl|exact .inr rfl|assumption):tw X C (.Name x pos) [i] (Tw i) :=
 ⟨λd k β R R' h q=>ET.mono (d:=d) (k:=k) (K:=λb=>R (β.set i (some b))) (K':=λb=>R' (β.set i (some b))) (λ_=>h _) q,(vn hN hi hx hf).pre λv σ H Q uE=>by
  obtain⟨own,β,d,k,s,r,q⟩:=uE;have LU:∀(v:V) (j:Nat),j∉[i]->(σ.set i (some v))[j]?=σ[j]?:=λv j hj=>bc (V5 (by simpa using hj))
  cases k with
  |own=>exact q _ _ (s.eD (y:=true) r) (λa h=>e_ h) (LU v)
  |e9=>exact q _ _ (s.eD (y:=true) r) (λa h=>e_ h) (LU v)
  |old=>exact q _ _ (s.eD (y:=false) r) (λa h=>e_ h) (LU v)
  |bor=>exact q.2 _ _ (s.eD (y:=true) (az.flat q.1 r)) (λa h=>e_ h) (LU v)⟩
abbrev sk (k:Kd):D->Kd
 |.int _=>.own
 |.bl _=>.own
 |.bK=>.own
 |.str _=>.own
 |_=>k.wk
theorem pA {P:U0}{w:Vf}{W:Addr->Prop}{H:Hp}{k:Kd}{d:D}{v:V}(r:az P w (gc C W k) H d v):az P w (gc C W (sk k d)) H d v:=by
 cases d with
 |int i=>exact az.flat rfl r
 |bl i=>exact az.flat rfl r
 |bK=>exact az.flat rfl r
 |str i=>exact az.flat rfl r
 |_=>exact az.aW (λa z=>z.imp (Br a) id) r
def HH:oY:=λds _ β R=>ds=[]/\R β
def AQ (γ:cR)(γs:oY):oY:=λds k β R=>∃d r,ds=d::r/\γ d (sk k d) β λβ'=>γs r k β' R
theorem bV:Eo X C [] [] HH:=⟨λd k β R R' h q=>⟨q.1,h _ q.2⟩,Cz.pre λvs σ H Q xA=>by
 obtain⟨own,β,ds,k,s,r,e,q⟩:=xA;subst e;exact⟨r,q σ own s (λ_ z=>z) λ_ _=>rfl⟩⟩
theorem aJ (h1:tw X C tg T γ)(h2:Eo X C wt T' γs)(hs:(WX (tg::wt) X.env).map (·.2)=assign tg X.env::(WX wt X.env).map (·.2):=by rfl):Eo X C (tg::wt) (T++T') (AQ γ γs) :=
 ⟨λds k β R R' h Au=>by obtain⟨d,r,e,q⟩:=Au;exact⟨d,r,e,h1.mono _ _ β _ _ (λβ' q=>h2.mono r k β' _ _ h q) q⟩,
  (zA h1.pg h2.Qs hs).pre λvs σ H Q Kj=>by
    obtain⟨own,β,ds,k,s,rr,d,r,e,q⟩:=Kj;subst e;obtain⟨v,vr,rfl,rv,RV⟩:=rr;exact⟨v,vr,rfl,own,β,d,_,s,pA rv,h1.mono _ _ β _ _ (λβ' q σ' aQ s' w' t'=>⟨aQ,β',r,k,s',aj.aW (iT w' k) RV,h2.mono r k β' _ _ (λβ2 q2 σ2 a5 s2 w2 t2=>q2 σ2 a5 s2 (λa z=>w' a (w2 a z)) λj hj=>(t2 j λz=>hj (VE _ z)).trans (t' j λz=>hj (V9 _ z))) q⟩) q⟩⟩
def Tv (n:Nat)(γs:oY):cR:=λd k β R=>∃ds,d=.tup ds/\ds.length=n/\γs ds k β R
theorem cK {k:Nat}{n:Nat}(hc:X.calm=true)(h:Eo X C wt T γs)(hn:(WX wt X.env).length=n:=by rfl)(EY:(WX wt X.env).findIdx? (·.1)=none:=by rfl):tw X C (.Tuple wt k pos) T (Tv n γs) :=
 ⟨λd k β R R' hh Hg=>by obtain⟨ds,e,l,q⟩:=Hg;exact⟨ds,e,l,h.mono ds k β _ _ hh q⟩,(F_ hc h.Qs hn EY).pre λv σ H Q Hf=>by
  obtain⟨own,β,d,k,s,r,ds,e,l,q⟩:=Hf;subst e;obtain⟨a,vs,rfl,ha,rs⟩:=r;exact⟨a,vs,rfl,qj.of ha,by rw[rs.length];exact l,own,β,ds,k,s,rs,q⟩⟩
theorem il {Z:Hp×(Addr->Prop)}{H:Hp}{own aQ:Nat->List Addr}(n:Sn Z H (Wn own))(h:∀a,Wn aQ a->Wn own a):Sn Z H (Wn aQ):=⟨λb z=>n.w b (h b z),n.k,n.d⟩
theorem ud (he:PQ X C.z p e φ)(hg:tw X C.z tg T γ)(hs:swapsWithSole [tg] e pos.line X.env=pure false:=by rfl)(hw:swappedStores [tg] e X.env=pure none:=by rfl)
  (h1:(WX [tg] X.env).map (·.2)=[assign tg X.env]:=by rfl):PB X C (.Assign [tg] e pos) (λE β=>φ β λd k β'=>γ d k β' E.nx) :=
 ⟨λE E' β l q=>he.mono _ _ _ (λd k β' q=>hg.mono _ _ _ _ _ l.nx q) q,(pE he.pe hg.pg hs hw h1).pre λD σ H ⟨Z,E,β,⟨own,s,n⟩,q,ok⟩=>tQ.of he s q λd k β' v H' aQ q o r =>
  ⟨aQ,β',d,k,o.sq,az.aW (λa z=>z.elim id λz=>z.elim) r.rep,hg.mono _ _ _ _ _ (λβ2 q σ2 a5 s2 w2 _=>ok.nx _ _ _ ⟨a5,s2,il (n.trans o.sn) w2⟩ q) q⟩⟩
abbrev QJ (ro:Bool)(k:Kd)(d:D):Prop:=match k,ro with
 |.own,_=>True
 |.e9,false=>True
 |_,_=>d.flat=true
theorem eQ {P:U0}{w:Vf}{W:Addr->Prop}{ro:Bool}{H H':Hp}{d:D}{v:V}(f:d.flat=true)(r:az P w W H' d v):sV P w ro H H' d v:=by
 cases ro with
 |true=>exact⟨[],c8 f r,VQ,λc hc=>(nomatch hc)⟩
 |false=>exact az.flat f r
theorem C3 {P:U0}{w:Vf}{Z:Hp×(Addr->Prop)}{own:Nat->List Addr}{ro:Bool}{H':Hp}{k:Kd}{d:D}{v:V}(f:QJ ro k d)(r:KV P w C Z own H' k d v):sV P w ro C.H0 H' d v:=by
 cases k with
 |own =>
  cases ro with
  |true=>obtain⟨A,h1,h2,h3⟩:=r;exact⟨A,h1,h2,λc hc=>(h3 c hc).2.2⟩
  |false=>exact az.aW (λa z=>.inr z) r.rep
 |e9 =>
  cases ro with
  |true=>exact eQ f r.rep
  |false=>exact az.aW (λa z=>.inr z) r.rep
 |old=>cases ro <;> exact eQ f r.rep
 |bor=>cases ro <;> exact eQ f r.rep
theorem aZ (he:PQ X C.z p e φ):PB X C (.Return (some e) pos) (λE β=>φ β λd k β'=>QJ C.ro k d/\E.rt d β') :=
 ⟨λE E' β l q=>he.mono _ _ _ (λd k β' q=>⟨q.1,l.rt _ _ q.2⟩) q,(jg he.pe).pre λD σ H Hd=>by obtain⟨Z,E,β,⟨own,s,n⟩,q,ok⟩:=Hd;exact tQ.of he s q λd k β' v H' aQ q o r=>ok.rt _ _ _ _ _ (o.sb n) (C3 (C:=C.z) q.1 r) q.2⟩
theorem iy {i:Nat}{x:Str}{px:Pos}(hN:X.N[i]?=some x:=by rfl)(hv:sQ X.env.scope x:=by first|exact .inl rfl|exact .inr (.inl rfl)|exact .inr (.inr rfl))(hd:(x==("__debug__" : Str))=false:=by decide)(gG:(x==("__classdict__" : Str))=false:=by decide):
  PB X C (.Return (some (.Name x px)) pos) (λE β=>∃d,β[i]?=some (some (.own d))/\E.rt d β) :=
 ⟨λE E' β l uD=>by obtain⟨d,h1,q⟩:=uD;exact⟨d,h1,l.rt _ _ q⟩,(jg (cT (pos:=px) hN hv hd gG)).pre λD σ H Az=>by
  obtain⟨Z,E,β,⟨own,s,n⟩,⟨d,h1,q⟩,ok⟩:=Az;obtain⟨v,e1,r,h0⟩:=s.ow i d h1;refine⟨_,e1,ok.rt _ _ _ _ _ ⟨own,s,n⟩ ?_ q⟩;cases hr:C.ro with
  |true=>exact⟨_,r,s.lM i,h0⟩
  |false=>exact r.rep λc hc z=>z (h0 c hc)⟩
end
abbrev ck:=bg->(List D->Kd->bg->Prop)->Prop
structure tm (X:Cx)(C:Cfg)(p:Bool)(tg iter:Expr)(ι:ck):Prop where
 mono:∀β R R',(∀d k β,R d k β->R' d k β)->ι β R->ι β R'
 pi:PI X tg iter λσ H R=>∃β own,SQ X C σ H β own/\ι β λds k β'=>∀J H' aQ,Out X C σ H own p β' H' aQ->xZ X (av C (Wn aQ) k) J ds H'->R J H'
section
variable {X:Cx}{C:Cfg}{tg e a b:Expr}{φ:aR}{φs:cO}{p:Bool}{pp pos:Pos}
def N5 (φ:aR):ck:=λβ R=>φ β λd k β'=>∃ds,d=.lst ds/\R ds k β'
theorem bJ (h:PQ X C p e φ):tm X C p tg e (N5 φ) :=
 ⟨λβ R R' k q=>h.mono β _ _ (λd kd β' Ht=>by obtain⟨ds,e,q⟩:=Ht;exact⟨ds,e,k _ _ _ q⟩) q,(pH h.pe).pre λσ H R ⟨β,own,s,q⟩=>tQ.of h s q λd k β' v H1 aD Ay o1 r1=>by
  obtain⟨ds,e,q1⟩:=Ay;subst e;obtain⟨a,vs,rfl,h1,n1,q2⟩:=r1.rep;exact⟨a,rfl,⟨vs,cP.of h1⟩,q1 _ _ aD o1 (rC h1 n1 q2)⟩⟩
def Dv (φs:cO):ck:=λβ R=>φs β λds _ β'=>∃j:Int,ds=[.int j]/\-(2 ^ 62)<=j/\j<2 ^ 62/\R (pC 0 j.toNat) .e9 β'
def vI (φs:cO):ck:=λβ R=>φs β λds _ β'=>∃i j:Int,ds=[.int i,.int j]/\(-(2 ^ 62)<=i/\i<2 ^ 62/\-(2 ^ 62)<=j/\j<2 ^ 62)/\R (pC i (j-i).toNat) .e9 β'
theorem a7 (hm:X.mg "range" = none) (ha:tq X C p [a] φs) (hg:Gl X "range" := by rfl) (hs:Ve [a] X.env=[(false,eval a X.env)]:=by rfl):tm X C p tg (.Call (.Name "range" pp) [a] [] pos) (Dv φs) :=
 ⟨λβ R R' k q=>ha.mono β _ _ (λd kd β' Hq=>by obtain⟨j,e,h1,h2,q⟩:=Hq;exact⟨j,e,h1,h2,k _ _ _ q⟩) q,(wZ hg hm ha.pa hs).pre λσ H R ⟨β,own,s,q⟩=>u6.of ha s q λds ks β' vs H1 aD Hn o1 r1=>by
  obtain⟨j,e,h1,h2,q1⟩:=Hn;subst e;obtain⟨x,rfl,hx⟩:=jY r1.i_;cases hx;exact⟨j,rfl,h1,h2,q1 _ _ aD o1 js⟩⟩
theorem fq (hm:X.mg "range" = none) (ha:tq X C p [a,b] φs) (hg:Gl X "range" := by rfl) (hs:Ve [a,b] X.env=[(false,eval a X.env),(false,eval b X.env)]:=by rfl) (s_:Ve [b] X.env=[(false,eval b X.env)]:=by rfl) :
  tm X C p tg (.Call (.Name "range" pp) [a,b] [] pos) (vI φs) :=
 ⟨λβ R R' k q=>ha.mono β _ _ (λd kd β' Hm=>by obtain⟨i,j,e,h1,q⟩:=Hm;exact⟨i,j,e,h1,k _ _ _ q⟩) q,(nQ hg hm ha.pa hs s_).pre λσ H R ⟨β,own,s,q⟩=>u6.of ha s q λds ks β' vs H1 aD OH o1 r1=>by
  obtain⟨i,j,e,h1,q1⟩:=OH;subst e;obtain⟨x,y,rfl,hx,hy⟩:=oW r1.i_;cases hx;cases hy;exact⟨i,j,rfl,h1,q1 _ _ aD o1 js⟩⟩
end
def DH (γ:cR)(ψ:En)(E:fF)(ds:List D)(k:Kd)(β:bg):Prop:=∃I:Nat->bg->Prop,I 0 β/\(∀i d β,ds[i]?=some d->I i β->γ d (sk k d) β λβ1=>ψ (E.lp (I (i+1))) β1)/\∀β,I ds.length β->E.nx β
section
variable {X:Cx}{C:Cfg}{tg iter c:Expr}{γ:cR}{T:List Nat}{ψ:En}{ι:ck}{τ:aY}{body:List Stmt}{pos:Pos}{p:Bool}
theorem DH.mono {E E':fF}{ds:List D}{k:Kd}{β:bg}(hγ:∀d k β R R',(∀r,R r->R' r)->γ d k β R->γ d k β R')(hψ:∀E E' β,Le E E'->ψ E β->ψ E' β)(l:Le E E'):DH γ ψ E ds k β->DH γ ψ E' ds k β:=λ⟨I,h0,h1,h2⟩ =>
 ⟨I,h0,λi d β e q=>hγ d _ β _ _ (λβ1 q=>hψ {nx:=I (i+1),rt:=E.rt,bk:=E.nx,ct:=I (i+1)} {nx:=I (i+1),rt:=E'.rt,bk:=E'.nx,ct:=I (i+1)} β1 ⟨λ_ q=>q,l.rt,l.nx,λ_ q=>q⟩ q) (h1 i d β e q),λβ q=>l.nx _ (h2 β q)⟩
theorem Eh {own a5:Nat->List Addr}{H H2:Hp}{k:Kd}(n:Sn (H,Wn own) H2 (Wn a5)):∀b,av C (Wn a5) k b->av C (Wn own) k b\/H b=none:=λb z=>by
 cases k with
 |own=>exact z.elim (λz=>(n.w b z).imp .inl id) λz=>.inl (.inr z)
 |e9=>exact z.elim (λz=>(n.w b z).imp .inl id) λz=>.inl (.inr z)
 |old=>exact n.w b z
 |bor=>exact z.elim
theorem cm (hp:Zn (model X.prog X.w) X.A X.env X.xe)(hc:X.calm=true)(hi:tm X C.z p tg iter ι)(hg:tw X C.z tg T γ)(hb:tu X C body ψ)(hs:∀x,VG iter X.env x=pure x:=by intro _;rfl):
  PB X C (.For tg iter body [] pos) (λE β=>ι β λds k β1=>hold k false/\DH γ ψ E ds k β1) :=
 ⟨λE E' β l q=>hi.mono _ _ _ (λds k β1 q=>⟨q.1,q.2.mono hg.mono hb.mono l⟩) q,(t7 hp hc hi.pi hg.pg hb.ps hs).pre λD σ H OF=>by
  obtain⟨Z,E,β,⟨own,s,n⟩,q,ok⟩:=OF;refine⟨β,own,s,hi.mono _ _ _ (λds k β1 ⟨hk,I,i0,i1,i2⟩ J H1 aD o1 it=>?_) q⟩;have n':=n.trans o1.sn;have ig:∀b,Wn aD b\/H1 b=none->av C.z (Wn aD) k b\/H1 b=none:=λb z=>by
   cases k with
   |own=>exact z.imp .inl id
   |e9=>exact z.imp .inl id
   |old=>exact z
   |bor=>exact hk.elim
  have Ip:=it (λb=>av C.z (Wn aD) k b\/H1 b=none) λb z=>z;refine⟨λi m σ H=>i<=ds.length/\m=ds.length-i/\∃β,SB X C (H1,Wn aD) σ H β/\I i β,⟨_,U7 _,rfl,β1,⟨aD,o1.sq,Sn.refl⟩,i0⟩,?_⟩;rintro i m σ2 H2 ⟨hi,rfl,β2,⟨a5,s2,n2⟩,hl⟩;obtain⟨bP,pR⟩:=Ip i H2 (n2.k.mono ig)
  by_cases eZ:i<ds.length
  ·right
   have hd:ds[i]?=some ds[i]:=U6 eZ;obtain⟨go,yl⟩:=bP _ hd;refine⟨go,λσ' H'=>∃β,SB X C (H1,Wn aD) σ' H' β/\I (i+1) β,λσ' H' Hk=>by obtain⟨β',tX,uG⟩:=Hk;exact⟨_,by lia,eZ,rfl,β',tX,uG⟩,λx H3 y=>?_⟩
   obtain⟨s3,r3⟩:=yl x H3 y;refine⟨a5,β2,_,_,s2.same s3,pA (C:=C.z) (az.aW (λb z=>Eh (C:=C) n2 b (z.elim id λz=>z.elim)) r3),hg.mono _ _ _ _ _ (λβ4 q σ4 qV s4 w4 _=>?_) (i1 i _ β2 hd hl)⟩;refine⟨(H1,Wn aD),_,β4,⟨qV,s4,il (n2.same s3) w4⟩,q,⟨λσ5 H5 β5 wK q5=>⟨β5,wK,q5⟩,λσ5 H5 β5 d5 v5 wK r5 q5=>?_,λσ5 H5 β5 wK q5=>?_,λσ5 H5 β5 wK q5=>⟨β5,wK,q5⟩⟩⟩
   ·obtain⟨nc,s5,n5⟩:=wK;exact ok.rt _ _ _ _ _ ⟨nc,s5,n'.trans n5⟩ r5 q5
   ·obtain⟨nc,s5,n5⟩:=wK;exact ok.nx _ _ _ ⟨nc,s5,n'.trans n5⟩ q5
  ·left
   have e:i=ds.length:=by lia
   subst e;exact⟨pR (UU _),ok.nx _ _ _ ⟨a5,s2,n'.trans n2⟩ (i2 β2 hl)⟩⟩
def Fu (τ:aY)(ψ:En):En:=λE β=>∃V:Nat->bg->Prop,(∃m,V m β)/\∀m β,V m β->τ β λt β1=>if t=true then ψ {nx:=λβ'=>∃m',m'<m/\V m' β',rt:=E.rt,bk:=E.nx,ct:=λβ'=>∃m',m'<m/\V m' β'} β1 else E.nx β1
theorem zD (hp:Zn (model X.prog X.w) X.A X.env X.xe)(hc:tj X C.z p c τ)(hb:tu X C body ψ):PB X C (.While c body [] pos) (Fu τ ψ) :=
 ⟨λE E' β l ⟨V,h0,h⟩=>⟨V,h0,λm β v=>hc.mono _ _ _ (λt β1 q=>by
   cases t
   ·exact l.nx _ q
   ·exact hb.mono {nx:=λβ'=>∃m',m'<m/\V m' β',rt:=E.rt,bk:=E.nx,ct:=λβ'=>∃m',m'<m/\V m' β'} {nx:=λβ'=>∃m',m'<m/\V m' β',rt:=E'.rt,bk:=E'.nx,ct:=λβ'=>∃m',m'<m/\V m' β'} β1 ⟨λ_ q=>q,l.rt,l.nx,λ_ q=>q⟩ q) (h m β v)⟩,(zk hp hc.pt hb.ps).pre λD σ H Hj=>by
  obtain⟨Z,E,β,sb,⟨V,⟨m0,v0⟩,h⟩,ok⟩:=Hj;refine⟨λm σ H=>∃β,SB X C Z σ H β/\V m β,⟨m0,β,sb,v0⟩,λm σ H ⟨β,⟨own,s,n⟩,v⟩=>?_⟩;refine iV.of hc s (h m β v) λt β1 H1 aD q o1=>?_;cases t
  ·exact ok.nx _ _ _ (o1.sb n) q
  ·exact⟨λσ' H'=>∃β',SB X C Z σ' H' β'/\∃m',m'<m/\V m' β',λσ' H' Hi=>by obtain⟨β',tX,m',hm,v'⟩:=Hi;exact⟨m',hm,β',tX,v'⟩,Z,_,β1,o1.sb n,q,λσ' H' β' tX q'=>⟨β',tX,q'⟩,ok.rt,ok.nx,λσ' H' β' tX q'=>⟨β',tX,q'⟩⟩⟩
end
def startB (N:List Str)(ds:List D):bg:=ds.map (λd=>some (.val false d))++VF (N.length-ds.length) none
def i7 (N:List Str)(ok:List Int->Prop)(ds:List D):bg:=some (.hand ok)::(ds.map (λd=>some (.val false d))++VF (N.length-(ds.length+1)) none)
section
variable {P:U0}{w:Vf}{K:PySem.W.Frag}{mg:Str->Option UT}{base:Heap}
theorem fO {i n:Nat}{b:B}(h:(VF n (none:Option B))[i]?=some (some b)):False:=by
 rw[List.getElem?_replicate]at h
 split at h <;> cases h
theorem eN {ds:List D}{n i:Nat}{b:B}(h:(ds.map (λd=>some (B.val false d))++VF n none)[i]?=some (some b)):∃d,ds[i]?=some d/\b=.val false d:=by
 by_cases hi:i<ds.length
 ·rw[Wh (by simpa using hi),U8]at h
  cases q:ds[i]? with
  |none=>rw[q]at h;cases h
  |some d=>rw[q]at h;cases h;exact⟨d,rfl,rfl⟩
 ·rw[VR (by simpa using hi)]at h
  exact(fO h).elim
theorem i6 {N:List Str}{vs:List V}{i:Nat}{v:V}(h:vs[i]?=some v):(start N vs)[i]?=some (some v):=by
 unfold start;rw[Wh (by simpa using (U3.mp h).1),U8,h]
 rfl
theorem yP {N:List Str}{vs:List V}{ds:List D}{H:Hp}{ro:Bool}(r:aj P w (λ_=>False) H ds vs):bR P w ⟨H,λ_=>False,ro,λ_=>False⟩ (start N vs) H (startB N ds) (λ_=>[]):=by
 refine⟨?_,λi y d h=>?_,λi d h=>?_,λi ok h=>?_,λi a h=>(nomatch h),λi j a h=>(nomatch h),λi=>VQ,Kp.refl,λ_ z=>z,λi y d h=>by obtain⟨d',e,e'⟩:=eN h;cases e'⟩
 ·unfold startB start;simp[r.length]
 ·obtain⟨d',e,e'⟩:=eN h;cases e';obtain⟨v,e1,e2⟩:=aj.get r e;exact⟨v,i6 e1,az.aW (λa z=>z.elim (λOB=>by obtain⟨_,q⟩:=OB;exact(nomatch q)) λz=>z) e2⟩
 ·obtain⟨d',e,e'⟩:=eN h;cases e'
 ·obtain⟨d',e,e'⟩:=eN h;cases e'
theorem qY {x qual:Str}{st:Stmt}{f:Addr}{fd:VL}{N ps:List Str}{k:Nat}{F:FD}{ro:Bool}(G:BO K x qual st f fd)(S:aS N ps (aA st))(len:∀ds R,F ds R->ds.length=ps.length)
  (md:∀(cX:UT) (A:VW) (outer:List Env) (s:UW) (H:Hp) (E:XK),dh k (A.deeper (Yp qual (aA st) s.heap.objs.size f cX)) ->
   ∃ψ,tu (nz b6 P w K mg base N qual (aA st) f cX A outer s H E).EH ⟨H,λ_=>False,ro,λ_=>False⟩ (eC st) ψ/\∀ds R,F ds R->ψ {nx:=λ_=>R .bK,rt:=λd _=>R d} (startB N ds)) :
  aN P w K mg base b6 (k+1) f fd ps (dX P w ro F):=by
 refine G.ok S (λvs H Q E h=>?_) (λcX A outer s H vs Q E hr h=>?_)
 ·obtain⟨ds,r,h⟩:=h;rw[r.length];exact len ds _ h
 ·obtain⟨ds,r,h⟩:=h;obtain⟨ψ,hb,hF⟩:=md cX A outer s H E hr;refine⟨_,hb.ps,(H,Wn λ_=>[]),_,startB N ds,⟨λ_=>[],yP r,Sn.refl⟩,hF ds _ h,λσ H' β sb q=>?_,λσ H' β d v sb rr q=>?_,λ_ _ _ _ z=>z.elim,λ_ _ _ _ z=>z.elim⟩
  ·obtain⟨own,s',n'⟩:=sb;exact q _ H' (λb o e=>s'.kp.out b o e (λz=>z)) (eQ (W:=λ_=>False) rfl rfl)
  ·obtain⟨own,s',n'⟩:=sb;exact q _ H' (λb o e=>s'.kp.out b o e (λz=>z)) rr
theorem wz {N:List Str}{ok:List Int->Prop}{h:Addr}{ns:List Int}{vs:List V}{ds:List D}{H:Hp}{ro:Bool}(hh:H h=some (.lst (ns.map V.int)))(ho:ok ns)(r:aj P w (λa=>a=h) H ds vs):
  bR P w ⟨H,(·=h),ro,λ_=>False⟩ (start N (.ref h::vs)) H (i7 N ok ds) (λi=>if i=0 then [h] else []):=by
 have CH:∀{i:Nat} {a:Addr},a∈(if i=0 then [h] else ([]:List Addr))->i=0/\a=h:=λ{i a} q=>by
  by_cases e:i=0
  ·rw[if_pos e]at q;exact⟨e,by simpa using q⟩
  ·rw[if_neg e]at q;cases q
 have DG:∀{i:Nat} {b:B},(i7 N ok ds)[i]?=some (some b)->(i=0/\b=.hand ok)\/∃j d,i=j+1/\ds[j]?=some d/\b=.val false d:=λ{i b} q=>by
  unfold i7 at q;cases i with
  |zero=>simp at q;exact .inl ⟨rfl,q.symm⟩
  |succ i =>
   rw[Xv]at q;obtain⟨d,e,e'⟩:=eN q;exact .inr ⟨i,d,rfl,e,e'⟩
 refine⟨?_,λi y d q=>?_,λi d q=>?_,λi yd q=>?_,λi a q=>?_,λi j a h1 h2=>?_,λi=>?_,Kp.refl,λ_ z=>z,λi y d q=>(DG q).elim (λKY=> by obtain⟨_,e⟩ := KY;cases e) (λKW=> by obtain⟨j,d',_,_,e'⟩ := KW;cases e')⟩
 ·unfold i7 start;simp[r.length]
 ·rcases DG q with⟨_,e⟩|⟨j,d',rfl,e,e'⟩
  ·cases e
  ·cases e';obtain⟨v,e1,e2⟩:=aj.get r e;exact⟨v,i6 (by simpa using e1),az.aW (λa z=>z.elim (λHh=>by obtain⟨j,q⟩:=Hh;exact(CH q).2) λz=>z.elim) e2⟩
 ·rcases DG q with⟨_,e⟩|⟨j,d',_,_,e'⟩
  ·cases e
  ·cases e'
 ·rcases DG q with⟨e0,e⟩|⟨j,d',_,_,e'⟩
  ·cases e;subst e0;exact⟨h,ns,i6 rfl,hh,ho,rfl,.inr rfl⟩
  ·cases e'
 ·obtain⟨_,rfl⟩:=CH q;exact⟨by rw[hh];exact λz=>(nomatch z),λxs z=>(by rw[hh]at z;cases z),.inr rfl,λz=>z⟩
 ·rw[(CH h1).1,(CH h2).1]
 ·by_cases e:i=0
  ·simp[e]
  ·simp[e]
theorem Gr {x qual:Str}{st:Stmt}{f:Addr}{fd:VL}{N ps:List Str}{k:Nat}{F:FD}{ok:List Int->Prop}{ro:Bool}(G:BO K x qual st f fd)(S:aS N ps (aA st))(len:∀ds R,F ds R->ds.length+1=ps.length)
  (md:∀(cX:UT) (A:VW) (outer:List Env) (s:UW) (H:Hp) (E:XK) (IO:Addr->Prop),dh k (A.deeper (Yp qual (aA st) s.heap.objs.size f cX)) ->
   ∃ψ,tu (nz b6 P w K mg base N qual (aA st) f cX A outer s H E).EH ⟨H,IO,ro,λ_=>False⟩ (eC st) ψ/\∀ds R,F ds R->ψ {nx:=λ_=>False,rt:=λd β=>β[0]?=some (some (.hand ok))/\R d} (i7 N ok ds)) :
  aN P w K mg base b6 (k+1) f fd ps (i8 P w ok ro F):=by
 refine G.ok S (λvs H Q E h=>?_) (λcX A outer s H vs Q E hr h=>?_)
 ·obtain⟨h,vs',ds,ns,rfl,hh,ho,r,q⟩:=h;rw[Vd,r.length];exact len ds _ q
 ·obtain⟨h,vs',ds,ns,rfl,hh,ho,r,q⟩:=h;obtain⟨ψ,hb,hF⟩:=md cX A outer s H E (·=h) hr;refine⟨_,hb.ps,(H,_),_,i7 N ok ds,⟨_,wz hh ho r,Sn.refl⟩,hF ds _ q,λσ H' β sb z=>z.elim,λσ H' β d v sb rr ⟨b0,q⟩=>?_,λ_ _ _ _ z=>z.elim,λ_ _ _ _ z=>z.elim⟩;obtain⟨own,s',n'⟩:=sb;obtain⟨a,xa,g1,g2,g3,g4,g5⟩:=s'.l_ 0 ok b0;have ea:a=h:=g5.elim (λz=>(z h rfl).elim) λz=>z;subst ea;exact q v H' xa s'.kp s'.iO g2 g3 rr
end
end L2.Q
namespace L2
open PySem PySem.Spec PySem.SeqAt PyProof.Rows
theorem qf.pre {X:Cx}{ifs:List Expr}{t t':TT}(h:qf X ifs t)(k:∀σ H Q,t' σ H Q->t σ H Q):qf X ifs t':=λpins s σ H Q I q=>h pins s σ H Q I (k σ H Q q)
section
end
section
end
section
variable {X:Cx}{e:Expr}{g:WZ}{gs:List WZ}{scope:W3}{N':List Str}{lk:List (Option Nat)}{tg:Addr->TG}{tt:Addr->TT}{wi:TI}
theorem jX {cn:Sem UT}{o:HO}{after:UT->Env->Sem Fin->Sem Fin}{ta:Addr->jC}(L:Links X scope N' lk)(hc:X.calm=true)(hA:g_ X cn o)
  (F:∀acc env,fG e 0 g acc env (after acc env))
  (xB:∀a cl C s H ex,PG (aB X scope N' cl C s H ex) g.target (tg a)/\qf (aB X scope N' cl C s H ex) g.ifs (tt a)/\mQ (aB X scope N' cl C s H ex) (after (.ref a) (aB X scope N' cl C s H ex).env) (ta a))
  {cl:List (Str×Addr)} (iX:∀x,(x,VC)∈scope.names->∃c,cl.lookup x=some c) (mR:∀x c,cl.lookup x=some c->X.env.cells.lookup x=some c)
  {pins:List (Addr×Obj)} {σ:St} {s:UW} {Q:V->Hp->Prop} {ye:UT} {E:UT->UW->Prop} {RR:UT->Addr->Result->UW->Prop}
  (h:Ie X pins σ g.target (λJ H1=>∀a,H1 a=none->eM J (tg a) (tt a) (ta a) (λ_ H'=>Q (.ref a) H') (cN lk σ) (upd H1 a o)) ye s)
  (hR:∀a H' C s',Inv X pins σ H' s'->dU X pins H' C->(∃m,s'.heap.Ns C m)->Q (.ref a) H'->RR (.ref a) C (.ok .next) s') :
  Vq (model X.prog X.w) X.A cn (λacc s₃=>Vq (model X.prog X.w) X.A (ZJ scope X.env.globals cl [] X.env.qual none .none (some X.env)) (λBi s₄ =>
   XR (model X.prog X.w) X.A (.compStart e 0 ye acc {Bi with scope:=relabel scope X.env}) (RR acc Bi.locals) s₄) E s₃) E s:=by
 obtain⟨it,fp,tn,J,H2,e1,I2,T,eK,f2,hl⟩:=h;subst e1;refine hA.ok pins s σ H2 _ E I2 λa s3 ha hn hk I3=>?_;refine wpAny_newFunctionEnv L.uh (by intro y hy;simp at hy) (λh₁ Hz Hc=>?_) L.kind
 have Hw:∀b∈fp,∃o,s3.heap.get? b=some o:=λb hb=>by
  obtain⟨ob,q,_⟩:=T.obj _ _ eK b hb;exact⟨ob,hk b ob q⟩
 have Lb:∀b∈fp,b≠a:=λb hb=>by
  obtain⟨ob,q,_⟩:=T.obj _ _ eK b hb;exact Vw (Vy (Vb q) ha)
 have f3:∀b∈fp,dU X pins (upd H2 a o) b:=λb hb=>⟨by rw[ar (Lb b hb)];exact(f2 b hb).1,(f2 b hb).2⟩
 have Iv:∀b ob,s3.heap.get? b=some ob->h₁.get? b=some ob:=λb ob q=>Hc.extBut b ob (Vw (Vb q)) (UX _ q);have Ir:h₁.Ns s3.heap.objs.size (λ_=>none):=Hz;have I4:=Ao (t':=s3.toks+([]:List (Str×UT)).length) I3 L f3 Hw iX mR Ir Iv;obtain⟨g1,g2,g3⟩:=xB a cl s3.heap.objs.size s3 (upd H2 a o) fp;have f4:∀b∈fp,dU (aB X scope N' cl s3.heap.objs.size s3 (upd H2 a o) fp) [] (upd H2 a o) b:=λb hb =>
  ⟨(f3 b hb).1,(I4.ok.IC b hb).1,I4.ok.xH b hb,.inl hb,(I4.ok.IC b hb).2,λp hp=>absurd (show p∈([]:List (Addr×Obj)) from hp) (by simp)⟩
 have FN:tn 0 h₁:=T.keep 0 _ _ eK λb hb ob q=>Iv b ob (hk b ob q);refine Xl (gW (X:=aB X scope N' cl s3.heap.objs.size s3 (upd H2 a o) fp) rfl hc (F (.ref a) _) g1 g2 g3 T I4 FN f4 (hl a hn)) λr s' hr=>?_;obtain⟨rfl,σ',H',J',q⟩:=hr;have I5:Inv X pins σ H' s':=Aq (C:=s3.heap.objs.size) (h'':=s'.heap) I3 f3 J' (.refl ..);refine hR a H' s3.heap.objs.size s' I5 (I3.xD (UU _) J'.free) ?_ q;obtain⟨m,hm,_⟩:=J'.loc;exact⟨m,hm⟩
theorem ir {cn:Sem UT}{o:HO}{after:UT->Env->Sem Fin->Sem Fin}{ta:Addr->jC}{pos:Pos}(L:Links X scope N' lk)(hc:X.calm=true)(hA:g_ X cn o)
  (AK:eval e X.env=comprehension e scope X.env pos cn false (eval g.iter X.env)) (AL:clausesOf e=g::gs)
  (F:∀acc env,fG e 0 g acc env (after acc env)) (hi:PI X g.target g.iter wi)
  (xB:∀a cl C s H ex,PG (aB X scope N' cl C s H ex) g.target (tg a)/\qf (aB X scope N' cl C s H ex) g.ifs (tt a)/\mQ (aB X scope N' cl C s H ex) (after (.ref a) (aB X scope N' cl C s H ex).env) (ta a))
  (hs:∀x,VG g.iter X.env x=pure x) :
  PE X e (λσ H Q=>wi σ H λJ H1=>∀a,H1 a=none->eM J (tg a) (tt a) (ta a) (λ_ H'=>Q (.ref a) H') (cN lk σ) (upd H1 a o)):=by
 intro pins s σ H Q I h;rw[AK];obtain⟨cl,rK,iX,mR⟩:=eI (env:=X.env) (scope:=scope) λx hx=>I.ok.has x (L.free x hx);refine Yb (use:=none) AL hs rK L.kind L.names (bC (hi pins s σ H _ I h) λv s1 h1=>bC h1 λye s2 h2=>?_);refine jX (RR:=λacc C=>compPost (model X.prog X.w) X.A X.xe none (EP X pins σ Q) acc C) L hc hA F xB iX mR h2 λa H' C s' I' f ⟨m,hm⟩ q=>?_;exact⟨m,hm,λh' uC=>⟨.ref a,H',I'.sameBut f uC,rfl,q⟩⟩
theorem zq {cn:Sem UT}{o:HO}{after:UT->Env->Sem Fin->Sem Fin}{ta:Addr->jC}{pos pos' ik:Pos}{y:Str}{i:Nat}(L:Links X scope N' lk)(hc:X.calm=true)(hA:g_ X cn o)
  (oB:WR e (some (.Name y pos')) ik.line X.env=pure true)
  (AK:YO e X.env (assign (.Name y pos') X.env)=(do let _ <- comprehension e scope X.env pos cn false (eval g.iter X.env) (some (assign (.Name y pos') X.env));pure ())) (AL:clausesOf e=g::gs)
  (hN:X.N.Nodup) (hy:X.N[i]?=some y) (hx:Loc X.env.scope y) (hf:X.fn y=true\/X.env.scope.names.lookup y=some .local)
  (F:∀acc env,fG e 0 g acc env (after acc env)) (hi:PI X g.target g.iter wi)
  (xB:∀a cl C s H ex,PG (aB X scope N' cl C s H ex) g.target (tg a)/\qf (aB X scope N' cl C s H ex) g.ifs (tt a)/\mQ (aB X scope N' cl C s H ex) (after (.ref a) (aB X scope N' cl C s H ex).env) (ta a))
  (hs:∀x,VG g.iter X.env x=pure x) :
  PS X (.Assign [.Name y pos'] e ik) (λD σ H=>wi σ H λJ H1=>∀a,H1 a=none->eM J (tg a) (tt a) (ta a) (λ_ H'=>D.nx (σ.set i (some (.ref a))) H') (cN lk σ) (upd H1 a o)):=by
 intro pins s σ H D I h;rw[exec_Assign_Name_used _ _ _ _ oB,AK];refine UR (WW (UR (UR ?_)));obtain⟨cl,rK,iX,mR⟩:=eI (env:=X.env) (scope:=scope) λx hx=>I.ok.has x (L.free x hx);refine bC (Yb (use:=some (assign (.Name y pos') X.env)) (Q:=λ_ s'=>SP X pins D .next s') AL hs rK L.kind L.names (bC (hi pins s σ H _ I h) λv s1 h1=>bC h1 λye s2 h2=>?_)) λ_ s' q=>UY (UY q)
 refine jX (Q:=λv H'=>D.nx (σ.set i (some v)) H') (RR:=λacc C=>compPost (model X.prog X.w) X.A X.xe (some (assign (.Name y pos') X.env)) (λ_ s'=>SP X pins D .next s') acc C) L hc hA F xB iX mR h2 λa H' C s' I' f ⟨m,hm⟩ q=>?_
 show Vq _ _ (assign (.Name y pos') X.env (.ref a)) _ _ s';have Tu:∃o,s'.heap.get? C=some o:=by obtain⟨o,_,_,ho,_⟩:=hm;exact⟨o,ho⟩
 refine Y8 (i5 I' hN hy hx (v:=.ref a) (u:=.ref a) rfl (λs4 I4 k4=>?_) hf);obtain⟨a4,M6,Pf⟩:=k4;have AE:C≠a4:=by
  rcases Pf with z|z
  ·rw[z];exact f.2.1
  ·exact(f.2.2.2.2.1 y a4 z).symm
 exact⟨m,hm.at' (λo e=>(M6.2 C AE).trans e),λh' uC=>⟨_,H',I4.sameBut f uC,q⟩⟩
end
end L2
namespace L2.Q
open PySem PySem.Spec PySem.SeqAt PyProof.Rows
def QK:Option B->Option B
 |some (.own d)=>some (.val false d)
 |some (.shl _ d)=>some (.val false d)
 |b=>b
def cw (lk:List (Option Nat))(β:bg):bg:=lk.map λl=>match l with|some j=>(match β[j]? with|some b=>QK b|none=>none)|none=>none
def L6:Option (Option B)->Bool
 |some (some (.hand _))=>true
 |_=>false
def bx (lk:List (Option Nat))(β:bg)(own:Nat->List Addr)(i:Nat):List Addr:=match lk[i]? with
 |some (some j)=>if L6 β[j]?=true then own j else []
 |_=>[]
def d9:bg->bg->Prop
 |[],_=>True
 |some (.hand ok)::a,c=>c.head?=some (some (.hand ok))/\d9 a c.tail
 |_::a,c=>d9 a c.tail
theorem d9.get:∀{a c:bg} {i:Nat} {ok:List Int->Prop},d9 a c->a[i]?=some (some (.hand ok))->c[i]?=some (some (.hand ok))
 |[],_,_,_,_,e=>by simp at e
 |x::a,c,0,ok,h,e=>by
  simp at e;subst e;rw[<- List.head?_eq_getElem?];exact h.1
 |x::a,c,i+1,ok,h,e=>by
  have h':d9 a c.tail:=by
   cases x with
   |none=>exact h
   |some x=>cases x <;> first|exact h|exact h.2
  have:=d9.get (i:=i) h' (by simpa using e)
  rwa [List.getElem?_tail]at this
section
variable {P:U0}{w:Vf}{C:Cfg}{σ σ':St}{H H' H1:Hp}{β βi:bg}{own iA:Nat->List Addr}{lk:List (Option Nat)}{a:Addr}
theorem cc {i:Nat}{c:Addr}(h:c∈bx lk β own i):∃j,lk[i]?=some (some j)/\L6 β[j]?=true/\c∈own j:=by
 unfold bx at h
 split at h
 ·next j e =>
  by_cases q:L6 β[j]?=true
  ·rw[if_pos q]at h;exact⟨j,e,q,h⟩
  ·rw[if_neg q]at h;cases h
 ·cases h
theorem bq:∀c,Wn (bx lk β own) c->Wn own c:=λc ⟨i,h⟩=>let ⟨j,_,_,h⟩:=cc h;⟨j,h⟩
theorem fZ {i j:Nat}{v:V}(h:lk[i]?=some (some j))(e:σ[j]?=some (some v)):(cN lk σ)[i]?=some (some v):=by
 unfold cN;rw[U8,h];simp only[XI];rw[e]
theorem gx {i:Nat}{b:B}(h:(cw lk β)[i]?=some (some b)):∃j b',lk[i]?=some (some j)/\β[j]?=some (some b')/\QK (some b')=some b:=by
 unfold cw at h;rw[U8]at h;cases q:lk[i]? with
 |none=>rw[q]at h;cases h
 |some l =>
  rw[q]at h;cases l with
  |none=>cases h
  |some j =>
   simp only[XI]at h;cases q2:β[j]? with
   |none=>rw[q2]at h;cases h
   |some b2 =>
    rw[q2]at h;simp only[X6]at h;cases b2 with
    |none=>cases h
    |some b'=>exact⟨j,b',rfl,q2,h⟩
theorem bR.enter (s:bR P w C σ H β own)(ha:H a=none)(inj:∀(i i' j:Nat),lk[i]?=some (some j)->lk[i']?=some (some j)->i=i'):
  bR P w (C.u λc=>c=a) (cN lk σ) (upd H a (.lst [])) (cw lk β) (bx lk β own):=by
 have sm:ay H (upd H a (.lst [])):=ay.new ha;have na:∀{i c},c∈own i->c≠a:=λ{i c} hc z=>(s.dm i c hc).1 (by rw[z];exact ha)
 have gr:∀k,∀c,gc (C.u λc=>c=a) (Wn (bx lk β own)) k c->gc C (Wn own) k c\/H c=none:=λk c z=>by
  rcases z with z|z
  ·exact .inl (.inl (kB bq k c z))
  ·exact .inr (by rw[z];exact ha)
 refine⟨by unfold cw cN;simp,λi y d e=>?_,λi d e=>?_,λi ok e=>?_,λi c h=>?_,λi i' c h1 h2=>?_,λi=>?_,s.kp.trans sm.kp,λc z e=>s.iO c z (sm.free e),λi y d e=>by
  obtain⟨j,b',e1,e2,e3⟩:=gx e;cases b' <;> cases e3⟩
 ·obtain⟨j,b',e1,e2,e3⟩:=gx e;cases b' with
  |val y' d' =>
   cases e3;obtain⟨v,h1,h2⟩:=s.val j y d e2;exact⟨v,fZ e1 h1,(az.grow (gr _) h2).same sm⟩
  |own d' =>
   cases e3;obtain⟨v,h1,h2,h3⟩:=s.ow j d e2;refine⟨v,fZ e1 h1,az.same sm (h2.rep λc hc z=>?_)⟩;rcases z with z|z
   ·obtain⟨i',fK⟩:=z;obtain⟨j',q1,q2,q3⟩:=cc fK;have:=s.mH j j' c hc q3;subst this;rw[e2]at q2;cases q2
   ·exact na hc z
  |hand ok=>cases e3
  |shl y' d' =>
   cases e3;obtain⟨v,h1,h2,h3⟩:=s.shl j y' d e2;refine⟨v,fZ e1 h1,az.same sm (h2.rep (λc hc z=>?_) λds vs r=>aj.grow (λc z=>?_) r)⟩
   ·rcases z with z|z
    ·obtain⟨i',fK⟩:=z;obtain⟨j',q1,q2,q3⟩:=cc fK;have:=s.mH j j' c hc q3;subst this;rw[e2]at q2;cases q2
    ·exact na hc z
   ·rcases gr _ c z with z|z
    ·refine .inl ?_;rcases z with z|z
     ·cases y' with
      |true=>exact .inl (.inl z)
      |false=>exact .inl z
     ·exact .inr z
    ·exact .inr z
 ·obtain⟨j,b',e1,e2,e3⟩:=gx e;cases b' <;> cases e3
 ·obtain⟨j,b',e1,e2,e3⟩:=gx e;cases b' with
  |val y' d'=>cases e3
  |own d'=>cases e3
  |shl y d=>cases e3
  |hand yd =>
   cases e3;obtain⟨h,ns,h1,h2,h3,h4,h5⟩:=s.l_ j ok e2;refine⟨h,ns,fZ e1 h1,sm _ _ h2,h3,?_,h5⟩;unfold bx;rw[e1];simp only;rw[e2];exact(if_pos rfl).trans h4
 ·obtain⟨j,q1,q2,q3⟩:=cc h;obtain⟨g1,g2,g3,g4⟩:=s.dm j c q3;rw[ar (na q3)];exact⟨g1,g2,g3,na q3⟩
 ·obtain⟨j,q1,q2,q3⟩:=cc h1;obtain⟨j',Qq,Ur,R7⟩:=cc h2;have:=s.mH j j' c q3 R7;subst this;exact inj _ _ _ q1 Qq
 ·unfold bx
  split
  ·next j e =>
   split
   ·exact s.lM j
   ·exact VQ
  ·exact VQ
theorem bR.FW {o:HO}(s:bR P w (C.u λc=>c=a) σ H β own){oa:HO}(ha:H a=some oa)(ht:∀xs,oa≠.tup xs)(h0:C.H0 a=none):bR P w (C.u λc=>c=a) σ (upd H a o) β own:=by
 have k:Kp (·=a) H (upd H a o):=l0 ha ht;have na:∀{i c},c∈own i->c≠a:=λ{i c} hc=>(s.dm i c hc).2.2.2;refine⟨s.len,λi y d e=>let ⟨v,h1,h2⟩:=s.val i y d e;⟨v,h1,h2.keep (k.mono λc z=>.inr z)⟩,λi d e=>let ⟨v,h1,h2,h3⟩:=s.ow i d e;⟨v,h1,h2.keep k.tup (λc hc oc ec=>k.out c oc ec (na hc)),h3⟩,
  λi ok e=>?_,λi c h=>?_,s.mH,s.lM,⟨λc oc z n=>k.out c oc (s.kp.out c oc z n) λq=>?_,λc xs z=>k.tup c xs (s.kp.tup c xs z)⟩,λc z=>?_,λi y d e=>let ⟨v,h1,h2,h3⟩:=s.shl i y d e;⟨v,h1,h2.map (λc hc oc ec=>k.out c oc ec (na hc)) (λ_ _ r=>r.keep (k.mono λc z=>.inr z)),h3⟩⟩
 ·obtain⟨h,ns,h1,h2,h3,h4,h5⟩:=s.l_ i ok e;exact⟨h,ns,h1,k.out h _ h2 (na (by rw[h4];simp)),h3,h4,h5⟩
 ·rw[ar (na h)];exact s.dm i c h
 ·rw[q,h0]at z;cases z
 ·by_cases q:c=a
  ·rw[q,aw];exact λz=>(nomatch z)
  ·rw[ar q];exact s.iO c z
theorem bR.leave (s:bR P w C σ H1 β own)(i:bR P w (C.u λc=>c=a) σ' H' βi iA)(n:Sn (H1,Wn (bx lk β own)) H' (Wn iA))(le:∀c,Wn iA c->Wn (bx lk β own) c)
  (hh:d9 (cw lk β) βi) (hσ:∀(j:Nat) (ok:List Int->Prop) (i:Nat),β[j]?=some (some (B.hand ok))->lk[i]?=some (some j)->σ'[i]?=(cN lk σ)[i]?):bR P w C σ H' β own:=by
 have off:∀{j c},c∈own j->¬ Wn (bx lk β own) c->∀o,H1 c=some o->H' c=some o:=λ{j c} hc nw o e=>n.k.out c o e λz=>z.elim nw λz=>(s.dm j c hc).1 z;have Kh:∀{j c},c∈own j->L6 β[j]?=false->¬ Wn (bx lk β own) c:=λ{j c} hc q xA=>by
  obtain⟨i',fK⟩:=xA;obtain⟨j',q1,q2,q3⟩:=cc fK;have:=s.mH j j' c hc q3;subst this;rw[q]at q2;cases q2
 have hN:∀(j:Nat) (ok:List Int->Prop),β[j]?=some (some (B.hand ok))->∃a ns,σ[j]?=some (some (V.ref a))/\H' a=some (.lst (ns.map V.int))/\ok ns/\own j=[a]/\((∀b,¬ C.IO b)\/C.IO a):=λj ok e=>by
  obtain⟨h,ns,h1,h2,h3,h4,h5⟩:=s.l_ j ok e
  by_cases q:Wn (bx lk β own) h
  ·obtain⟨i',fK⟩:=q;obtain⟨j',q1,q2,q3⟩:=cc fK;have:=s.mH j j' h (by rw[h4];simp) q3
   subst this;have eB:(cw lk β)[i']?=some (some (.hand ok)):=by
    unfold cw;rw[U8,q1];simp only[XI];rw[e];rfl
   obtain⟨h',xa,g1,g2,g3,g4,g5⟩:=i.l_ i' ok (hh.get eB);rw[hσ j ok i' e q1,fZ q1 h1]at g1;cases g1;exact⟨h,xa,h1,g2,g3,h4,h5⟩
  ·exact⟨h,ns,h1,off (by rw[h4];simp) q _ h2,h3,h4,h5⟩
 refine⟨s.len,λj y d e=>?_,λj d e=>?_,hN,λj c hc=>?_,s.mH,s.lM,i.kp,i.iO,λj y d e=>by
  obtain⟨v,h1,h2,h3⟩:=s.shl j y d e;refine⟨v,h1,h2.map (λc hc o eo=>off hc (Kh hc (by rw[e];rfl)) o eo) (λds vs r=>?_),h3⟩
  have g:aj P w (λc=>gc C (Wn own) (yk y) c\/H1 c=none) H1 ds vs:=aj.grow (λc z=>z) r;refine aj.aW (λc z=>.inl z) (g.keep (n.k.mono λc z=>z.imp (λz=>?_) id));cases y with
  |true=>exact .inl (.inl (bq c z))
  |false=>exact .inl (bq c z)⟩
 ·obtain⟨v,h1,h2⟩:=s.val j y d e;have g:az P w (λc=>gc C (Wn own) (yk y) c\/H1 c=none) H1 d v:=az.grow (λc z=>z) h2;refine⟨v,h1,az.aW (λc z=>.inl z) (g.keep (n.k.mono λc z=>z.imp (λz=>?_) id))⟩;cases y with
  |true=>exact .inl (.inl (bq c z))
  |false=>exact .inl (bq c z)
 ·obtain⟨v,h1,h2,h3⟩:=s.ow j d e;exact⟨v,h1,h2.keep n.k.tup (λc hc o eo=>off hc (Kh hc (by rw[e];rfl)) o eo),h3⟩
 ·obtain⟨g1,g2,g3,g4⟩:=s.dm j c hc
  by_cases q:Wn (bx lk β own) c
  ·obtain⟨i',fK⟩:=q;obtain⟨j',q1,q2,q3⟩:=cc fK;have:=s.mH j j' c hc q3;subst this;cases e:β[j]? with
   |none=>rw[e]at q2;cases q2
   |some b =>
    rw[e]at q2;cases b with
    |none=>cases q2
    |some b =>
     cases b with
     |val y d=>cases q2
     |own d=>cases q2
     |shl y d=>cases q2
     |hand ok =>
      obtain⟨h,ns,k1,k2,k3,k4,k5⟩:=hN j ok e;rw[k4]at hc;rw[U9.mp hc]at g3 g4 ⊢
      rw[k2];exact⟨λz=>(nomatch z),λxs z=>(by cases z),g3,g4⟩
  ·cases e:H1 c with
   |none=>exact absurd e g1
   |some o=>rw[off hc q o e];exact⟨λz=>(nomatch z),λxs z=>g2 xs (by rw[e];exact z),g3,g4⟩
end
def IQ:aY:=λβ R=>R true β
theorem zt {X:Cx}{C:Cfg}:qf X [] (iV X C true IQ):=Cr.pre λσ H Q ⟨β,own,s,q⟩=>q H own (Out.refl s _)
theorem zr {X:Cx}{C:Cfg}{p:Bool}{c:Expr}{τ:aY}(h:tj X C p c τ):qf X [c] (iV X C p τ):=Cq h.pt
def jO (γ:cR)(τ:aY)(φ:aR)(ds:List D)(k:Kd)(β0:bg)(K:List D->Prop):Prop:=∃I:Nat->bg->List D->Prop,I 0 β0 [] /\
 (∀i d β o,ds[i]?=some d->I i β o->γ d (sk k d) β λβ1=>τ β1 λt β2=>if t=true then φ β2 λx kx β3=>Dn kx x/\o.length<U_/\I (i+1) β3 (o++[x]) else I (i+1) β2 o)/\∀β o,I ds.length β o->d9 β0 β/\K o
theorem jO.mono {γ:cR}{τ:aY}{φ:aR}{ds:List D}{k:Kd}{β0:bg}{K K':List D->Prop}(h:∀o,K o->K' o)(q:jO γ τ φ ds k β0 K):jO γ τ φ ds k β0 K':=let ⟨I,h0,h1,h2⟩:=q;⟨I,h0,h1,λβ o z=>⟨(h2 β o z).1,h _ (h2 β o z).2⟩⟩
section
variable {X:Cx}{C:Cfg}{lk:List (Option Nat)}{γ:cR}{τ:aY}{φ:aR}{T:List Nat}{pc pe:Bool}
theorem jy {σ:St}{H1:Hp}{β:bg}{own:Nat->List Addr}{a:Addr}{J:It}{ds:List D}{k:Kd}{K:List D->Prop}{End:Hp->Prop}
  (γm:∀d k β R R',(∀r,R r->R' r)->γ d k β R->γ d k β R') (τm:∀β R R',(∀d β,R d β->R' d β)->τ β R->τ β R') (φm:∀β R R',(∀d k β,R d k β->R' d k β)->φ β R->φ β R')
  (inj:∀(i i' j:Nat),lk[i]?=some (some j)->lk[i']?=some (some j)->i=i') (hT:∀i∈T,∀j,lk[i]?≠some (some j))
  (s1:SQ X C σ H1 β own) (ha:H1 a=none) {hp:Bool} (QR:hp=true->(pc&&pe)=true) (hk:hold k hp) (it:xZ X (av C (Wn own) k) J ds H1) (q:jO γ τ φ ds k (cw lk β) K)
  (fin:∀o H',K o->Out X C σ H1 own (pc&&pe) β H' own->KV X.prog X.w C (H1,Wn own) own H' .own (.lst o) (.ref a)->End H') :
  eM J (λv σ H Q=>∃own β d k,SQ X (C.u λc=>c=a) σ H β own/\Rp X (gc (C.u λc=>c=a) (Wn own) k) H d v/\γ d k β λβ'=>∀σ' aQ,SQ X (C.u λc=>c=a) σ' H β' aQ->(∀a,Wn aQ a->Wn own a)->(∀j,j∉T->σ'[j]?=σ[j]?)->Q σ' H)
   (iV X (C.u λc=>c=a) pc τ) (λN σ H=>tQ X (C.u λc=>c=a) pe φ σ H λv H1=>∃xs,H1 a=some (.lst xs)/\xs.length<U_/\N σ (upd H1 a (.lst (xs++[v]))))
   (λ_ H'=>End H') (cN lk σ) (upd H1 a (.lst [])):=by
 obtain⟨I,i0,i1,i2⟩:=q;have h0:C.H0 a=none:=VP λz=>s1.iO a z ha;have sm:ay H1 (upd H1 a (.lst [])):=ay.new ha;have QG:∀c,Wn (bx lk β own) c->c≠a:=λc z e=>by
  obtain⟨j,hj⟩:=bq c z;exact(s1.dm j c hj).1 (by rw[e];exact ha)
 let S:Nat->St->Hp->Prop:=λi σ' H'=>∃βi iA vs o A,SQ X (C.u λc=>c=a) σ' H' βi iA/\Sn (H1,Wn (bx lk β own)) H' (Wn iA)/\(∀c,Wn iA c->Wn (bx lk β own) c)/\H' a=some (.lst vs)/\aI X.prog X.w H' o vs A/\A.Nodup/\(∀c∈A,H1 c=none/\c≠a) /\
  ((pc&&pe)=true->ay H1 H')/\(∀j,j∉T->σ'[j]?=(cN lk σ)[j]?)/\I i βi o
 have W':Addr->Prop:=λb=>av C (Wn own) k b\/H1 b=none;have Ip:=it (λb=>av C (Wn own) k b\/H1 b=none) λb z=>z;have kI:∀{H':Hp} {iA:Nat->List Addr},Sn (H1,Wn (bx lk β own)) H' (Wn iA)->((pc&&pe)=true->ay H1 H')->Kp (λb=>av C (Wn own) k b\/H1 b=none) H1 H':=λn pu=>by
  cases k with
  |own=>exact n.k.mono λb z=>z.imp (λz=>.inl (bq b z)) id
  |e9=>exact n.k.mono λb z=>z.imp (λz=>.inl (bq b z)) id
  |old=>exact n.k.mono λb z=>z.imp (bq b) id
  |bor =>
   cases hp with
   |false=>exact hk.elim
   |true=>exact(pu (QR rfl)).kp.mono λb z=>.inr z
 refine⟨λi m σ' H'=>i<=ds.length/\m=ds.length-i/\S i σ' H',⟨_,U7 _,rfl,cw lk β,bx lk β own,[],[],[],s1.enter ha inj,⟨λb z=>.inl z,sm.kp,λb z e=>z (sm.free e)⟩,λ_ z=>z,aw,⟨rfl,rfl⟩,VQ,λc hc=>(nomatch hc),λ_=>sm,λ_ _=>rfl,i0⟩,?_⟩;rintro i m σ2 H2 ⟨hi,rfl,βi,iA,vs,o,A,sq,sn,le,Pd,os,nd,nw,pu,st,hl⟩;obtain⟨bP,pR⟩:=Ip i H2 (kI sn pu)
 by_cases eZ:i<ds.length
 ·right
  have hd:ds[i]?=some ds[i]:=U6 eZ;obtain⟨go,yl⟩:=bP _ hd;refine⟨go,λσ' H'=>S (i+1) σ' H',λσ' H' h=>⟨_,by omega,eZ,rfl,h⟩,λx H3 y=>?_⟩
  obtain⟨s3,r3⟩:=yl x H3 y;have TZ:∀{iA:Nat->List Addr},(∀c,Wn iA c->Wn (bx lk β own) c)->∀c,gc (C.u λc=>c=a) (Wn iA) k c->av C (Wn own) k c\/H1 c=none:=λle c z=>z.elim (λz=>.inl (kB (λc z=>bq c (le c z)) k c z)) λz=>.inr (by rw[z];exact ha)
  refine⟨iA,βi,_,_,sq.same s3,pA (az.aW (TZ le) r3),γm _ _ _ _ _ (λβ4 q σ4 qV s4 w4 t4=>?_) (i1 i _ βi o hd hl)⟩;have NV:∀c,Wn qV c->Wn (bx lk β own) c:=λc z=>le c (w4 c z);refine⟨β4,qV,s4,τm _ _ _ (λt β5 q H5 nc o5=>?_) q⟩;have L0:∀c,Wn nc c->Wn (bx lk β own) c:=λc z=>NV c (o5.le c z);have Ai:∀c,c∈a::A->∀oc,H2 c=some oc->H5 c=some oc:=λc hc oc e=>by
   refine o5.sn.k.out c oc (s3 c oc e) λz=>?_;rcases z with z|z
   ·rcases U1.mp hc with rfl|hc
    ·exact QG _ (NV _ z) rfl
    ·obtain⟨j,hj⟩:=bq c (NV c z);exact(s1.dm j c hj).1 (nw c hc).1
   ·exact absurd ((s3 c oc e).symm.trans z) (λz=>(nomatch z))
  have Su:∀b xs,H2 b=some (.tup xs)->H5 b=some (.tup xs):=λb xs e=>o5.sn.k.tup b xs (s3 b _ e);have NK:aI X.prog X.w H5 o vs A:=os.keep Su λc hc oc e=>Ai c (by simp[hc]) oc e
  have MZ:Sn (H1,Wn (bx lk β own)) H5 (Wn nc):=(il (sn.same s3) w4).trans o5.sn;have Qr:(pc&&pe)=true->ay H1 H5:=λz=>((pu z).trans s3).trans (o5.pu (Ej z)).1;have FN:∀j,j∉T->σ4[j]?=(cN lk σ)[j]?:=λj hj=>(t4 j hj).trans (st j hj);cases t with
  |false=>exact⟨β5,nc,vs,o,A,o5.sq,MZ,L0,Ai a (by simp) _ Pd,NK,nd,nw,Qr,FN,q⟩
  |true =>
   refine⟨β5,nc,o5.sq,φm _ _ _ (λxd kx β6 ⟨f,hz,q⟩ v H6 CG o6 r6=>?_) q⟩;obtain⟨B',r1,r2,Ni⟩:=r6.fl f;have Lc:H5 a=some (.lst vs):=Ai a (by simp) _ Pd
   have ER:∀c,c∈a::A->∀oc,H5 c=some oc->H6 c=some oc:=λc hc oc e=>by
    refine o6.sn.k.out c oc e λz=>?_;rcases z with z|z
    ·rcases U1.mp hc with rfl|hc
     ·exact QG _ (L0 _ z) rfl
     ·obtain⟨j,hj⟩:=bq c (L0 c z);exact(s1.dm j c hj).1 (nw c hc).1
    ·exact absurd (e.symm.trans z) (λz=>(nomatch z))
   have rM:H6 a=some (.lst vs):=ER a (by simp) _ Lc
   have Qv:aI X.prog X.w H6 o vs A:=NK.keep o6.sn.k.tup λc hc oc e=>ER c (by simp[hc]) oc e
   have Se:∀c∈A,c≠a:=λc hc=>(nw c hc).2;have JJ:∀c∈B',c≠a:=λc hc z=>by rw[z]at hc;exact absurd (Lc.symm.trans (Ni a hc).1) (λz=>(nomatch z))
   have kt:∀b xs,H6 b=some (.tup xs)->upd H6 a (.lst (vs++[v])) b=some (.tup xs):=λb xs z=>by rw[ar (λz'=>by rw[z',rM]at z;cases z)];exact z
   refine⟨vs,rM,by rw[Qv.length];exact hz,β6,CG,vs++[v],o++[xd],A++B',o6.sq.FW rM (λxs z=>by cases z) h0,?_,λc z=>L0 c (o6.le c z),aw,?_,?_,λc hc=>?_,λz=>?_,FN,q⟩
   ·have m:=MZ.trans o6.sn;refine⟨m.w,m.k.trans ((l0 rM (λxs z=>by cases z)).mono λb z=>.inr (by rw[z];exact ha)),λb z e=>?_⟩
    by_cases hb:b=a
    ·rw[hb,aw]at e;cases e
    ·rw[ar hb]at e;exact m.d b z e
   ·exact(Qv.keep kt λc hc oc e=>by rw[ar (Se c hc)];exact e).append (aI.one (r1.keep kt λc hc oc e=>by rw[ar (JJ c hc)];exact e))
   ·refine V3.mpr ⟨nd,r2,λx hx y hy e=>?_⟩;subst e;have:=(Ni x hy).1;exact(NK.mU x hx).1 this
   ·rcases Vg.mp hc with hc|hc
    ·exact nw c hc
    ·exact⟨MZ.free (Ni c hc).1,JJ c hc⟩
   ·refine λb ob e=>?_;rw[ar (λz'=>by rw[z',ha]at e;cases e)]
    exact(o6.pu (PR z)).1 b ob (Qr z b ob e)
 ·left
  have e:i=ds.length:=by omega
  subst e;obtain⟨hh,q⟩:=i2 βi o hl;have lv:SQ X C σ H2 β own:=s1.leave sq sn le hh λj ok i' e1 e2=>st i' λz=>hT i' z j e2;refine⟨pR (UU _),fin o H2 q ⟨lv,⟨λb z=>.inl z,sn.k.mono λb z=>z.imp (bq b) id,sn.d⟩,λz=>⟨pu z,rfl⟩,λ_ z=>z⟩ ⟨a::A,⟨a,vs,A,rfl,Pd,rfl,os⟩,Vt.mpr ⟨λz=>(nw a z).2 rfl,nd⟩,λc hc=>?_⟩⟩;have iX:H1 c=none:=by
   rcases U1.mp hc with rfl|hc
   ·exact ha
   ·exact(nw c hc).1
  exact⟨iX,λHg=>by obtain⟨j,hj⟩:=Hg;exact(s1.dm j c hj).1 iX,VP λz=>s1.iO c z iX⟩
theorem cV {scope:W3}{N':List Str}(L:Links X scope N' lk)(hN:N'.Nodup):∀(i i' j:Nat),lk[i]?=some (some j)->lk[i']?=some (some j)->i=i':=λi i' j h1 h2=>by
 obtain⟨x,a1,a2,_⟩:=L.link i j h1;obtain⟨y,b1,b2,_⟩:=L.link i' j h2;rw[a2]at b2;cases b2;exact(Zi (U3.mp a1).1 hN).mp (a1.trans b1.symm)
def qJ (lk:List (Option Nat))(ι:ck)(γ:cR)(τ:aY)(φ:aR):aR:=λβ R=>ι β λds k β1=>hold k false/\jO γ τ φ ds k (cw lk β1) λo=>R (.lst o) .own β1
variable {scope:W3}{N':List Str}{tg bP elt:Expr}{ifs:List Expr}{ι:ck}{pi:Bool}{pos pos' ik:Pos}{y:Str}{i:Nat}
theorem EA (L:Links X scope N' lk)(mS:N'.Nodup)(hT:T.all (λi=>match lk[i]? with|some (some _)=>false|_=>true)=true)(hc:X.calm=true)(hi:tm X C pi tg bP ι)
  (jQ:∀a cl c s H ex,tw (aB X scope N' cl c s H ex) (C.u λc=>c=a) tg T γ) (hX:∀a cl c s H ex,qf (aB X scope N' cl c s H ex) ifs (iV (aB X scope N' cl c s H ex) (C.u λc=>c=a) pc τ)) (τm:∀β R R',(∀d β,R d β->R' d β)->τ β R->τ β R')
  (gS:∀a cl c s H ex,PQ (aB X scope N' cl c s H ex) (C.u λc=>c=a) pe elt φ) (γm:∀d k β R R',(∀r,R r->R' r)->γ d k β R->γ d k β R') (φm:∀β R R',(∀d k β,R d k β->R' d k β)->φ β R->φ β R')
  (hs:∀x,VG bP X.env x=pure x:=by intro _;rfl):PQ X C (pi&&(pc&&pe)) (.ListComp elt [⟨tg,bP,ifs,0⟩] scope pos) (qJ lk ι γ τ φ):=by
 have AN:∀i∈T,∀j,lk[i]?≠some (some j):=λi hi j e=>by
  have:=WK.mp hT i hi;rw[e]at this;cases this
 refine⟨λβ R R' k h=>hi.mono β _ _ (λds kd β1 q=>⟨q.1,q.2.mono λo z=>k _ _ _ z⟩) h,?_⟩;refine(ir (g:=⟨tg,bP,ifs,0⟩) (gs:=[]) (tg:=λa v σ H Q=>∃own β d k,SQ X (C.u λc=>c=a) σ H β own/\Rp X (gc (C.u λc=>c=a) (Wn own) k) H d v/\γ d k β λβ'=>∀σ' aQ,SQ X (C.u λc=>c=a) σ' H β' aQ->(∀a,Wn aQ a->Wn own a)->(∀j,j∉T->σ'[j]?=σ[j]?)->Q σ' H)
  (tt:=λa=>iV X (C.u λc=>c=a) pc τ) (ta:=λa N σ H=>tQ X (C.u λc=>c=a) pe φ σ H λv H1=>∃xs,H1 a=some (.lst xs)/\xs.length<U_/\N σ (upd H1 a (.lst (xs++[v]))))
  L hc fV rfl rfl (λ_ _=>vZ) hi.pi (λa cl c s H ex=>⟨(jQ a cl c s H ex).pg,hX a cl c s H ex,fT rfl (gS a cl c s H ex).pe⟩) hs).pre λσ H Q ⟨β,own,s,h⟩=>?_
 refine⟨β,own,s,hi.mono β _ _ (λds k β1 ⟨hk,q⟩ J H1 aD o1 it a ha=>?_) h⟩;exact jy γm τm φm (cV L mS) AN o1.sq ha (hp:=false) (λz=>by cases z) hk it q λo H' q o2 r=>q _ _ aD (o1.trans o2) (r.later o1.sn)
theorem Ju {K:D->bg->fF->Prop}(L:Links X scope N' lk)(mS:N'.Nodup)(hT:T.all (λi=>match lk[i]? with|some (some _)=>false|_=>true)=true)(hc:X.calm=true)(hi:∀U,tm X (C.u U) pi tg bP ι)
  (jQ:∀U cl c s H ex,tw (aB X scope N' cl c s H ex) (C.u U) tg T γ) (hX:∀U cl c s H ex,qf (aB X scope N' cl c s H ex) ifs (iV (aB X scope N' cl c s H ex) (C.u U) pc τ)) (τm:∀β R R',(∀d β,R d β->R' d β)->τ β R->τ β R')
  (gS:∀U cl c s H ex,PQ (aB X scope N' cl c s H ex) (C.u U) pe elt φ) (γm:∀d k β R R',(∀r,R r->R' r)->γ d k β R->γ d k β R') (φm:∀β R R',(∀d k β,R d k β->R' d k β)->φ β R->φ β R') (o:Bool)
  (hN:X.N.Nodup) (hy:X.N[i]?=some y:=by rfl) (hx:Loc X.env.scope y:=by first|exact .inl rfl|exact .inr rfl) (hf:X.fn y=true\/X.env.scope.names.lookup y=some .local:=by first|exact .inl rfl|exact .inr rfl|assumption)
  (oB:WR (.ListComp elt [⟨tg,bP,ifs,0⟩] scope pos) (some (.Name y pos')) ik.line X.env=pure true:=by rfl)
  (AK:YO (.ListComp elt [⟨tg,bP,ifs,0⟩] scope pos) X.env (assign (.Name y pos') X.env)=(do let _ <- comprehension (.ListComp elt [⟨tg,bP,ifs,0⟩] scope pos) scope X.env (firstIterPos [⟨tg,bP,ifs,0⟩] pos) (newList []) false (eval bP X.env) (some (assign (.Name y pos') X.env));pure ()):=by first|rfl|exact Yd ..)
  (hs:∀x,VG bP X.env x=pure x:=by intro _;rfl) :
  PB X C (.Assign [.Name y pos'] (.ListComp elt [⟨tg,bP,ifs,0⟩] scope pos) ik) (λE β=>qJ lk ι γ τ φ β λd _ β'=>E.nx (β'.set i (some (match o with|true=>.own d|false=>.val true d)))):=by
 have AN:∀i∈T,∀j,lk[i]?≠some (some j):=λi hi j e=>by
  have:=WK.mp hT i hi;rw[e]at this;cases this
 refine⟨λE E' β l h=>(hi λ_=>False).mono β _ _ (λds kd β1 q=>⟨q.1,q.2.mono λo z=>l.nx _ z⟩) h,λpins s σ H D I0 ⟨Z,E,β,⟨own,sq,n⟩,h,ok⟩=>?_⟩;refine zq (g:=⟨tg,bP,ifs,0⟩) (gs:=[]) (tg:=λa v σ H Q=>∃own β d k,SQ X (C.u λc=>c=a) σ H β own/\Rp X (gc (C.u λc=>c=a) (Wn own) k) H d v/\γ d k β λβ'=>∀σ' aQ,SQ X (C.u λc=>c=a) σ' H β' aQ->(∀a,Wn aQ a->Wn own a)->(∀j,j∉T->σ'[j]?=σ[j]?)->Q σ' H)
  (tt:=λa=>iV X (C.u λc=>c=a) pc τ) (ta:=λa N σ H=>tQ X (C.u λc=>c=a) pe φ σ H λv H1=>∃xs,H1 a=some (.lst xs)/\xs.length<U_/\N σ (upd H1 a (.lst (xs++[v]))))
  L hc fV oB AK rfl hN hy hx hf (λ_ _=>vZ) (hi λa=>H a=none).pi (λa cl c s H ex=>⟨(jQ _ cl c s H ex).pg,hX _ cl c s H ex,fT rfl (gS _ cl c s H ex).pe⟩) hs pins s σ H D I0 ?_
 refine⟨β,own,sq.nH (C:=C.z) (U:=λa=>H a=none) λa z=>z,(hi λ_=>False).mono β _ _ (λds k β1 ⟨hk,q⟩ J H1 aD o1 it a ha=>?_) h⟩;refine jy (C:=C.u λa=>H a=none) γm τm φm (cV L mS) AN o1.sq ha (hp:=false) (λz=>by cases z) hk it q λol H' q o2 r=>?_
 have r':=r.later o1.sn;have oo:=o1.trans o2;have m:=n.trans oo.sn;cases o with
 |false=>exact ok.nx _ _ _ ⟨_,(bR.QA oo.sq).eD (az.aW (λa z=>z.elim id λz=>z.elim) (KV.rep r')),k9 m⟩ q
 |true =>
  obtain⟨A,h1,h2,h3⟩:=r';refine ok.nx _ _ _ ⟨_,oo.sq.tV h1 h2 λc hc=>⟨(h3 c hc).2.2,(h3 c hc).2.1,(h3 c hc).1⟩,?_⟩ q;exact⟨λb uD=>by
   obtain⟨j,hj⟩:=uD
   by_cases aH:i=j
   ·rw[<- aH,os_eq]at hj;exact .inr (n.free (h3 b hj).1)
   ·rw[bt aH]at hj;exact m.w b ⟨j,hj⟩,m.k,m.d⟩
end
end L2.Q
namespace Zp
open PySem PySem.Spec PyProof.Rows
structure Ij (prog:U0)(w:Vf)(i l:Addr)(vs:List UT)(St:Nat->Heap->Prop)(Ct:Heap->Prop):Prop where
 obj:∀k h,St k h->∃o,h.get? i=some o/\∀v,o.data≠.cell v
 keep:∀k h h',St k h->(∀o,h.get? i=some o->h'.get? i=some o)->St k h'
 kept:∀h h',Ct h->(∀o,h.get? l=some o->h'.get? l=some o)->Ct h'
 item:∀(A:VW) (E:UT->UW->Prop) (s:UW) (k:Nat) (x:UT) (Q:UT->UW->Prop),St k s.heap->Ct s.heap->vs[k]?=some x ->
  (∀h',St (k+1) h'->Wq i s.heap h'->Q x {s with heap:=h'})->Vq (model prog w) A (VU (.ref i)) Q E s
 done:∀(A:VW) (E:UT->UW->Prop) (s:UW) (k:Nat) (Q:UT->UW->Prop),A.handled=none->St k s.heap->Ct s.heap->vs[k]?=none ->
  (∀h' e,Heap.ExtBut i s.heap h'->(∃o,h'.get? e=some o/\o.cls=.type "StopIteration")->E (.ref e) {s with heap:=h'})->Vq (model prog w) A (VU (.ref i)) Q E s
variable {prog:U0}{w:Vf}
theorem A7 {i l:Addr}{vs:List UT}:Ij prog w i l vs (λk h=>h.IsListIter i l k) (λh=>h.IsList l vs.toArray) where
 obj:=λk h ⟨o,a,_,d⟩=>⟨o,a,λv z=>by rw[d]at z;cases z⟩
 keep:=λk h h' a k1=>a.at k1
 kept:=λh h' b k2=>b.at k2
 item:=λA E s k x Q a b hx q=>wpAny_nextOf_list_item a b (by simpa using hx) λh' a' sb=>q h' a' sb
 done:=λA E s k Q hh a b hx q=>wpAny_nextOf_list_end hh a b (by simpa using hx) q
theorem zS {A:VW}{E:UT->UW->Prop}{s:UW}{i l:Addr}{k:Nat}{its:Array UT}{x:UT}{Q:UT->UW->Prop}(a:s.heap.IsTupleIter i l k)(b:s.heap.IsTuple l its)(hx:its[k]?=some x)
  (q:∀h',h'.IsTupleIter i l (k+1)->Wq i s.heap h'->Q x {s with heap:=h'}):Vq (model prog w) A (VU (.ref i)) Q E s:=by
 have hT:=a.typeIs;obtain⟨oi,gi,ci,di⟩:=a;obtain⟨ol,gl,cl,nl,dl⟩:=b;unfold VU;apply UR;apply Wz (name:=XS "__next__") hT F.slot_tuple_iterator_next;apply Wl F.slot_tuple_iterator_next hT F.entry_tuple_iterator_next _ (F.args_tuple_iterator_next_1 _)
 change Vq (model prog w) _ (field (.ref i) 0 >>= _) _ _ s
 apply UR;apply WH gi di (x:=.ref l) rfl;rw[if_neg (by intro z;cases z)]
 change Vq (model prog w) _ (field (.ref i) 1 >>= _) _ _ s
 apply UR;apply WH gi di (x:=.int k 0) rfl
 change Vq (model prog w) _ (seqItems? (.ref l) >>= _) _ _ s
 apply UR;apply Ww gl dl;simp only[Xf,hx];apply UR;apply ZI gi di (by simp)
 refine UY ⟨x,rfl,?_⟩;refine UY (q _ ⟨_,YI _ gi (Obj.isFreed_of_fields (Obj.data_mapFields di _)),?_,?_⟩ (Xn ..))
 ·rw[Obj.cls_mapFields];exact ci
 ·rw[Obj.data_mapFields di];simp[rawInt]
theorem DQ {A:VW}{E:UT->UW->Prop}{s:UW}{i l:Addr}{k:Nat}{its:Array UT}{Q:UT->UW->Prop}(hh:A.handled=none)(a:s.heap.IsTupleIter i l k)(b:s.heap.IsTuple l its)(hx:its[k]?=none)
  (q:∀h' e,Heap.ExtBut i s.heap h'->(∃o,h'.get? e=some o/\o.cls=.type "StopIteration")->E (.ref e) {s with heap:=h'}):Vq (model prog w) A (VU (.ref i)) Q E s:=by
 have hT:=a.typeIs;obtain⟨oi,gi,ci,di⟩:=a;obtain⟨ol,gl,cl,nl,dl⟩:=b;unfold VU;apply UR;apply Wz (name:=XS "__next__") hT F.slot_tuple_iterator_next;apply Wl F.slot_tuple_iterator_next hT F.entry_tuple_iterator_next _ (F.args_tuple_iterator_next_1 _)
 change Vq (model prog w) _ (field (.ref i) 0 >>= _) _ _ s
 apply UR;apply WH gi di (x:=.ref l) rfl;rw[if_neg (by intro z;cases z)]
 change Vq (model prog w) _ (field (.ref i) 1 >>= _) _ _ s
 apply UR;apply WH gi di (x:=.int k 0) rfl
 change Vq (model prog w) _ (seqItems? (.ref l) >>= _) _ _ s
 apply UR;apply Ww gl dl;simp only[Xf,hx];apply UR;apply Xa;apply UR;apply ZI gi di (by simp)
 change Vq (model prog w) _ (newExc (.type "StopIteration") [] >>= _) _ _ _
 apply UR;simp only[newExc,newTuple];apply UR;refine WS ?_ (by size_fits)
 apply UR (m:=YN _ _);apply Zu (a:=Value.none)
 ·first|rfl|(simp only[YN];rfl)
 refine WS ?_ (by size_fits);simp only[raiseNew]
 apply UR;apply wpAny_handled;have E3:A.in1.handled=none:=hh
 first|rw[E3]|rw[hh]
 refine UR (UY (wpAny_throw (q _ _ (((Xn ..).extBut.push _).push _) ⟨_,Vp _ rfl,rfl⟩)))
theorem DR {i l:Addr}{vs:List UT}:Ij prog w i l vs (λk h=>h.IsTupleIter i l k) (λh=>h.IsTuple l vs.toArray) where
 obj:=λk h ⟨o,a,_,d⟩=>⟨o,a,λv z=>by rw[d]at z;cases z⟩
 keep:=λk h h' ⟨o,a1,a2⟩ k1=>⟨o,k1 o a1,a2⟩
 kept:=λh h' ⟨o',b1,b2⟩ k2=>⟨o',k2 o' b1,b2⟩
 item:=λA E s k x Q a b hx q=>zS a b (by simpa using hx) λh' a' sb=>q h' a' sb
 done:=λA E s k Q hh a b hx q=>DQ hh a b (by simpa using hx) q
structure Apart (z TI TO i1 i2 l1 l2:Addr):Prop where
 nd:[z,TI,TO,i1,i2].Nodup
 o1:∀c∈[z,TO,i1,i2],l1≠c
 o2:∀c∈[z,TO,i1,i2],l2≠c
section
variable {A:VW}{E:UT->UW->Prop}{s:UW}{z TI TO i1 i2 l1 l2:Addr}{vs us:List UT}{S1 S2:Nat->Heap->Prop}{C1 C2:Heap->Prop}
theorem yp (P:Apart z TI TO i1 i2 l1 l2)(D1:Ij prog w i1 l1 vs S1 C1)(D2:Ij prog w i2 l2 us S2 C2){k:Nat}{x y a b:UT}{Q:Option UT->UW->Prop}(hz:YD s.heap z TI TO .none)(Ph:Xe s.heap TI (.ref i1) (.ref i2))(Pg:Xe s.heap TO a b)
  (h1:S1 k s.heap) (h2:S2 k s.heap) (c1:C1 s.heap) (c2:C2 s.heap) (hx:vs[k]?=some x) (hy:us[k]?=some y)
  (q:∀h',YD h' z TI TO (rawInt s.heap.objs.size)->Xe h' TO x y->S1 (k+1) h'->S2 (k+1) h'->Xe h' s.heap.objs.size x y->(∀c o,c∉[z,TO,i1,i2]->s.heap.get? c=some o->h'.get? c=some o)->Q (some (.ref s.heap.objs.size)) {s with heap:=h'}) :
  Vq (model prog w) A (XU (.ref z)) Q E s:=by
 have hT:s.TypeIs (.ref z) "zip" := ⟨_,hz,rfl⟩;obtain⟨nd,o1,o2⟩:=P;simp only[Vt,U1,VZ,or_false,not_or,VQ,not_false_eq_true,and_true]at nd;obtain⟨⟨Rt,Fo,Fn,Ik⟩,⟨TITO,TIi1,TIi2⟩,⟨TOi1,TOi2⟩,i12⟩:=nd;have a1:=o1 z (by simp);have a2:=o1 TO (by simp);have a3:=o1 i1 (by simp);have a4:=o1 i2 (by simp)
 have b1:=o2 z (by simp);have b2:=o2 TO (by simp);have b3:=o2 i1 (by simp);have b4:=o2 i2 (by simp)
 unfold XU;apply UR;apply Yc;apply Wz (name:=XS "__next__") hT F.slot_zip_next;refine Wl F.slot_zip_next hT F.entry_zip_next ?_ (F.args_zip_next_1 _)
 change Vq (model prog w) _ (field (.ref z) 2 >>= _) _ _ _
 apply UR;apply WH hz rfl (x:=.bool false) rfl
 change Vq (model prog w) _ (field (.ref z) 3 >>= _) _ _ _
 apply UR;apply WH hz rfl (x:=.ref TI) rfl;apply UR;apply Ww Ph rfl
 change Vq (model prog w) _ (WI (.ref z) >>= _) _ _ _
 apply UR;unfold WI;apply UR;apply WH hz rfl (x:=.none) rfl;apply UY;simp only[if_true];apply UR;apply Xa;apply UR;apply WH hz rfl (x:=.ref TO) rfl;apply UR;refine Wt hz (by simp) λg1 y1 e1=>?_
 have z1:YD g1 z TI TO .ellipsis:=y1;apply UR;simp only[Zq,List.zipIdx_nil,YB,ZP];apply UR;apply UR;apply YZ
 change Vq (model prog w) _ (VU (.ref i1) >>= _) _ _ _
 apply UR;refine D1.item _ _ _ k x _ (D1.keep k _ _ h1 (λo e=>e1.extBut _ _ (V5 Fn) e)) (D1.kept _ _ c1 λo e=>e1.extBut _ _ a1 e) hx λg2 s2 e2=>UY ?_;have t2:Xe g2 TO a b:=e2.extBut _ _ TOi1 (e1.extBut _ _ (V5 Fo) Pg);apply UR;apply Ww t2 rfl;apply UR;refine YL t2 λg3 y3 e3=>?_;have t3:Xe g3 TO x b:=y3;apply UR;refine wpAny_letGo (UY ?_);apply UR;apply UR;apply YZ
 change Vq (model prog w) _ (VU (.ref i2) >>= _) _ _ _
 apply UR;have k2:S2 k g3:=D2.keep k _ _ h2 λo e=>e3.extBut _ _ (V5 TOi2) (e2.extBut _ _ (V5 i12) (e1.extBut _ _ (V5 Ik) e));have k3:C2 g3:=D2.kept _ _ c2 λo e=>e3.extBut _ _ b2 (e2.extBut _ _ b3 (e1.extBut _ _ b1 e));refine D2.item _ _ _ k y _ k2 k3 hy λg4 s4 e4=>UY ?_;have t4:Xe g4 TO x b:=e4.extBut _ _ TOi2 t3;apply UR;apply Ww t4 rfl;apply UR;refine YL t4 λg5 y5 e5=>?_;have t5:Xe g5 TO x y:=y5;apply UR;refine wpAny_letGo (UY (UY ?_));apply UR;apply Ww t5 rfl;apply UR;refine wpAny_newTuple ?_;have hsz:g5.objs.size=s.heap.objs.size:=by rw[e5.1,e4.1,e3.1,e2.1,e1.1]
 have z5:YD g5 z TI TO .ellipsis:=e5.extBut _ _ Fo (e4.extBut _ _ Ik (e3.extBut _ _ Fo (e2.extBut _ _ Fn z1)));have old:∀c o,c∉[z,TO,i1,i2]->s.heap.get? c=some o->g5.get? c=some o:=λc o hc e=>by
  simp only[U1,VZ,or_false,not_or]at hc;obtain⟨c1,c2,c3,c4⟩:=hc;exact e5.extBut _ _ c2 (e4.extBut _ _ c4 (e3.extBut _ _ c2 (e2.extBut _ _ c3 (e1.extBut _ _ c1 e))))
 have n1:S1 (k+1) g5:=D1.keep _ _ _ s2 λo e=>e5.extBut _ _ (V5 TOi1) (e4.extBut _ _ i12 (e3.extBut _ _ (V5 TOi1) e));have n2:S2 (k+1) g5:=D2.keep _ _ _ s4 λo e=>e5.extBut _ _ (V5 TOi2) e;have Qc:=Vb z5
 change Vq (model prog w) _ (YY (.ref z) (.ref g5.objs.size) >>= _) _ _ _
 apply UR;unfold YY;have z6:YD (g5.push {cls:=.type "tuple",data:=.seq #[x,y]}) z TI TO .ellipsis:=UX _ z5;apply UR;refine Wt z6 (by simp) λg7 y7 e7=>?_
 have z7:YD g7 z TI TO (rawInt g5.objs.size):=y7;refine Wt z7 (by simp) λg8 y8 e8=>?_
 have z8:YD g8 z TI TO (rawInt g5.objs.size):=y8;have up:∀c o,c≠z->g5.get? c=some o->g8.get? c=some o:=λc o c1 e=>e8.extBut _ _ c1 (e7.extBut _ _ c1 (UX _ e));have t8:Xe g8 g5.objs.size x y:=e8.extBut _ _ (Zd Qc) (e7.extBut _ _ (Zd Qc) (Vp _ rfl));rw[hsz]at z8 t8;refine UY ⟨_,rfl,UY ?_⟩;show Q (some (.ref g5.objs.size)) _;rw[hsz];exact q g8 z8 (up _ _ (V5 Fo) t5) (D1.keep _ _ _ n1 λo e=>up _ _ (V5 Fn) e) (D2.keep _ _ _ n2 λo e=>up _ _ (V5 Ik) e) t8 λc o hc e=>up c o (λw=>hc (by simp[w])) (old c o hc e)
theorem BP (P:Apart z TI TO i1 i2 l1 l2)(D1:Ij prog w i1 l1 vs S1 C1)(D2:Ij prog w i2 l2 us S2 C2)(hh:A.handled=none){k:Nat}{a b:UT}{Q:Option UT->UW->Prop}(hz:YD s.heap z TI TO .none)(Ph:Xe s.heap TI (.ref i1) (.ref i2))(Pg:Xe s.heap TO a b)
  (h1:S1 k s.heap) (h2:S2 k s.heap) (c1:C1 s.heap) (c2:C2 s.heap) (hx:vs[k]?=none\/us[k]?=none)
  (q:∀h',(∀c o,c∉[z,TO,i1,i2]->s.heap.get? c=some o->h'.get? c=some o)->Q none {s with heap:=h'}) :
  Vq (model prog w) A (XU (.ref z)) Q E s:=by
 have hT:s.TypeIs (.ref z) "zip" := ⟨_,hz,rfl⟩;obtain⟨nd,o1,o2⟩:=P;simp only[Vt,U1,VZ,or_false,not_or,VQ,not_false_eq_true,and_true]at nd;obtain⟨⟨Rt,Fo,Fn,Ik⟩,⟨TITO,TIi1,TIi2⟩,⟨TOi1,TOi2⟩,i12⟩:=nd;have a1:=o1 z (by simp);have b1:=o2 z (by simp);have b2:=o2 TO (by simp);have b3:=o2 i1 (by simp)
 have oc:∀{c:Addr},c∉[z,TO,i1,i2]->c≠z/\c≠TO/\c≠i1/\c≠i2:=λhc=>by simpa[not_or] using hc
 have E3:A.in1.handled=none:=hh;unfold XU;apply UR;apply Yc;apply Wz (name:=XS "__next__") hT F.slot_zip_next;refine Wl F.slot_zip_next hT F.entry_zip_next ?_ (F.args_zip_next_1 _);have fin:∀(h':Heap) (e:Addr),(∀c o,c∉[z,TO,i1,i2]->s.heap.get? c=some o->h'.get? c=some o)->(∃o,h'.get? e=some o/\o.cls=.type "StopIteration") ->
   Vq (model prog w) A (do if <- isInstance (.ref e) (.type "StopIteration") then pure none else throw (.ref e)) Q E {s with heap:=h'}:=λh' e hk KU=> by
  obtain⟨o,ho,hc⟩ := KU;apply UR;refine Zk (T:="StopIteration") (b:=true) ⟨o,ho,hc⟩ isSubtype_stop ?_;exact UY (q h' hk)
 change Vq (model prog w) _ (field (.ref z) 2 >>= _) _ _ _
 apply UR;apply WH hz rfl (x:=.bool false) rfl
 change Vq (model prog w) _ (field (.ref z) 3 >>= _) _ _ _
 apply UR;apply WH hz rfl (x:=.ref TI) rfl;apply UR;apply Ww Ph rfl
 change Vq (model prog w) _ (WI (.ref z) >>= _) _ _ _
 apply UR;unfold WI;apply UR;apply WH hz rfl (x:=.none) rfl;apply UY;simp only[if_true];apply UR;apply Xa;apply UR;apply WH hz rfl (x:=.ref TO) rfl;apply UR;refine Wt hz (by simp) λg1 y1 e1=>?_
 have z1:YD g1 z TI TO .ellipsis:=y1;apply UR;simp only[Zq,List.zipIdx_nil,YB,ZP];apply UR;apply UR;apply YZ
 change Vq (model prog w) _ (VU (.ref i1) >>= _) _ _ _
 apply UR;have f1:S1 k g1:=D1.keep k _ _ h1 λo e=>e1.extBut _ _ (V5 Fn) e;have f2:C1 g1:=D1.kept _ _ c1 λo e=>e1.extBut _ _ a1 e;cases ex:vs[k]? with
 |none =>
  refine D1.done _ _ _ k _ E3 f1 f2 ex λg2 e e2 he=>?_;obtain⟨oe,ge,ce⟩:=he;have z2:YD g2 z TI TO .ellipsis:=e2 _ _ Fn z1;have ez:e≠z:=λw=>by subst w;rw[z2]at ge;cases ge;simp at ce
  refine Wt z2 (by simp) λg3 _ e3=>fin g3 e (λc o hc x=>?_) ⟨oe,e3.extBut _ _ ez ge,ce⟩
  obtain⟨q1,q2,q3,q4⟩:=oc hc;exact e3.extBut _ _ q1 (e2 _ _ q3 (e1.extBut _ _ q1 x))
 |some x =>
  have ey:us[k]?=none:=hx.resolve_left (by rw[ex];intro z;cases z)
  refine D1.item _ _ _ k x _ f1 f2 ex λg2 s2 e2=>UY ?_;have t2:Xe g2 TO a b:=e2.extBut _ _ TOi1 (e1.extBut _ _ (V5 Fo) Pg);apply UR;apply Ww t2 rfl;apply UR;refine YL t2 λg3 y3 e3=>?_;apply UR;refine wpAny_letGo (UY ?_);apply UR;apply UR;apply YZ
  change Vq (model prog w) _ (VU (.ref i2) >>= _) _ _ _
  apply UR;have k2:S2 k g3:=D2.keep k _ _ h2 λo e=>e3.extBut _ _ (V5 TOi2) (e2.extBut _ _ (V5 i12) (e1.extBut _ _ (V5 Ik) e));have k3:C2 g3:=D2.kept _ _ c2 λo e=>e3.extBut _ _ b2 (e2.extBut _ _ b3 (e1.extBut _ _ b1 e));refine D2.done _ _ _ k _ E3 k2 k3 ey λg4 e e4 he=>?_;obtain⟨oe,ge,ce⟩:=he;have z4:YD g4 z TI TO .ellipsis:=e4 _ _ Ik (e3.extBut _ _ Fo (e2.extBut _ _ Fn z1));have ez:e≠z:=λw=>by subst w;rw[z4]at ge;cases ge;simp at ce
  refine Wt z4 (by simp) λg5 _ e5=>fin g5 e (λc o hc x=>?_) ⟨oe,e5.extBut _ _ ez ge,ce⟩
  obtain⟨q1,q2,q3,q4⟩:=oc hc;exact e5.extBut _ _ q1 (e4 _ _ q4 (e3.extBut _ _ q2 (e2.extBut _ _ q3 (e1.extBut _ _ q1 x))))
end
section
variable {prog:U0}{w:Vf}{A:VW}{E:UT->UW->Prop}{s:UW}
abbrev LP (h:Heap)(l1:Addr):Heap:=h.push {cls:=.type "tuple_iterator",data:=.fields #[.ref l1,.int 0 0]}
abbrev LO (h:Heap)(l1 l2:Addr):Heap:=(LP h l1).push {cls:=.type "tuple_iterator",data:=.fields #[.ref l2,.int 0 0]}
abbrev LN (h:Heap)(l1 l2:Addr):Heap:=(LO h l1 l2).push {cls:=.type "tuple",data:=.seq #[.ref h.objs.size,.ref (LP h l1).objs.size]}
abbrev LM (h:Heap)(l1 l2:Addr):Heap:=(LN h l1 l2).push {cls:=.type "tuple",data:=.seq #[.none,.none]}
abbrev Il (h:Heap)(l1 l2:Addr):Heap:=(LM h l1 l2).push {cls:=.type "zip",data:=.fields #[.none,.bool false,.bool false,.ref (LO h l1 l2).objs.size,.ref (LN h l1 l2).objs.size]}
theorem wj (l1 l2:Addr)(xs ys:Array UT):
  Meets (XC.«zip.__new__» ⟨[.type "zip",.ref l1,.ref l2],[]⟩) (λ_ R s=>s.heap.IsTuple l1 xs/\s.heap.IsTuple l2 ys/\R (.ok (.ret (.ref (LM s.heap l1 l2).objs.size))) {s with heap:=Il s.heap l1 l2}) :=
 .of_wp λprog w A R s h=>by
  obtain⟨hp,g,d,tk,os⟩:=s;obtain⟨u1,u2,h⟩:=h;have RM:=sub_zip;have m1:Heap.IsTuple (Shared.heap ⟨hp,g,d,tk,os⟩) l1 xs:=u1;have m2:Heap.IsTuple (Shared.heap ⟨hp.push {cls:=.type "tuple_iterator",data:=.fields #[.ref l1,.int 0 0]},g,d,tk,os⟩) l2 ys:=Heap.IsTuple.push u2 _
  wp_walk using wpAny_pyIter_tuple m1,wpAny_pyIter_tuple m2
  exact⟨_,rfl,h⟩
theorem yo {l1 l2:Addr}{xs ys:Array UT}{Q:UT->UW->Prop}(u1:s.heap.IsTuple l1 xs)(u2:s.heap.IsTuple l2 ys)
  (q:∀h',YD h' (s.heap.objs.size+4) (s.heap.objs.size+2) (s.heap.objs.size+3) .none->Xe h' (s.heap.objs.size+2) (.ref s.heap.objs.size) (.ref (s.heap.objs.size+1))->Xe h' (s.heap.objs.size+3) .none .none ->
   h'.IsTupleIter s.heap.objs.size l1 0->h'.IsTupleIter (s.heap.objs.size+1) l2 0->(∀c o,s.heap.get? c=some o->h'.get? c=some o)->Q (.ref (s.heap.objs.size+4)) {s with heap:=h'}) :
  Vq (model prog w) A (call (.type "zip") [.ref l1,.ref l2]) Q E s:=by
 refine callType_new F.called_zip (by decide) (F.typeCall_zip_2 _ _) (F.newCall_zip_2 _ _) (λobj=>F.args_object_init_3 obj _ _) F.entry_zip_new (wj l1 l2 xs ys) ⟨u1,u2,?_⟩
 have n1:(LP s.heap l1).objs.size=s.heap.objs.size+1:=WO ..
 have n2:(LO s.heap l1 l2).objs.size=s.heap.objs.size+2:=by rw[WO,n1]
 have n3:(LN s.heap l1 l2).objs.size=s.heap.objs.size+3:=by rw[WO,n2]
 have n4:(LM s.heap l1 l2).objs.size=s.heap.objs.size+4:=by rw[WO,n3]
 have up:∀{h:Heap} {o:Obj} {c:Addr} {u:Obj},h.get? c=some u->(h.push o).get? c=some u:=λe=>UX _ e;have w5:(Il s.heap l1 l2).get? (LM s.heap l1 l2).objs.size=some _:=Vp _ rfl;have w4:(Il s.heap l1 l2).get? (LN s.heap l1 l2).objs.size=some _:=up (Vp _ rfl);have w3:(Il s.heap l1 l2).get? (LO s.heap l1 l2).objs.size=some _:=up (up (Vp _ rfl));have w2:(Il s.heap l1 l2).get? (LP s.heap l1).objs.size=some _:=up (up (up (Vp _ rfl)));have w1:(Il s.heap l1 l2).get? s.heap.objs.size=some _:=up (up (up (up (Vp _ rfl))));show _/\_;rw[n2,n3,n4]at w5;rw[n1,n2]at w3;rw[n3]at w4;rw[n1]at w2;rw[n4];exact⟨⟨_,w5,rfl⟩,q _ w5 w3 w4 ⟨_,w1,rfl,rfl⟩ ⟨_,w2,rfl,rfl⟩ λc o e=>up (up (up (up (up e))))⟩
end
end Zp
namespace L2
open PySem PySem.Spec PySem.SeqAt PyProof.Rows Zp
abbrev Mp:=Hp->List V->Prop
def Rl (c1 c2:Mp):It :=
 ⟨λi H=>∃xs ys x y,c1 H xs/\c2 H ys/\xs[i]?=some x/\ys[i]?=some y,
  λi H x H'=>∃T,H T=none/\x=.ref T/\∀xs ys,c1 H xs->c2 H ys->∃a b,xs[i]?=some a/\ys[i]?=some b/\H'=upd H T (.tup [a,b]),
  λi H=>∃xs ys,c1 H xs/\c2 H ys/\(xs[i]?=none\/ys[i]?=none)⟩
structure Src (P:U0)(w:Vf)(K:PySem.W.Frag)(i l:Addr)(c:Mp)(S:Nat->Heap->Prop):Prop where
 «at»:∀(X:Cx) (pins:List (Addr×Obj)) (σ:St) (H:Hp) (s:UW) (xs:List V),X.prog=P->X.w=w->X.K=K->Inv X pins σ H s->c H xs->∃vs Ct,Vals xs vs/\Ij P w i l vs S Ct/\Ct s.heap
 obj:∀k h,S k h->∃o,h.get? i=some o/\∀v,o.data≠.cell v
 keep:∀k h h',S k h->(∀o,h.get? i=some o->h'.get? i=some o)->S k h'
 inj:∀(H:Hp) (xs ys:List V),c H xs->c H ys->xs=ys
 old:∀(H:Hp) (xs:List V),c H xs->H l≠none
theorem src_list {P:U0}{w:Vf}{K:PySem.W.Frag}{i l:Addr}:Src P w K i l (λH xs=>H l=some (.lst xs)) (λk h=>h.IsListIter i l k) where
 «at»:=λX pins σ H s xs hp hw hk I h=>by
  obtain⟨its,r',pl,_⟩:=I.list (cP.of h);exact⟨its,_,r',A7,pl.isList⟩
 obj:=λk h ⟨o,a,_,d⟩=>⟨o,a,λv z=>by rw[d]at z;cases z⟩
 keep:=λk h h' a k1=>a.at k1
 inj:=λH xs ys h h'=>by rw[h]at h';cases h';rfl
 old:=λH xs h z=>by rw[h]at z;cases z
theorem B8 {P:U0}{w:Vf}{K:PySem.W.Frag}{i l:Addr}:Src P w K i l (λH xs=>H l=some (.tup xs)) (λk h=>h.IsTupleIter i l k) where
 «at»:=λX pins σ H s xs hp hw hk I h=>by
  obtain⟨its,r',pl,_⟩:=I.tuple (qj.of h);exact⟨its,_,r',DR,(show s.heap.IsTuple l its.toArray from pl)⟩
 obj:=λk h ⟨o,a,_,d⟩=>⟨o,a,λv z=>by rw[d]at z;cases z⟩
 keep:=λk h h' ⟨o,a1,a2⟩ k1=>⟨o,k1 o a1,a2⟩
 inj:=λH xs ys h h'=>by rw[h]at h';cases h';rfl
 old:=λH xs h z=>by rw[h]at z;cases z
theorem Inv.BZ {X:Cx}{pins:List (Addr×Obj)}{σ:St}{H:Hp}{s:UW}{fp:List Addr}{h':Heap}{x y:V}{u v:UT}(I:Inv X pins σ H s)(hf:∀b∈fp,dU X pins H b)(k:∀c o,c∉fp->s.heap.get? c=some o->h'.get? c=some o)
  (rx:RelV x u) (ry:RelV y v) (hT:Xe h' s.heap.objs.size u v):Inv X pins σ (upd H s.heap.objs.size (.tup [x,y])) {s with heap:=h'}:=by
 have hn:H s.heap.objs.size=none:=I.br.fresh (UU _);have ne:∀{b:Addr} {o:Obj},s.heap.get? b=some o->b≠s.heap.objs.size:=λe=>Vw (Vb e);have nt:∀{b:Addr} {o:HO},H b=some o->b≠s.heap.objs.size:=λe z=>by rw[z,hn]at e;cases e
 have nf:∀{b:Addr} {o:HO},H b=some o->b∉fp:=λe z=>by rw[(hf _ z).1]at e;cases e
 refine I.call (g':=s.gens) (t':=s.toks) (d':=s.drawn) (ch:=fp) ⟨λb o e n _ hc=>k b o hc e,λb o e n _ hc=>⟨o.slots,k b o hc e⟩,λb o e n _=>by rw[ar (ne e)];exact n,λb o e hc=>⟨o,k b o hc e⟩,
  λb xs e=>by rw[ar (nt e)];exact e,λb o u e=>by rw[ar (nt e)];exact e,λb ps e=>⟨#[],by rw[ar (nt e),e];simp⟩⟩ (λb u e=>?_) I.bare λb hb=>?_
 ·by_cases hb:b=s.heap.objs.size
  ·subst hb;rw[aw]at e;cases e;exact⟨by show 2<=U_;decide,[_,_],.cons rx (.cons ry .nil),⟨_,hT,rfl,_,rfl⟩⟩
  ·rw[ar hb]at e;refine(I.br b u e).pk (λc v hc q=>k c v ?_ q) (λc q=>by rw[ar (nt q)];exact q) λc xs q=>by rw[ar (nt q)];exact q
   rcases hc with z|z
   ·rw[z];exact nf e
   ·exact nf z
 ·obtain⟨f0,f1,f2,f3,f4,f5⟩:=hf b hb;exact⟨f3,f1,f4,f5⟩
theorem Inv.uZ {X:Cx}{pins:List (Addr×Obj)}{σ:St}{H:Hp}{s:UW}{fp:List Addr}{h':Heap}(I:Inv X pins σ H s)(hf:∀b∈fp,dU X pins H b)(k:∀c o,c∉fp->s.heap.get? c=some o->h'.get? c=some o):Inv X pins σ H {s with heap:=h'}:=by
 have nf:∀{b:Addr} {o:HO},H b=some o->b∉fp:=λe z=>by rw[(hf _ z).1]at e;cases e
 refine I.call (g':=s.gens) (t':=s.toks) (d':=s.drawn) (ch:=fp) ⟨λb o e n _ hc=>k b o hc e,λb o e n _ hc=>⟨o.slots,k b o hc e⟩,λb o e n _=>n,λb o e hc=>⟨o,k b o hc e⟩,λb xs e=>e,λb o u e=>e,λb ps e=>⟨#[],by rw[e];simp⟩⟩ (λb u e=>?_) I.bare λb hb=>?_
 ·refine(I.br b u e).pk (λc v hc q=>k c v ?_ q) (λc q=>q) λc xs q=>q;rcases hc with z|z
  ·rw[z];exact nf e
  ·exact nf z
 ·obtain⟨f0,f1,f2,f3,f4,f5⟩:=hf b hb;exact⟨f3,f1,f4,f5⟩
theorem yC {P:U0}{w:Vf}{K:PySem.W.Frag}{elts:List Expr}{kk:Nat}{pos:Pos}{z TI TO i1 i2 l1 l2:Addr}{c1 c2:Mp}{S1 S2:Nat->Heap->Prop}(Ap:Apart z TI TO i1 i2 l1 l2)(s1:Src P w K i1 l1 c1 S1)(s2:Src P w K i2 l2 c2 S2):
  Turn P w K (.Tuple elts kk pos) (Rl c1 c2) [z,TI,TO,i1,i2] z (λk h=>YD h z TI TO .none/\Xe h TI (.ref i1) (.ref i2)/\(∃a b,Xe h TO a b)/\S1 k h/\S2 k h) where
 mem:=by simp
 obj:=λk h KS c hc=> by
  obtain⟨h1,h2,⟨a,b,h3⟩,h4,h5⟩ := KS;simp only[U1,VZ,or_false]at hc;rcases hc with rfl|rfl|rfl|rfl|rfl
  ·exact⟨_,h1,λv z=>by cases (show Data.fields _=Zs v from z)⟩
  ·exact⟨_,h2,λv z=>by cases (show Data.seq _ _=Zs v from z)⟩
  ·exact⟨_,h3,λv z=>by cases (show Data.seq _ _=Zs v from z)⟩
  ·exact s1.obj k h h4
  ·exact s2.obj k h h5
 keep:=λk h h' ⟨h1,h2,⟨a,b,h3⟩,h4,h5⟩ kp=>⟨kp z (by simp) _ h1,kp TI (by simp) _ h2,⟨a,b,kp TO (by simp) _ h3⟩,s1.keep k h h' h4 (λo e=>kp i1 (by simp) o e),s2.keep k h h' h5 λo e=>kp i2 (by simp) o e⟩
 item:=by
  intro X hP hw hK hc i pins s σ H E I hf st hg;obtain⟨g1,g2,⟨a,b,g3⟩,g4,g5⟩:=st;obtain⟨xs,ys,x,y,hx,hy,ex,ey⟩:=hg;obtain⟨vs,C1,r1,D1,k1⟩:=s1.at X pins σ H s xs hP hw hK I hx;obtain⟨us,C2,r2,D2,k2⟩:=s2.at X pins σ H s ys hP hw hK I hy;obtain⟨u,eu,ru⟩:=r1.get ex;obtain⟨v,ev,rv⟩:=r2.get ey;have sub:∀c∈[z,TO,i1,i2],c∈[z,TI,TO,i1,i2]:=λc hc=>by simp at hc ⊢;rcases hc with h|h|h|h <;> simp[h]
  refine yp Ap D1 D2 g1 g2 g3 g4 g5 k1 k2 eu ev λh' y1 y2 y3 y4 y5 y6=>?_;have I1:=I.BZ (fp:=[z,TI,TO,i1,i2]) hf (λc o E5 e=>y6 c o (λq=>E5 (sub c q)) e) ru rv y5;have nT:∀b∈[z,TI,TO,i1,i2],upd H s.heap.objs.size (.tup [x,y]) b=none:=λb hb=>by
   have:b≠s.heap.objs.size:=by
    have:=(show (∃o,s.heap.get? b=some o) from by
     simp only[U1,VZ,or_false]at hb;rcases hb with rfl|rfl|rfl|rfl|rfl
     ·exact⟨_,g1⟩
     ·exact⟨_,g2⟩
     ·exact⟨_,g3⟩
     ·exact⟨_,(s1.obj i _ g4).choose_spec.1⟩
     ·exact⟨_,(s2.obj i _ g5).choose_spec.1⟩)
    obtain⟨o,e⟩:=this;exact Vw (Vb e)
   rw[ar this];exact(hf b hb).1
  have T3:Xe h' TI (.ref i1) (.ref i2):=y6 TI _ (by
   have:=Ap.nd;simp only[Vt,U1,VZ,or_false,not_or]at this ⊢
   obtain⟨⟨q1,_⟩,⟨q2,q3,q4⟩,_⟩:=this;exact⟨V5 q1,q2,q3,q4⟩) g2
  refine⟨_,rfl,wpAny_letOwnedTupleGo_zip y1 λh'' z' sb=>?_⟩;have I2:Inv X pins σ (upd H s.heap.objs.size (.tup [x,y])) {s with heap:=h''}:=by
   refine I1.uZ (fp:=[z]) (λb hb=>?_) λc o E5 e=>sb.extBut _ _ (by simpa using E5) e
   have e:b=z:=by simpa using hb
   subst e;exact⟨nT b (by simp),(hf b (by simp)).2⟩
  have LJ:∀c∈[TI,TO,i1,i2],c≠z:=λc hc q=>by
   have:=Ap.nd;rw[Vt]at this;exact this.1 (by rw[<- q];exact hc)
  refine⟨.ref s.heap.objs.size,_,I2,rfl,⟨s.heap.objs.size,I.br.fresh (UU _),rfl,λMH Ru yf N9=>?_⟩,⟨z',sb.extBut _ _ (LJ TI (by simp)) T3,⟨_,_,sb.extBut _ _ (LJ TO (by simp)) y2⟩,s1.keep _ _ _ y3 (λo e=>sb.extBut _ _ (LJ i1 (by simp)) e),s2.keep _ _ _ y4 λo e=>sb.extBut _ _ (LJ i2 (by simp)) e⟩,nT⟩
  rw[s1.inj H MH xs yf hx,s2.inj H Ru ys N9 hy];exact⟨x,y,ex,ey,rfl⟩
 done:=by
  intro X hP hw hK hc i pins s σ H E I hf st hg;obtain⟨g1,g2,⟨a,b,g3⟩,g4,g5⟩:=st;obtain⟨xs,ys,hx,hy,ex⟩:=hg;obtain⟨vs,C1,r1,D1,k1⟩:=s1.at X pins σ H s xs hP hw hK I hx;obtain⟨us,C2,r2,D2,k2⟩:=s2.at X pins σ H s ys hP hw hK I hy;have sub:∀c∈[z,TO,i1,i2],c∈[z,TI,TO,i1,i2]:=λc hc=>by simp at hc ⊢;rcases hc with h|h|h|h <;> simp[h]
  refine BP Ap D1 D2 (I.ok.hd hc) g1 g2 g3 g4 g5 k1 k2 (ex.imp (λq=>r1.none_of q) λq=>r2.none_of q) λh' y6=>?_;exact⟨rfl,I.uZ (fp:=[z,TI,TO,i1,i2]) hf λc o E5 e=>y6 c o (λq=>E5 (sub c q)) e⟩
 self:=λA i s Q E ⟨h1,_⟩ q=>wpAny_pyIter_zip h1 q
theorem HZ:VM "zip" = some (.type "zip"):=by decide +kernel
def hZ:List D->List D->List D
 |a::as,b::bs=>.tup [a,b]::hZ as bs
 |_,_=>[]
theorem kK:∀{as bs:List D} {i:Nat} {d:D},(hZ as bs)[i]?=some d->∃a b,as[i]?=some a/\bs[i]?=some b/\d=.tup [a,b]
 |[],_,_,_,h=>by simp[hZ]at h
 |_::_,[],_,_,h=>by simp[hZ]at h
 |a::as,b::bs,0,_,h=>by simp[hZ]at h;exact⟨a,b,rfl,rfl,h.symm⟩
 |a::as,b::bs,i+1,_,h=>by
  obtain⟨x,y,h1,h2,h3⟩:=kK (as:=as) (bs:=bs) (i:=i) (by simpa[hZ] using h)
  exact⟨x,y,by simpa using h1,by simpa using h2,h3⟩
theorem ql:∀(as bs:List D),(hZ as bs).length=min as.length bs.length
 |[],_=>by simp[hZ]
 |_::_,[]=>by simp[hZ]
 |a::as,b::bs=>by simp[hZ,ql as bs]
section
variable {X:Cx}{W:Addr->Prop}{H:Hp}{l1 l2:Addr}{xs ys:List V}{ds es:List D}
def uT (t:Bool)(l:Addr):Mp:=λH xs=>if t=true then H l=some (.tup xs) else H l=some (.lst xs)
theorem Dq (t:Bool)(h1:uT t l1 H xs)(h2:uT t l2 H ys)(n1:t=false->¬ W l1)(n2:t=false->¬ W l2)(r1:iU X W H ds xs)(r2:iU X W H es ys):xZ X W (Rl (uT t l1) (uT t l2)) (hZ ds es) H:=λW' hW i H' k=>by
 have st:∀{l:Addr} {xs:List V},uT t l H xs->(t=false->¬ W l)->uT t l H' xs:=λ{l xs} h n=>by
  unfold uT at h ⊢
  cases t with
  |true=>exact k.tup l xs h
  |false=>exact k.out l _ h λz=>(hW l z).elim (n rfl) λq=>by rw[show H l=some (HO.lst xs) from h]at q;cases q
 have inj:∀{l:Addr} {xs ys:List V},uT t l H' xs->uT t l H' ys->xs=ys:=λ{l xs ys} a b=>by
  unfold uT at a b;cases t with
  |true=>rw[show H' l=some (HO.tup xs) from a]at b;cases b;rfl
  |false=>rw[show H' l=some (HO.lst xs) from a]at b;cases b;rfl
 have q1:=(aj.grow hW r1).keep k;have q2:=(aj.grow hW r2).keep k;constructor
 ·intro d hd;obtain⟨a,b,ha,hb,rfl⟩:=kK hd;obtain⟨x,ex,rx⟩:=aj.get q1 ha;obtain⟨y,ey,ry⟩:=aj.get q2 hb;refine⟨⟨xs,ys,x,y,st h1 n1,st h2 n2,ex,ey⟩,λv H1 ⟨T,hT,e,yl⟩=>?_⟩;obtain⟨x',y',Rb,Ra,eH⟩:=yl xs ys (st h1 n1) (st h2 n2);rw[ex]at Rb;rw[ey]at Ra;cases Rb;cases Ra;subst e eH;exact⟨ay.new hT,Rp.Fz hT (.cons rx (.cons ry .nil))⟩
 ·intro hl;rw[ql]at hl;have z1:=q1.length;have z2:=q2.length;refine⟨xs,ys,st h1 n1,st h2 n2,?_⟩
  by_cases h:ds.length<=i
  ·exact .inl (VT (by lia))
  ·exact .inr (VT (by lia))
variable {φs:sU}{elts:List Expr}{kk:Nat}{FC:Pos}
def N4 (φs:sU):Ib:=λρ R=>φs ρ λl=>∃as bs,(l=[.lst as,.lst bs]\/l=[.tup as,.tup bs])/\R (hZ as bs)
theorem yO {P:U0}{w:Vf}{K:PySem.W.Frag}{i l:Addr}(t:Bool):∃S:Nat->Heap->Prop,Src P w K i l (uT t l) S/\∀h,(t=true->h.IsTupleIter i l 0)->(t=false->h.IsListIter i l 0)->S 0 h:=by
 cases t with
 |true=>exact⟨_,B8,λh a b=>a rfl⟩
 |false=>exact⟨_,src_list,λh a b=>b rfl⟩
theorem Co {a b:Expr} {p pos:Pos} (hm:X.mg "zip" = none) (ha:LC X [a,b] φs) (hg:Gl X "zip" := by rfl) (hs:Ve [a,b] X.env=[(false,eval a X.env),(false,eval b X.env)]:=by rfl) (s_:Ve [b] X.env=[(false,eval b X.env)]:=by rfl) :
  Ri X (.Tuple elts kk FC) (.Call (.Name "zip" p) [a,b] [] pos) (N4 φs):=by
 refine⟨λρ R R' k q=>ha.mono ρ _ _ (λl KR=> by obtain⟨as,bs,e,q⟩ := KR;exact⟨as,bs,e,k _ q⟩) q,λpins s σ H R I ⟨W,ρ,se,q⟩=>?_⟩
 refine Call_ (gP I hg hm HZ (WE (bC (ha.pa pos pins s σ H _ I (I9.of ha se q λds vs H1 h s1 r1=>(⟨ds,h,s1,r1⟩:∃ds,(∃as bs,(ds=[.lst as,.lst bs]\/ds=[.tup as,.tup bs])/\∀J H',ay H H'->xZ X W J (hZ as bs) H'->R J H')/\ay H H1/\iU X W H1 ds vs)))
  λus s1 ⟨vs,H1,I1,rv,h⟩=>?_) (by rw[hs,s_]) (by rw[s_];rfl)))
 obtain⟨ds,⟨as,bs,e,q⟩,sm,r1⟩:=h;have main:∀(t:Bool) (l1 l2:Addr) (xs ys:List V),vs=[.ref l1,.ref l2]->uT t l1 H1 xs->uT t l2 H1 ys->(t=false->¬ W l1)->(t=false->¬ W l2)->iU X W H1 as xs->iU X W H1 bs ys ->
   Vq (model X.prog X.w) X.A (call (.type "zip") us) (λv s1=>Vq (model X.prog X.w) X.A (Yo v) (Ie X pins σ (.Tuple elts kk FC) R) X.xe s1) X.xe s1:=by
  intro t l1 l2 xs ys ev g1 g2 n1 n2 w1 w2;subst ev;have it:=Dq t g1 g2 n1 n2 w1 w2;obtain⟨v1,v2,rfl,e1,e2⟩:∃v1 v2,us=[v1,v2]/\RelV (.ref l1) v1/\RelV (.ref l2) v2:=by
   cases rv with
   |cons a rr=>cases rr with
    |cons b rr=>cases rr;exact⟨_,_,rfl,a,b⟩
  cases e1;cases e2;have NT:l1<s1.heap.objs.size:=I1.br.lt (o:=if t=true then .tup xs else .lst xs) (by unfold uT at g1;cases t <;> exact g1)
  have NS:l2<s1.heap.objs.size:=I1.br.lt (o:=if t=true then .tup ys else .lst ys) (by unfold uT at g2;cases t <;> exact g2)
  have Ap:Apart (s1.heap.objs.size+4) (s1.heap.objs.size+2) (s1.heap.objs.size+3) s1.heap.objs.size (s1.heap.objs.size+1) l1 l2:=by
   generalize s1.heap.objs.size=n at NT NS
   change (l1:Nat)<n at NT
   change (l2:Nat)<n at NS
   refine⟨?_,λc hc=>?_,λc hc=>?_⟩
   ·have q:∀(i j:Nat),i≠j->(n+i:Nat)≠n+j:=λi j h z=>h (Nat.add_left_cancel z);simp only[Vt,U1,VZ,or_false,not_or,VQ,not_false_eq_true,and_true];exact⟨⟨q 4 2 (by decide),q 4 3 (by decide),q 4 0 (by decide),q 4 1 (by decide)⟩,⟨q 2 3 (by decide),q 2 0 (by decide),q 2 1 (by decide)⟩,⟨q 3 0 (by decide),q 3 1 (by decide)⟩,q 0 1 (by decide)⟩
   ·simp only[U1,VZ,or_false]at hc;rcases hc with rfl|rfl|rfl|rfl <;> exact Vw (Vy NT (by first|exact Ym _ _|exact UU _))
   ·simp only[U1,VZ,or_false]at hc;rcases hc with rfl|rfl|rfl|rfl <;> exact Vw (Vy NS (by first|exact Ym _ _|exact UU _))
  obtain⟨S1,MY,z1⟩:=yO (P:=X.prog) (w:=X.w) (K:=X.K) (i:=s1.heap.objs.size) (l:=l1) t;obtain⟨S2,MX,z2⟩:=yO (P:=X.prog) (w:=X.w) (K:=X.K) (i:=s1.heap.objs.size+1) (l:=l2) t;have fin:∀h',YD h' (s1.heap.objs.size+4) (s1.heap.objs.size+2) (s1.heap.objs.size+3) .none->Xe h' (s1.heap.objs.size+2) (.ref s1.heap.objs.size) (.ref (s1.heap.objs.size+1))->Xe h' (s1.heap.objs.size+3) .none .none ->
    S1 0 h'->S2 0 h'->(∀c o,s1.heap.get? c=some o->h'.get? c=some o)->Vq (model X.prog X.w) X.A (Yo (.ref (s1.heap.objs.size+4))) (Ie X pins σ (.Tuple elts kk FC) R) X.xe {s1 with heap:=h'}:=λh' y1 y2 y3 y4 y5 y6=>by
   refine wpAny_pyIter_zip y1 ?_;have I2:Inv X pins σ H1 {s1 with heap:=h'}:=I1.kept (t':=s1.toks) y6
   refine⟨_,_,_,_,H1,rfl,I2,yC Ap MY MX,⟨y1,y2,⟨_,_,y3⟩,y4,y5⟩,λb hb=>?_,q _ _ sm it⟩;have me:s1.heap.objs.size<=b:=by
    simp only[U1,VZ,or_false]at hb;rcases hb with rfl|rfl|rfl|rfl|rfl <;> first|exact Ym _ _|exact UU _
   exact I1.xD me (I1.br.fresh me)
  cases t with
  |true =>
   obtain⟨J0,_,p1,_⟩:=I1.tuple (qj.of (show H1 l1=some (.tup xs) from g1))
   obtain⟨ng,_,p2,_⟩:=I1.tuple (qj.of (show H1 l2=some (.tup ys) from g2))
   exact yo (show s1.heap.IsTuple l1 J0.toArray from p1) (show s1.heap.IsTuple l2 ng.toArray from p2) λh' y1 y2 y3 y4 y5 y6=>fin h' y1 y2 y3 (z1 h' (λ_=>y4) λz=>by cases z) (z2 h' (λ_=>y5) λz=>by cases z) y6
  |false =>
   obtain⟨J0,_,p1,_⟩:=I1.list (cP.of (show H1 l1=some (.lst xs) from g1))
   obtain⟨ng,_,p2,_⟩:=I1.list (cP.of (show H1 l2=some (.lst ys) from g2))
   exact call_zip_2 p1.isList p2.isList λh' y1 y2 y3 y4 y5 y6 y7=>fin h' y1 y2 y3 (z1 h' (λz=>by cases z) λ_=>y4) (z2 h' (λz=>by cases z) λ_=>y5) y7
 rcases e with rfl|rfl
 ·obtain⟨x,y,rfl,⟨l1,xs,rfl,g1,n1,w1⟩,⟨l2,ys,rfl,g2,n2,w2⟩⟩:=oW r1;exact main false l1 l2 xs ys rfl g1 g2 (λ_=>n1) (λ_=>n2) w1 w2
 ·obtain⟨x,y,rfl,⟨l1,xs,rfl,g1,w1⟩,⟨l2,ys,rfl,g2,w2⟩⟩:=oW r1;exact main true l1 l2 xs ys rfl g1 g2 (λz=>by cases z) (λz=>by cases z) w1 w2
end
section
end
theorem bF {lo:Int}{n i:Nat}{d:D}(h:(pC lo n)[i]?=some d):i<n/\d=.int (lo+i):=by
 unfold pC at h;rw[U8]at h;have hi:i<n:=by
  by_cases hi:i<n
  ·exact hi
  ·rw[VT (by simpa using hi)]at h;cases h
 rw[WD hi]at h;cases h;exact⟨hi,rfl⟩
theorem cv {lo:Int}{n:Nat}:(pC lo n).length=n:=by unfold pC;simp
section
end
structure Df (K:PySem.W.Frag)(mg:Str->Option UT)(x:Str)(st:Stmt)(ps:List Str)(f:Addr)(fd:VL):Prop where
 F:BO K x x st f fd
 b:Binds K fd ps []
 m:mg x=some (.ref f)
structure Bs (mg:Str->Option UT):Prop where
 max:mg "max" = none
 min:mg "min" = none
 int:mg "int" = none
 range:mg "range" = none
 sorted:mg "sorted" = none
 set:mg "set" = none
 len:mg "len" = none
 list:mg "list" = none
theorem H9:VM "set" = some (.type "set"):=by decide +kernel
theorem dh.BY {k:Nat}{A:VW}(r:dh k A):A.units+16<XO:=by have:=r.un;lia
def PY (n:Int)(t:List Int):Prop:=∃a b,t=[a,b]/\0<=a/\a<b/\b<n
theorem PY.ne {n:Int}{t:List Int}(h:PY n t):t≠[]:=by
 obtain⟨a,b,rfl,_⟩:=h;intro z;cases z
def bz (n:Int)(ts:List (List Int)):Prop:=∀t∈ts,PY n t
theorem bz.ne {n:Int}{ts:List (List Int)}(h:bz n ts):∀k∈ts,k≠[]:=λk hk=>(h k hk).ne
theorem bz.nil {n:Int}:bz n []:=λ_ z=>(nomatch z)
theorem bz.app {n:Int}{ts us:List (List Int)}(h:bz n ts)(h':bz n us):bz n (ts++us):=λt ht=>(Vg.mp ht).elim (h t) (h' t)
theorem bz.one {n:Int}{a b:Int}(h1:0<=a)(h2:a<b)(h3:b<n):bz n [[a,b]]:=λt ht=>by
 rw[U9.mp ht];exact⟨a,b,rfl,h1,h2,h3⟩
theorem eV (ts:List (List Int)):D.bY (ts.map kD)=true:=by
 have fi:∀k:List Int,D.bY (k.map D.int)=true:=λk=>by
  induction k with
  |nil=>rfl
  |cons i k ih=>show (D.flat (.int i)&&D.bY (k.map D.int))=true;rw[ih];rfl
 induction ts with
 |nil=>rfl
 |cons t ts ih =>
  show (D.flat (kD t)&&D.bY (ts.map kD))=true;rw[ih];show (D.bY (t.map D.int)&&true)=true;rw[fi];rfl
theorem tT {ts:List (List Int)}(h:∀k∈ts,k≠[])(l:ts.length<=1000000):(match [D.lst (ts.map kD)]with | [.lst ds]=>pZ [.lst ds]|_=>none)=some (.lst ((gC ts).map kD)):=by
 show (match d7 (ts.map kD)with|some ks=>if ks.length<=1000000 then some (D.lst ((gC ks).map kD)) else none|none=>none)=_
 rw[jq h];show (if ts.length<=1000000 then some (D.lst ((gC ts).map kD)) else none)=_
 rw[if_pos l]
theorem yM {n:Int}{ts:List (List Int)}(h:bz n ts):bz n (gC ts):=λt ht=>h t ((eO ts).mem_iff.mp ht)
theorem yY {ts:List (List Int)}(h:∀k∈ts,k≠[])(l:ts.length<1000):Fc [.lst (ts.map kD)]=some (.sT (nv ts)):=by
 show (match d7 (ts.map kD)with|some ks=>if ks.length<1000 then some (D.sT (nv ks)) else none|none=>none)=_
 rw[jq h];show (if ts.length<1000 then some (D.sT (nv ts)) else none)=_
 rw[if_pos l]
theorem tS {ts:List (List Int)}(h:∀k∈ts,k≠[])(l:ts.length<1000):(match [D.sT (nv ts)]with | [.sT ts]=>pZ [.sT ts]|_=>none)=some (.lst ((gC (nv ts)).map kD)):=by
 show (if (nv ts).length<=1000/\(∀k∈nv ts,k≠[]) then some (D.lst ((gC (nv ts)).map kD)) else none)=_
 rw[if_pos ⟨by have:=vV ts;lia,λk hk=>h k (((f_ ts).2 k).mp hk)⟩]
def si:FD:=λds R=>∃n:Int,ds=[.int n]/\0<=n/\n<=1000/\∀ts:List (List Int),ts.length<=n.toNat->bz n ts->R (.lst (ts.map kD))
theorem si.mono:dy si:=λds R R' k ⟨n,e,h1,h2,q⟩=>⟨n,e,h1,h2,λts a b=>k _ (q ts a b)⟩
def Drawn (n:Int)(ts:List (List Int)):Prop:=ts.length<=300/\bz n ts/\sR ts/\ts.Nodup
def rZ:FD:=λds R=>∃n:Int,ds=[.int n]/\2<=n/\n<=40/\∀ts,Drawn n ts->R (.lst (ts.map kD))
theorem rZ.mono:dy rZ:=λds R R' k ⟨n,e,h1,h2,q⟩=>⟨n,e,h1,h2,λts a=>k _ (q ts a)⟩
def AW:FD:=λds R=>ds=[]/\∀(n:Int) ts,0<=n->n<=40->Drawn n ts->R (.tup [.int n,.lst (ts.map kD)])
theorem AW.mono:dy AW:=λds R R' k ⟨e,q⟩=>⟨e,λn ts a b c=>k _ (q n ts a b c)⟩
theorem A8 {n:Int}{ks:List (List Int)}(h:bz n ks):∃ts,cutD ((gC (nv ks)).map kD) none (some 300)=ts.map kD/\Drawn n ts:=by
 refine⟨(gC (nv ks)).take (min 300 (gC (nv ks)).length),?_,?_,?_,?_,?_⟩
 ·unfold cutD;rw[HT.za,show (some (300:Int))=some ((300:Nat):Int) from rfl,HT.Ci,ZQ,<- Y0]
  simp
 ·rw[Vl];lia
 ·exact λt ht=>h t (((f_ ks).2 t).mp ((eO _).mem_iff.mp (List.mem_of_mem_take ht)))
 ·exact List.Pairwise.take (k7 _)
 ·exact List.Nodup.sublist (List.take_sublist _ _) ((eO _).nodup_iff.mpr (f_ ks).1)
theorem kg {fs:List (List Int)}{t:List Int}:(fs++[t]).map kD=fs.map kD++[kD t]:=by simp
theorem yT {fs:List Int}{t:Int}:(fs++[t]).map D.int=fs.map D.int++[D.int t]:=by simp
theorem i4 {a b:D}:[a,b].length<=U_:=by show 2<=U_;decide
theorem RJ {a b c:D}:[a,b,c].length<=U_:=by show 3<=U_;decide
theorem B4 {a:D}:[a].length<=U_:=by show 1<=U_;decide
theorem s9 {b:Bool}{p q:Prop}(hb:b=true)(h:p):(if b=true then p else q):=by rw[if_pos hb];exact h
theorem gy {b:Bool}{p q:Prop}(hb:b=false)(h:q):(if b=true then p else q):=by rw[hb,if_neg (by simp)];exact h
theorem ni {c:Prop}[Decidable c]{p q:Prop}(h1:c->p)(h2:¬ c->q):(if decide c=true then p else q):=by
 by_cases h:c
 ·exact s9 (by simp[h]) (h1 h)
 ·exact gy (by simp[h]) (h2 h)
theorem SD {c:Prop}[Decidable c]{p q:Prop}(h1:¬ c->p)(h2:c->q):(if (!decide c)=true then p else q):=by
 by_cases h:c
 ·exact gy (by simp[h]) (h2 h)
 ·exact s9 (by simp[h]) (h1 h)
theorem iw {α:Type}(f:α->D):∀l:List α,D.sZ (l.map f)=l.map λa=>(f a).pd
 |[]=>rfl
 |a::l=>by
  show (f a).pd::D.sZ (l.map f)=_;rw[iw f l];rfl
theorem jA {n:Nat}:∀{xs:List PyData},(∀x∈xs,x.canLay0=true/\x.depth<=n)->Xz xs=true/\XH xs<=n
 |[],_=>⟨by simp[Xz],by simp[XH]⟩
 |x::xs,h=>by
  obtain⟨h1,h2⟩:=jA (n:=n) (xs:=xs) λy hy=>h y (by simp[hy])
  obtain⟨g1,g2⟩:=h x (by simp)
  refine⟨by simp[Xz,h1,g1],?_⟩
  simp only[XH];lia
theorem nN {n:Nat}{ds:List D}(h:∀d∈ds,d.pd.canLay0=true/\d.pd.depth<=n):(D.tup ds).pd.canLay0=true/\(D.tup ds).pd.depth<=n+1:=by
 have e:D.sZ ds=ds.map λd=>d.pd:=by
  have:=iw (λd:D=>d) ds;simpa using this
 obtain⟨h1,h2⟩:=jA (n:=n) (xs:=D.sZ ds) λx hx=>by
  rw[e]at hx;obtain⟨d,hd,rfl⟩:=Vx.mp hx;exact h d hd
 refine⟨by simpa[D.pd,Wm] using h1,?_⟩
 have:(D.tup ds).pd.depth=XH (D.sZ ds)+1:=by simp[D.pd,Yq]
 lia
theorem gg {n:Nat}{ds:List D}(h:∀d∈ds,d.pd.canLay0=true/\d.pd.depth<=n):(D.lst ds).pd.canLay0=true/\(D.lst ds).pd.depth<=n+1:=by
 have e:D.sZ ds=ds.map λd=>d.pd:=by
  have:=iw (λd:D=>d) ds;simpa using this
 obtain⟨h1,h2⟩:=jA (n:=n) (xs:=D.sZ ds) λx hx=>by
  rw[e]at hx;obtain⟨d,hd,rfl⟩:=Vx.mp hx;exact h d hd
 refine⟨by simpa[D.pd,Wm] using h1,?_⟩
 have:(D.lst ds).pd.depth=XH (D.sZ ds)+1:=by simp[D.pd,Yq]
 lia
theorem bL (i:Int):(D.int i).pd.canLay0=true/\(D.int i).pd.depth<=1:=⟨by simp[D.pd,Wm],by simp[D.pd,Yq]⟩
theorem qA (b:Bool):(D.bl b).pd.canLay0=true/\(D.bl b).pd.depth<=1:=⟨by simp[D.pd,Wm],by simp[D.pd,Yq]⟩
theorem yU (t:List Int):(kD t).pd.canLay0=true/\(kD t).pd.depth<=2:=nN λd hd=>by
 obtain⟨i,_,rfl⟩:=Vx.mp hd;exact bL i
theorem tU (ts:List (List Int)):(D.lst (ts.map kD)).pd.canLay0=true/\(D.lst (ts.map kD)).pd.depth<=3:=gg λd hd=>by
 obtain⟨i,_,rfl⟩:=Vx.mp hd;exact yU i
theorem fb (ts:List Int):(D.lst (ts.map D.int)).pd.canLay0=true/\(D.lst (ts.map D.int)).pd.depth<=2:=gg λd hd=>by
 obtain⟨i,_,rfl⟩:=Vx.mp hd;exact bL i
theorem fN {d:D}{n:Nat}(h:d.pd.canLay0=true/\d.pd.depth<=n)(hn:n<=64:=by decide):d.Cd=true:=by
 show (d.pd.canLay0&&decide (d.pd.depth<=64))=true;rw[h.1,decide_eq_true (by lia)]
 rfl
theorem mD {α:Type}[DecidableEq α]{f:α->PyData}(hf:∀a b,Xh (f a) (f b)=decide (a=b)):∀xs ys:List α,Ye (xs.map f) (ys.map f)=decide (xs=ys)
 |[],[]=>by simp[Ye]
 |[],_::_=>by simp[Ye]
 |_::_,[]=>by simp[Ye]
 |x::xs,y::ys=>by
  simp only[Vo,Ye];rw[hf,mD hf xs ys]
  by_cases h1:x=y
  ·by_cases h2:xs=ys <;> simp[h1,h2]
  ·simp[h1]
theorem vQ (i j:Int):Xh (D.int i).pd (D.int j).pd=decide (i=j):=by
 simp only[D.pd,Xh]
 by_cases h:i=j <;> simp[h]
theorem AX (ts us:List Int):Xh (D.lst (ts.map D.int)).pd (D.lst (us.map D.int)).pd=decide (ts=us):=by
 show Xh (.list (D.sZ (ts.map D.int))) (.list (D.sZ (us.map D.int)))=_;rw[iw,iw];simp only[Xh];exact mD vQ ts us
theorem Bd {a b:D}{c:Bool}(h1:a.Cd=true)(h2:b.Cd=true)(e:Xh a.pd b.pd=c):Lv a b=some (.bl c):=by
 unfold Lv;rw[if_pos ⟨h1,h2⟩,e]
theorem Ba {a b:D}{c:Bool}(h1:a.Cd=true)(h2:b.Cd=true)(e:Xh a.pd b.pd=c):Lp a b=some (.bl (!c)):=by
 unfold Lp;rw[if_pos ⟨h1,h2⟩,e]
theorem cg (i j:Int):Lv (.int i) (.int j)=some (.bl (decide (i=j))):=Bd (fN (bL i)) (fN (bL j)) (vQ i j)
theorem Bb (ts us:List Int):Lp (.lst (ts.map D.int)) (.lst (us.map D.int))=some (.bl (!decide (ts=us))):=Ba (fN (fb ts)) (fN (fb us)) (AX ts us)
theorem PN {α:Type}{ds:List α}{i:Nat}{d:α}(h:ds[i]?=some d):nB ds (i:Int)=some d:=by
 have hl:i<ds.length:=(U3.mp h).1;unfold nB vG;rw[if_pos (by lia),if_pos (by lia),Xf]
 exact h
theorem Bt {α:Type}{ds:List α}{i:Int}(h0:0<=i)(h1:i<ds.length):∃d∈ds,nB ds i=some d/\ds[i.toNat]?=some d:=by
 have hl:i.toNat<ds.length:=by lia
 refine⟨ds[i.toNat],W9 hl,?_,U6 hl⟩;have:=PN (ds:=ds) (i:=i.toNat) (U6 hl)
 rwa [show ((i.toNat:Nat):Int)=i by lia]at this
theorem DZ {ds:List D}{i:Nat}{d:D}(h:ds[i]?=some d):mV (.lst ds) (.int (i:Int))=some d:=PN h
theorem pick {ds:List D}{r:Int}{p:D->Prop}(h0:0<=r)(h1:r<ds.length)(h:∀d∈ds,p d):∃d,mV (.lst ds) (.int r)=some d/\p d:=by
 obtain⟨d,hd,e,_⟩:=Bt h0 h1;exact⟨d,e,h d hd⟩
theorem sC {ks:List Int}{i:Int}(h0:0<=i)(h1:i<ks.length):∃r∈ks,mV (.lst (ks.map D.int)) (.int i)=some (.int r):=by
 obtain⟨r,hr,e,e'⟩:=Bt h0 h1;refine⟨r,hr,?_⟩;show nB (ks.map D.int) i=_;have:=PN (ds:=ks.map D.int) (i:=i.toNat) (d:=.int r) (by rw[U8,e'];rfl)
 rwa [show ((i.toNat:Nat):Int)=i by lia]at this
def MJ:D->Option String
 |.bK=>some "NoneType"
 |.bl _=>some "bool"
 |.int _=>some "int"
 |.str _=>some "str"
 |.tup _=>some "tuple"
 |.lst _=>some "list"
 |_=>none
section
variable {X:Cx}{W:Addr->Prop}{H:Hp}{pins:List (Addr×Obj)}{σ:St}{s:UW}
theorem Rp.ty {d:D}{v:V}{T:String}(h:Rp X W H d v)(e:MJ d=some T):gZ X.K H v (.type T):=by
 cases d with
 |bK=>cases h;cases e;exact .bK
 |bl b=>cases h;cases e;exact .bl _
 |int b=>cases h;cases e;exact .int _
 |str b=>cases h;cases e;exact .str _
 |tup ds=>obtain⟨a,vs,rfl,h1,_⟩:=h;cases e;exact .tup h1
 |lst ds=>obtain⟨a,vs,rfl,h1,_⟩:=h;cases e;exact .lst h1
 |_=>cases e
theorem xR:eY X (.builtin "isinstance") (λxs H Q=>∃x p n1 n2 T k,xs=[x,.ref p]/\H p=some (.tup [.ty n1,.ty n2])/\gZ X.K H x (.type T)/\PySem.W.kitAny X.K (.type T) [.type n1,.type n2]=some k/\Q (.bl k) H):=by
 intro pins s σ H xs us Q I r h;obtain⟨x,p,n1,n2,T,k,rfl,hp,ty,e,q⟩:=h;obtain⟨u,w',rfl,r1,r2⟩:=vals2 r;cases (show w'=Value.ref p from r2)
 obtain⟨_,its,rv,o,ho,hc,n,hd⟩:=(show bb X.prog X.w H s.heap p (.tup [.ty n1,.ty n2]) from I.br p _ hp)
 obtain⟨u1,u2,rfl,e1,e2⟩:∃u1 u2,its=[u1,u2]/\RelV (.ty n1) u1/\RelV (.ty n2) u2:=by
  cases rv with
  |cons a rr=>cases rr with
   |cons b rr=>cases rr;exact⟨_,_,rfl,a,b⟩
 cases (show u1=Y3 n1 from e1)
 cases (show u2=Y3 n2 from e2)
 obtain⟨c,dd,dt,sl⟩:=o;simp only at hc hd;subst hc hd;have fin:∀tk,EP X pins σ Q (.bool k) {s with toks:=tk}:=λtk=>⟨.bl k,H,I.tok _,rfl,q⟩
 cases ty with
 |bK=>cases (show u=Value.none from r1);exact PySem.W.kia_tup PySem.W.kitx_none I.jr WL ho e (λz=>nomatch z) fin
 |bl y=>cases (show u=Value.bool y from r1);exact PySem.W.kia_tup PySem.W.kitx_bool I.jr WL ho e (λz=>nomatch z) fin
 |int i=>obtain⟨t,q⟩:=(show ∃t,u=Value.int i t from r1);cases q;exact PySem.W.kia_tup PySem.W.kitx_int I.jr WL ho e (λz=>nomatch z) fin
 |str y=>obtain⟨t,q⟩:=(show ∃t,u=Value.str y t from r1);cases q;exact PySem.W.kia_tup PySem.W.kitx_str I.jr WL ho e (λz=>nomatch z) fin
 |HJ y=>obtain⟨t,q⟩:=(show ∃t,u=Value.float y t from r1);cases q;exact PySem.W.kia_tup PySem.W.kitx_float I.jr WL ho e (λz=>nomatch z) fin
 | @lst a xs ea =>
  cases (show u=Value.ref a from r1)
  obtain⟨_,_,n,_,h1⟩:=(show bb X.prog X.w H s.heap a (.lst xs) from I.br a _ ea)
  exact PySem.W.kia_tup PySem.W.kitx_list I.jr ⟨_,h1,rfl⟩ ho e (λz=>nomatch z) fin
 | @tf a ob xs ea =>
  cases (show u=Value.ref a from r1)
  obtain⟨_,_,_,n,_,h1⟩:=(show bb X.prog X.w H s.heap a (.tf ob (.lst xs)) from I.br a _ ea)
  exact PySem.W.kia_tup PySem.W.kitx_list I.jr ⟨_,h1,rfl⟩ ho e (λz=>nomatch z) fin
 | @tup a xs ea =>
  cases (show u=Value.ref a from r1)
  obtain⟨_,_,_,p⟩:=(show bb X.prog X.w H s.heap a (.tup xs) from I.br a _ ea)
  obtain⟨o,h1,h2,_⟩:=p;exact PySem.W.kia_tup PySem.W.kitx_tuple I.jr ⟨o,h1,h2⟩ ho e (λz=>nomatch z) fin
 | @dK a kvs ea =>
  cases (show u=Value.ref a from r1)
  obtain⟨_,_,vs,_,p⟩:=(show bb X.prog X.w H s.heap a (.dK kvs) from I.br a _ ea)
  obtain⟨o,es,ep,h1,h2,_⟩:=p;exact PySem.W.kia_tup PySem.W.kitx_dict I.jr ⟨o,h1,h2.1⟩ ho e (λz=>nomatch z) fin
 | @dT a kvs ea =>
  cases (show u=Value.ref a from r1)
  obtain⟨_,_,xs,_,o,es,ep,h1,h2,_⟩:=(show bb X.prog X.w H s.heap a (.dT kvs) from I.br a _ ea)
  exact PySem.W.kia_tup PySem.W.kitx_dict I.jr ⟨o,h1,h2.1⟩ ho e (λz=>nomatch z) fin
end
section
variable {X:Cx}{a:Expr}{φ:Ic}{T T2:Str}{n n2:String}{p p2 p3 tp pos:Pos}{x1:Nat}
theorem gn (hm:X.mg "isinstance" = none) (ha:PV X a φ) (hT:X.mg T=none) (bT:VM T=some (.type n)) (hg:Gl X "isinstance" := by rfl) (O3:Gl X T:=by rfl) (OQ:T≠"__name__" := by decide) (O7:(T==("__debug__" : Str))=false:=by decide)
  (l8:Ve [a,.Name T p2] X.env=(false,eval a X.env)::Ve [.Name T p2] X.env:=by rfl) (Ha:Ve [.Name T p2] X.env=(false,eval (.Name T p2) X.env)::Ve [] X.env:=by rfl) (hpl:(W6 pos (Ve [.Name T p2] X.env)).any (·.1)=false:=by rfl) :
  PV X (.Call (.Name "isinstance" p) [a,.Name T p2] [] pos) (λρ R=>φ ρ λd=>∃t k,MJ d=some t/\PySem.W.kitOne X.K (.type t) (.type n)=some k/\R (.bl k)) :=
 ⟨λρ R R' k h=>ha.mono ρ _ _ (λd KQ=> by obtain⟨t,b,h1,h2,q⟩ := KQ;exact⟨t,b,h1,h2,k _ q⟩) h,
  (iu Bk hg hm Bp (bo ha.pe (bo (pI (v:=.ty n) O3 hT bT rfl OQ O7) cU Ha) l8) (he:=l8) (hpl:=hpl)).pre λσ H Q ⟨W,ρ,se,h⟩=>tD.of ha se h λd v H1 ⟨t,k,h1,h2,q⟩ s1 r1 =>
    ⟨v,n,_,k,rfl,r1.ty h1,h2,q _ H1 s1 rfl⟩⟩
theorem ve (hm:X.mg "isinstance" = none) (ha:PV X a φ) (hT:X.mg T=none) (bT:VM T=some (.type n)) (Tq:X.mg T2=none) (TY:VM T2=some (.type n2)) (hg:Gl X "isinstance" := by rfl) (O3:Gl X T:=by rfl) (OQ:T≠"__name__" := by decide) (O7:(T==("__debug__" : Str))=false:=by decide) (O2:Gl X T2:=by rfl) (OP:T2≠"__name__" := by decide) (O6:(T2==("__debug__" : Str))=false:=by decide)
  (l8:Ve [a,.Tuple [.Name T p2,.Name T2 p3] x1 tp] X.env=(false,eval a X.env)::Ve [.Tuple [.Name T p2,.Name T2 p3] x1 tp] X.env:=by rfl) (Ha:Ve [.Tuple [.Name T p2,.Name T2 p3] x1 tp] X.env=(false,eval (.Tuple [.Name T p2,.Name T2 p3] x1 tp) X.env)::Ve [] X.env:=by rfl) (hpl:(W6 pos (Ve [.Tuple [.Name T p2,.Name T2 p3] x1 tp] X.env)).any (·.1)=false:=by rfl)
  (uE:Ve [.Name T p2,.Name T2 p3] X.env=(false,eval (.Name T p2) X.env)::Ve [.Name T2 p3] X.env:=by rfl) (xA:Ve [.Name T2 p3] X.env=(false,eval (.Name T2 p3) X.env)::Ve [] X.env:=by rfl) :
  PV X (.Call (.Name "isinstance" p) [a,.Tuple [.Name T p2,.Name T2 p3] x1 tp] [] pos) (λρ R=>φ ρ λd=>∃t k,MJ d=some t/\PySem.W.kitAny X.K (.type t) [.type n,.type n2]=some k/\R (.bl k)) :=
 ⟨λρ R R' k h=>ha.mono ρ _ _ (λd KP=> by obtain⟨t,b,h1,h2,q⟩ := KP;exact⟨t,b,h1,h2,k _ q⟩) h,
  (iu xR hg hm Bp (bo ha.pe (bo (zC (bo (pI (v:=.ty n) O3 hT bT rfl OQ O7) (bo (pI (v:=.ty n2) O2 Tq TY rfl OP O6) cU xA) uE)) cU Ha) l8) (he:=l8) (hpl:=hpl)).pre λσ H Q ⟨W,ρ,se,h⟩=>tD.of ha se h λd v H1 ⟨t,k,h1,h2,q⟩ s1 r1 =>
    ⟨by show 2<=U_;decide,λp hp=>⟨v,p,n,n2,t,k,rfl,aw,Rp.ty (X:=X) (r1.same (ay.new hp)) h1,h2,q _ _ (s1.trans (ay.new hp)) rfl⟩⟩⟩
end
theorem Ah {K:PySem.W.Frag}:PySem.W.kitOne K (.type "list") (.type "list")=some true:=rfl
theorem Ae {K:PySem.W.Frag}:PySem.W.kitOne K (.type "tuple") (.type "list")=some false:=rfl
theorem kit_is {K:PySem.W.Frag}:PySem.W.kitOne K (.type "int") (.type "str")=some false:=rfl
theorem GS {K:PySem.W.Frag}:PySem.W.kitOne K (.type "NoneType") (.type "str")=some false:=rfl
theorem Ag {K:PySem.W.Frag}:PySem.W.kitOne K (.type "str") (.type "str")=some true:=rfl
theorem GU {K:PySem.W.Frag}:PySem.W.kitOne K (.type "int") (.type "int")=some true:=rfl
theorem GV {K:PySem.W.Frag}:PySem.W.kitOne K (.type "int") (.type "bool")=some false:=rfl
theorem Dl {K:PySem.W.Frag}:PySem.W.kitAny K (.type "int") [.type "list",.type "tuple"]=some false:=rfl
theorem Dj {K:PySem.W.Frag}:PySem.W.kitAny K (.type "str") [.type "list",.type "tuple"]=some false:=rfl
theorem Dk {K:PySem.W.Frag}:PySem.W.kitAny K (.type "NoneType") [.type "list",.type "tuple"]=some false:=rfl
theorem vD {K:PySem.W.Frag}:PySem.W.kitAny K (.type "tuple") [.type "list",.type "tuple"]=some true:=rfl
theorem vE {K:PySem.W.Frag}:PySem.W.kitAny K (.type "list") [.type "list",.type "tuple"]=some true:=rfl
end L2
namespace HT
open PySem PySem.Spec PyProof.Rows
theorem ml {α β:Type}{f g:α->Option β}:∀{l:List α},(∀x∈l,f x=g x)->l.filterMap f=l.filterMap g
 |[],_=>rfl
 |x::l,h=>by
  rw[VV,VV,h x (by simp),ml λy hy=>h y (by simp[hy])]
theorem zc {α:Type}(xs:List α):((UZ xs.length).filterMap λk=>xs[xs.length-1-k]?)=xs.reverse:=by
 have h:=pick_run xs.reverse.toArray 0 xs.length;rw[List.filterMap_map]at h;have e:((UZ xs.length).filterMap λk=>xs[xs.length-1-k]?)=(UZ xs.length).filterMap ((λx=>xs.reverse.toArray[x]?) ∘ λx=>0+x):=by
  refine ml λk hk=>?_;have Iw:=V8.mp hk;show _=xs.reverse.toArray[0+k]?;rw[YF,Xb,List.getElem?_reverse Iw]
 rw[e,h];simp only[ZQ];exact Wo (by simp)
theorem m7 (items:Array UT):slicePick items none none (some (-1))=items.toList.reverse.toArray:=by
 have e:(sliceRange (W_ none none (some (-1)) items.size).1 (W_ none none (some (-1)) items.size).2.1 (W_ none none (some (-1)) items.size).2.2)=(UZ items.size).map λk=>items.size-1-k:=by
  show sliceRange ((items.size:Int)-1) (-1) (-1)=_;unfold sliceRange;have c:(if (-1:Int)>0 then (if (items.size:Int)-1 < -1 then ((-1)-((items.size:Int)-1)+-1-1) / -1 else 0) else (if (items.size:Int)-1 > -1 then ((items.size:Int)-1-(-1)-(-1)-1) / (-(-1)) else 0)).toNat=items.size:=by
   rw[if_neg (by lia)]
   split
   ·rw[show (-(-1):Int)=1 by rfl,Int.ediv_one];lia
   ·lia
  simp only[c];refine VH λk hk=>?_;have:=V8.mp hk;lia
 unfold slicePick;rw[e,List.filterMap_map]
 congr 1
 have:=zc items.toList;rw[U4]at this;rw[<- this];refine ml λk hk=>?_;show items[items.size-1-k]?=_;rw[Vh]
section
end
end HT
namespace L2
open PySem PySem.Spec PySem.SeqAt PyProof.Rows
theorem aj.rev {P:U0}{w:Vf}{W:Addr->Prop}{H:Hp}:∀{ds:List D} {vs:List V},aj P w W H ds vs->aj P w W H ds.reverse vs.reverse
 |[],_,h=>by rw[show _=[] from h];rfl
 |d::ds,_,⟨v,r,e,h1,h2⟩=>by
  subst e;rw[X8,X8];exact(aj.rev h2).append (.one h1)
theorem Vals.rev:∀{xs:List V} {us:List UT},Vals xs us->Vals xs.reverse us.reverse
 |_,_,.nil=>.nil
 |_,_,.cons r t=>by
  rw[X8,X8];exact(Vals.rev t).append (.cons r .nil)
section
end
end L2
namespace L2.Q
open PySem PySem.Spec PySem.SeqAt PyProof.Rows
def allB (β:bg):yi:=β.map λb=>match b with|some (.val _ d)=>some d|some (.own d)=>some d|_=>none
def Fx (β:bg):yi:=β.map λb=>match b with|some (.val _ d)=>some d|_=>none
section
variable {P:U0}{w:Vf}{C:Cfg}{σ:St}{H:Hp}{β:bg}{own:Nat->List Addr}{i:Nat}
theorem bR.M3 (s:bR P w C σ H β own):IK P w (λ_=>False) σ H (allB β):=⟨λa z=>z.elim,λi d e=>by
 unfold allB at e;rw[U8]at e;cases q:β[i]? with
 |none=>rw[q]at e;cases e
 |some x =>
  rw[q]at e;cases x with
  |none=>cases e
  |some x =>
   cases x with
   |val y d'=>cases e;obtain⟨v,h1,h2⟩:=s.val i y d q;exact⟨v,h1,h2.aW λ_ z=>z.elim⟩
   |own d'=>cases e;obtain⟨v,h1,h2,_⟩:=s.ow i d q;exact⟨v,h1,h2.rep λ_ _ z=>z⟩
   |hand ok=>cases e
   |shl y d=>cases e⟩
theorem bR.M1 (s:bR P w C σ H β own):IK P w (av C (Wn own) .old) σ H (Fx β):=⟨s.A_ .old,λi d e=>by
 unfold Fx at e;rw[U8]at e;cases q:β[i]? with
 |none=>rw[q]at e;cases e
 |some x =>
  rw[q]at e;cases x with
  |none=>cases e
  |some x =>
   cases x with
   |val y d'=>cases e;obtain⟨v,h1,h2⟩:=s.val i y d q;exact⟨v,h1,h2.aW λa z=>by cases y <;> first|exact .inl z|exact .inl (.inl z)⟩
   |own d'=>cases e
   |hand ok=>cases e
   |shl y d=>cases e⟩
end
section
variable {X:Cx}{C:Cfg}{e tg it:Expr}{φ:Ic}{ι:Ib}
theorem fR (h:PV X e φ):PQ X C true e (λβ R=>φ (allB β) λd=>d.flat=true/\R d .own β) :=
 ⟨λβ R R' k q=>h.mono _ _ _ (λd q=>⟨q.1,k _ _ _ q.2⟩) q,h.pe.pre λσ H Q uE=>by obtain⟨β,own,s,q⟩:=uE;exact tD.of h s.M3 q λd v H1 xA s1 r1=>by obtain⟨f,q⟩:=xA;exact q v H1 own ((Out.refl s true).same s1) (KV.flat f r1)⟩
theorem Cu (h:Ri X tg it ι):tm X C true tg it (λβ R=>ι (Fx β) λds=>R ds .old β) :=
 ⟨λβ R R' k q=>h.mono _ _ _ (λd q=>k _ _ _ q) q,h.pi.pre λσ H R Au=>by obtain⟨β,own,s,q⟩:=Au;exact⟨_,_,s.M1,h.mono _ _ _ (λds q J H' s1 it=>q J H' own ((Out.refl s true).same s1) it) q⟩⟩
end
section
variable {P:U0}{w:Vf}{C:Cfg}{σ:St}{H:Hp}{β:bg}{own:Nat->List Addr}{i:Nat}{ok:List Int->Prop}{ns:List Int}
theorem nX:∀{ns:List Int} {vs:List V} {A:List Addr},aI P w H (ns.map D.int) vs A->vs=ns.map V.int/\A=[]
 |[],_,_,h=>h
 |n::ns,_,_,⟨v,r,A1,A2,e,eA,h1,h2⟩=>by
  obtain⟨rfl,rfl⟩:=nX h2;obtain⟨rfl,rfl⟩:=h1;exact⟨e,by rw[eA];rfl⟩
theorem bR.toHand (s:bR P w C σ H β own)(e:β[i]?=some (some (.own (.lst (ns.map D.int)))))(ho:ok ns)(io:∀b,¬ C.IO b):bR P w C σ H (β.set i (some (.hand ok))) own:=by
 obtain⟨v,h1,⟨a,vs,A',rfl,h2,h3,h4⟩,h5⟩:=s.ow i _ e;obtain⟨rfl,rfl⟩:=nX h4;refine⟨by simp[s.len],λj y d q=>?_,λj d q=>?_,λj yd q=>?_,s.dm,s.mH,s.lM,s.kp,s.iO,λj y d q=>by
  by_cases aH:i=j
  ·subst aH;obtain⟨e',_⟩:=bD q;cases e'
  ·rw[bc aH]at q;exact s.shl j y d q⟩
 ·by_cases aH:i=j
  ·subst aH;obtain⟨e',_⟩:=bD q;cases e'
  ·rw[bc aH]at q;exact s.val j y d q
 ·by_cases aH:i=j
  ·subst aH;obtain⟨e',_⟩:=bD q;cases e'
  ·rw[bc aH]at q;exact s.ow j d q
 ·by_cases aH:i=j
  ·subst aH;obtain⟨e',_⟩:=bD q;cases e';exact⟨a,ns,h1,h2,ho,h3,.inl io⟩
  ·rw[bc aH]at q;exact s.l_ j yd q
end
section
variable {X:Cx}{C:Cfg}{e:Expr}{φ:aR}{p:Bool}{i:Nat}{x:Str}{pos pos' px ap cp:Pos}{ok:List Int->Prop}
theorem CC (ok:List Int->Prop)(O0:∀b,¬ C.IO b)(he:∀U,PQ X (C.u U) p e φ)(hN:X.N.Nodup)(hi:X.N[i]?=some x:=by rfl)(hx:Loc X.env.scope x:=by first|exact .inl rfl|exact .inr rfl)
  (hs:WR e (some (.Name x pos')) pos.line X.env=pure false:=by rfl) (hf:X.fn x=true\/X.env.scope.names.lookup x=some .local:=by first|exact .inl rfl|exact .inr rfl|assumption) :
  PB X C (.Assign [.Name x pos'] e pos) (λE β=>φ β λd k β'=>Dn k d/\i<β'.length/\∃ns:List Int,d=.lst (ns.map D.int)/\ok ns/\E.nx (β'.set i (some (.hand ok)))):=by
 have B:=cM (C:=C) (i:=i) (pos:=pos) (pos':=pos') he hN hi hx hs hf;refine⟨λE E' β l q=>(he λ_=>False).mono _ _ _ (λd k β' Kj=>by obtain⟨f,h,ns,e,o,q⟩:=Kj;exact⟨f,h,ns,e,o,l.nx _ q⟩) q,B.ps.pre λDe σ H ⟨Z,E,β,sb,q,yd⟩=>?_⟩
 refine⟨Z,{E with nx:=λβ'=>∃(ns:List Int) (β2:bg),i<β2.length/\β'=β2.set i (some (.own (.lst (ns.map D.int))))/\ok ns/\E.nx (β2.set i (some (.hand ok)))},β,sb,(he λ_=>False).mono _ _ _ (λd k β' Hf=>by obtain⟨f,h,ns,e,o,q⟩:=Hf;exact⟨f,ns,β',h,by rw[e],o,q⟩) q,⟨λσ' H' β' tX ⟨ns,β2,hl,e,o,q⟩=>?_,yd.rt,yd.bk,yd.ct⟩⟩
 subst e;obtain⟨own,s,n⟩:=tX;have:=s.toHand (i:=i) (ok:=ok) (get_set hl) o O0;rw[Zh]at this;exact yd.nx _ _ _ ⟨own,this,n⟩ q
theorem bR.putL {P:U0}{w:Vf}{σ:St}{H:Hp}{β:bg}{own:Nat->List Addr}{U U2:Addr->Prop}{ds ds':List D}{vs':List V}{a:Addr}{vs:List V}{A A':List Addr}(s:bR P w (C.u U) σ H β own)(e:β[i]?=some (some (.own (.lst ds))))(h1:σ[i]?=some (some (.ref a)))(h2:H a=some (.lst vs))(h3:own i=a::A)
  (r:aI P w H ds' vs' A') (nd:A'.Nodup) (hA:∀c∈A',c∈A\/(C.H0 c=none/\¬ Wn own c/\U c)) (hU:∀a,U2 a->U a) (Pl:∀c∈A',c∉A->¬ U2 c) :
  bR P w (C.u U2) σ (upd H a (.lst vs')) (β.set i (some (.own (.lst ds')))) (aM own i (a::A'))/\∀c∈a::A',c∈own i\/(C.H0 c=none/\¬ Wn own c/\U c):=by
 have ha:a∈own i:=by rw[h3];simp
 have nA:a∉A:=by have:=s.lM i;rw[h3]at this;exact(Vt.mp this).1
 have na:∀c∈A',c≠a:=λc hc z=>by
  subst z;rcases hA c hc with z|z
  ·exact nA z
  ·exact z.2.1 ⟨i,ha⟩
 have kt:∀b xs,H b=some (.tup xs)->upd H a (.lst vs') b=some (.tup xs):=λb xs z=>by rw[ar (λz'=>by rw[z',h2]at z;cases z)];exact z
 have Q_:∀c∈a::A',c∈own i\/(C.H0 c=none/\¬ Wn own c/\U c):=λc hc=>by
  rcases U1.mp hc with rfl|hc
  ·exact .inl ha
  ·exact(hA c hc).imp (λz=>by rw[h3];simp[z]) id
 refine⟨s.Jt e h1 ha ⟨a,vs',A',rfl,aw,rfl,r.keep kt λc hc oc ec=>by rw[ar (na c hc)];exact ec⟩ (Vt.mpr ⟨λz=>na a z rfl,nd⟩) Q_ hU (λc hc z=>?_),Q_⟩
 rcases U1.mp hc with rfl|hc
 ·exact(s.dm i c ha).2.2.2 (hU c z)
 ·by_cases q:c∈A
  ·exact(s.dm i c (by rw[h3];simp[q])).2.2.2 (hU c z)
  ·exact Pl c hc q z
theorem zF {own:Nat->List Addr}{i:Nat}{A':List Addr}(h:∀c∈A',c∈own i):∀c,Wn (aM own i A') c->Wn own c:=λc He=>by
 obtain⟨j,hj⟩:=He
 by_cases aH:i=j
 ·rw[<- aH,os_eq]at hj;exact⟨i,h c hj⟩
 ·rw[bt aH]at hj;exact⟨j,hj⟩
theorem F9 {P:U0}{w:Vf}{H:Hp}{own:Nat->List Addr}{Z:Hp×(Addr->Prop)}{d:D}{v:V}{A:List Addr}(r:Own P w H d v A)(h:∀c∈A,¬ Wn own c/\C.H0 c=none):KV P w C Z own H (sk .e9 d) d v:=by
 have q:az P w (av C (Wn own) .e9) H d v:=r.rep λc hc z=>z.elim (h c hc).1 λz=>z (h c hc).2;cases d with
 |int i=>exact KV.flat rfl q
 |bl i=>exact KV.flat rfl q
 |bK=>exact KV.flat rfl q
 |str i=>exact KV.flat rfl q
 |_=>exact q
theorem aI.concat {P:U0}{w:Vf}{H:Hp}{ds:List D}{d:D}{vs:List V}{A:List Addr}(h:aI P w H (ds++[d]) vs A):∃us v A1 A2,vs=us++[v]/\A=A1++A2/\aI P w H ds us A1/\Own P w H d v A2:=by
 obtain⟨v,A1,A2,A3,g1,g2,g3,g4,g5⟩:=h.split (i:=ds.length) (d:=d) (by simp)
 rw[List.take_left]at g3;have e3:aI P w H [] (vs.drop (ds.length+1)) A3:=by simpa using g5
 have hl:=h.length;rw[Vu,WQ]at hl;refine⟨vs.take ds.length,v,A1,A2,?_,by rw[g2,e3.2,Wf],g3,g4⟩
 have eZ:ds.length<vs.length:=by lia
 have e1:vs=vs.take ds.length++vs.drop ds.length:=(Ws _ _).symm;rw[VO eZ,e3.1]at e1;have:vs[ds.length]=v:=by
  have:=U6 eZ;rw[g1]at this;exact(VA this).symm
 rw[this]at e1;exact e1
theorem zu (hN:X.N[i]?=some x:=by rfl)(hv:sQ X.env.scope x:=by first|exact .inl rfl|exact .inr (.inl rfl)|exact .inr (.inr rfl))(hd:(x==("__debug__" : Str))=false:=by decide)(gG:(x==("__classdict__" : Str))=false:=by decide)
  (eU:Xo (.Name x px) "pop" X.env (eval (.Name x px) X.env)=eval (.Name x px) X.env:=by rfl) (eT:(ap.endLine==cp.line)=true:=by rfl) :
  PQ X C false (.Call (.Attribute (.Name x px) "pop" ap) [] [] cp) (λβ R=>∃ds d,β[i]?=some (some (.own (.lst (ds++[d]))))/\R d (sk .e9 d) (β.set i (some (.own (.lst ds))))) :=
 ⟨λβ R R' k Hd=>by obtain⟨ds,d,h1,q⟩:=Hd;exact⟨ds,d,h1,k _ _ _ q⟩,(Gf (apos:=ap) (cpos:=cp) PySem.F.plainAttrs_list PySem.F.slot_list_pop PySem.F.type_list_pop GB (cT (pos:=px) hN hv hd gG) eU eT).pre λσ H Q uD=>by
  obtain⟨β,own,s,ds,d,hb,q⟩:=uD;obtain⟨a,vs,A,h1,h2,h3,h4⟩:=s.og hb;obtain⟨us,v,A1,A2,rfl,rfl,g3,g4⟩:=h4.concat;have nd:=s.lM i;rw[h3]at nd;obtain⟨C7,Gw,JK⟩:=V3.mp (Vt.mp nd).2;obtain⟨s2,hA⟩:=s.putL (C:=C) (U:=C.U) (U2:=C.U) (ds':=ds) (vs':=us) (A':=A1) hb h1 h2 h3 g3 C7 (λc hc=>.inl (by simp[hc])) (λ_ z=>z) (λc hc n=>absurd (by simp[hc]) n)
  have h0:∀c∈own i,C.H0 c=none:=by obtain⟨_,_,_,h⟩:=s.ow i _ hb;exact h
  have kt:∀b xs,H b=some (.tup xs)->upd H a (.lst us) b=some (.tup xs):=λb xs z=>by rw[ar (λz'=>by rw[z',h2]at z;cases z)];exact z
  have na:∀c∈A2,c≠a:=λc hc z=>(Vt.mp nd).1 (by rw[<- z];simp[hc])
  have le:∀c,Wn (aM own i (a::A1)) c->Wn own c:=zF λc hc=>by rw[h3];rcases U1.mp hc with rfl|hc <;> simp[*]
  refine⟨.ref a,h1,.inl ⟨rfl,_,cP.of h2⟩,a,_,v,rfl,rfl,h2,by simp,?_⟩
  rw[List.dropLast_concat];refine q v _ _ ⟨s2,?_,λz=>(nomatch z),le⟩ (F9 (C:=C) (g4.keep kt λc hc oc ec=>by rw[ar (na c hc)];exact ec) λc hc=>⟨λ⟨j,hj⟩=>?_,h0 c (by rw[h3];simp[hc])⟩)
  ·have u:=Sn.upd (Z:=(H,Wn own)) (o':=.lst us) (Sn.refl (H:=H) (W:=Wn own)) h2 (λxs z=>by cases z) ⟨i,by rw[h3];simp⟩
   exact⟨λb z=>.inl (le b z),u.k,u.d⟩
  ·by_cases aH:i=j
   ·rw[<- aH,os_eq]at hj;rcases U1.mp hj with rfl|hj
    ·exact na _ hc rfl
    ·exact JK _ hj _ hc rfl
   ·rw[bt aH]at hj;exact aH (s.mH i j c (by rw[h3];simp[hc]) hj)⟩
end
section
variable {X:Cx}{C:Cfg}{e k:Expr}{φ:aR}{p:Bool}{i:Nat}{x:Str}{pos px ap cp:Pos}
theorem G5 {n:Nat}{j:Int}{k:Nat}(h:vG n j=some k):k<n:=by
 unfold vG at h
 by_cases h0:0<=j
 ·rw[if_pos h0]at h
  by_cases h1:j<n
  ·rw[if_pos h1]at h;cases h;lia
  ·rw[if_neg h1]at h;cases h
 ·rw[if_neg h0]at h
  by_cases h1:-(n:Int)<=j
  ·rw[if_pos h1]at h;cases h;lia
  ·rw[if_neg h1]at h;cases h
theorem B_ {Z:Hp×(Addr->Prop)}{H:Hp}{own:Nat->List Addr}{a:Addr}{o oa:HO}{A':List Addr}{U:Addr->Prop}(n:Sn Z H (Wn own))(m:∀a,U a->Z.1 a=none)(h2:H a=some oa)(ht:∀xs,oa≠.tup xs)(ha:Wn own a)(hA:∀c∈A',c∈own i\/(C.H0 c=none/\¬ Wn own c/\U c)):Sn Z (upd H a o) (Wn (aM own i A')) :=
 k8 n m ha ⟨oa,h2,ht⟩ hA
theorem nV (he:PQ X C.z p e φ)(hN:X.N[i]?=some x:=by rfl)(hv:sQ X.env.scope x:=by first|exact .inl rfl|exact .inr (.inl rfl)|exact .inr (.inr rfl))(hd:(x==("__debug__" : Str))=false:=by decide)(gG:(x==("__classdict__" : Str))=false:=by decide)
  (eU:Xo (.Name x px) "extend" X.env (eval (.Name x px) X.env)=eval (.Name x px) X.env:=by rfl)
  (pV:((W6 cp (Ve [e] X.env)).all (λx=>!x.1)&&(ZL cp (YM [] X.env)).all (λx=>x.1.isSome)&&decide ([e].length+([]:List X9).length+(if ([]:List X9).isEmpty then 0 else 1)<30))=true:=by rfl)
  (eT:(ap.endLine==cp.line)=true:=by rfl) (hs:Ve [e] X.env=(false,eval e X.env)::Ve [] X.env:=by rfl) (fx:(W6 cp (Ve [] X.env)).any (·.1)=false:=by rfl)
  (oB:WR (.Call (.Attribute (.Name x px) "extend" ap) [e] [] cp) none pos.line X.env=pure false:=by rfl) :
  PB X C (.Expr (.Call (.Attribute (.Name x px) "extend" ap) [e] [] cp) pos) (λE β=>(∃ds,β[i]?=some (some (.own (.lst ds))))/\φ β λd _ β'=>∃ds es,d=.lst es/\D.bY es=true/\β'[i]?=some (some (.own (.lst ds)))/\ds.length+es.length<=U_/\E.nx (β'.set i (some (.own (.lst (ds++es)))))):=by
 refine⟨λE E' β l Hf=>by obtain⟨h1,q⟩:=Hf;exact⟨h1,he.mono _ _ _ (λd k β' Oj=>by obtain⟨ds,es,h1,h2,h3,h4,q⟩:=Oj;exact⟨ds,es,h1,h2,h3,h4,l.nx _ q⟩) q⟩,
  (kh (pos:=pos) (vq (apos:=ap) (cpos:=cp) PySem.F.plainAttrs_list PySem.F.slot_list_extend PySem.F.type_list_extend xg (cT (pos:=px) hN hv hd gG) (bo he.pe cU hs) eU pV eT hs fx) oB).pre λD σ H ⟨Z,E,β,⟨own,s0,n⟩,⟨⟨TM,Iz⟩,q⟩,ok⟩=>?_⟩
 obtain⟨a0,Uo,A0,z1,z2,z3,z4⟩:=s0.og Iz;refine⟨.ref a0,z1,.inl ⟨rfl,_,cP.of z2⟩,tQ.of he s0 q λd kk β' v H1 aD ⟨ds,es,e1,f,hb,hl,q⟩ o r=>?_⟩;subst e1;obtain⟨b,us,rfl,Pc,_,rb⟩:=r.rep;obtain⟨a,vs,A,h1,h2,h3,h4⟩:=o.sq.og hb;rw[z1]at h1;cases h1;have nd:=o.sq.lM i;rw[h3]at nd;obtain⟨s2,hA⟩:=o.sq.putL (C:=C) (U:=λ_=>False) (U2:=λ_=>False) (ds':=ds++es) (vs':=vs++us) (A':=A) hb z1 h2 h3 (by simpa using h4.append (gv f rb)) (Vt.mp nd).2 (λc hc=>.inl hc) (λ_ z=>z) (λc hc n=>absurd hc n)
 exact⟨a0,b,vs,us,rfl,rfl,h2,Pc,by rw[h4.length,rb.length];exact hl,ok.nx _ _ _ ⟨_,s2,B_ (n.trans o.sn) (λ_ z=>z.elim) h2 (λxs z=>by cases z) ⟨i,by rw[h3];simp⟩ hA⟩ q⟩
end
end L2.Q
namespace L2
open PySem PySem.Spec PySem.SeqAt PyProof.Rows
section
end
namespace Q
section
variable {P:U0}{w:Vf}{C:Cfg}{σ:St}{H:Hp}{β:bg}{own:Nat->List Addr}{lk:List (Option Nat)}{a:Addr}
theorem bR.HM {o:HO}(ho:∀xs,o≠.tup xs)(s:bR P w C σ H β own)(ha:H a=none)(inj:∀(i i' j:Nat),lk[i]?=some (some j)->lk[i']?=some (some j)->i=i'):
  bR P w (C.u λc=>c=a) (cN lk σ) (upd H a o) (cw lk β) (bx lk β own):=by
 have h0:C.H0 a=none:=VP λz=>s.iO a z ha;have q:=(s.enter ha inj).FW (o:=o) aw (λxs z=>by cases z) h0
 have e:upd (upd H a (.lst [])) a o=upd H a o:=by
  funext b
  by_cases hb:b=a
  ·rw[hb,aw,aw]
  ·rw[ar hb,ar hb,ar hb]
 rwa [e]at q
end
section
end
end Q
end L2
namespace L2.Q
open PySem PySem.Spec PySem.SeqAt PyProof.Rows
abbrev Io (l:Bool)(ds:List D):D:=match l with|true=>.lst ds|false=>.tup ds
section
variable {P:U0}{w:Vf}{H:Hp}{A:List Addr}{v:V}{ds:List D}{l:Bool}
theorem fU {m:Nat}{es:List D}(r:Own P w H (Io l ds) v A)(nd:A.Nodup)(hm:ds[m]?=some (.lst es)):∃a vs c us B,v=.ref a/\H a=some (match l with|true=>.lst vs|false=>.tup vs)/\vs.length=ds.length/\vs[m]?=some (.ref c)/\H c=some (.lst us)/\c∈A/\aI P w H es us B/\(∀x∈B,x∈A/\x≠c)/\B.Nodup /\
  ∀eh tL B',aI P w H eh tL B'->B'.Nodup->(∀x∈B',x∈B\/x∉A)->(∀x∈B',x≠c)->∃A',Own P w (upd H c (.lst tL)) (Io l (ds.set m (.lst eh))) v A'/\A'.Nodup/\∀x∈A',x∈A\/x∈B':=by
 have core:∀{vs:List V} {A:List Addr},A.Nodup->aI P w H ds vs A->∃c us B,vs[m]?=some (.ref c)/\H c=some (.lst us)/\c∈A/\aI P w H es us B/\(∀x∈B,x∈A/\x≠c)/\B.Nodup /\
   ∀eh tL B',aI P w H eh tL B'->B'.Nodup->(∀x∈B',x∈B\/x∉A)->(∀x∈B',x≠c)->∃A',aI P w (upd H c (.lst tL)) (ds.set m (.lst eh)) vs A'/\A'.Nodup/\(∀x∈A',x∈A\/x∈B'):=λ{vs A} nd os=>by
  have hl:=os.length;have S3:m<ds.length:=(U3.mp hm).1;obtain⟨u,A1,A2,A3,g1,rfl,g3,⟨c,us,B,rfl,h2,rfl,h4⟩,g5⟩:=os.split hm;obtain⟨C7,Gw,JK⟩:=V3.mp nd;obtain⟨QF,Sf,QE⟩:=V3.mp Gw;have Si:=(Vt.mp QF).1;refine⟨c,us,B,g1,h2,by simp,h4,λx hx=>⟨by simp[hx],λz=>Si (by rw[<- z];exact hx)⟩,(Vt.mp QF).2,λeh tL B' o' n' me oC=>?_⟩
  have kt:∀b xs,H b=some (.tup xs)->upd H c (.lst tL) b=some (.tup xs):=λb xs z=>by rw[ar (λz'=>by rw[z',h2]at z;cases z)];exact z
  have n1:∀x∈A1,x≠c:=λx hx z=>JK x hx c (by simp) z
  have n3:∀x∈A3,x≠c:=λx hx z=>QE c (by simp) x hx z.symm
  have off:∀x∈B',x∉A1/\x∉A3:=λx hx=>by
   rcases me x hx with z|z
   ·exact⟨λq=>JK x q x (by simp[z]) rfl,λq=>QE x (by simp[z]) x q rfl⟩
   ·exact⟨λq=>z (by simp[q]),λq=>z (by simp[q])⟩
  have L9:m<vs.length:=by lia
  have ev:vs=vs.take m++V.ref c::vs.drop (m+1):=by
   have e1:vs=vs.take m++vs.drop m:=(Ws _ _).symm;rw[VO L9]at e1;have:vs[m]=V.ref c:=by
    have:=U6 L9;rw[g1]at this;exact(VA this).symm
   rwa [this]at e1
  refine⟨A1++((c::B')++A3),?_,V3.mpr ⟨C7,V3.mpr ⟨Vt.mpr ⟨λz=>oC c z rfl,n'⟩,Sf,λx hx y hy=>?_⟩,λx hx y hy z=>?_⟩,λx hx=>?_⟩
  ·rw[Xx,if_pos S3];have q:aI P w (upd H c (.lst tL)) (ds.take m++.lst eh::ds.drop (m+1)) (vs.take m++.ref c::vs.drop (m+1)) (A1++((c::B')++A3)) :=
    (g3.keep kt λx hx oc ec=>by rw[ar (n1 x hx)];exact ec).append ⟨.ref c,_,c::B',A3,rfl,rfl,⟨c,tL,B',rfl,aw,rfl,o'.keep kt λx hx oc ec=>by rw[ar (oC x hx)];exact ec⟩,g5.keep kt λx hx oc ec=>by rw[ar (n3 x hx)];exact ec⟩
   rw[<- ev]at q;exact q
  ·intro z;subst z;rcases U1.mp hx with rfl|hx
   ·exact n3 _ hy rfl
   ·exact(off x hx).2 hy
  ·subst z;rcases Vg.mp hy with hy|hy
   ·rcases U1.mp hy with rfl|hy
    ·exact n1 _ hx rfl
    ·exact(off x hy).1 hx
   ·exact JK x hx x (by simp[hy]) rfl
  ·rcases Vg.mp hx with hx|hx
   ·exact .inl (by simp[hx])
   ·rcases Vg.mp hx with hx|hx
    ·rcases U1.mp hx with rfl|hx
     ·exact .inl (by simp)
     ·exact .inr hx
    ·exact .inl (by simp[hx])
 cases l with
 |true =>
  obtain⟨a,vs,A',rfl,h2,rfl,h4⟩:=r;obtain⟨na,Sh⟩:=Vt.mp nd;obtain⟨c,us,B,q1,q2,q3,q4,q5,q6,q7⟩:=core Sh h4;have ca:c≠a:=λz=>na (by rw[<- z];exact q3)
  refine⟨a,vs,c,us,B,rfl,h2,h4.length,q1,q2,by simp[q3],q4,λx hx=>⟨by simp[(q5 x hx).1],(q5 x hx).2⟩,q6,λeh tL B' o' n' me oC=>?_⟩
  obtain⟨A2,g1,g2,g3⟩:=q7 eh tL B' o' n' (λx hx=>(me x hx).imp id λz q=>z (by simp[q])) oC
  refine⟨a::A2,⟨a,vs,A2,rfl,by rw[ar ca.symm];exact h2,rfl,g1⟩,Vt.mpr ⟨λz=>?_,g2⟩,λx hx=>?_⟩
  ·rcases g3 a z with z|z
   ·exact na z
   ·rcases me a z with z|z
    ·exact na (q5 a z).1
    ·exact z (by simp)
  ·rcases U1.mp hx with rfl|hx
   ·exact .inl (by simp)
   ·exact(g3 x hx).imp (λz=>by simp[z]) id
 |false =>
  obtain⟨a,vs,rfl,h2,h4⟩:=r;obtain⟨c,us,B,q1,q2,q3,q4,q5,q6,q7⟩:=core nd h4;have ca:a≠c:=λz=>by rw[z,q2]at h2;cases h2
  refine⟨a,vs,c,us,B,rfl,h2,h4.length,q1,q2,q3,q4,q5,q6,λeh tL B' o' n' me oC=>?_⟩;obtain⟨A2,g1,g2,g3⟩:=q7 eh tL B' o' n' me oC;exact⟨A2,⟨a,vs,rfl,by rw[ar ca];exact h2,g1⟩,g2,g3⟩
end
section
variable {X:Cx}{C:Cfg}{e k:Expr}{φ φk:aR}{i:Nat}{x:Str}{pos px kp ap cp:Pos}
theorem d4 (l:Bool)(he:∀U,PQ X (C.u U) true e φ)(hk:∀U,PQ X (C.u U) true k φk)(hN:X.N[i]?=some x:=by rfl)(hv:sQ X.env.scope x:=by first|exact .inl rfl|exact .inr (.inl rfl)|exact .inr (.inr rfl))(hd:(x==("__debug__" : Str))=false:=by decide)(gG:(x==("__classdict__" : Str))=false:=by decide)
  (OZ:kG k:=by exact λ_ _=>rfl)
  (eU:Xo (.Subscript (.Name x px) k kp) "append" X.env (eval (.Subscript (.Name x px) k kp) X.env)=eval (.Subscript (.Name x px) k kp) X.env:=by rfl)
  (pV:((W6 cp (Ve [e] X.env)).all (λx=>!x.1)&&(ZL cp (YM [] X.env)).all (λx=>x.1.isSome)&&decide ([e].length+([]:List X9).length+(if ([]:List X9).isEmpty then 0 else 1)<30))=true:=by rfl)
  (eT:(ap.endLine==cp.line)=true:=by rfl) (hs:Ve [e] X.env=(false,eval e X.env)::Ve [] X.env:=by rfl) (fx:(W6 cp (Ve [] X.env)).any (·.1)=false:=by rfl)
  (oB:WR (.Call (.Attribute (.Subscript (.Name x px) k kp) "append" ap) [e] [] cp) none pos.line X.env=pure false:=by rfl) :
  PB X C (.Expr (.Call (.Attribute (.Subscript (.Name x px) k kp) "append" ap) [e] [] cp) pos) (λE β=>(∃d0,β[i]?=some (some (.own d0)))/\φk β λjd _ β1=>∃ds j m es,jd=.int j/\β1[i]?=some (some (.own (Io l ds)))/\vG ds.length j=some m/\ds[m]?=some (.lst es)/\φ β1 λd kd β2=>Dn kd d/\β2[i]?=some (some (.own (Io l ds)))/\es.length<U_/\E.nx (β2.set i (some (.own (Io l (ds.set m (.lst (es++[d]))))))) ):=by
 refine⟨λE E' β l KO=> by obtain⟨q0,q⟩ := KO;exact⟨q0,(hk λ_=>False).mono _ _ _ (λjd _ β1 KN=> by obtain⟨ds,j,m,es,h1,h2,h3,h4,q⟩ := KN;exact⟨ds,j,m,es,h1,h2,h3,h4,(he λ_=>False).mono _ _ _ (λd kd β2 KL=> by obtain⟨g1,g2,g3,q⟩ := KL;exact⟨g1,g2,g3,l.nx _ q⟩) q⟩) q⟩,λpins s σ H De I ⟨Z,E,β,⟨own,sq,n⟩,⟨⟨d0,Th⟩,q⟩,ok⟩=>?_⟩
 have ix:Fj X (λx y H Q=>Jl X.K x y H Q\/Jk X.K x y H Q):=λvalue slice pins s σ H x y v u Q I rx ry h hs=>h.elim (λh=>d8 value slice pins s σ H x y v u Q I rx ry h hs) λh=>Ak value slice pins s σ H x y v u Q I rx ry h hs;refine kh (pos:=pos) (vq (apos:=ap) (cpos:=cp) PySem.F.plainAttrs_list PySem.F.slot_list_append PySem.F.type_list_append gw (jM (pos:=kp) ix (cT (pos:=px) hN hv hd gG) (hk λa=>H a=none).pe OZ) (bo (he λa=>H a=none).pe cU hs) eU pV eT hs fx) oB pins s σ H De I ?_;have RO:=sq.nH (C:=C.z) (U:=λa=>H a=none) λa z=>z;obtain⟨v0,Dw,_,_⟩:=sq.ow i d0 Th;refine⟨v0,Dw,tQ.of (hk λa=>H a=none) RO q λjd kk β1 kv H1 aD ⟨ds,j,m,es,e1,hb,hj,hm,q⟩ o r=>?_⟩;subst e1;cases r.rep;obtain⟨v,EX,ow,h0⟩:=o.sq.ow i _ hb;rw[Dw]at EX;cases EX;obtain⟨a,vs,c,us,B,rfl,q1,q2,q3,q4,q5,q6,q7,q8,q9⟩:=fU ow (o.sq.lM i) hm;have Mo:nB vs j=some (.ref c):=by unfold nB;rw[q2,hj];exact q3
 have Qy:LK X.K "list" (.ref c) H1/\Eu (tQ X (C.u λa=>H a=none) true φ) IY σ H1 λxs H2=>vd (.ref c) xs H2 λ_ H1=>De.nx σ H1:=by
  refine⟨.inl ⟨rfl,us,cP.of q4⟩,tQ.of (he λa=>H a=none) o.sq q λd kd β2 v2 H2 a5 ⟨f,Mf,hl,q⟩ o2 r2=>?_⟩;obtain⟨s2,e2⟩:=o2.pu rfl;obtain⟨v',L7,NJ,UN⟩:=o2.sq.ow i _ Mf;rw[Dw]at L7;cases L7;obtain⟨a',vs',c',tL,B',ea,p1,p2,p3,p4,p5,p6,p7,p8,p9⟩:=fU NJ (o2.sq.lM i) hm;cases ea;have e3:=s2 _ _ q1;rw[p1]at e3;have ev:vs'=vs:=by cases l <;> (cases e3;rfl)
  subst ev;rw[q3]at p3;cases p3;have e4:=s2 _ _ q4;rw[p4]at e4;cases e4;obtain⟨A,r1,rn,r3⟩:=r2.fl f;have Gs:∀x∈A,x∉a5 i:=λx hx z=>(r3 x hx).2.1 ⟨i,z⟩;obtain⟨A',g1,g2,g3⟩:=p9 (es++[d]) (us++[v2]) (B'++A) (p6.append (aI.one r1)) (V3.mpr ⟨p8,rn,λx hx y hy z=>Gs y hy (by rw[<- z];exact(p7 x hx).1)⟩)
   (λx hx=>(Vg.mp hx).imp id (Gs x)) (λx hx z=>by
    rcases Vg.mp hx with hx|hx
    ·exact(p7 x hx).2 z
    ·exact Gs x hx (by rw[z];exact p5))
  have hA:∀x∈A',x∈a5 i\/(C.H0 x=none/\¬ Wn a5 x/\H x=none):=λx hx=>by
   rcases g3 x hx with z|z
   ·exact .inl z
   ·rcases Vg.mp z with z|z
    ·exact .inl (p7 x z).1
    ·exact .inr ⟨(r3 x z).2.2,(r3 x z).2.1,o.sn.free (r3 x z).1⟩
  exact⟨c,us,v2,rfl,rfl,p4,by rw[p6.length];exact hl,ok.nx _ _ _ ⟨_,o2.sq.putIn (C:=C) (U:=λa=>H a=none) Mf Dw p5 g1 g2 hA,k8 ((n.trans o.sn).trans o2.sn) (λb z=>n.free z) ⟨i,p5⟩ ⟨_,p4,λxs z=>by cases z⟩ hA⟩ q⟩
 cases l with
 |true=>exact .inl ⟨a,vs,j,.ref c,rfl,rfl,cP.of q1,Mo,Qy⟩
 |false=>exact .inr ⟨a,vs,j,.ref c,rfl,rfl,qj.of q1,Mo,Qy⟩
end
end L2.Q
namespace L2
open PySem PySem.Spec PySem.SeqAt PyProof.Rows
structure Bs2 (mg:Str->Option UT):Prop extends Bs mg where
 EU:mg "isinstance" = none
 tuple:mg "tuple" = none
 str:mg "str" = none
 bool:mg "bool" = none
 zip:mg "zip" = none
 enumerate:mg "enumerate" = none
theorem Bn:VM "str" = some (.type "str"):=by decide +kernel
theorem nF {ds:List D}{d:D}(h:d∈hZ ds ds):∃a∈ds,d=.tup [a,a]:=by
 obtain⟨i,hi⟩:=List.mem_iff_getElem?.mp h;obtain⟨a,b,h1,h2,rfl⟩:=kK hi;rw[h1]at h2;cases h2;exact⟨a,VJ h1,rfl⟩
inductive Ep:D->Prop
 |int (i:Int):Ep (.int i)
 |str (s:Str) (h:PyData.strOk s=true):Ep (.str s)
 |bK:Ep .bK
theorem wA (x:Str)(h:PyData.strOk x=true):(D.str x).pd.canLay0=true/\(D.str x).pd.depth<=1:=⟨by simp[D.pd,Wm,h],by simp[D.pd,Yq]⟩
theorem iP {d:D}{n:Nat}(h:d.pd.canLay0=true/\d.pd.depth<=n)(hn:n<=64:=by decide):Lv d d=some (.bl true):=Bd (fN h hn) (fN h hn) (eqv_refl _ h.1)
theorem dP {d:D}{n:Nat}(h:d.pd.canLay0=true/\d.pd.depth<=n)(hn:n<=64:=by decide):Lp d d=some (.bl false):=Ba (fN h hn) (fN h hn) (eqv_refl _ h.1)
end L2
namespace L2.Q
open PySem PySem.Spec PySem.SeqAt PyProof.Rows
structure nE (X:Cx)(C:Cfg)(p:Bool)(ifs:List Expr)(τ:aY):Prop where
 mono:∀β R R',(∀d β,R d β->R' d β)->τ β R->τ β R'
 pt:qf X ifs (iV X C p τ)
theorem dc {X:Cx}{C:Cfg}:nE X C true [] IQ:=⟨λ_ _ _ k h=>k _ _ h,zt⟩
theorem kT {X:Cx}{C:Cfg}{p:Bool}{c:Expr}{τ:aY}(h:tj X C p c τ):nE X C p [c] τ:=⟨h.mono,zr h⟩
section
variable {X:Cx}{C:Cfg}{lk:List (Option Nat)}{γ:cR}{τ:aY}{φ:aR}{T:List Nat}{pc pe pi:Bool}{scope:W3}{N':List Str}{tg bP elt:Expr}{ifs:List Expr}{ι:ck}{pos pos' ik:Pos}{y:Str}{i:Nat}
theorem L1 (N':List Str)(lk:List (Option Nat))(L:fY X.env.scope.names X.N scope N' lk=true)(mS:N'.Nodup)(hc:X.calm=true)(hi:tm X C pi tg bP ι)
  (jQ:∀U cl c s H ex,tw (aB X scope N' cl c s H ex) (C.u U) tg T γ) (hX:∀U cl c s H ex,nE (aB X scope N' cl c s H ex) (C.u U) pc ifs τ) (gS:∀U cl c s H ex,PQ (aB X scope N' cl c s H ex) (C.u U) pe elt φ)
  (hT:T.all (λi=>match lk[i]? with|some (some _)=>false|_=>true)=true:=by rfl) (hs:∀x,VG bP X.env x=pure x:=by intro _;rfl):PQ X C (pi&&(pc&&pe)) (.ListComp elt [⟨tg,bP,ifs,0⟩] scope pos) (qJ lk ι γ τ φ) :=
 EA (Links.of L) mS hT hc hi (λa=>jQ _) (λa cl c s H ex=>(hX _ cl c s H ex).pt) (hX (λ_=>False) [] 0 X.s₀ X.H₀ []).mono (λa=>gS _) (jQ (λ_=>False) [] 0 X.s₀ X.H₀ []).mono (gS (λ_=>False) [] 0 X.s₀ X.H₀ []).mono hs
theorem wL (o:Bool)(N':List Str)(lk:List (Option Nat))(L:fY X.env.scope.names X.N scope N' lk=true)(mS:N'.Nodup)(hc:X.calm=true)(hi:∀U,tm X (C.u U) pi tg bP ι)
  (jQ:∀U cl c s H ex,tw (aB X scope N' cl c s H ex) (C.u U) tg T γ) (hX:∀U cl c s H ex,nE (aB X scope N' cl c s H ex) (C.u U) pc ifs τ) (gS:∀U cl c s H ex,PQ (aB X scope N' cl c s H ex) (C.u U) pe elt φ)
  (hN:X.N.Nodup) (hT:T.all (λi=>match lk[i]? with|some (some _)=>false|_=>true)=true:=by rfl) (hy:X.N[i]?=some y:=by rfl) (hx:Loc X.env.scope y:=by first|exact .inl rfl|exact .inr rfl) (hf:X.fn y=true\/X.env.scope.names.lookup y=some .local:=by first|exact .inl rfl|exact .inr rfl|assumption)
  (oB:WR (.ListComp elt [⟨tg,bP,ifs,0⟩] scope pos) (some (.Name y pos')) ik.line X.env=pure true:=by rfl)
  (AK:YO (.ListComp elt [⟨tg,bP,ifs,0⟩] scope pos) X.env (assign (.Name y pos') X.env)=(do let _ <- comprehension (.ListComp elt [⟨tg,bP,ifs,0⟩] scope pos) scope X.env (firstIterPos [⟨tg,bP,ifs,0⟩] pos) (newList []) false (eval bP X.env) (some (assign (.Name y pos') X.env));pure ()):=by first|rfl|exact Yd ..)
  (hs:∀x,VG bP X.env x=pure x:=by intro _;rfl) :
  PB X C (.Assign [.Name y pos'] (.ListComp elt [⟨tg,bP,ifs,0⟩] scope pos) ik) (λE β=>qJ lk ι γ τ φ β λd _ β'=>E.nx (β'.set i (some (match o with|true=>.own d|false=>.val true d)))) :=
 Ju (K:=λ_ _ _=>True) (Links.of L) mS hT hc hi jQ (λU cl c s H ex=>(hX U cl c s H ex).pt) (hX (λ_=>False) [] 0 X.s₀ X.H₀ []).mono gS (jQ (λ_=>False) [] 0 X.s₀ X.H₀ []).mono (gS (λ_=>False) [] 0 X.s₀ X.H₀ []).mono o hN hy hx hf oB AK hs
theorem a9:Fj X (zd X mV NF):=λvalue slice pins s σ H x y v u Q I rx ry ⟨W,d1,d2,d,hd,r1,r2,e,q⟩ hs =>
 G1 value slice pins s σ H x y v u Q I rx ry ⟨W,d1,d2,d,hd,r1,r2,e,λv H' s r=>q v H' s r λf=>az.flat f r⟩ hs
end
section
variable {P:U0}{w:Vf}{K:PySem.W.Frag}{mg:Str->Option UT}{base:Heap}{k:Nat}{f:Addr}{fd:VL}{ps:List Str}
def sd:FD:=λds R=>∃c:Int,ds=[.int c]/\∀ns,hV ns->R (.lst (ns.map D.int))
theorem sd.mono:dy sd:=λds R R' k ⟨c,e,q⟩=>⟨c,e,λns o=>k _ (q ns o)⟩
theorem HF (G:aN P w K mg base b6 k f fd ps yS):aN P w K mg base b6 k f fd ps (dX P w true sd):=G.imp λvs H Q E h=>by
 obtain⟨ds,r,c,rfl,q⟩:=h;obtain⟨x,rr,rfl,hx,hr⟩:=r;cases (show rr=[] from hr)
 cases (show x=V.int c from hx)
 refine⟨c,rfl,λp H' hp hd sm=>?_⟩;obtain⟨ns,e,o⟩:=hd.ok;have rep:∀ns:List Int,aI P w H' (ns.map D.int) (ns.map V.int) []:=λns=>by
  induction ns with
  |nil=>exact⟨rfl,rfl⟩
  |cons n ns ih=>exact⟨_,_,[],[],rfl,rfl,⟨rfl,rfl⟩,ih⟩
 exact q ns o _ H' sm ⟨[p],⟨p,_,[],rfl,e,rfl,rep ns⟩,by simp,λc hc=>by rw[U9.mp hc];exact hp⟩
theorem o8 {ro:Bool}(G:aN P w K mg base b6 k f fd ps yQ):aN P w K mg base b6 k f fd ps (i8 P w hV ro cF):=G.imp λvs H Q E h=>by
 obtain⟨h,vs',ds,ns,rfl,e,o,r,n,rfl,n1,n2,q⟩:=h;obtain⟨x,rr,rfl,hx,hr⟩:=r;cases (show rr=[] from hr)
 cases (show x=V.int n from hx)
 refine⟨h,n,rfl,o.hand e,n1,n2,λr H' r0 r1 hd fm=>?_⟩;obtain⟨xa,e',o'⟩:=hd.ok;refine q r r0 r1 _ H' xa ⟨λb u hb nb=>fm b u hb nb,λb xs hb=>fm b _ hb λz=>by rw[z,e]at hb;cases hb⟩ (λc hc z=>?_) e' o' (eQ (W:=λ_=>False) rfl rfl)
 by_cases rL:c=h
 ·rw[rL,e']at z;cases z
 ·cases q:H c with
  |none=>exact hc q
  |some u=>rw[fm c u q rL]at z;cases z
end
end L2.Q
namespace kJ
open PySem L2 L2.Q
def top (i:Nat):Stmt:=PySem.Challenge.pw_archrow_k07_stretches_and_tables.main.body.getD i (.Pass ⟨0,0,0,0⟩)
abbrev bI:Stmt:=top 4
abbrev cY:Stmt:=top 5
abbrev dk:Stmt:=top 6
abbrev b8:Stmt:=top 7
abbrev cZ:Stmt:=top 8
abbrev cI:Stmt:=top 9
abbrev cJ:Stmt:=top 10
abbrev b9:Stmt:=top 11
abbrev gh:Stmt:=top 13
abbrev fc:Stmt:=top 14
abbrev fe:Stmt:=top 15
abbrev dE:Stmt:=top 17
abbrev dD:Stmt:=top 18
abbrev fh:Stmt:=top 19
abbrev ff:Stmt:=top 20
abbrev gj:Stmt:=top 21
abbrev fg:Stmt:=top 22
abbrev dY:Stmt:=top 23
abbrev dZ:Stmt:=top 24
abbrev dq:Stmt:=top 25
abbrev bO:Stmt:=top 26
abbrev lx:Stmt:=top 27
abbrev D0 (K:PySem.W.Frag)(mg:Str->Option UT)(f:Addr)(fd:VL):Prop:=Df K mg "_law_arcs" fh ["hand","many"] f fd
abbrev D1 (K:PySem.W.Frag)(mg:Str->Option UT)(f:Addr)(fd:VL):Prop:=Df K mg "_law_take" dD ["hand","many"] f fd
abbrev D2 (K:PySem.W.Frag)(mg:Str->Option UT)(f:Addr)(fd:VL):Prop:=Df K mg "_law_ties" ff ["hand","many"] f fd
abbrev D3 (K:PySem.W.Frag)(mg:Str->Option UT)(f:Addr)(fd:VL):Prop:=Df K mg "_law_row" gj ["hand"] f fd
abbrev D4 (K:PySem.W.Frag)(mg:Str->Option UT)(f:Addr)(fd:VL):Prop:=Df K mg "stretches_rising" bI ["many"] f fd
abbrev D5 (K:PySem.W.Frag)(mg:Str->Option UT)(f:Addr)(fd:VL):Prop:=Df K mg "partners_of" cY ["row"] f fd
abbrev D6 (K:PySem.W.Frag)(mg:Str->Option UT)(f:Addr)(fd:VL):Prop:=Df K mg "number_with" cZ ["worth","table","i","k","j"] f fd
abbrev D7 (K:PySem.W.Frag)(mg:Str->Option UT)(f:Addr)(fd:VL):Prop:=Df K mg "least_number" cI ["partners","worth","table","i","j"] f fd
abbrev D8 (K:PySem.W.Frag)(mg:Str->Option UT)(f:Addr)(fd:VL):Prop:=Df K mg "greatest_table" b8 ["row","worth"] f fd
abbrev D9 (K:PySem.W.Frag)(mg:Str->Option UT)(f:Addr)(fd:VL):Prop:=Df K mg "one_each" fe ["row"] f fd
abbrev MA (K:PySem.W.Frag)(mg:Str->Option UT)(f:Addr)(fd:VL):Prop:=Df K mg "table_of" fc ["row"] f fd
abbrev Mz (K:PySem.W.Frag)(mg:Str->Option UT)(f:Addr)(fd:VL):Prop:=Df K mg "parts_left" dk ["i","k","j"] f fd
abbrev My (K:PySem.W.Frag)(mg:Str->Option UT)(f:Addr)(fd:VL):Prop:=Df K mg "best_choices" cJ ["partners","worth","table","i","j"] f fd
abbrev P_ (K:PySem.W.Frag)(mg:Str->Option UT)(f:Addr)(fd:VL):Prop:=Df K mg "first_greatest" b9 ["row","worth","table","i","j"] f fd
abbrev Rq (K:PySem.W.Frag)(mg:Str->Option UT)(f:Addr)(fd:VL):Prop:=Df K mg "most_of" gh ["row","i","j"] f fd
abbrev Ro (K:PySem.W.Frag)(mg:Str->Option UT)(f:Addr)(fd:VL):Prop:=Df K mg "_law_table" dY ["row"] f fd
abbrev Rn (K:PySem.W.Frag)(mg:Str->Option UT)(f:Addr)(fd:VL):Prop:=Df K mg "_law_first" dZ ["row","table","begin","end"] f fd
abbrev Mw (K:PySem.W.Frag)(mg:Str->Option UT)(f:Addr)(fd:VL):Prop:=Df K mg "_law_same" fg ["found","due"] f fd
abbrev P9 (K:PySem.W.Frag)(mg:Str->Option UT)(f:Addr)(fd:VL):Prop:=Df K mg "_law_copied" dq ["row"] f fd
abbrev Rm (K:PySem.W.Frag)(mg:Str->Option UT)(f:Addr)(fd:VL):Prop:=Df K mg "_law_table_right" bO ["row","table"] f fd
abbrev Ui (K:PySem.W.Frag)(mg:Str->Option UT)(f:Addr)(fd:VL):Prop:=Df K mg "_law_hand" dE ["cell"] f fd
section
variable {P:U0}{w:Vf}{K:PySem.W.Frag}{mg:Str->Option UT}{base:Heap}
theorem qG:aS ["cell"] ["cell"] (aA dE):=⟨rfl,rfl,rfl,by decide +kernel,rfl,by decide +kernel,by decide +kernel⟩
theorem CS {f:Addr} {fd:VL} (F:BO K "_law_hand" "_law_hand" dE f fd) (B:Uj mg):aN P w K mg base b6 1 f fd ["cell"] yS:=by
 refine F.ok qG (λvs H Q E h=>?_) (λcX A outer s H vs Q E hr h=>?_)
 ·obtain⟨c,rfl,_⟩:=h;rfl
 ·obtain⟨c,rfl,k⟩:=h;refine⟨_,gq (jg (uc (bo (iu (oO rfl) (by rfl) B.max qd (bo a_ (bo (c7 zG (pv 0) (c7 pJ a_ a_)) cU)))
   (bo (c7 ue (c7 ug (c7 lK (pv 0) a_) a_) (nS jz (by rfl) B.int uV (bo (vo Jx (pv 0) (c7 pJ a_ a_) (zR _)) cU))) cU)))),?_⟩
  refine⟨_,rfl,_,_,rfl,rfl,zw,_,_,rfl,rfl,_,_,rfl,?_⟩;have m1:=kn (a:=c) (b:=2147483629) (by decide)
  refine⟨_,rfl,_,_,rfl,rfl,(by show (0:Int)<2147483629;decide),_,_,rfl,rfl,_,rfl,_,_,rfl,rfl,zw,rfl,.inr ⟨_,rfl,_,_,rfl,rfl,.inl ⟨by lia,by lia⟩,?_⟩⟩
  refine⟨(by show 2<=U_;decide),λp hp=>k p _ hp ⟨_,_,aw,?_,?_⟩ (ay.new hp)⟩
  ·split <;> lia
  ·split <;> constructor <;> lia
theorem jH:aS ["hand","many","taken"] ["hand","many"] (aA dD):=⟨rfl,rfl,rfl,by decide +kernel,rfl,by decide +kernel,by decide +kernel⟩
theorem NG {y:Int}(h:0<=y)(h':y<2147483647):BC (y+1) 7:=⟨by decide,by decide,by lia⟩
theorem km {f:Addr} {fd:VL} (F:BO K "_law_take" "_law_take" dD f fd):aN P w K mg base b6 1 f fd ["hand","many"] yQ:=by
 refine F.ok jH (λvs H Q E h=>?_) (λcX A outer s H vs Q E hr h=>?_)
 ·obtain⟨h,n,rfl,_⟩:=h;rfl
 ·obtain⟨h,n,rfl,⟨x,y,hx,x0,y0,y1⟩,n0,n1,k⟩:=h;refine⟨_,dF (Ey (vf EF (jM d8 (pv 0) a_ (λ_ _=>rfl)) a_ (zR _))
    (dF (t6 (i:=2) jH.nd rfl (Or.inl rfl) (c7 lK (jM d8 (pv 0) a_ (λ_ _=>rfl)) (pv 1)))
    (dF (pE (c7 qW (jM d8 (pv 0) a_ (λ_ _=>rfl)) (pv 1)) (ub (pv 0) a_ set_list))
    (gq (jg (pv 2))))) vg)
   (dF (pE (c7 lK (c7 ue (jM d8 (pv 0) a_ (λ_ _=>rfl)) a_) a_) (ub (pv 0) a_ set_list))
   (gq (jg (c7 lK (c7 qW (c7 pJ (c7 ug (jM d8 (pv 0) a_ (λ_ _=>rfl)) a_) a_) a_) (pv 1))))),?_⟩
  refine⟨_,rfl,h,_,_,_,rfl,rfl,cP.of hx,rfl,_,_,rfl,rfl,_,rfl,?_⟩;refine N2 (λhp=>?_) (λhp=>?_)
  ·refine⟨_,rfl,h,_,_,_,rfl,rfl,cP.of hx,rfl,_,rfl,_,_,rfl,rfl,n0,?_⟩;refine⟨_,rfl,h,_,_,_,rfl,rfl,cP.of hx,rfl,_,rfl,_,_,rfl,rfl,sY.of n0 n1,?_⟩;refine⟨_,rfl,h,_,_,0,rfl,rfl,hx,rfl,?_⟩;have m:=kn (a:=x) n0;exact⟨_,rfl,k _ _ m.1 m.2 ⟨_,_,aw,Int.ediv_nonneg x0 (Int.le_of_lt n0),y0,y1⟩ Fm.upd⟩
  ·have m1:=kn (a:=y*48271) (b:=2147483647) (by decide)
   refine⟨_,rfl,h,_,_,_,rfl,rfl,cP.of hx,rfl,_,_,rfl,rfl,.inr ⟨by decide,by decide⟩,_,_,rfl,rfl,(by show (0:Int)<2147483647;decide),?_⟩
   refine⟨_,rfl,h,_,_,1,rfl,rfl,hx,rfl,?_⟩;refine⟨_,rfl,h,_,_,_,rfl,rfl,cP.of aw,rfl,_,_,rfl,rfl,_,_,rfl,rfl,NG m1.1 m1.2,_,_,rfl,rfl,sY.of (by decide) (by decide),_,rfl,_,_,rfl,rfl,n0,?_⟩
   have m:=kn (a:=(y*48271 % 2147483647+1) ^ (7:Int).toNat / 8) n0;exact k _ _ m.1 m.2 ⟨_,_,aw,x0,m1.1,m1.2⟩ Fm.upd
theorem c6:aS ["hand","many","found","piled","point","way"] ["hand","many"] (aA fh):=⟨rfl,rfl,rfl,by decide +kernel,rfl,by decide +kernel,by decide +kernel⟩
theorem CW {E9 rV} (dA:D0 K mg E9 rV) {HL uK} (dT:D1 K mg HL uK) (B:Bs mg):aN P w K mg base b6 2 E9 rV ["hand","many"] (i8 P w hV true si):=by
 have GT:aN P w K mg base b6 1 _ _ _ (i8 P w hV true cF):=o8 (km dT.F);refine Gr dA.F c6 (λds R KJ=> by obtain⟨n,e,_⟩ := KJ;subst e;rfl) λcX A outer s H E IO hr=>⟨_,(ag (cM (i:=2) (λ_=>(bh ae)) c6.nd)
    (ag (cM (i:=3) (λ_=>(bh ae)) c6.nd)
    (ag (cm VI rfl (a7 B.range (aa (ab (i:=1)) ae)) (ao (i:=4) c6.nd) (ag (a8 (i:=5) (bA (ih:=0) cF.mono GT (hr.mono (by decide)) dT.m dT.F.kp dT.b (aa ah ae)) c6.nd)
    (ag (bG (aK af (bS.m (cC hr.units)) (ab (i:=5)) ah) (ak (cE (i:=3) (λ_=>(ab (i:=4))))) aP)
    (ak (bG (uW.t (pG (aK af (bS.m (cC hr.units)) (ab (i:=5)) ah) (lB (aK af (bS.m (jj hr.units)) (ab (i:=3)) (bh ae))))) (ak (cE (i:=2) (λ_=>(bf (aa (zu (i:=3)) (aa (ab (i:=4)) ae)))))) aP)))))
    (ak (aZ (bU aF qb B.sorted oR (aa (ab (i:=2)) ae))))))),λds R h=>?_⟩
 obtain⟨n,rfl,n0,n1,q⟩:=h;refine⟨U7 _,trivial,U7 _,trivial,_,rfl,trivial,n,rfl,by omega,by omega,trivial,?_⟩
 refine⟨λi β=>∃(fs:List (List Int)) (ps:List Int) (x4 x5:Option Q.B),β=[some (.hand hV),some (.val false (.int n)),some (.own (.lst (fs.map kD))),some (.own (.lst (ps.map D.int))),x4,x5]/\fs.length<=i/\ps.length<=i/\i<=n.toNat/\bz n fs/\(∀p∈ps,0<=p/\p<i),⟨[],[],_,_,rfl,UU _,UU _,U7 _,bz.nil,λ_ z=>(nomatch z)⟩,?_,?_⟩
 ·rintro i d β hd ⟨fs,ps,x4,x5,rfl,h1,h2,h3,h4,h5⟩;obtain⟨hi,rfl⟩:=bF hd;refine⟨rfl,trivial,rfl,trivial,3,rfl,by omega,by omega,λr r0 r1=>?_⟩
  refine⟨_,rfl,trivial,_,cg _ _,_,rfl,?_⟩;have fin:∃(qi:List (List Int)) (NC:List Int) (x4 x5:Option Q.B),[some (.hand hV),some (.val false (.int n)),some (.own (.lst (fs.map kD))),some (.own (.lst (ps.map D.int))),some (.val true (.int (0+(i:Int)))),some (.val true (.int r))]=[some (.hand hV),some (.val false (.int n)),some (.own (.lst (qi.map kD))),some (.own (.lst (NC.map D.int))),x4,x5]/\qi.length<=i+1/\NC.length<=i+1/\i+1<=n.toNat/\bz n qi/\(∀p∈NC,0<=p/\p<((i+1:Nat):Int)) :=
    ⟨fs,ps,_,_,rfl,by omega,by omega,by omega,h4,λp hp=>by have:=h5 p hp;omega⟩
  refine ni (λEx=>?_) (λEx=>?_)
  ·refine⟨⟨_,rfl⟩,_,rfl,trivial,_,rfl,by rw[US,V2];omega,?_⟩
   refine⟨_,rfl,trivial,_,cg _ _,_,rfl,gy (by simp[Ex]) (gy rfl ?_)⟩
   refine⟨fs,ps++[0+(i:Int)],_,_,by rw[yT];rfl,by omega,by simp;omega,by omega,h4,λp hp=>?_⟩
   rcases Vg.mp hp with z|z
   ·have:=h5 p z;omega
   ·rw[U9.mp z];omega
  ·refine⟨_,rfl,trivial,_,cg _ _,_,rfl,ni (λr2=>?_) (λr2=>gy rfl fin)⟩;refine⟨_,rfl,trivial,U7 _,_,Bb ps [],_,rfl,SD (λhp=>?_) (λhp=>fin)⟩;obtain⟨qs,p,rfl⟩:∃qs p,ps=qs++[p]:=⟨ps.dropLast,ps.getLast hp,(List.dropLast_concat_getLast hp).symm⟩;have QR:=h5 p (by simp)
   rw[Vu,WQ]at h2;refine⟨⟨_,rfl⟩,qs.map D.int,.int p,by simp,trivial,_,rfl,trivial,i4,trivial,fs.map kD,rfl,by rw[US,V2];omega,?_⟩
   refine⟨fs++[[p,0+(i:Int)]],qs,_,_,by rw[kg];rfl,by simp;omega,by omega,by omega,h4.app (bz.one (by omega) (by omega) (by omega)),λx hx=>?_⟩
   have:=h5 x (by simp[hx])
   omega
 ·rintro β ⟨fs,ps,x4,x5,rfl,h1,h2,h3,h4,h5⟩;rw[cv]at h1;refine⟨_,rfl,trivial,_,tT h4.ne (by omega),.inl ⟨eV _,trivial,rfl,q _ ?_ (yM h4)⟩⟩
  rw[(eO fs).length_eq];exact h1
end
section
variable {P:U0}{w:Vf}{K:PySem.W.Frag}{mg:Str->Option UT}{base:Heap}
theorem aV:aS ["hand","many","way","found","k","one","other","reach","kinds","wide"] ["hand","many"] (aA ff):=⟨rfl,rfl,rfl,by decide +kernel,rfl,by decide +kernel,by decide +kernel⟩
def T9 (n way:Int)(f:Q.B)(β:Q.bg):Prop:=∃x4 x5 x6 x7 x8 x9:Option Q.B,β=[some (.hand hV),some (.val false (.int n)),some (.val true (.int way)),some f,x4,x5,x6,x7,x8,x9]
theorem CN {IB xE} (dI:D2 K mg IB xE) {HL uK} (dT:D1 K mg HL uK) {E9 rV} (dA:D0 K mg E9 rV) (B:Bs mg):aN P w K mg base b6 3 IB xE ["hand","many"] (i8 P w hV true rZ):=by
 have GT:aN P w K mg base b6 1 _ _ _ (i8 P w hV true cF):=o8 (km dT.F);have GA:aN P w K mg base b6 2 _ _ _ (i8 P w hV true si):=CW dA dT B;refine Gr dI.F aV (λds R KI=> by obtain⟨n,e,_⟩ := KI;subst e;rfl) λcX A outer s H E IO hr=>⟨_,(ag (a8 (i:=2) (bA (ih:=0) cF.mono GT (hr.mono (by decide)) dT.m dT.F.kp dT.b (aa ah ae)) aV.nd)
    (ag (cM (i:=3) (λ_=>(bh ae)) aV.nd)
    (ft (bG (uW.t (pF (aK af (bS.m (cC hr.units)) (ab (i:=2)) ah) (ki (aK af (bS.m (cC hr.units)) (ab (i:=2)) ah)))) (ak (cm VI rfl (a7 B.range (aa (bA (ih:=0) cF.mono GT (hr.mono (by decide)) dT.m dT.F.kp dT.b (aa (aG af a9 (bh (aa ah (aa ah (aa ah ae)))) (bA (ih:=0) cF.mono GT (hr.mono (by decide)) dT.m dT.F.kp dT.b (aa ah ae))) ae)) ae)) (ao (i:=4) aV.nd) (ag (a8 (i:=5) (bA (ih:=0) cF.mono GT (hr.mono (by decide)) dT.m dT.F.kp dT.b (aa (ab (i:=1)) ae)) aV.nd)
    (ag (a8 (i:=6) (aE af (bS.m CL) (aE aF au (aE aF au (ab (i:=5)) ah) (bA (ih:=0) cF.mono GT (hr.mono (by decide)) dT.m dT.F.kp dT.b (aa (aE af (bS.m bu) (ab (i:=1)) ah) ae))) (ab (i:=1))) aV.nd)
    (ak (cE (i:=3) (λ_=>(bf (aa (bU af (cG.m (gY rfl)) B.min uU (aa (ab (i:=5)) (aa (ab (i:=6)) ae))) (aa (bU af (cG.m (uS rfl)) B.max qd (aa (ab (i:=5)) (aa (ab (i:=6)) ae))) ae)))))))))) aP)
    (ag (a8 (i:=7) (aE aF au ah (bA (ih:=0) cF.mono GT (hr.mono (by decide)) dT.m dT.F.kp dT.b (aa ah ae))) aV.nd)
    (ft (bG (aK af (bS.m (cC hr.units)) (ab (i:=2)) ah) (ak (cm VI rfl (a7 B.range (aa (ab (i:=1)) ae)) (ao (i:=5) aV.nd) (ak (cm VI rfl (fq B.range (aa (aE aF au (ab (i:=5)) ah) (aa (bU af (cG.m (gY rfl)) B.min uU (aa (ab (i:=1)) (aa (aE aF au (aE aF au (ab (i:=5)) ah) (ab (i:=7))) ae))) ae))) (ao (i:=6) aV.nd) (ak (bG (aK af (bS.m zK) (bA (ih:=0) cF.mono GT (hr.mono (by decide)) dT.m dT.F.kp dT.b (aa ah ae)) ah) (ak (cE (i:=3) (λ_=>(bf (aa (ab (i:=5)) (aa (ab (i:=6)) ae)))))) aP)))))) aP)
    (ft (bG (aK af (bS.m (cC hr.units)) (ab (i:=2)) ah) (ag (a8 (i:=8) (L1 ["point","hand"] [none,some 0] (by rfl) (by decide:(["point","hand"]:List Str).Nodup) rfl (a7 B.range (aa (ab (i:=1)) ae)) (λ_ _ _ _ _ _=>(ao (i:=0) (by decide:(["point","hand"]:List Str).Nodup))) (λ_ _ _ _ _ _=>dc) (λ_ _ _ _ _ _=>(bA (ih:=1) cF.mono GT (hr.mono (by decide)) dT.m dT.F.kp dT.b (aa ah ae)))) aV.nd)
    (ag (a8 (i:=9) (aG af a9 (bh (aa (ab (i:=1)) (aa ah ae))) (ji af (cG.m xU) B.int uV (aa (lE af (bS.m zK) (ab (i:=1)) ah) ae))) aV.nd)
    (ak (cm VI rfl (a7 B.range (aa (ab (i:=1)) ae)) (ao (i:=5) aV.nd) (ak (nV (i:=3) (L1 ["k","one","kinds"] [none,some 5,some 8] (by rfl) (by decide:(["k","one","kinds"]:List Str).Nodup) rfl (fq B.range (aa (aE aF au (ab (i:=5)) ah) (aa (bU af (cG.m (gY rfl)) B.min uU (aa (ab (i:=1)) (aa (aE aF au (ab (i:=5)) (ab (i:=9))) ae))) ae))) (λ_ _ _ _ _ _=>(ao (i:=0) (by decide:(["k","one","kinds"]:List Str).Nodup))) (λ_ _ _ _ _ _=>(kT (aK af (bS.m (cC hr.units)) (aE aF au (aG af a9 (ab (i:=2)) (ab (i:=1))) (aG af a9 (ab (i:=2)) (ab (i:=0)))) ah))) (λ_ _ _ _ _ _=>(bf (aa (ab (i:=1)) (aa (ab (i:=0)) ae))))))))))) aP)
    (ft (bG (aK af (bS.m (cC hr.units)) (ab (i:=2)) ah) (ak (cM (i:=3) (λ_=>(aE aF au (t_ (i:=3)) (bA (ih:=0) si.mono GA (hr.mono (by decide)) dA.m dA.F.kp dA.b (aa (ab (i:=1)) ae)))) aV.nd)) aP)
    (ak (aZ (Ez (bU aF (qa rfl) B.sorted oR (aa (ji af (cG.m (xT rfl hr.BY)) B.set H9 (aa (ab (i:=3)) ae)) ae)) qP (qO ah))))))))))),λds R h=>?_⟩
 obtain⟨n,rfl,n0,n1,q⟩:=h;refine⟨rfl,trivial,rfl,trivial,5,rfl,by lia,by lia,λway w0 w1=>?_⟩
 refine⟨U7 _,trivial,?_⟩;refine⟨λβ=>∃fs:List (List Int),T9 n way (.own (.lst (fs.map kD))) β/\bz n fs/\fs.length<=300/\(way≠1->way≠4->fs=[]),?_,?_⟩
 ·-- drawn RD
  have no:∃fs:List (List Int),T9 n way (.own (.lst (fs.map kD))) [some (.hand hV),some (.val false (.int n)),some (.val true (.int way)),some (.own (.lst [])),none,none,none,none,none,none]/\bz n fs/\fs.length<=300/\(way≠1->way≠4->fs=[]) :=
   ⟨[],⟨_,_,_,_,_,_,rfl⟩,bz.nil,by simp,λ_ _=>rfl⟩
  refine(λ(key:way=1\/way=4->_)=>⟨_,rfl,trivial,_,cg _ _,_,rfl,ni (λh1=>s9 rfl (key (.inl h1))) (λh1=>⟨_,rfl,trivial,_,cg _ _,_,rfl,ni (λh4=>key (.inr h4)) (λh4=>no)⟩)⟩) ?_
  ·intro Um;refine⟨rfl,trivial,trivial,trivial,RJ,trivial,rfl,trivial,rfl,trivial,3,rfl,by lia,by lia,λr r0 r1=>pick r0 (by simpa using r1) λd hd=>?_⟩
   obtain⟨m,rfl,m0,m1⟩:∃m:Int,d=.int m/\0<m/\m<=301:=by
    simp only[U1,VZ,or_false]at hd;rcases hd with rfl|rfl|rfl
    ·exact⟨5,rfl,by lia,by lia⟩
    ·exact⟨12,rfl,by lia,by lia⟩
    ·exact⟨301,rfl,by lia,by lia⟩
   refine⟨trivial,rfl,trivial,m,rfl,m0,by lia,λj j0 j1=>⟨trivial,j,rfl,by lia,by lia,trivial,?_⟩⟩
   refine⟨λi β=>∃fs:List (List Int),T9 n way (.own (.lst (fs.map kD))) β/\bz n fs/\fs.length<=i,⟨[],⟨_,_,_,_,_,_,rfl⟩,bz.nil,by simp⟩,?_,?_⟩
   ·rintro i d β hd ⟨fs,⟨x4,x5,x6,x7,x8,x9,rfl⟩,ht,hl⟩;obtain⟨hi,rfl⟩:=bF hd;refine⟨rfl,_,rfl,trivial,rfl,trivial,n,rfl,by lia,by lia,λone o0 o1=>?_⟩
    refine⟨_,rfl,trivial,_,rfl,trivial,rfl,_,rfl,trivial,_,rfl,trivial,rfl,trivial,n-1,rfl,by lia,by lia,λr' R4 Ex=>?_⟩
    have OR:Lr (.int (one+1+r')) (.int n)=some (.int ((one+1+r') % n)):=if_pos (by lia)
    refine⟨_,rfl,trivial,_,rfl,_,OR,?_⟩;refine⟨⟨_,rfl⟩,_,rfl,trivial,_,rfl,trivial,_,rfl,trivial,_,rfl,trivial,_,rfl,trivial,_,rfl,trivial,i4,trivial,_,rfl,by rw[US,V2];lia,?_⟩
    have Dz:(one+1+r') % n≠one/\0<=(one+1+r') % n/\(one+1+r') % n<n:=by
     by_cases eZ:one+1+r'<n
     ·rw[Int.emod_eq_of_lt (by lia) eZ];lia
     ·rw[show one+1+r'=(one+1+r' - n)+n by lia,Int.add_emod_right,Int.emod_eq_of_lt (by lia) (by lia)];lia
    generalize (one+1+r') % n=LV at Dz;refine⟨fs++[[if LV<one then LV else one,if LV>one then LV else one]],⟨_,_,_,_,_,_,by rw[kg];rfl⟩,ht.app (bz.one ?_ ?_ ?_),by simp;lia⟩
    all_goals (split <;> (try split) <;> lia)
   ·rintro β ⟨fs,h9,ht,hl⟩;rw[cv]at hl;exact⟨fs,h9,ht,by lia,λa b=>by lia⟩
 ·rintro β ⟨fs,⟨x4,x5,x6,x7,x8,x9,rfl⟩,ht,hl,hz⟩;refine⟨trivial,rfl,trivial,rfl,trivial,6,rfl,by lia,by lia,λreach e0 e1=>⟨_,rfl,?_⟩⟩
  refine⟨λβ=>∃fs:List (List Int),T9 n way (.own (.lst (fs.map kD))) β/\bz n fs/\fs.length<=300/\(way=3->fs=[]),?_,?_⟩
  ·have no:∃qi:List (List Int),T9 n way (.own (.lst (qi.map kD))) [some (.hand hV),some (.val false (.int n)),some (.val true (.int way)),some (.own (.lst (fs.map kD))),x4,x5,x6,some (.val true (.int (1+reach))),x8,x9]/\bz n qi/\qi.length<=300/\(way=3->qi=[]) :=
    ⟨fs,⟨_,_,_,_,_,_,rfl⟩,ht,hl,λh=>hz (by lia) (by lia)⟩
   refine⟨_,rfl,trivial,_,cg _ _,_,rfl,ni (λw2=>?_) (λw2=>no)⟩;have N7:fs=[]:=hz (by lia) (by lia)
   subst N7;refine⟨_,rfl,trivial,n,rfl,by lia,by lia,trivial,?_⟩
   refine⟨λi β=>∃(fs:List (List Int)) (y4 y5 y6 y8 y9:Option Q.B),β=[some (.hand hV),some (.val false (.int n)),some (.val true (.int way)),some (.own (.lst (fs.map kD))),y4,y5,y6,some (.val true (.int (1+reach))),y8,y9]/\bz n fs/\fs.length<=i*6,⟨[],_,_,_,_,_,rfl,bz.nil,by simp⟩,?_,?_⟩
   ·rintro i d β hd ⟨fs,y4,y5,y6,y8,y9,rfl,ht,hl⟩;obtain⟨hi,rfl⟩:=bF hd;refine⟨_,rfl,trivial,_,rfl,trivial,_,rfl,trivial,_,rfl,trivial,_,rfl,trivial,_,rfl,_,rfl,trivial,_,rfl,trivial,_,_,rfl,⟨by lia,by lia,by split <;> lia,by split <;> lia⟩,trivial,?_⟩
    generalize L_:(0:Int)+(i:Int)+1=lo;have O1:((if lo+(1+reach)<n then lo+(1+reach) else n)-lo).toNat<=6/\(if lo+(1+reach)<n then lo+(1+reach) else n)<=n:=by split <;> lia
    generalize (if lo+(1+reach)<n then lo+(1+reach) else n)=fK at O1
    refine⟨λk β=>∃(fs:List (List Int)) (y4 y6 y8 y9:Option Q.B),β=[some (.hand hV),some (.val false (.int n)),some (.val true (.int way)),some (.own (.lst (fs.map kD))),y4,some (.val true (.int (0+(i:Int)))),y6,some (.val true (.int (1+reach))),y8,y9]/\bz n fs/\fs.length<=i*6+k,⟨fs,_,_,_,_,rfl,ht,by lia⟩,?_,?_⟩
    ·rintro k d β hd ⟨fs,y4,y6,y8,y9,rfl,ht,hl⟩;obtain⟨hk,rfl⟩:=bF hd;refine⟨rfl,trivial,rfl,trivial,3,rfl,by lia,by lia,λr r0 r1=>⟨trivial,_,rfl,_,rfl,ni (λhp=>?_) (λhp=>?_)⟩⟩
     ·refine⟨⟨_,rfl⟩,_,rfl,trivial,_,rfl,trivial,i4,trivial,_,rfl,by rw[US,V2];lia,?_⟩
      exact⟨fs++[[0+(i:Int),lo+(k:Int)]],_,_,_,_,by rw[kg];rfl,ht.app (bz.one (by lia) (by lia) (by lia)),by simp;lia⟩
     ·exact⟨fs,_,_,_,_,rfl,ht,by lia⟩
    ·rintro β ⟨fs,y4,y6,y8,y9,rfl,ht,hl⟩;rw[cv]at hl;exact⟨fs,_,_,_,_,_,rfl,ht,by lia⟩
   ·rintro β ⟨fs,y4,y5,y6,y8,y9,rfl,ht,hl⟩;rw[cv]at hl;exact⟨fs,⟨_,_,_,_,_,_,rfl⟩,ht,by lia,λh=>by lia⟩
  ·rintro β ⟨fs,⟨x4,x5,x6,x7,x8,x9,rfl⟩,ht,hl,hz⟩;refine⟨λβ=>∃fs:List (List Int),T9 n way (.own (.lst (fs.map kD))) β/\bz n fs/\fs.length<=960/\(way=4->fs.length<=300),?_,?_⟩
   ·have no:∃qi:List (List Int),T9 n way (.own (.lst (qi.map kD))) [some (.hand hV),some (.val false (.int n)),some (.val true (.int way)),some (.own (.lst (fs.map kD))),x4,x5,x6,x7,x8,x9]/\bz n qi/\qi.length<=960/\(way=4->qi.length<=300) :=
     ⟨fs,⟨_,_,_,_,_,_,rfl⟩,ht,by lia,λh=>hl⟩
    refine⟨_,rfl,trivial,_,cg _ _,_,rfl,ni (λw3=>?_) (λw3=>no)⟩;have N7:fs=[]:=hz w3;subst N7;refine⟨_,rfl,trivial,n,rfl,by lia,by lia,trivial,?_⟩
    refine⟨λi β o=>(∃x0,β=[x0,some (.hand hV)])/\∃ks:List Int,o=ks.map D.int/\ks.length=i/\∀k∈ks,0<=k/\k<3,⟨⟨_,rfl⟩,[],rfl,rfl,λ_ z=>(nomatch z)⟩,?_,?_⟩
    ·rintro i d β o hd ⟨⟨x0,rfl⟩,ks,rfl,hk,QX⟩;obtain⟨hi,rfl⟩:=bF hd;refine⟨rfl,trivial,rfl,trivial,3,rfl,by lia,by lia,λr r0 r1=>⟨trivial,by rw[US,V2];lia,⟨_,rfl⟩,ks++[r],by simp,by simp[hk],λk hk=>?_⟩⟩
     rcases Vg.mp hk with z|z
     ·exact QX k z
     ·rw[U9.mp z];exact⟨r0,r1⟩
    rintro β o ⟨⟨x0,rfl⟩,ks,rfl,ho,QX⟩;rw[cv]at ho;refine⟨⟨rfl,trivial⟩,?_⟩;obtain⟨wd,TB,Ul,Uk⟩:∃wd:Int,mV (.lst [.int n,.int 14]) (.int (if decide (n>24)=true then 1 else 0))=some (.int wd)/\0<=wd/\wd<=24:=by
     by_cases hn:n>24
     ·exact⟨14,by rw[if_pos (by simpa using hn)];rfl,by lia,by lia⟩
     ·exact⟨n,by rw[if_neg (by simpa using hn)];rfl,by lia,by lia⟩
    refine⟨_,rfl,trivial,trivial,i4,trivial,_,rfl,trivial,_,rfl,trivial,_,rfl,_,TB,?_⟩;refine⟨_,rfl,trivial,n,rfl,by lia,by lia,trivial,?_⟩
    refine⟨λi β=>∃(fs:List (List Int)) (y4 y5 y6 y7:Option Q.B),β=[some (.hand hV),some (.val false (.int n)),some (.val true (.int way)),some (.own (.lst (fs.map kD))),y4,y5,y6,y7,some (.val true (.lst (ks.map D.int))),some (.val true (.int wd))]/\bz n fs/\fs.length<=i*24,⟨[],_,_,_,_,rfl,bz.nil,by simp⟩,?_,?_⟩
    ·rintro i d β hd ⟨fs,y4,y5,y6,y7,rfl,ht,hl⟩;obtain⟨hi,rfl⟩:=bF hd;refine⟨⟨_,rfl⟩,_,rfl,trivial,_,rfl,trivial,_,rfl,trivial,_,rfl,trivial,_,rfl,_,rfl,trivial,_,rfl,trivial,_,_,rfl,⟨by lia,by lia,by split <;> lia,by split <;> lia⟩,trivial,?_⟩
     have O1:((if 0+(i:Int)+wd<n then 0+(i:Int)+wd else n)-(0+(i:Int)+1)).toNat<=24/\(if 0+(i:Int)+wd<n then 0+(i:Int)+wd else n)<=n:=by split <;> lia
     generalize (if 0+(i:Int)+wd<n then 0+(i:Int)+wd else n)=fK at O1
     refine⟨λj β o=>(∃x0,β=[x0,some (.val true (.int (0+(i:Int)))),some (.val true (.lst (ks.map D.int)))])/\∃us:List (List Int),o=us.map kD/\us.length<=j/\bz n us,⟨⟨_,rfl⟩,[],rfl,UU _,bz.nil⟩,?_,?_⟩
     ·rintro j d β o hd ⟨⟨x0,rfl⟩,us,rfl,hj,As⟩;obtain⟨Iw,rfl⟩:=bF hd;obtain⟨r1,_,e1⟩:=sC (ks:=ks) (i:=0+(i:Int)) (by lia) (by lia)
      obtain⟨r2,_,e2⟩:=sC (ks:=ks) (i:=0+(i:Int)+1+(j:Int)) (by lia) (by lia)
      refine⟨_,rfl,trivial,_,rfl,_,e1,trivial,_,rfl,trivial,_,rfl,_,e2,_,rfl,trivial,_,cg _ _,_,rfl,ni (λh=>?_) (λh=>⟨⟨_,rfl⟩,us,rfl,by lia,As⟩)⟩
      refine⟨_,rfl,trivial,_,rfl,trivial,i4,trivial,by rw[US,V2];lia,⟨_,rfl⟩,us++[[0+(i:Int),0+(i:Int)+1+(j:Int)]],by rw[kg];rfl,by simp;lia,As.app (bz.one (by lia) (by lia) (by lia))⟩
     ·rintro β o ⟨⟨x0,rfl⟩,us,rfl,hlen,As⟩;rw[cv]at hlen;refine⟨trivial,_,us.map kD,rfl,eV us,rfl,by rw[US,US,V2];lia,?_⟩
      exact⟨fs++us,_,_,_,_,by rw[Vn];rfl,ht.app As,by simp;lia⟩
    ·rintro β ⟨fs,y4,y5,y6,y7,rfl,ht,hl⟩;rw[cv]at hl;exact⟨fs,⟨_,_,_,_,_,_,rfl⟩,ht,by lia,λh=>by lia⟩
   ·rintro β ⟨fs,⟨x4,x5,x6,x7,x8,x9,rfl⟩,ht,hl,hz⟩;refine⟨λβ=>∃fs:List (List Int),T9 n way (.own (.lst (fs.map kD))) β/\bz n fs/\fs.length<1000,?_,?_⟩
    ·refine⟨_,rfl,trivial,_,cg _ _,_,rfl,ni (λw4=>?_) (λw4=>⟨fs,⟨_,_,_,_,_,_,rfl⟩,ht,by lia⟩)⟩
     have:=hz w4;refine⟨_,rfl,trivial,rfl,_,rfl,trivial,rfl,trivial,n,rfl,by lia,by lia,λts tl tt=>?_⟩
     have ea:Bf (.lst (fs.map kD)) (.lst (ts.map kD))=some (.lst ((fs++ts).map kD)):=by
      rw[Vn];exact if_pos (by rw[US,US,V2];lia)
     exact⟨_,ea,.inl ⟨eV _,trivial,fs++ts,⟨_,_,_,_,_,_,rfl⟩,ht.app tt,by simp;lia⟩⟩
    ·rintro β ⟨fs,⟨x4,x5,x6,x7,x8,x9,rfl⟩,ht,hl⟩;obtain⟨ts,e,hX⟩:=A8 ht;refine⟨_,rfl,trivial,_,yY ht.ne hl,.inr ⟨trivial,_,tS ht.ne hl,.inl ⟨eV _,300,rfl,_,rfl,?_⟩⟩⟩;rw[e];exact .inl ⟨eV _,trivial,rfl,q _ hX⟩
theorem lq:aS ["hand","many"] ["hand"] (aA gj):=⟨rfl,rfl,rfl,by decide +kernel,rfl,by decide +kernel,by decide +kernel⟩
theorem Gp {Mk DJ} (dR:D3 K mg Mk DJ) {HL uK} (dT:D1 K mg HL uK) {E9 rV} (dA:D0 K mg E9 rV) {IB xE} (dI:D2 K mg IB xE) (B:Bs mg):aN P w K mg base b6 4 Mk DJ ["hand"] (i8 P w hV true AW):=by
 have GT:aN P w K mg base b6 1 _ _ _ (i8 P w hV true cF):=o8 (km dT.F);have GI:aN P w K mg base b6 3 _ _ _ (i8 P w hV true rZ):=CN dI dT dA B;refine Gr dR.F lq (λds R KH=> by obtain⟨e,_⟩ := KH;subst e;rfl) λcX A outer s H E IO hr=>⟨_,(ag (a8 (i:=1) (bA (ih:=0) cF.mono GT (hr.mono (by decide)) dT.m dT.F.kp dT.b (aa (aG af a9 (bh (aa ah (aa ah (aa ah (aa ah ae))))) (bA (ih:=0) cF.mono GT (hr.mono (by decide)) dT.m dT.F.kp dT.b (aa ah ae))) ae)) lq.nd)
    (ag (bG (aK af (bS.m lL) (ab (i:=1)) ah) (ak (aZ (bf (aa (ab (i:=1)) (aa (bh ae) ae))))) aP)
    (ak (aZ (bf (aa (ab (i:=1)) (aa (bA (ih:=0) rZ.mono GI (hr.mono (by decide)) dI.m dI.F.kp dI.b (aa (ab (i:=1)) ae)) ae))))))),λds R h=>?_⟩
 obtain⟨rfl,q⟩:=h;refine⟨rfl,trivial,trivial,trivial,trivial,(by show 4<=U_;decide),trivial,rfl,trivial,rfl,trivial,4,rfl,by lia,by lia,λr r0 r1=>pick r0 (by simpa using r1) λd hd=>?_⟩
 obtain⟨m,rfl,m0,m1⟩:∃m:Int,d=.int m/\0<m/\m<=41:=by
  simp only[U1,VZ,or_false]at hd;rcases hd with rfl|rfl|rfl|rfl
  ·exact⟨7,rfl,by lia,by lia⟩
  ·exact⟨7,rfl,by lia,by lia⟩
  ·exact⟨11,rfl,by lia,by lia⟩
  ·exact⟨41,rfl,by lia,by lia⟩
 refine⟨trivial,rfl,trivial,m,rfl,m0,by lia,λn j0 j1=>?_⟩
 refine⟨_,rfl,trivial,_,rfl,_,rfl,ni (λh=>?_) (λh=>?_)⟩
 ·exact⟨_,rfl,trivial,U7 _,trivial,i4,trivial,rfl,q n [] j0 (by lia) ⟨by simp,bz.nil,List.Pairwise.nil,VQ⟩⟩
 ·exact⟨_,rfl,trivial,rfl,_,rfl,trivial,rfl,trivial,n,rfl,by lia,by lia,λts hX=>⟨trivial,i4,trivial,rfl,q n ts j0 (by lia) hX⟩⟩
end
end kJ
namespace L2.Q
open PySem PySem.Spec PySem.SeqAt PyProof.Rows
inductive Dp:Nat->D->Prop
 |leaf {n:Nat} {d:D} (h:Ep d):Dp n d
 |tup {n:Nat} {es:List D} (l:es.length<=1000) (h:∀x∈es,Dp n x):Dp (n+1) (.tup es)
 |lst {n:Nat} {es:List D} (l:es.length<=1000) (h:∀x∈es,Dp n x):Dp (n+1) (.lst es)
theorem Dp.int {n:Nat}{i:Int}:Dp n (.int i):=.leaf (.int i)
theorem Dp.kD {n:Nat}{t:List Int}(l:t.length<=1000):Dp (n+1) (kD t):=.tup (by rw[US];exact l) λx hx=>by
 obtain⟨i,_,rfl⟩:=Vx.mp hx;exact .int
def fy (n:Nat):FD:=λds R=>∃d,ds=[d,d]/\Dp n d/\R (.bl true)
theorem fy.mono {n:Nat}:dy (fy n):=λds R R' k ⟨d,e,h,q⟩=>⟨d,e,h,k _ q⟩
theorem xM (ns:List Int)(lo hi:Option Int):∃ms:List Int,sF (ns.map V.int) lo hi=ms.map V.int/\ms.length<=ns.length:=by
 refine⟨(ns.drop (HT.ly (ns.map V.int).length 0 lo)).take (HT.ly (ns.map V.int).length (ns.map V.int).length hi-HT.ly (ns.map V.int).length 0 lo),?_,?_⟩
 ·unfold sF;rw[Y0,List.map_drop]
 ·rw[Vl,XF];lia
section
variable {P:U0}{w:Vf}
theorem b_ {W:Addr->Prop}{H:Hp}:∀ns:List Int,aj P w W H (ns.map D.int) (ns.map V.int)
 |[]=>rfl
 |n::ns=>⟨_,_,rfl,rfl,b_ ns⟩
theorem B9 {N:List Str}{vs:List V}{H H':Hp}{n:Nat}{ro:Bool}{U:Addr->Prop}(hl:(L2.start N vs).length=n)(sm:ay H H'):bR P w ⟨H,λ_=>False,ro,U⟩ (L2.start N vs) H' (VF n none) (λ_=>[]) :=
 ⟨by rw[hl,List.length_replicate],λi y d h=>(fO h).elim,λi d h=>(fO h).elim,λi ok h=>(fO h).elim,λi a h=>(nomatch h),λi j a h=>(nomatch h),λi=>VQ,sm.kp,λa z e=>z (sm.free e),λi y d h=>(fO h).elim⟩
theorem Ji {ro:Bool}{H H':Hp}{b:Bool}{v:V}(h:sV P w ro H H' (.bl b) v):v=.bl b:=by
 cases ro with
 |true=>obtain⟨A,h1,_⟩:=h;exact h1.1
 |false=>exact h
end
end L2.Q
namespace L2
open PySem PySem.Spec PySem.SeqAt PyProof.Rows
abbrev F0 (n:Int)(rows:List (List Int)):D:=.tup [.int n,.lst (rows.map kD)]
theorem wB (n:Int)(rows:List (List Int)):(F0 n rows).pd.canLay0=true/\(F0 n rows).pd.depth<=4:=nN λd hd=>by
 rcases U1.mp hd with rfl|hd
 ·exact⟨(bL n).1,VN (bL n).2 (by decide)⟩
 ·rw[U9.mp hd];exact tU rows
section
variable {κ:Type}[DecidableEq κ]
def fH (kvs:List (κ×V))(k:κ):Option V:=(kvs.find? λkv=>decide (kv.1=k)).map (·.2)
def putK (kvs:List (κ×V))(k:κ)(v:V):List (κ×V) :=
 if (kvs.any λkv=>decide (kv.1=k))=true then kvs.map (λkv=>if kv.1=k then (kv.1,v) else kv) else kvs++[(k,v)]
theorem kO {p:κ×V}{r:List (κ×V)}{k:κ}(e:p.1=k):fH (p::r) k=some p.2:=by simp[fH,Wa,e]
theorem kP {p:κ×V}{r:List (κ×V)}{k:κ}(e:¬ p.1=k):fH (p::r) k=fH r k:=by simp[fH,Wa,e]
theorem kQ (k:κ):∀kvs:List (κ×V),(kvs.any λkv=>decide (kv.1=k))=(fH kvs k).isSome
 |[]=>rfl
 |p::r=>by
  rw[List.any_cons]
  by_cases e:p.1=k
  ·simp only[kO e,decide_eq_true e,Bool.true_or,Option.isSome_some]
  ·rw[kP e,decide_eq_false e,Bool.false_or];exact kQ k r
theorem rB (kvs:List (κ×V))(k:κ)(v:V):(putK kvs k v).length<=kvs.length+1:=by
 unfold putK
 split
 ·rw[US];lia
 ·rw[Vu,Vd,List.length_nil];lia
theorem zg {kvs:List (κ×V)}{k:κ}(v:V)(h:fH kvs k=none):putK kvs k v=kvs++[(k,v)]:=by
 unfold putK;rw[kQ,h];exact if_neg (by decide)
theorem mP.xu {o:Option V}{u:Option UT}(r:mP o u):o.isSome=u.isSome:=by
 cases o with
 |none=>cases u with
  |none=>rfl
  |some _=>exact(show False from r).elim
 |some _=>cases u with
  |none=>exact(show False from r).elim
  |some _=>rfl
theorem KV.val {kvs:List (κ×V)}{vs:List (κ×UT)}(r:KV kvs vs)(k:κ):mP (fH kvs k) (Y9 vs k):=by
 unfold KV at r
 induction r with
 |nil=>exact WL
 | @cons p q ps qs h t ih =>
  obtain⟨h1,h2⟩:=h
  by_cases e:p.1=k
  ·have e':q.1=k:=h1.symm.trans e;have b:Y9 (q::qs) k=some q.2:=by simp[Y9,Wa,e']
   rw[kO e,b];exact h2
  ·have e':¬ q.1=k:=λz=>e (h1.trans z);have b:Y9 (q::qs) k=Y9 qs k:=by simp[Y9,Wa,e']
   rw[kP e,b];exact ih
end
theorem ES {P:U0}{w:Vf}{k:Key}{u:UT}(r:RelV (kV k) u):(cb P w).is k u=true:=by
 cases k with
 |inl i=>obtain⟨t,e⟩:=(show ∃t,u=Value.int i t from r);subst e;exact rj P w i t
 |inr x=>obtain⟨t,e⟩:=(show ∃t,u=Value.str x t from r);subst e;exact rh P w x t
theorem ot {P:U0}{w:Vf}:∀{ks:List Key} {us:List UT},Vals (ks.map kV) us->ItemsAre (cb P w) ks us
 |[],_,r=>by rw[List.map_nil]at r;cases r;exact .nil
 |k::ks,_,r=>by
  rw[Vo]at r;cases r with
  |cons h t=>exact .cons (ES h) (ot t)
abbrev KT (H:Hp):List (List Key×V)->List (List Key×Addr×UT)->Prop:=Paired λp q=>p.1=q.1/\H q.2.1=some (.tup (p.1.map kV))/\RelV p.2 q.2.2
theorem KT.val {H:Hp}{kvs:List (List Key×V)}{xs:List (List Key×Addr×UT)}(r:KT H kvs xs)(k:List Key):mP (fH kvs k) ((ZM xs k).map (·.2)):=by
 induction r with
 |nil=>exact WL
 | @cons p q ps qs h t ih =>
  obtain⟨h1,_,h2⟩:=h
  by_cases e:p.1=k
  ·have e':q.1=k:=h1.symm.trans e;have b:ZM (q::qs) k=some q.2:=by simp[ZM,Wa,e']
   rw[kO e,b];exact h2
  ·have e':¬ q.1=k:=λz=>e (h1.trans z);have b:ZM (q::qs) k=ZM qs k:=by simp[ZM,Wa,e']
   rw[kP e,b];exact ih
theorem KT.Na {H:Hp}{kvs:List (List Key×V)}{xs:List (List Key×Addr×UT)}(r:KT H kvs xs)(k:List Key){y:V}{u:UT}(ry:RelV y u):
  KT H (kvs.map λkv=>if kv.1=k then (kv.1,y) else kv) (xs.map (putAt k u)):=by
 induction r with
 |nil=>exact .nil
 | @cons p q ps qs h t ih =>
  rw[Vo,Vo];refine .cons ?_ ih;obtain⟨h1,h2,h3⟩:=h;unfold putAt
  by_cases e:p.1=k
  ·rw[if_pos e,if_pos (h1.symm.trans e)];exact⟨h1,h2,ry⟩
  ·rw[if_neg e,if_neg (λz=>e (h1.trans z))];exact⟨h1,h2,h3⟩
theorem KT.put {H:Hp}{kvs:List (List Key×V)}{xs:List (List Key×Addr×UT)}(r:KT H kvs xs)(k:List Key){b:Addr}{y:V}{u:UT}(hb:H b=some (.tup (k.map kV)))(ry:RelV y u):
  KT H (putK kvs k y) (storedH xs k b u):=by
 have e:(kvs.any λkv=>decide (kv.1=k))=(ZM xs k).isSome:=by
  rw[kQ,(r.val k).xu,Option.isSome_map]
 unfold putK storedH;rw[e]
 by_cases q:(ZM xs k).isSome=true
 ·rw[if_pos q,if_pos q];exact r.Na k ry
 ·rw[if_neg q,if_neg q];exact Paired.snoc r ⟨rfl,hb,ry⟩
theorem KT.keeps {H H':Hp}{kvs:List (List Key×V)}{xs:List (List Key×Addr×UT)}(r:KT H kvs xs)(ht:∀b ys,H b=some (.tup ys)->H' b=some (.tup ys)):KT H' kvs xs :=
 Paired.GC r λ_ _ z=>⟨z.1,ht _ _ z.2.1,z.2.2⟩
section
variable {P:U0}{w:Vf}{H:Hp}{h:Heap}{a:Addr}
theorem Ew {u:HO}(ok:hG P w H h)(e:Rd H a u):bb P w H h a u:=e.ok ok
theorem Fb {kvs:List (Key×V)}(ok:hG P w H h)(e:Rd H a (.dK kvs)):kvs.length<=U_/\(a==XD)=false/\∃vs,KV kvs vs/\h.DictOf (cb P w) a vs :=
 show bb P w H h a (.dK kvs) from Ew ok e
theorem uw {ks:List Key}(ok:hG P w H h)(e:H a=some (.tup (ks.map kV))):(Yj (cb P w)).is h ks a:=by
 obtain⟨_,its,r,o,h1,h2,n,h3⟩:=(show bb P w H h a (.tup (ks.map kV)) from ok a _ e)
 exact⟨o,its.toArray,n,h1,h2,h3,by simpa using ot r⟩
theorem A5 {kvs:List (List Key×V)}(ok:hG P w H h)(e:Rd H a (.dT kvs)):kvs.length<=U_/\(a==XD)=false /\
  ∃xs,KT H kvs xs/\h.DictOfH (Yj (cb P w)) a xs:=by
 obtain⟨z,y,xs,r,o,es,ep,h1,h2,h3,h4,h5⟩:=(show bb P w H h a (.dT kvs) from Ew ok e)
 refine⟨z,y,xs,r,o,es,ep,h1,h2,h3,h4,λx hx=>?_,h5⟩;have all:∀{l:List (List Key×V)} {m:List (List Key×Addr×UT)},KT H l m->∀x∈m,(Yj (cb P w)).is h x.1 x.2.1:=by
  intro l m q
  induction q with
  |nil=>intro x hx;exact nomatch hx
  | @cons p q ps qs hq t ih =>
   intro x hx;rcases U1.mp hx with e|hx
   ·subst e;exact uw ok (by rw[<- hq.1];exact hq.2.1)
   ·exact ih x hx
 exact all r x hx
theorem Ll {kvs:List (List Key×V)}(ok:hG P w H h)(e:H a=some (.dT kvs)):kvs.length<=U_/\(a==XD)=false /\
  ∃xs,KT H kvs xs/\h.DictOfH (Yj (cb P w)) a xs:=A5 ok (.inl e)
end
def x_ (H:Hp)(a:Addr)(y:V)(r:Option V):Prop :=
 (∃kvs k,Rd H a (.dK kvs)/\y=kV k/\r=fH kvs k)\/∃kvs k b,Rd H a (.dT kvs)/\y=.ref b/\H b=some (.tup (k.map kV))/\r=fH kvs k
theorem x_.t {H:Hp}{a b:Addr}{kvs:List (List Key×V)}{k:List Key}(e:H a=some (.dT kvs))(eb:H b=some (.tup (k.map kV))):x_ H a (.ref b) (fH kvs k):=.inr ⟨kvs,k,b,.inl e,rfl,eb,rfl⟩
section
variable {X:Cx}{pins:List (Addr×Obj)}{σ:St}{H:Hp}{s:UW}{a:Addr}{y v:V}{u:UT}{o:Option V}{A:VW}{E:UT->UW->Prop}
theorem Inv.big (I:Inv X pins σ H s):XD<s.heap.objs.size:=by
 have h:WT<s.heap.objs.size:=(I.mod.glob.keeps I.bk).lt;exact Nat.lt_trans (by decide) h
theorem xJ {Q:UT->UW->Prop}(hu:A.units+1<XO)(I:Inv X pins σ H s)(g:x_ H a y (some v))(ry:RelV y u)(h:∀w' s',Inv X pins σ H s'->RelV v w'->Q w' s'):
  Vq (model X.prog X.w) A (getItem (.ref a) u) Q E s:=by
 rcases g with⟨kvs,k,e,ey,l⟩|⟨kvs,k,b,e,ey,eb,l⟩
 ·subst ey;obtain⟨z,hd,vs,rel,dd⟩:=Fb I.br e;obtain⟨w',hw,BD⟩:=mP.some_of (v:=v) (o:=Y9 vs k) (by rw[l];exact rel.val k)
  exact wpAny_getItem_of (ES ry) dd.mapOf hw (h w' _ (I.tok _) BD)
 ·subst ey;cases (show u=Value.ref b from ry)
  obtain⟨z,hd,xs,rel,dd⟩:=A5 I.br e;obtain⟨w',hw,BD⟩:=mP.some_of (v:=v) (o:=(ZM xs k).map (·.2)) (by rw[l];exact rel.val k)
  obtain⟨p,hp,L8⟩:=Vv.mp hw;refine wpAny_getItem_heap (tupleKind_room_in1 hu) (uw I.br eb) dd hp ?_;rw[L8];exact h w' _ (I.tok _) BD
theorem DV {h':Heap}{t':Nat}{ob:HO}(I:Inv X pins σ H s)(mu:LH (H a))(hs:Wq a s.heap h')(he:∃q,h'.get? a=some q)(new:bb X.prog X.w (upd H a ob) h' a ob):
  Inv X pins σ (upd H a ob) {s with heap:=h',toks:=t'} :=
 I.write (x:=a) (e:=a) mu (.inl rfl) (λb q hb z=>(hs.2 b hb).trans z) he new
end
section
end
theorem sv {X:Cx} {pins:List (Addr×Obj)} {σ:St} {H:Hp} {s:UW} {a:Addr} {y:V} {o:Option V} (I:Inv X pins σ H s) (g:x_ H a y o):s.TypeIs (.ref a) "dict" := by
 rcases g with⟨kvs,k,e,_,_⟩|⟨kvs,k,b,e,_,_,_⟩
 ·obtain⟨_,_,vs,_,dd⟩:=Fb I.br e;exact dd.typeIs
 ·obtain⟨_,_,xs,_,dd⟩:=A5 I.br e;exact dd.typeIs
section
end
theorem A6 {P:U0}{w:Vf}{H:Hp}(h:Heap)(hb:XD<h.objs.size):bb P w H (h.push {cls:=.type "dict",data:=.dict #[]}) h.objs.size (.dT []) :=
 ⟨U7 _,beq_eq_false_iff_ne.mpr (V5 (Vw hb)),[],.nil,_,#[],0,Vp _ rfl,⟨rfl,rfl,rfl⟩,rfl,rfl,VQ⟩
section
end
section
end
section
end
section
end
section
end
section
end
section
variable {κ:Type}[DecidableEq κ]
end
end L2
namespace L2.Q
open PySem PySem.Spec PySem.SeqAt PyProof.Rows
theorem _root_.L2.dh.yz {k:Nat}{A:VW}(r:dh k A):A.units+1<XO:=by have:=r.un;lia
def iK (t:List Int):List Key:=t.map YU
theorem G9 {t u:List Int}(h:iK t=iK u):t=u:=by
 unfold iK at h
 induction t generalizing u with
 |nil=>cases u with|nil=>rfl|cons _ _=>cases h
 |cons a t ih =>
  cases u with
  |nil=>cases h
  |cons b u =>
   rw[Vo,Vo]at h;injection h with h1 h2
   injection h1 with h1
   rw[h1,ih h2]
theorem EV (t:List Int):(iK t).map kV=t.map V.int:=by
 unfold iK;rw[Wg];rfl
section
end
section
end
end L2.Q
namespace L2
open PySem PySem.Spec PySem.SeqAt PyProof.Rows
theorem H4:VM "sum" = some (.builtin "sum"):=by decide +kernel
def D.int?:D->Option Int
 |.int i=>some i
 |_=>none
def D.Dc:D->Option (List D)
 |.lst ds=>some ds
 |_=>none
theorem D.vH {d:D}{i:Int}(h:d.int?=some i):d=.int i:=by
 cases d <;> first|(cases h;rfl)|cases h
theorem D.vB {d:D}{ds:List D}(h:d.Dc=some ds):d=.lst ds:=by
 cases d <;> first|(cases h;rfl)|cases h
def jW:List D->Option (List Int)
 |[]=>some []
 |d::ds=>d.int?.bind λi=>(jW ds).map (i::·)
theorem mJ:∀{ds:List D} {ns:List Int},jW ds=some ns->ds=ns.map D.int
 |[],_,h=>by cases h;rfl
 |d::ds,ns,h=>by
  obtain⟨i,h1,h2⟩:=We.mp h;obtain⟨ms,h3,rfl⟩:=Vv.mp h2;rw[D.vH h1,mJ h3];rfl
theorem jx:∀ns:List Int,jW (ns.map D.int)=some ns
 |[]=>rfl
 |n::ns=>by
  show (some n).bind (λi=>(jW (ns.map D.int)).map (i::·))=_;rw[jx ns];rfl
def dw (f:List Int->Option Int):List D->Option D
 |[d]=>d.Dc.bind λds=>(jW ds).bind λns=>(f ns).map D.int
 |_=>none
theorem mI {f:List Int->Option Int}{ds:List D}{d:D}(h:dw f ds=some d):∃ns i,ds=[.lst (ns.map D.int)]/\f ns=some i/\d=.int i:=by
 cases ds with
 |nil=>cases h
 |cons x r =>
  cases r with
  |cons _ _=>cases h
  |nil =>
   obtain⟨es,h1,h2⟩:=We.mp h;obtain⟨ns,h3,h4⟩:=We.mp h2;obtain⟨i,h5,rfl⟩:=Vv.mp h4;exact⟨ns,i,by rw[D.vB h1,mJ h3],h5,rfl⟩
theorem gV {f:List Int->Option Int}{ns:List Int}{i:Int}(h:f ns=some i):dw f [.lst (ns.map D.int)]=some (.int i):=by
 show (some (ns.map D.int)).bind (λds=>(jW ds).bind λns=>(f ns).map D.int)=_;rw[W7,jx,W7,h];rfl
def fW:List Int->Option Int
 |[]=>none
 |n::ns=>some (ns.foldl max n)
theorem bX:∀(ns:List Int) (n:Int),(ns.foldl max n∈n::ns)/\∀x∈n::ns,x<=ns.foldl max n
 |[],n=>⟨by simp,λx hx=>by simp at hx;rw[hx];exact Int.le_refl _⟩
 |m::ns,n=>by
  obtain⟨h1,h2⟩:=bX ns (max n m);have hm:max n m<=ns.foldl max (max n m):=h2 _ (by simp)
  refine⟨?_,λx hx=>?_⟩
  ·rw[XM];rcases U1.mp h1 with h|h
   ·rw[h]
    by_cases q:n<=m
    ·rw[show max n m=m by lia];simp
    ·rw[show max n m=n by lia];simp
   ·simp[h]
  ·rw[XM];rcases U1.mp hx with rfl|hx
   ·lia
   ·rcases U1.mp hx with rfl|hx
    ·lia
    ·exact h2 x (by simp[hx])
section
variable {X:Cx}
theorem gK:∀{ns:List Int} {us:List UT},Vals (ns.map V.int) us->∃xs:Array (Int×Tok),us.toArray=intItems xs/\xs.toList.map (·.1)=ns
 |[],_,h=>by cases h;exact⟨#[],by simp[intItems],rfl⟩
 |n::ns,_,h=>by
  cases h with
  |cons h1 h2 =>
   obtain⟨t,rfl⟩:=h1;obtain⟨xs,e1,e2⟩:=gK h2;refine⟨⟨(n,t)::xs.toList⟩,?_,by simp[e2]⟩
   have:=congrArg Array.toList e1;simp[intItems]at this ⊢
   exact this
theorem jk {xs:Array (Int×Tok)}{ns:List Int}(e:xs.toList.map (·.1)=ns)(i:Nat):numAt xs i=ns.getD i 0:=by
 subst e;unfold numAt;rw[WM,U8,Vh]
theorem Ei {xs:Array (Int×Tok)}{ns:List Int}(e:xs.toList.map (·.1)=ns){i:Nat}{v:UT}(h:(intItems xs)[i]?=some v):RelV (.int (ns.getD i 0)) v:=by
 obtain⟨t,rfl⟩:=intItems_at h;exact⟨t,by rw[jk e]⟩
theorem ints_size {xs:Array (Int×Tok)}{ns:List Int}(e:xs.toList.map (·.1)=ns):xs.size=ns.length:=by rw[<- e];simp
theorem xS (hc:X.calm=true):cG X (.builtin "sum") (dw λns=>some ns.sum):=by
 intro pins s σ H xs us Q I r h;obtain⟨W,ds,d,hd,r1,e,q⟩:=h;obtain⟨ns,i,rfl,e1,rfl⟩:=mI e;cases e1;obtain⟨x,rfl,p,vs,rfl,h1,n1,q1⟩:=jY r1;obtain⟨u,rfl,ru⟩:=vals1 r;cases ru;rw[b_ q1]at h1;obtain⟨its,r2,ht,hz⟩:=I.list (cP.of h1);obtain⟨ys,e1,e2⟩:=gK r2;refine sum_intListG (I.ok.hd hc) (xs:=ys) (by rw[<- e1];exact ht.isList) λh' tk t' k=>⟨.int ns.sum,H,I.kept k,⟨t',?_⟩,q _ _ (ay.refl _) rfl⟩
 rw[preSum_eq,Wo (by simp),e2]
theorem oP (hc:X.calm=true):cG X (.builtin "max") (dw fW):=by
 intro pins s σ H xs us Q I r h;obtain⟨W,ds,d,hd,r1,e,q⟩:=h;obtain⟨ns,i,rfl,e1,rfl⟩:=mI e;obtain⟨x,rfl,p,vs,rfl,h1,n1,q1⟩:=jY r1;obtain⟨u,rfl,ru⟩:=vals1 r;cases ru;rw[b_ q1]at h1;obtain⟨its,r2,ht,hz⟩:=I.list (cP.of h1);obtain⟨ys,TL,e2⟩:=gK r2;have hs:=ints_size e2;cases ns with
 |nil=>cases e1
 |cons n ns =>
  rw[Vd]at hs;refine max_intList (I.ok.hd hc) (xs:=ys) (by rw[<- TL];exact ht.isList) (by lia) λv h' tk hv k=>⟨.int i,H,I.kept k,?_,q _ _ (ay.refl _) rfl⟩
  have hr:=Ei e2 hv;obtain⟨g1,g2⟩:=argBest_gt (numAt ys) (ys.size-1);generalize argBest (λi j=>decide (numAt ys i>numAt ys j)) (ys.size-1)=b at *
  have hb:b<(n::ns).length:=by rw[Vd];lia
  have:(n::ns).getD b 0=i:=by
   cases e1;obtain⟨f1,f2⟩:=bX ns n;have hle:∀x∈n::ns,x<=(n::ns).getD b 0:=λx hx=>by
    obtain⟨j,hj,rfl⟩:=List.getElem_of_mem hx;have:=g2 j (by rw[Vd]at hj;lia)
    rw[jk e2,jk e2]at this;rw[WM,U6 hj]at this;exact this
   have gR:(n::ns).getD b 0∈n::ns:=by
    rw[WM,U6 hb];exact W9 hb
   have:=hle _ f1;have:=f2 _ gR;lia
  rw[<- this];exact hr
end
end L2
namespace L2.Q
open PySem PySem.Spec PySem.SeqAt PyProof.Rows
def dA (kvs:List (List Int×D)):D:=.dT (kvs.map λp=>iK p.1) (kvs.map (·.2))
def jZ (kvs:List (List Int×D))(t:List Int):Option D:=(kvs.find? λp=>decide (p.1=t)).map (·.2)
def _root_.L2.D.J4:D->Option (List (List Key)×List D)
 |.dT ks ds=>some (ks,ds)
 |_=>none
theorem Dt {d:D}{ks:List (List Key)}{ds:List D}(h:d.J4=some (ks,ds)):d=.dT ks ds:=by
 cases d <;> first|(cases h;rfl)|cases h
def tK (ks:List (List Key))(ds:List D)(k:List Key):Option D:=((ks.zip ds).find? λp=>decide (p.1=k)).map (·.2)
theorem Dr {d:D}{es:List D}(h:d.J3=some es):d=.tup es:=by
 cases d <;> first|(cases h;rfl)|cases h
def DY (a b:D):Option ((List (List Key)×List D)×List Int):=a.J4.bind λp=>b.J3.bind λes=>(jW es).map λt=>(p,t)
theorem DX {a b:D}{ks:List (List Key)}{ds:List D}{t:List Int}(h:DY a b=some ((ks,ds),t)):a=.dT ks ds/\b=.tup (t.map D.int):=by
 obtain⟨p,h1,h2⟩:=We.mp h;obtain⟨es,h3,h4⟩:=We.mp h2;obtain⟨t',h5,h6⟩:=Vv.mp h4;cases h6;exact⟨Dt h1,by rw[Dr h3,mJ h5]⟩
theorem DW {kvs:List (List Int×D)}{t:List Int}:DY (dA kvs) (.tup (t.map D.int))=some ((kvs.map λp=>iK p.1,kvs.map (·.2)),t):=by
 show (some _).bind (λp=>(some (t.map D.int)).bind λes=>(jW es).map λt=>(p,t))=_;rw[W7,W7,jx];rfl
theorem tJ {t:List Int}:∀{kvs:List (List Int×D)},tK (kvs.map λp=>iK p.1) (kvs.map (·.2)) (iK t)=jZ kvs t
 |[]=>rfl
 |p::kvs=>by
  have ih:=tJ (t:=t) (kvs:=kvs);unfold tK jZ at *
  rw[Vo,Vo,XX,Wa,Wa]
  by_cases h:p.1=t
  ·rw[decide_eq_true (congrArg iK h),decide_eq_true h];rfl
  ·rw[decide_eq_false (λz=>h (G9 z)),decide_eq_false h];exact ih
def vX (a b:D):Option D:=(DY a b).bind λz=>tK z.1.1 z.1.2 (iK z.2)
theorem D_ {kvs:List (List Int×D)}{t:List Int}:vX (dA kvs) (.tup (t.map D.int))=jZ kvs t:=by
 unfold vX;rw[DW,W7];exact tJ
section
variable {P:U0}{w:Vf}{W:Addr->Prop}{H:Hp}
theorem pD {k:List Key}:∀{ks:List (List Key)} {ds:List D} {vs:List V},ks.length=vs.length->aj P w W H ds vs->(fH (ks.zip vs) k).isSome=(tK ks ds k).isSome/\∀d,tK ks ds k=some d->∃v,fH (ks.zip vs) k=some v/\az P w W H d v
 |[],ds,vs,_,_=>by
  unfold fH tK;rw[Zg,Zg];exact⟨rfl,λd h=>by cases h⟩
 |k'::ks,[],_,l,h=>by rw[show _=([]:List V) from h]at l;cases l
 |k'::ks,d::ds,_,l,⟨v,r,e,h1,h2⟩=>by
  subst e;obtain⟨i1,i2⟩:=pD (k:=k) (ks:=ks) (Yr l) h2;unfold fH tK at *
  rw[XX,XX,Wa,Wa]
  by_cases hk:k'=k
  ·rw[decide_eq_true hk];exact⟨rfl,λd' e=>by cases e;exact⟨v,rfl,h1⟩⟩
  ·rw[decide_eq_false hk];exact⟨i1,i2⟩
end
section
variable {X:Cx}
theorem G0 {W:Addr->Prop}{H:Hp}{a b:D}{x y:V}{ks:List (List Key)}{ds:List D}{t:List Int}(h:DY a b=some ((ks,ds),t))(r1:Rp X W H a x)(r2:Rp X W H b y):∃p vs,x=.ref p/\x_ H p y (fH (ks.zip vs) (iK t))/\ks.length=vs.length/\aj X.prog X.w W H ds vs:=by
 obtain⟨rfl,rfl⟩:=DX h;obtain⟨p,vs,rfl,e1,l,n,rs⟩:=r1;obtain⟨q,us,rfl,e2,rt⟩:=r2;rw[L2.b_ rt]at e2;exact⟨p,vs,rfl,x_.t e1 (by rw[EV];exact e2),l,rs⟩
theorem JY (hu:X.A.units+1<XO):Fj X (zd X vX NF):=by
 intro value slice pins s σ H x y v u Q I rx ry h hs;obtain⟨W,d1,d2,d,hd,r1,r2,e,q⟩:=h;obtain⟨⟨⟨ks,ds⟩,t⟩,h1,h2⟩:=We.mp e;obtain⟨p,vs,rfl,g,l,rs⟩:=G0 h1 r1 r2;obtain⟨w',hw,BD⟩:=(pD l rs).2 d h2;rw[hw]at g;cases (show v=Value.ref p from rx)
 exact tail_any (sv I g) PySem.F.slot_dict_getitem.lookup (xJ hu I g ry λu' s' I' r'=>⟨w',H,I',r',q w' H (ay.refl _) BD λf=>az.flat f BD⟩) hs
end
theorem Gi {P:U0}{w:Vf}{H:Hp}{kvs:List (List Int×D)}{a:Addr}{vs:List V}{A:List Addr}(h:H a=some (.dT ((kvs.map λp=>iK p.1).zip vs)))(o:aI P w H (kvs.map (·.2)) vs A):Own P w H (dA kvs) (.ref a) (a::A) :=
 ⟨a,vs,A,rfl,h,by rw[US,o.length,US],rfl,o⟩
theorem Fw {P:U0}{w:Vf}{H:Hp}{kvs:List (List Int×D)}{vs:List V}{A:List Addr}{t:List Int}(o:aI P w H (kvs.map (·.2)) vs A)(h:jZ kvs t=none):fH ((kvs.map λp=>iK p.1).zip vs) (iK t)=none:=by
 have:=(pD (k:=iK t) (ks:=kvs.map λp=>iK p.1) (W:=λ_=>False) (by rw[US,o.length,US]) (o.rep λc _ z=>z)).1
 rw[tJ,h]at this;exact ZV.mp (by rw[<- Option.not_isSome,this];rfl)
section
end
end L2.Q
namespace L2
open PySem PySem.Spec PySem.SeqAt PyProof.Rows
def Mt (lo:Int)(n:Nat):It:=⟨λi _=>i<n,λi H x H'=>H'=H/\x=.int (lo-i),λi _=>n<=i⟩
theorem qq {P:U0}{w:Vf}{K:PySem.W.Frag}{tg:Expr}(it:Addr)(lo:Int)(n:Nat):Turn P w K tg (Mt lo n) [it] it (λi h=>Zz h it (lo+(i:Nat)*(-1)) ((n:Int)-(i:Nat)) (-1)) where
 mem:=by simp
 obj:=λi h st b hb=>by
  have e:b=it:=by simpa using hb
  subst e;exact⟨_,st,λv z=>by
   have z':Data.fields _=Zs v:=z;cases z'⟩
 keep:=λi h h' st k=>k it (by simp) _ st
 item:=by
  intro X hP hw hK hc i pins s σ H E I hf st hg;subst hP hw hK;obtain⟨f0,f1,f2,f3,f4,f5⟩:=hf it (by simp)
  have W:=Walks.range (prog:=X.prog) (w:=X.w) (I.ok.hd hc) it lo (-1) n;refine W.item i s _ _ hg st λv h' tk hv aC kk=>?_;obtain⟨t,rfl⟩:=hv;have I1:Inv X pins σ H {s with heap:=h',toks:=tk}:=I.turned (λb o hb e=>kk b o (by simpa using hb) e) f0 f1 f3 f4 f5
  refine⟨_,rfl,AO (s:={s with heap:=h',toks:=tk}) (n:="range_iterator") aC rfl rfl (by decide) ⟨.int (lo-i),H,I1,⟨t,?_⟩,⟨rfl,rfl⟩,aC,λb hb=>(hf b hb).1⟩⟩
  rw[Int.mul_neg,Int.mul_one];rfl
 done:=by
  intro X hP hw hK hc i pins s σ H E I hf st hg;subst hP hw hK;obtain⟨f0,f1,f2,f3,f4,f5⟩:=hf it (by simp)
  exact wpAny_pyNext_range_end (I.ok.hd hc) st (by have:n<=i:=hg;lia) λh' eb=>⟨rfl,I.turned (t':=s.toks) (λb o hb e=>eb b o hb e) f0 f1 f3 f4 f5⟩
 self:=λ_ _ _ _ _ st h=>wpAny_pyIter_rangeiter st h
theorem gE (a b:Int):Xw a b (-1)=if b<a then a-b else 0:=by
 unfold Xw;rw[if_neg (by decide)]
 by_cases h:b<a
 ·rw[if_pos h,if_pos h,show -(-1:Int)=1 by decide,Int.ediv_one];lia
 ·rw[if_neg h,if_neg h]
theorem wC {a b:Int}(ha:-(2 ^ 62)<=a)(vJ:a<2 ^ 62)(hb:-(2 ^ 62)<=b)(me:b<2 ^ 62):Builtin.Range.small a b (-1)=true:=by
 unfold Builtin.Range.small;rw[gE];simp only[Builtin.Range.rangeFitsLong,Vz,ZF,decide_eq_true_eq,beq_iff_eq,show ¬ ((-1:Int)>0) by decide,if_false]
 split <;> lia
section
variable {X:Cx}{tg:Expr}
theorem wQ {pins:List (Addr×Obj)}{σ:St}{H:Hp}{s:UW}{R:It->Hp->Prop}{E:UT->UW->Prop}{lo hi:Int}{t u v:Tok}{tk:Nat}(I:Inv X pins σ H s)(h1:-(2 ^ 62)<=lo)(h2:lo<2 ^ 62)(h3:-(2 ^ 62)<=hi)(h4:hi<2 ^ 62)
  (q:R (Mt lo (lo-hi).toNat) H):Vq (model X.prog X.w) X.A (Yo (.ref s.heap.objs.size)) (Ie X pins σ tg R) E {s with heap:=s.heap.push {cls:=.type "range",data:=.fields #[.int lo t,.int hi u,.int (-1) v]},toks:=tk}:=by
 refine wpAny_pyIter_range (IsRange.new ..) (wC h1 h2 h3 h4) ?_;have I1:Inv X pins σ H {s with heap:=s.heap.push {cls:=.type "range",data:=.fields #[.int lo t,.int hi u,.int (-1) v]},toks:=tk}:=I.kept λb o e=>UX _ e
 refine⟨(s.heap.push {cls:=.type "range",data:=.fields #[.int lo t,.int hi u,.int (-1) v]}).objs.size,[(s.heap.push {cls:=.type "range",data:=.fields #[.int lo t,.int hi u,.int (-1) v]}).objs.size],_,_,H,rfl,
  I1.kept (t':=tk) λb o e=>UX _ e,qq _ lo (lo-hi).toNat,?_,λb hb=>?_,q⟩
 ·have e1:lo+((0:Nat):Int)*(-1)=lo:=by simp
  have e2:(((lo-hi).toNat:Nat):Int)-((0:Nat):Int)=Xw lo hi (-1):=by rw[gE];split <;> lia
  show Zz _ _ (lo+((0:Nat):Int)*(-1)) ((((lo-hi).toNat:Nat):Int)-((0:Nat):Int)) (-1);rw[e1,e2];exact Vp _ rfl
 ·have e:b=(s.heap.push {cls:=.type "range",data:=.fields #[.int lo t,.int hi u,.int (-1) v]}).objs.size:=by simpa using hb
  subst e;exact I1.xD (UU _) (I1.br.fresh (UU _))
def J5 (ta:TA):TI:=λσ H R=>ta σ H λvs H1=>∃i j:Int,vs=[.int i,.int j,.int (-1)]/\(-(2 ^ 62)<=i/\i<2 ^ 62/\-(2 ^ 62)<=j/\j<2 ^ 62)/\R (Mt i (i-j).toNat) H1
theorem wY {a b c:Expr} {ta:TA} {p pos:Pos} (hg:Gl X "range") (hm:X.mg "range" = none) (ha:PA X [a,b,c] ta) (hs:Ve [a,b,c] X.env=[(false,eval a X.env),(false,eval b X.env),(false,eval c X.env)]:=by rfl) (s_:Ve [b,c] X.env=[(false,eval b X.env),(false,eval c X.env)]:=by rfl) :
  PI X tg (.Call (.Name "range" p) [a,b,c] [] pos) (J5 ta):=by
 intro pins s σ H R I h;refine Call_ (gP I hg hm boot_range (WE (bC (ha pos pins s σ H _ I h) λus s1 ⟨vs,H1,I1,r1,q1⟩=>?_) (by rw[hs,s_]) (by rw[s_];rfl)))
 obtain⟨i,j,e,⟨q1,q2,q3,q4⟩,q⟩:=q1;subst e;cases r1 with
 |cons r rr =>
  cases rr with
  |cons r' rr =>
   cases rr with
   |cons Qp rr =>
    cases rr;obtain⟨t,rfl⟩:=r;obtain⟨t',rfl⟩:=r';obtain⟨Uq,rfl⟩:=Qp;exact call_range_3 (by decide) (wQ I1 q1 q2 q3 q4 q) (.inl (PyProof.noPylong_of_log2 (by decide +kernel)))
def wN (hi:Int)(n:Nat):List D:=(UZ n).map λ(k:Nat)=>D.int (hi-(k:Int))
theorem lA {hi:Int}{n i:Nat}{d:D}(h:(wN hi n)[i]?=some d):i<n/\d=.int (hi-i):=by
 unfold wN at h;rw[U8]at h
 by_cases hi:i<n
 ·rw[WD hi]at h;cases h;exact⟨hi,rfl⟩
 ·rw[VT (by simpa using hi)]at h;cases h
theorem lz {hi:Int}{n:Nat}:(wN hi n).length=n:=by unfold wN;simp
theorem ux {W:Addr->Prop}{H:Hp}{lo:Int}{n:Nat}:xZ X W (Mt lo n) (wN lo n) H:=λ_ _ i H' k=>by
 constructor
 ·intro d hd;obtain⟨hi,rfl⟩:=lA hd;refine⟨hi,λx H1 y=>?_⟩;obtain⟨rfl,rfl⟩:=y;exact⟨ay.refl _,rfl⟩
 ·intro hl;rw[lz]at hl;exact hl
end
end L2
namespace L2.Q
open PySem PySem.Spec PySem.SeqAt PyProof.Rows
section
variable {X:Cx}{C:Cfg}{tg a b c:Expr}{φs:cO}{p:Bool}{pp pos:Pos}
def Du (φs:cO):ck:=λβ R=>φs β λds _ β'=>∃i j:Int,ds=[.int i,.int j,.int (-1)]/\(-(2 ^ 62)<=i/\i<2 ^ 62/\-(2 ^ 62)<=j/\j<2 ^ 62)/\R (wN i (i-j).toNat) .e9 β'
theorem Lz {W:Addr->Prop}{H:Hp}{a b c:D}{xs:List V}(h:iU X W H [a,b,c] xs):∃x y z,xs=[x,y,z]/\Rp X W H a x/\Rp X W H b y/\Rp X W H c z:=by
 obtain⟨x,r,rfl,hx,y,r',rfl,hy,z,Qp,rfl,hz,hr⟩:=h;cases hr;exact⟨x,y,z,rfl,hx,hy,hz⟩
theorem lC (hm:X.mg "range" = none) (ha:tq X C p [a,b,c] φs) (hg:Gl X "range" := by rfl) (hs:Ve [a,b,c] X.env=[(false,eval a X.env),(false,eval b X.env),(false,eval c X.env)]:=by rfl) (s_:Ve [b,c] X.env=[(false,eval b X.env),(false,eval c X.env)]:=by rfl) :
  tm X C p tg (.Call (.Name "range" pp) [a,b,c] [] pos) (Du φs) :=
 ⟨λβ R R' k q=>ha.mono β _ _ (λd kd β' h=>by obtain⟨i,j,e,h1,q⟩:=h;exact⟨i,j,e,h1,k _ _ _ q⟩) q,(wY hg hm ha.pa hs s_).pre λσ H R h=>by
  obtain⟨β,own,s,q⟩:=h;refine u6.of ha s q λds ks β' vs H1 aD h o1 r1=>?_;obtain⟨i,j,e,h1,q1⟩:=h;subst e;obtain⟨x,y,z,rfl,hx,hy,hz⟩:=Lz r1.i_;cases hx;cases hy;cases hz;exact⟨i,j,rfl,h1,q1 _ _ aD o1 ux⟩⟩
end
structure Rj (X:Cx)(C:Cfg)(tg iter:Expr)(ι:ck):Prop where
 mono:∀β R R',(∀d k β,R d k β->R' d k β)->ι β R->ι β R'
 pi:PI X tg iter λσ H R=>∃β own,SQ X C σ H β own/\ι β λds k β'=>∀J H',ay H H'->SQ X C σ H' β' own->xZ X (gc C (Wn own) k) J ds H'->R J H'
section
variable {X:Cx}{C:Cfg}{tg a b:Expr}{φs:cO}{pp pos:Pos}{i:Nat}{x:Str}
theorem t9 (hm:X.mg "range" = none) (ha:tq X C true [a,b] φs) (hg:Gl X "range" := by rfl) (hs:Ve [a,b] X.env=[(false,eval a X.env),(false,eval b X.env)]:=by rfl) (s_:Ve [b] X.env=[(false,eval b X.env)]:=by rfl) :
  Rj X C tg (.Call (.Name "range" pp) [a,b] [] pos) (vI φs) :=
 ⟨λβ R R' k q=>ha.mono β _ _ (λd kd β' h=>by obtain⟨i,j,e,h1,q⟩:=h;exact⟨i,j,e,h1,k _ _ _ q⟩) q,(nQ hg hm ha.pa hs s_).pre λσ H R h=>by
  obtain⟨β,own,s,q⟩:=h;refine u6.of ha s q λds ks β' vs H1 aD h o1 r1=>?_;obtain⟨i,j,e,h1,q1⟩:=h;subst e;obtain⟨s1,rfl⟩:=o1.pu rfl;obtain⟨x,y,rfl,hx,hy⟩:=oW r1.i_;cases hx;cases hy;exact⟨i,j,rfl,h1,q1 _ _ s1 o1.sq js⟩⟩
end
structure SC (X:Cx)(C:Cfg)(W0:Addr->Prop)(T:List Nat)(σ0:St)(H1:Hp)(a:Addr)(Hb:Hp)(Wb:Addr->Prop)(Ac:Hp->Prop)(β:bg)(σ':St)(H':Hp)(own:Nat->List Addr):Prop where
 sq:SQ X (C.u λc=>c=a) σ' H' β own
 sn:Sn (H1,W0) H' (Wn own)
 le:∀c,Wn own c->Wb c
 ac:Ac H'
 pu:ay H1 H'
 bs:∀b ob,b≠a->Hb b=some ob->H' b=some ob
 st:∀j,j∉T->σ'[j]?=σ0[j]?
abbrev sS {α:Type}(X:Cx)(C:Cfg)(W0:Addr->Prop)(T:List Nat)(σ0:St)(H1:Hp)(a:Addr)(Hb:Hp)(Wb:Addr->Prop)(Ac:α->Hp->Prop)(β:bg)(o:α)(σ':St)(H':Hp):Prop:=∃own,SC X C W0 T σ0 H1 a Hb Wb (Ac o) β σ' H' own
structure ya {α:Type}(a:Addr)(Ac:α->Hp->Prop):Prop where
 same:∀o H H',ay H H'->Ac o H->Ac o H'
 JG:∀o H xs,Ac o H->H a≠some (.tup xs)
abbrev FF (X:Cx)(C:Cfg)(a:Addr)(T:List Nat)(γ:cR):TG:=λv σ H Q=>∃own β d k,SQ X (C.u λc=>c=a) σ H β own/\Rp X (gc (C.u λc=>c=a) (Wn own) k) H d v/\γ d k β λβ'=>∀σ' aQ,SQ X (C.u λc=>c=a) σ' H β' aQ->(∀a,Wn aQ a->Wn own a)->(∀j,j∉T->σ'[j]?=σ[j]?)->Q σ' H
abbrev MK (X:Cx)(C:Cfg)(a:Addr)(φ:aR):jC:=λN σ H=>tQ X (C.u λc=>c=a) true φ σ H λv H1=>∃xs,H1 a=some (.lst xs)/\xs.length<U_/\N σ (upd H1 a (.lst (xs++[v])))
section
variable {α:Type}{X:Cx}{C:Cfg}{W0:Addr->Prop}{T Tg:List Nat}{σ0:St}{H1:Hp}{a:Addr}{Hb:Hp}{Wb:Addr->Prop}{γ:cR}{τ:aY}{φ:aR}{Ac:α->Hp->Prop}
theorem SC.next {o:α}(hA:ya a Ac){β β':bg}{σ σ':St}{H H':Hp}{own aQ:Nat->List Addr}(s:SC X C W0 T σ0 H1 a Hb Wb (Ac o) β σ H own)(sq:SQ X (C.u λc=>c=a) σ' H' β' aQ)(w:∀c,Wn aQ c->Wn own c)(sm:ay H H')(t:∀j,j∉T->σ'[j]?=σ[j]?):
  SC X C W0 T σ0 H1 a Hb Wb (Ac o) β' σ' H' aQ :=
 ⟨sq,il (s.sn.same sm) w,λc z=>s.le c (w c z),hA.same o _ _ sm s.ac,s.pu.trans sm,λb ob n e=>sm _ _ (s.bs b ob n e),λj hj=>(t j hj).trans (s.st j hj)⟩
theorem SC.put {A:Hp->Prop}{A':Hp->Prop}(h0:C.H0 a=none)(ha:H1 a=none){β:bg}{σ:St}{H:Hp}{own:Nat->List Addr}{oa ob:HO}(s:SC X C W0 T σ0 H1 a Hb Wb A β σ H own)(e:H a=some oa)(nt:∀xs,oa≠.tup xs)(q:A' (upd H a ob)):
  SC X C W0 T σ0 H1 a Hb Wb A' β σ (upd H a ob) own:=by
 refine⟨s.sq.FW e nt h0,⟨s.sn.w,s.sn.k.trans ((l0 e nt).mono λb z=>.inr (by rw[z];exact ha)),λb z e=>?_⟩,s.le,q,λb o e=>?_,λb o n e=>?_,s.st⟩
 ·by_cases hb:b=a
  ·rw[hb,aw]at e;cases e
  ·rw[ar hb]at e;exact s.sn.d b z e
 ·rw[ar (λz'=>by rw[z',ha]at e;cases e)]
  exact s.pu b o e
 ·rw[ar n];exact s.bs b o n e
def MB (P:U0)(w:Vf)(H1:Hp)(a:Addr)(o:List D)(H:Hp):Prop:=∃vs A,H a=some (.lst vs)/\aI P w H o vs A/\A.Nodup/\∀c∈A,H1 c=none/\c≠a
theorem qe {P:U0}{w:Vf}:ya a (MB P w H1 a):=⟨λo H H' s h=>by
  obtain⟨vs,A,h1,h2,h3,h4⟩:=h;exact⟨vs,A,s _ _ h1,h2.keep (λb xs e=>s _ _ e) λc _ oc e=>s _ _ e,h3,h4⟩,λo H xs h z=>by
  obtain⟨vs,A,h1,_⟩:=h;rw[h1]at z;cases z⟩
def AY (φ:aR)(o:List D)(β:bg)(N:bg->List D->Prop):Prop:=φ β λx kx β3=>Dn kx x/\o.length<U_/\N β3 (o++[x])
theorem vc (h0:C.H0 a=none)(ha:H1 a=none)(φm:∀β R R',(∀d k β,R d k β->R' d k β)->φ β R->φ β R'){β:bg}{o:List D}{σ:St}{H:Hp}{N:bg->List D->Prop}(s:sS X C W0 T σ0 H1 a Hb Wb (MB X.prog X.w H1 a) β o σ H)(q:AY φ o β N):
  MK X C a φ (λσ' H'=>∃β' o',sS X C W0 T σ0 H1 a Hb Wb (MB X.prog X.w H1 a) β' o' σ' H'/\N β' o') σ H:=by
 obtain⟨own,s⟩:=s;refine⟨β,own,s.sq,φm _ _ _ (λxd kx β6 ⟨f,hz,q⟩ v H6 CG o6 r6=>?_) q⟩;obtain⟨sm,rfl⟩:=o6.pu rfl;have s6:=s.next qe (o6.sq) (λ_ z=>z) sm (λ_ _=>rfl)
 obtain⟨B',r1,r2,r3⟩:=r6.fl f;obtain⟨vs,A,at',os,nd,nw⟩:=s.ac;have rM:H6 a=some (.lst vs):=sm _ _ at';have JJ:∀c∈B',c≠a:=λc hc z=>by rw[z]at hc;exact absurd (at'.symm.trans (r3 a hc).1) (λz=>(nomatch z))
 have kt:∀b xs,H6 b=some (.tup xs)->upd H6 a (.lst (vs++[v])) b=some (.tup xs):=λb xs z=>by rw[ar (λz'=>by rw[z',rM]at z;cases z)];exact z
 refine⟨vs,rM,by rw[os.length];exact hz,β6,o++[xd],⟨CG,s6.put h0 ha rM (λxs z=>by cases z) ⟨vs++[v],A++B',aw,?_,?_,λc hc=>?_⟩⟩,q⟩
 ·exact(os.keep (λb xs e=>kt b xs (sm _ _ e)) λc hc oc e=>by rw[ar (nw c hc).2];exact sm _ _ e).append (aI.one (r1.keep kt λc hc oc e=>by rw[ar (JJ c hc)];exact e))
 ·refine V3.mpr ⟨nd,r2,λx hx y hy e=>?_⟩;subst e;exact(os.mU x hx).1 (r3 x hy).1
 ·rcases Vg.mp hc with hc|hc
  ·exact nw c hc
  ·exact⟨s.sn.free (r3 c hc).1,JJ c hc⟩
def iE {α:Type}(γ:cR)(τ:aY)(Af:α->bg->(bg->α->Prop)->Prop)(ds:List D)(k:Kd)(β0:bg)(o0:α)(F:bg->α->Prop):Prop:=∃I:Nat->bg->α->Prop,I 0 β0 o0 /\
 (∀i d β o,ds[i]?=some d->I i β o->γ d (sk k d) β λβ1=>τ β1 λt β2=>if t=true then Af o β2 (I (i+1)) else I (i+1) β2 o)/\∀β o,I ds.length β o->F β o
theorem iE.mono {Af:α->bg->(bg->α->Prop)->Prop}{ds:List D}{k:Kd}{β0:bg}{o0:α}{F F':bg->α->Prop}(h:∀β o,F β o->F' β o)(q:iE γ τ Af ds k β0 o0 F):iE γ τ Af ds k β0 o0 F':=by
 obtain⟨I,h0,h1,h2⟩:=q;exact⟨I,h0,h1,λβ o z=>h _ _ (h2 β o z)⟩
theorem vb (hA:ya a Ac)(hT:∀j∈Tg,j∈T)(γm:∀d k β R R',(∀r,R r->R' r)->γ d k β R->γ d k β R')(τm:∀β R R',(∀d β,R d β->R' d β)->τ β R->τ β R'){J:It}{ds:List D}{k:Kd}{Af:α->bg->(bg->α->Prop)->Prop}{ta:jC}{F:bg->α->Prop}{End:St->Hp->Prop}{β0:bg}{o0:α}{σ1:St}{Hs:Hp}
  (it:∀i β o σ' H',sS X C W0 T σ0 H1 a Hb Wb Ac β o σ' H'->(∀d,ds[i]?=some d->J.go i H'/\∀x H3,J.IL i H' x H3->ay H' H3/\∀own,(∀c,Wn own c->Wb c)->az X.prog X.w (gc (C.u λc=>c=a) (Wn own) k) H3 d x)/\(ds.length<=i->J.stop i H'))
  (Kf:∀β o σ' H' N,sS X C W0 T σ0 H1 a Hb Wb Ac β o σ' H'->Af o β N->ta (λyn Bz=>∃β' o',sS X C W0 T σ0 H1 a Hb Wb Ac β' o' yn Bz/\N β' o') σ' H')
  (s0:sS X C W0 T σ0 H1 a Hb Wb Ac β0 o0 σ1 Hs) (q:iE γ τ Af ds k β0 o0 F) (fin:∀β o σ' H',sS X C W0 T σ0 H1 a Hb Wb Ac β o σ' H'->F β o->End σ' H') :
  eM J (FF X C a Tg γ) (iV X (C.u λc=>c=a) true τ) ta End σ1 Hs:=by
 obtain⟨I,i0,i1,i2⟩:=q;refine⟨λi m σ' H'=>i<=ds.length/\m=ds.length-i/\∃β o,sS X C W0 T σ0 H1 a Hb Wb Ac β o σ' H'/\I i β o,⟨_,U7 _,rfl,β0,o0,s0,i0⟩,?_⟩;rintro i m σ2 H2 ⟨hi,rfl,β,o,sE,hl⟩;obtain⟨bP,pR⟩:=it i β o σ2 H2 sE
 by_cases eZ:i<ds.length
 ·right
  have hd:ds[i]?=some ds[i]:=U6 eZ;obtain⟨go,yl⟩:=bP _ hd;refine⟨go,λσ' H'=>∃β' o',sS X C W0 T σ0 H1 a Hb Wb Ac β' o' σ' H'/\I (i+1) β' o',λσ' H' h=>⟨_,by omega,eZ,rfl,h⟩,λx H3 y=>?_⟩
  obtain⟨s3,r3⟩:=yl x H3 y;obtain⟨own,s⟩:=sE;refine⟨own,β,_,_,s.sq.same s3,pA (r3 own s.le),γm _ _ _ _ _ (λβ4 q σ4 qV s4 w4 t4=>?_) (i1 i _ β o hd hl)⟩;have RU:=s.next hA s4 w4 s3 λj hj=>t4 j λz=>hj (hT j z)
  refine⟨β4,qV,s4,τm _ _ _ (λt β5 q H5 nc o5=>?_) q⟩;obtain⟨M0,rfl⟩:=o5.pu rfl;have Qj:=RU.next hA o5.sq (λ_ z=>z) M0 λ_ _=>rfl
  cases t with
  |false=>exact⟨β5,o,⟨_,Qj⟩,q⟩
  |true=>exact Kf β5 o σ4 H5 _ ⟨_,Qj⟩ q
 ·left
  have e:i=ds.length:=by omega
  subst e;exact⟨pR (UU _),fin β o σ2 H2 sE (i2 β o hl)⟩
def EI {α:Type}(ι:ck)(γ:cR)(τ:aY)(Af:α->bg->(bg->α->Prop)->Prop)(o:α)(β:bg)(N:bg->α->Prop):Prop:=ι β λds k β1=>iE γ τ Af ds k β1 o N
theorem Cg (hA:ya a Ac){ι:ck}(hT:∀j∈Tg,j∈T)(γm:∀d k β R R',(∀r,R r->R' r)->γ d k β R->γ d k β R')(τm:∀β R R',(∀d β,R d β->R' d β)->τ β R->τ β R'){Af:α->bg->(bg->α->Prop)->Prop}{ta:jC}
  (Kf:∀Hb Wb β o σ' H' N,sS X C W0 T σ0 H1 a Hb Wb Ac β o σ' H'->Af o β N->ta (λyn Bz=>∃β' o',sS X C W0 T σ0 H1 a Hb Wb Ac β' o' yn Bz/\N β' o') σ' H')
  (ιm:∀β R R',(∀d k β,R d k β->R' d k β)->ι β R->ι β R') {β:bg} {o:α} {σ:St} {H:Hp} {N:bg->α->Prop} (s:sS X C W0 T σ0 H1 a Hb Wb Ac β o σ H) (q:EI ι γ τ Af o β N) :
  ∃β own,SQ X (C.u λc=>c=a) σ H β own/\ι β λds k β'=>∀J H',ay H H'->SQ X (C.u λc=>c=a) σ H' β' own->xZ X (gc (C.u λc=>c=a) (Wn own) k) J ds H' ->
   eM J (FF X C a Tg γ) (iV X (C.u λc=>c=a) true τ) ta (λσ' H'=>∃β' o',sS X C W0 T σ0 H1 a Hb Wb Ac β' o' σ' H'/\N β' o') σ H':=by
 obtain⟨own,s⟩:=s;refine⟨β,own,s.sq,ιm _ _ _ (λds k β1 q J H' sm sq SA=>?_) q⟩;have s1:=s.next hA sq (λ_ z=>z) sm λ_ _=>rfl
 have hu:gc (C.u λc=>c=a) (Wn own) k a:=.inr rfl;refine vb (Hb:=H') (Wb:=Wn own) hA hT γm τm (λi βx ox σx Hx sx=>?_) (λβx ox σx Hx Nx sx qx=>Kf _ _ _ _ _ _ _ sx qx) ⟨own,⟨s1.sq,s1.sn,λ_ z=>z,s1.ac,s1.pu,λ_ _ _ e=>e,s1.st⟩⟩ q λβx ox σx Hx sx hx=>?_
 ·obtain⟨CF,sx⟩:=sx;have kp:Kp (λb=>gc (C.u λc=>c=a) (Wn own) k b\/H' b=none) H' Hx:=⟨λb ob e n=>sx.bs b ob (λz=>n (.inl (by rw[z];exact hu))) e,λb xs e=>sx.bs b _ (λz=>hA.JG _ _ _ s1.ac (by rw[<- z];exact e)) e⟩
  obtain⟨g1,g2⟩:=SA (λb=>gc (C.u λc=>c=a) (Wn own) k b\/H' b=none) (λb z=>z) i Hx kp;refine⟨λd hd=>?_,g2⟩;obtain⟨go,yl⟩:=g1 d hd;refine⟨go,λx H3 y=>?_⟩;obtain⟨s3,r3⟩:=yl x H3 y;exact⟨s3,λaQ NW=>az.aW (λb z=>.inl (iT NW k b z)) r3⟩
 ·obtain⟨CF,sx⟩:=sx;exact⟨βx,ox,⟨CF,⟨sx.sq,sx.sn,λc z=>s.le c (sx.le c z),sx.ac,sx.pu,λb ob n e=>sx.bs b ob n (s1.bs b ob n e),sx.st⟩⟩,hx⟩
theorem lr {lk:List (Option Nat)}{σ:St}{β:bg}{own:Nat->List Addr}{oa:HO}(hA:ya a Ac){Af:α->bg->(bg->α->Prop)->Prop}{ta:jC}{J:It}{ds:List D}{k:Kd}{o0:α}{K:α->Prop}{End:Hp->Prop}
  (γm:∀d k β R R',(∀r,R r->R' r)->γ d k β R->γ d k β R') (τm:∀β R R',(∀d β,R d β->R' d β)->τ β R->τ β R') (Tp:∀j∈Tg,j∈T)
  (inj:∀(i i' j:Nat),lk[i]?=some (some j)->lk[i']?=some (some j)->i=i') (hT:∀i∈T,∀j,lk[i]?≠some (some j))
  (s1:SQ X C σ H1 β own) (ha:H1 a=none) (hk:hold k false) (it:xZ X (av C (Wn own) k) J ds H1) (a0:Ac o0 (upd H1 a oa)) (ent:SQ X (C.u λc=>c=a) (cN lk σ) (upd H1 a oa) (cw lk β) (bx lk β own))
  (Kf:∀Hb Wb β' o σ' H' N,C.H0 a=none->sS X C (Wn (bx lk β own)) T (cN lk σ) H1 a Hb Wb Ac β' o σ' H'->Af o β' N->ta (λyn Bz=>∃β' o',sS X C (Wn (bx lk β own)) T (cN lk σ) H1 a Hb Wb Ac β' o' yn Bz/\N β' o') σ' H')
  (q:iE γ τ Af ds k (cw lk β) o0 λβf o=>d9 (cw lk β) βf/\K o)
  (fin:∀o H',K o->Out X C σ H1 own true β H' own->Ac o H'->End H') :
  eM J (FF X C a Tg γ) (iV X (C.u λc=>c=a) true τ) ta (λ_ H'=>End H') (cN lk σ) (upd H1 a oa):=by
 have h0:C.H0 a=none:=VP λz=>s1.iO a z ha;have sm:ay H1 (upd H1 a oa):=ay.new ha;refine vb (W0:=Wn (bx lk β own)) (T:=T) (σ0:=cN lk σ) (H1:=H1) (Hb:=H1) (Wb:=Wn (bx lk β own)) hA Tp γm τm (λi βx ox σx Hx sx=>?_) (λβx ox σx Hx Nx sx qx=>Kf _ _ _ _ _ _ _ h0 sx qx)
  ⟨bx lk β own,⟨ent,⟨λb z=>.inl z,sm.kp,λb z e=>z (sm.free e)⟩,λ_ z=>z,a0,sm,λb ob n e=>sm _ _ e,λ_ _=>rfl⟩⟩ q λβx ox σx Hx sx hx=>?_
 ·obtain⟨CF,sx⟩:=sx;have kI:Kp (λb=>av C (Wn own) k b\/H1 b=none) H1 Hx:=sx.pu.kp;obtain⟨g1,g2⟩:=it (λb=>av C (Wn own) k b\/H1 b=none) (λb z=>z) i Hx kI;refine⟨λd hd=>?_,g2⟩;obtain⟨go,yl⟩:=g1 d hd;refine⟨go,λx H3 y=>?_⟩;obtain⟨s3,r3⟩:=yl x H3 y;exact⟨s3,λaQ NW=>az.aW (λc z=>z.elim (λz=>.inl (kB (λc z=>bq c (NW c z)) k c z)) λz=>.inr (by rw[z];exact ha)) r3⟩
 ·obtain⟨CF,sx⟩:=sx;obtain⟨hh,hK⟩:=hx;have lv:SQ X C σ Hx β own:=s1.leave sx.sq sx.sn sx.le hh λj ok i' e1 e2=>sx.st i' λz=>hT i' z j e2;exact fin ox Hx hK ⟨lv,⟨λb z=>.inl z,sx.sn.k.mono λb z=>z.imp (bq b) id,sx.sn.d⟩,λz=>⟨sx.pu,rfl⟩,λ_ z=>z⟩ sx.ac
end
theorem Bv {X:Cx}{C:Cfg}{σ:St}{H1 H':Hp}{β:bg}{own:Nat->List Addr}{a:Addr}{o:List D}(s1:SQ X C σ H1 β own)(ha:H1 a=none)(h:MB X.prog X.w H1 a o H'):KV X.prog X.w C (H1,Wn own) own H' .own (.lst o) (.ref a):=by
 obtain⟨vs,A,at',os,nd,nw⟩:=h;refine⟨a::A,⟨a,vs,A,rfl,at',rfl,os⟩,Vt.mpr ⟨λz=>(nw a z).2 rfl,nd⟩,λc hc=>?_⟩;have iX:H1 c=none:=by
  rcases U1.mp hc with rfl|hc
  ·exact ha
  ·exact(nw c hc).1
 exact⟨iX,λh=>by obtain⟨j,hj⟩:=h;exact(s1.dm j c hj).1 iX,VP λz=>s1.iO c z iX⟩
def F3 (lk:List (Option Nat))(ι:ck)(γ:cR)(τ:aY)(ι2:ck)(γ2:cR)(τ2:aY)(φ:aR):aR:=λβ R=>ι β λds k β1=>hold k false/\iE γ τ (EI ι2 γ2 τ2 (AY φ)) ds k (cw lk β1) [] λβf o=>d9 (cw lk β1) βf/\R (.lst o) .own β1
section
variable {X:Cx}{C:Cfg}{lk:List (Option Nat)}{γ γ2:cR}{τ τ2:aY}{φ:aR}{T T2:List Nat}
variable {scope:W3}{tg bP yE pR elt:Expr}{ifs nh:List Expr}{ι ι2:ck}{pi:Bool}{pos:Pos}{i:Nat}
theorem Ss (N':List Str)(lk:List (Option Nat))(L:fY X.env.scope.names X.N scope N' lk=true)(mS:N'.Nodup)(hc:X.calm=true)(hi:tm X C pi tg bP ι)
  (jQ:∀a cl c s H ex,tw (aB X scope N' cl c s H ex) (C.u λc=>c=a) tg T γ) (hX:∀a cl c s H ex,nE (aB X scope N' cl c s H ex) (C.u λc=>c=a) true ifs τ)
  (Q1:∀a cl c s H ex,Rj (aB X scope N' cl c s H ex) (C.u λc=>c=a) yE pR ι2)
  (Ke:∀a cl c s H ex,tw (aB X scope N' cl c s H ex) (C.u λc=>c=a) yE T2 γ2) (Kc:∀a cl c s H ex,nE (aB X scope N' cl c s H ex) (C.u λc=>c=a) true nh τ2)
  (gS:∀a cl c s H ex,PQ (aB X scope N' cl c s H ex) (C.u λc=>c=a) true elt φ) (hT:(T++T2).all (λi=>match lk[i]? with|some (some _)=>false|_=>true)=true:=by rfl)
  (hs:∀x,VG bP X.env x=pure x:=by intro _;rfl) (s_:∀cl c s H ex x,VG pR (aB X scope N' cl c s H ex).env x=pure x:=by intro _ _ _ _ _ _;rfl):PQ X C pi (.ListComp elt [⟨tg,bP,ifs,0⟩,⟨yE,pR,nh,0⟩] scope pos) (F3 lk ι γ τ ι2 γ2 τ2 φ):=by
 have L:=Links.of L;have AN:∀i∈T++T2,∀j,lk[i]?≠some (some j):=λi hi j e=>by
  have:=WK.mp hT i hi;rw[e]at this;cases this
 have ax:Addr:=0;have UP:List (Str×Addr):=[];have γm:=(jQ 0 [] 0 X.s₀ X.H₀ []).mono;have τm:=(hX 0 [] 0 X.s₀ X.H₀ []).mono;have MD:=(Ke 0 [] 0 X.s₀ X.H₀ []).mono;have MC:=(Kc 0 [] 0 X.s₀ X.H₀ []).mono;have φm:=(gS 0 [] 0 X.s₀ X.H₀ []).mono;have ιm:=(Q1 0 [] 0 X.s₀ X.H₀ []).mono;refine⟨λβ R R' k h=>hi.mono β _ _ (λds kd β1 q=>⟨q.1,q.2.mono λ_ _ z=>⟨z.1,k _ _ _ z.2⟩⟩) h,?_⟩;refine(ir (g:=⟨tg,bP,ifs,0⟩) (gs:=[⟨yE,pR,nh,0⟩]) (tg:=λa=>FF X C a T γ) (tt:=λa=>iV X (C.u λc=>c=a) true τ)
  (ta:=λa N σ H=>∃β own,SQ X (C.u λc=>c=a) σ H β own/\ι2 β λds k β'=>∀J H',ay H H'->SQ X (C.u λc=>c=a) σ H' β' own->xZ X (gc (C.u λc=>c=a) (Wn own) k) J ds H' ->
   eM J (FF X C a T2 γ2) (iV X (C.u λc=>c=a) true τ2) (MK X C a φ) N σ H')
  L hc fV rfl rfl (λ_ _=>HX) hi.pi (λa cl c s H ex=>⟨(jQ a cl c s H ex).pg,(hX a cl c s H ex).pt,CD (X:=aB X scope N' cl c s H ex) (g':=⟨yE,pR,nh,0⟩) rfl hc HW (Q1 a cl c s H ex).pi (Ke a cl c s H ex).pg (Kc a cl c s H ex).pt (fT (X:=aB X scope N' cl c s H ex) rfl (gS a cl c s H ex).pe) (s_ cl c s H ex)⟩) hs).pre λσ H Q h=>?_
 obtain⟨β,own,s,h⟩:=h;refine⟨β,own,s,hi.mono β _ _ (λds k β1 h J H1 aD o1 it a ha=>?_) h⟩;obtain⟨hk,q⟩:=h;refine lr (T:=T++T2) (qe (P:=X.prog) (w:=X.w) (H1:=H1)) γm τm (λj hj=>V9 _ hj) (cV L mS) AN o1.sq ha hk it ⟨[],[],aw,(show aI _ _ _ [] [] [] from ⟨rfl,rfl⟩),VQ,λc hc=>(nomatch hc)⟩ (o1.sq.enter ha (cV L mS))
  (λHb Wb βx ox σx Hx Nx h0 sx qx=>Cg qe (λj hj=>VE _ hj) MD MC (λHb Wb βy oy σy Hy Ny sy qy=>vc h0 ha φm sy qy) ιm sx qx) q λo H' q o2 r=>?_
 refine q _ _ aD ⟨o2.sq,o1.sn.trans o2.sn,λz=>⟨(o1.pu z).1.trans (o2.pu rfl).1,(o1.pu z).2⟩,o1.le⟩ ((Bv o1.sq ha r).later o1.sn)
end
end L2.Q
namespace L2
open PySem PySem.Spec PySem.SeqAt PyProof.Rows
section
variable {X:Cx}
theorem xf:g_ X newDict (.dT []) :=
 ⟨λpins s σ H Q E I h=>WS (h _ _ (UU _) I.fresh (λb o e=>UX _ e) (I.laid (t':=s.toks) (λ_ _ q=>UX _ q) (UU _) (A6 _ I.big)))⟩
theorem zE {k v:Expr}{tk tv:TE}{a:Addr}(hx:X.xe=λ_ _=>False)(hu:X.A.units<XO)(hk:PE X k tk)(hv:PE X v tv):
  mQ X (kY (A4 k v (.ref a) X.env)) (λN σ H=>tk σ H λy H1=>tv σ H1 λv H2=>∃kvs key b,H2 a=some (.dT kvs)/\y=.ref b/\H2 b=some (.tup (key.map kV))/\kvs.length<U_/\N σ (upd H2 a (.dT (putK kvs key v)))):=by
 intro pins s σ H N kk Q E I h hN;unfold kY A4;refine UR (UR (bC (d6 hx (hk pins s σ H _ I h)) λu s1 ⟨y,H1,I1,r1,q⟩=>?_));refine UR (Wk (bC (d6 hx (hv pins s1 σ H1 _ I1 q)) λw' s2 ⟨v,H2,I2,r2,kvs,key,b,e,ey,eb,l,q2⟩=>?_));subst ey;cases (show u=Value.ref b from r1)
 refine UR (WW (Wk ?_));obtain⟨z,hd,xs,rel,dd⟩:=Ll I2.br e;have hz:xs.length<=U_:=by rw[<- Paired.length rel];exact z
 have hl:(putK kvs key v).length<=U_:=by have:=rB kvs key v;lia
 refine wpAny_dictSet_heap (hsz:=hz) (knd:=Yj (cb X.prog X.w)) hu (uw I2.br eb) dd λh' TN hs=>hN σ _ _ ?_ q2;obtain⟨q,es,ep,hq,h2,h3,h4,_,h5⟩:=TN;refine DV I2 (by rw[e];exact WL) hs ⟨q,hq⟩ ⟨hl,hd,_,(rel.put key eb r2).keeps λc ys ec=>?_,q,es,ep,hq,h2,h3,h4,h5⟩
 rw[ar (EJ ec e (λz=>nomatch z))];exact ec
end
end L2
namespace L2.Q
open PySem PySem.Spec PySem.SeqAt PyProof.Rows
def Qb (P:U0)(w:Vf)(a:Addr)(o:List (List Int×D))(H:Hp):Prop:=∃vs,H a=some (.dT ((o.map λp=>iK p.1).zip vs))/\aI P w H (o.map (·.2)) vs []
theorem Bw {P:U0}{w:Vf}{a:Addr}:ya a (Qb P w a):=⟨λo H H' s h=>by
  obtain⟨vs,h1,h2⟩:=h;exact⟨vs,s _ _ h1,h2.keep (λb xs e=>s _ _ e) λc hc=>(nomatch hc)⟩,λo H xs h z=>by
  obtain⟨vs,h1,_⟩:=h;rw[h1]at z;cases z⟩
abbrev Qd (X:Cx)(C:Cfg)(a:Addr)(φk φ:aR):jC:=λN σ H=>tQ X (C.u λc=>c=a) true φk σ H λy H1=>tQ X (C.u λc=>c=a) true φ σ H1 λv H2=>∃kvs key b,H2 a=some (.dT kvs)/\y=.ref b/\H2 b=some (.tup (key.map kV))/\kvs.length<U_/\N σ (upd H2 a (.dT (putK kvs key v)))
def AZ (φk φ:aR)(o:List (List Int×D))(β:bg)(N:bg->List (List Int×D)->Prop):Prop:=φk β λkd _ β2=>φ β2 λx _ β3=>∃t,kd=.tup (t.map D.int)/\x.flat=true/\jZ o t=none/\o.length<U_/\N β3 (o++[(t,x)])
section
variable {X:Cx}{C:Cfg}{W0:Addr->Prop}{T:List Nat}{σ0:St}{H1:Hp}{a:Addr}{Hb:Hp}{Wb:Addr->Prop}{φ φk:aR}
theorem y_ (h0:C.H0 a=none)(ha:H1 a=none)(Fl:∀β R R',(∀d k β,R d k β->R' d k β)->φk β R->φk β R')(φm:∀β R R',(∀d k β,R d k β->R' d k β)->φ β R->φ β R'){β:bg}{o:List (List Int×D)}{σ:St}{H:Hp}{N:bg->List (List Int×D)->Prop}(s:sS X C W0 T σ0 H1 a Hb Wb (Qb X.prog X.w a) β o σ H)(q:AZ φk φ o β N):
  Qd X C a φk φ (λσ' H'=>∃β' o',sS X C W0 T σ0 H1 a Hb Wb (Qb X.prog X.w a) β' o' σ' H'/\N β' o') σ H:=by
 obtain⟨own,s⟩:=s;refine⟨β,own,s.sq,Fl _ _ _ (λkd kk β5 q v5 H5 nc o5 r5=>?_) q⟩;obtain⟨M0,rfl⟩:=o5.pu rfl;refine⟨β5,_,o5.sq,φm _ _ _ (λxd kx β6 ⟨t,e1,f,hn,hz,q2⟩ v H6 CG o6 r6=>?_) q⟩;obtain⟨sm,rfl⟩:=o6.pu rfl;have s6:=s.next Bw o6.sq (λ_ z=>z) (M0.trans sm) (λ_ _=>rfl)
 subst e1;obtain⟨b,us,rfl,hb,rt⟩:=r5.rep;rw[L2.b_ rt]at hb;obtain⟨vs,at',os⟩:=s6.ac;have RY:Own X.prog X.w H6 xd v []:=c8 f r6.rep;have l:(o.map λp=>iK p.1).length=vs.length:=by rw[US,os.length,US]
 have HA:putK ((o.map λp=>iK p.1).zip vs) (iK t) v=((o++[(t,xd)]).map λp=>iK p.1).zip (vs++[v]):=by
  rw[zg v (Fw os hn),Vn,List.zip_append l];rfl
 have kt:∀c xs,H6 c=some (.tup xs)->upd H6 a (.dT (putK ((o.map λp=>iK p.1).zip vs) (iK t) v)) c=some (.tup xs):=λc xs z=>by rw[ar (λz'=>by rw[z',at']at z;cases z)];exact z
 refine⟨_,iK t,b,at',rfl,by rw[EV];exact sm _ _ hb,by rw[List.length_zip,<- l,Nat.min_self,US];exact hz,β6,o++[(t,xd)],⟨_,s6.put h0 ha at' (λxs z=>by cases z) ⟨vs++[v],by rw[aw,HA],?_⟩⟩,q2⟩
 rw[Vn];exact(os.keep kt (A:=[]) λc hc=>by cases hc).append (aI.one (RY.keep kt (A:=[]) λc hc=>by cases hc))
end
def F2 (lk:List (Option Nat))(ι:ck)(γ:cR)(τ:aY)(φk φ:aR):aR:=λβ R=>ι β λds k β1=>hold k false/\iE γ τ (AZ φk φ) ds k (cw lk β1) [] λβf o=>d9 (cw lk β1) βf/\R (dA o) .own β1
section
variable {X:Cx}{C:Cfg}{lk:List (Option Nat)}{γ:cR}{τ:aY}{φ φk:aR}{T:List Nat}
variable {scope:W3}{tg bP ke elt:Expr}{ifs:List Expr}{ι:ck}{pi:Bool}{pos:Pos}{i:Nat}
theorem TQ (hu:X.A.units<XO)(N':List Str)(lk:List (Option Nat))(L:fY X.env.scope.names X.N scope N' lk=true)(mS:N'.Nodup)(hc:X.calm=true)(hi:tm X C pi tg bP ι)
  (jQ:∀a cl c s H ex,tw (aB X scope N' cl c s H ex) (C.u λc=>c=a) tg T γ) (hX:∀a cl c s H ex,nE (aB X scope N' cl c s H ex) (C.u λc=>c=a) true ifs τ)
  (QY:∀a cl c s H ex,PQ (aB X scope N' cl c s H ex) (C.u λc=>c=a) true ke φk) (gS:∀a cl c s H ex,PQ (aB X scope N' cl c s H ex) (C.u λc=>c=a) true elt φ) (hT:T.all (λi=>match lk[i]? with|some (some _)=>false|_=>true)=true:=by rfl)
  (hs:∀x,VG bP X.env x=pure x:=by intro _;rfl):PQ X C pi (.DictComp ke elt [⟨tg,bP,ifs,0⟩] scope pos) (F2 lk ι γ τ φk φ):=by
 have L:=Links.of L;have AN:∀i∈T,∀j,lk[i]?≠some (some j):=λi hi j e=>by
  have:=WK.mp hT i hi;rw[e]at this;cases this
 have γm:=(jQ 0 [] 0 X.s₀ X.H₀ []).mono;have τm:=(hX 0 [] 0 X.s₀ X.H₀ []).mono;have φm:=(gS 0 [] 0 X.s₀ X.H₀ []).mono;have Fl:=(QY 0 [] 0 X.s₀ X.H₀ []).mono;refine⟨λβ R R' k h=>hi.mono β _ _ (λds kd β1 q=>⟨q.1,q.2.mono λ_ _ z=>⟨z.1,k _ _ _ z.2⟩⟩) h,?_⟩;refine(ir (g:=⟨tg,bP,ifs,0⟩) (gs:=[]) (tg:=λa=>FF X C a T γ) (tt:=λa=>iV X (C.u λc=>c=a) true τ) (ta:=λa=>Qd X C a φk φ)
  L hc xf rfl rfl (λ_ _=>Lw) hi.pi (λa cl c s H ex=>⟨(jQ a cl c s H ex).pg,(hX a cl c s H ex).pt,zE (X:=aB X scope N' cl c s H ex) rfl hu (QY a cl c s H ex).pe (gS a cl c s H ex).pe⟩) hs).pre λσ H Q h=>?_
 obtain⟨β,own,s,h⟩:=h;refine⟨β,own,s,hi.mono β _ _ (λds k β1 h J H1 aD o1 it a ha=>?_) h⟩;obtain⟨hk,q⟩:=h;refine lr (T:=T) (Bw (P:=X.prog) (w:=X.w)) γm τm (λj hj=>hj) (cV L mS) AN o1.sq ha hk it ⟨[],aw,(show aI _ _ _ [] [] [] from ⟨rfl,rfl⟩)⟩ (o1.sq.HM (λxs z=>by cases z) ha (cV L mS))
  (λHb Wb βx ox σx Hx Nx h0 sx qx=>y_ h0 ha Fl φm sx qx) q λo H' q o2 r=>?_
 refine q _ _ aD ⟨o2.sq,o1.sn.trans o2.sn,λz=>⟨(o1.pu z).1.trans (o2.pu rfl).1,(o1.pu z).2⟩,o1.le⟩ ?_;obtain⟨vs,at',os⟩:=r;refine⟨[a],Gi at' os,by simp,λc hc=>?_⟩
 rw[U9.mp hc];exact⟨VP λz=>o1.sn.d a z ha,λh=>by obtain⟨j,hj⟩:=h;exact(o1.sq.dm j a hj).1 ha,VP λz=>o1.sq.iO a z ha⟩
end
end L2.Q
namespace Mx
structure Sr (α:Type) where
 zero:α
 one:α
 add:α->α->α
 mul:α->α->α
section
variable {α:Type}(S:Sr α)
def B5 (n:Nat)(f:Nat->α):α:=match n with
 |0=>S.zero
 |n+1=>S.add (B5 n f) (f n)
end
section
end
section
end
end Mx
namespace L2.Q
open PySem PySem.Spec PySem.SeqAt PyProof.Rows
structure ym (mg:Str->Option UT):Prop extends Bs2 mg where
 sum:mg "sum" = none
def tI (p:Nat×Nat):List Int:=[(p.1:Int),(p.2:Int)]
theorem yH {p q:Nat×Nat}(h:tI p=tI q):p=q:=by
 unfold tI at h;injection h with h1 h2
 injection h2 with h2 _
 exact Prod.ext (Int.ofNat.inj h1) (Int.ofNat.inj h2)
def kU (ps:List (Nat×Nat)):D:=.lst (ps.map λp=>kD (tI p))
def fk (n:Nat)(ps:List (Nat×Nat)):D:=.tup [.int n,kU ps]
structure yj (n:Nat)(ps:List (Nat×Nat)):Prop where
 lt:∀p∈ps,p.1<p.2/\p.2<n
 nd:ps.Nodup
 le:n<=80
 sm:ps.length<=400
theorem yD {n:Int}{ts:List (List Int)}(n0:0<=n)(h:bz n ts):∃ps:List (Nat×Nat),ts=ps.map tI/\∀p∈ps,p.1<p.2/\p.2<n.toNat:=by
 induction ts with
 |nil=>exact⟨[],rfl,λ_ z=>(nomatch z)⟩
 |cons t ts ih =>
  obtain⟨ps,e,q⟩:=ih λu hu=>h u (by simp[hu])
  obtain⟨a,b,rfl,h1,h2,h3⟩:=h t (by simp)
  refine⟨(a.toNat,b.toNat)::ps,?_,λp hp=>?_⟩
  ·rw[Vo,<- e]
   congr 1
   show [a,b]=[((a.toNat:Nat):Int),((b.toNat:Nat):Int)];rw[YX h1,YX (by lia)]
  ·rcases U1.mp hp with rfl|hp
   ·exact⟨by show a.toNat<b.toNat;lia,by show b.toNat<n.toNat;lia⟩
   ·exact q p hp
theorem Cj {n:Int}{ts:List (List Int)}(n0:0<=n)(n1:n<=80)(l:ts.length<=400)(h:bz n ts)(nd:ts.Nodup):∃(m:Nat) (ps:List (Nat×Nat)),yj m ps/\n=m/\ts=ps.map tI/\D.tup [.int n,.lst (ts.map kD)]=fk m ps:=by
 obtain⟨ps,e,q⟩:=yD n0 h;refine⟨n.toNat,ps,⟨q,?_,by lia,by rw[e,US]at l;exact l⟩,by lia,e,?_⟩
 ·rw[e]at nd;exact(WA.mp nd).imp λz e=>z (congrArg tI e)
 ·unfold fk kU;rw[e,Wg,YX n0];rfl
def bp (l:List Nat):List D:=l.map λ(k:Nat)=>D.int (k:Int)
def jh (ps:List (Nat×Nat))(i:Nat):List Nat:=(ps.filter λp=>decide (p.1=i)).map (·.2)
theorem du {ps:List (Nat×Nat)}{i k:Nat}:k∈jh ps i↔(i,k)∈ps:=by
 unfold jh;rw[Vx];constructor
 ·rintro⟨p,hp,rfl⟩;obtain⟨h1,h2⟩:=VB.mp hp;rw[<- of_decide_eq_true h2];exact h1
 ·intro h;exact⟨(i,k),VB.mpr ⟨h,by simp⟩,rfl⟩
def zj (n:Nat)(ps:List (Nat×Nat)):D:=.lst ((UZ n).map λi=>.lst (bp (jh ps i)))
def wD (ps:List (Nat×Nat))(w:Nat×Nat->Int):D:=dA (ps.map λp=>(tI p,.int (w p)))
theorem Fv {ps:List (Nat×Nat)}{w:Nat×Nat->Int}{p:Nat×Nat}(h:p∈ps):jZ (ps.map λp=>(tI p,.int (w p))) (tI p)=some (.int (w p)):=by
 unfold jZ
 induction ps with
 |nil=>cases h
 |cons q ps ih =>
  rw[Vo,Wa]
  by_cases e:q=p
  ·rw[e,decide_eq_true rfl];rfl
  ·rw[decide_eq_false λz=>e (yH z)];exact ih ((U1.mp h).resolve_left λz=>e z.symm)
theorem CZ {ps:List (Nat×Nat)}{w:Nat×Nat->Int}{p:Nat×Nat}(h:p∉ps):jZ (ps.map λp=>(tI p,.int (w p))) (tI p)=none:=by
 unfold jZ;rw[Option.map_eq_none_iff,Y6];intro x hx;obtain⟨q,hq,rfl⟩:=Vx.mp hx;simp only[decide_eq_true_eq];intro e;exact h (yH e▸hq)
theorem HG {ps:List (Nat×Nat)}{w:Nat×Nat->Int}{i k:Nat}(h:(i,k)∈ps):vX (wD ps w) (.tup [.int (i:Int),.int (k:Int)])=some (.int (w (i,k))):=by
 have:=D_ (kvs:=ps.map λp=>(tI p,D.int (w p))) (t:=tI (i,k));rw[Fv h]at this;exact this
theorem a6 {α:Type}{n i:Nat}{f:Nat->α}(h:i<n):((UZ n).map f)[i]?=some (f i):=by
 rw[U8,WD h];rfl
theorem eS {ds:List D}{x:Int}{i:Nat}{d:D}(hx:x=(i:Int))(h:ds[i]?=some d):mV (.lst ds) (.int x)=some d:=by rw[hx];exact DZ h
theorem JZ {n:Nat}{ps:List (Nat×Nat)}{x:Int}{i:Nat}(hx:x=(i:Int))(h:i<n):mV (zj n ps) (.int x)=some (.lst (bp (jh ps i))):=eS hx (a6 h)
def o9 (L:Nat)(T:Nat->Int):List D:=(UZ L).map λl=>.int (T l)
def kZ (n:Nat)(L:Nat->Nat)(T:Nat->Nat->Int):D:=.lst ((UZ (n+1)).map λi=>.lst (o9 (L i) λl=>T l i))
theorem oq {L:Nat}{T:Nat->Int}{x:Int}{l:Nat}(hx:x=(l:Int))(h:l<L):mV (.lst (o9 L T)) (.int x)=some (.int (T l)):=eS hx (a6 h)
theorem om {n:Nat}{L:Nat->Nat}{T:Nat->Nat->Int}{x:Int}{i:Nat}(hx:x=(i:Int))(h:i<=n):mV (kZ n L T) (.int x)=some (.lst (o9 (L i) λl=>T l i)):=eS hx (a6 (by lia))
def iF (ps:List (Nat×Nat))(w:Nat×Nat->Int)(T:Nat->Nat->Int)(i j:Nat):Int:=(fW ((((jh ps i).filter λk=>decide (k<j)).map λk=>w (i,k)+T (k-i-1) (i+1)+T (j-k-1) (k+1))++[T (j-i-1) (i+1)])).getD 0
theorem n_ {l:List Int}{x:Int}:fW (l++[x])=some ((fW (l++[x])).getD 0):=by
 cases l with
 |nil=>rfl
 |cons a l=>rfl
theorem lV {ps:List (Nat×Nat)}{w:Nat×Nat->Int}{T T':Nat->Nat->Int}{i j:Nat}(hp:∀p∈ps,p.1<p.2)(hj:i<j)(h:∀l,l<j-i->∀a,T l a=T' l a):iF ps w T i j=iF ps w T' i j:=by
 unfold iF;have e:((jh ps i).filter λk=>decide (k<j)).map (λk=>w (i,k)+T (k-i-1) (i+1)+T (j-k-1) (k+1))=((jh ps i).filter λk=>decide (k<j)).map λk=>w (i,k)+T' (k-i-1) (i+1)+T' (j-k-1) (k+1):=by
  refine VH λk hk=>?_;obtain⟨h1,h2⟩:=VB.mp hk;have h3:=hp _ (du.mp h1);have h4:=of_decide_eq_true h2;dsimp only at h3;rw[h _ (by lia),h _ (by lia)]
 rw[e,h (j-i-1) (by lia)]
def FI (ps:List (Nat×Nat))(w:Nat×Nat->Int):Nat->Nat->Nat->Int
 |0,_,_=>0
 |_+1,0,_=>0
 |n+1,l+1,i=>iF ps w (FI ps w n) i (i+l+1)
theorem qr {ps:List (Nat×Nat)}{w:Nat×Nat->Int}(hp:∀p∈ps,p.1<p.2):∀{n m l i:Nat},l<=n->l<=m->FI ps w n l i=FI ps w m l i
 |0,0,_,_,_,_=>rfl
 |0,m+1,0,_,_,_=>rfl
 |0,m+1,l+1,_,h,_=>by lia
 |n+1,0,0,_,_,_=>rfl
 |n+1,0,l+1,_,_,h=>by lia
 |n+1,m+1,0,_,_,_=>rfl
 |n+1,m+1,l+1,i,h1,h2=>by
  unfold FI;exact lV hp (by lia) λl' hl a=>qr hp (by lia) (by lia)
def tW (ps:List (Nat×Nat))(w:Nat×Nat->Int)(l i:Nat):Int:=FI ps w l l i
theorem kc {ps:List (Nat×Nat)}{w:Nat×Nat->Int}(hp:∀p∈ps,p.1<p.2){l i:Nat}:tW ps w (l+1) i=iF ps w (tW ps w) i (i+l+1):=by
 show FI ps w (l+1) (l+1) i=_;unfold FI;exact lV hp (by lia) λl' hl a=>qr hp (by lia) (by lia)
def dS (n a:Nat):List (Nat×Nat):=(UZ (a+1)).map λb=>(n-1-a,n-a+b)
def o_ (n:Nat):List (Nat×Nat):=(UZ n).flatMap (dS n)
def yc (p:Nat×Nat):D:=.tup [.int (p.1:Int),.int (p.2:Int)]
def d3 (n a b:Nat):List (Nat×Nat):=(dS n a).drop b++((UZ n).drop (a+1)).flatMap (dS n)
theorem gL {n a b:Nat}(h:b<=a):d3 n a b=(n-1-a,n-a+b)::d3 n a (b+1):=by
 unfold d3 dS;rw[VO (by rw[US,Vm];lia)]
 simp
theorem oN {n a:Nat}(h:a<n):((UZ n).drop a).flatMap (dS n)=d3 n a 0:=by
 unfold d3;rw[VO (by rw[Vm];exact h)]
 simp
theorem nP {n a:Nat}(h:a+1<n):d3 n a (a+1)=d3 n (a+1) 0:=by
 rw[<- oN h];unfold d3 dS;simp
theorem tY {n a:Nat}(h:n<=a+1):d3 n a (a+1)=[]:=by
 unfold d3 dS;rw[List.drop_eq_nil_of_le (by simp),List.drop_eq_nil_of_le (by simpa using h)]
 rfl
theorem wu {n:Nat}(h:0<n):o_ n=d3 n 0 0:=by rw[<- oN h];rfl
theorem fX {α:Type}{γ:cR}{τ:aY}{φ:aR}{l:List α}{f:α->D}{k:Kd}{sI:bg}{K:List D->Prop}(t:α->Bool)(g:α->D)(h0:d9 sI sI)(hl:l.length<=U_)
  (h:∀x∈l,∀(x0:Option B) (o:List D) (J:bg->List D->Prop),o.length<U_->(t x=true->∀x0,J (x0::sI) (o++[g x]))->(t x=false->∀x0,J (x0::sI) o)->γ (f x) (sk k (f x)) (x0::sI) λβ1=>τ β1 λt β2=>if t=true then φ β2 λx kx β3=>Dn kx x/\o.length<U_/\J β3 (o++[x]) else J β2 o)
  (q:K ((l.filter t).map g)):jO γ τ φ (l.map f) k (none::sI) K:=by
 refine⟨λi β o=>i<=l.length/\(∃x0,β=x0::sI)/\o=((l.take i).filter t).map g,⟨U7 _,⟨_,rfl⟩,rfl⟩,?_,?_⟩
 ·rintro i d β o hd ⟨hi,⟨x0,rfl⟩,rfl⟩;rw[U8]at hd;obtain⟨x,hx,rfl⟩:=Vv.mp hd;have eZ:i<l.length:=(U3.mp hx).1;have hle:(((l.take i).filter t).map g).length<U_:=by
   rw[US];have:=Wj t (l.take i);rw[Vl]at this;lia
  have e:l.take (i+1)=l.take i++[x]:=by rw[Wd,hx];rfl
  refine h x (VJ hx) x0 _ (λβ o=>i+1<=l.length/\(∃x0,β=x0::sI)/\o=((l.take (i+1)).filter t).map g) hle (λht x0=>?_) λht x0=>?_
  ·exact⟨eZ,⟨_,rfl⟩,by rw[e,WN,Vn,V0,if_pos ht];rfl⟩
  ·exact⟨eZ,⟨_,rfl⟩,by rw[e,WN,Vn,V0,if_neg (by rw[ht];simp)];simp⟩
 ·rintro β o ⟨_,⟨x0,rfl⟩,rfl⟩;rw[US,WJ];exact⟨h0,q⟩
theorem z9 {α:Type}{γ:cR}{τ:aY}{φ:aR}{l:List α}{f:α->D}{k:Kd}{sI:bg}{K:List D->Prop}(t:α->Bool)(g:α->D)(h0:d9 sI sI)(hl:l.length<=U_)
  (h:∀x∈l,∀(x0 x1:Option B) (o:List D) (J:bg->List D->Prop),o.length<U_->(t x=true->∀x0 x1,J (x0::x1::sI) (o++[g x]))->(t x=false->∀x0 x1,J (x0::x1::sI) o)->γ (f x) (sk k (f x)) (x0::x1::sI) λβ1=>τ β1 λt β2=>if t=true then φ β2 λx kx β3=>Dn kx x/\o.length<U_/\J β3 (o++[x]) else J β2 o)
  (q:K ((l.filter t).map g)):jO γ τ φ (l.map f) k (none::none::sI) K:=by
 refine⟨λi β o=>i<=l.length/\(∃x0 x1,β=x0::x1::sI)/\o=((l.take i).filter t).map g,⟨U7 _,⟨_,_,rfl⟩,rfl⟩,?_,?_⟩
 ·rintro i d β o hd ⟨hi,⟨x0,x1,rfl⟩,rfl⟩;rw[U8]at hd;obtain⟨x,hx,rfl⟩:=Vv.mp hd;have eZ:i<l.length:=(U3.mp hx).1;have hle:(((l.take i).filter t).map g).length<U_:=by
   rw[US];have:=Wj t (l.take i);rw[Vl]at this;lia
  have e:l.take (i+1)=l.take i++[x]:=by rw[Wd,hx];rfl
  refine h x (VJ hx) x0 x1 _ (λβ o=>i+1<=l.length/\(∃x0 x1,β=x0::x1::sI)/\o=((l.take (i+1)).filter t).map g) hle (λht x0 x1=>?_) λht x0 x1=>?_
  ·exact⟨eZ,⟨_,_,rfl⟩,by rw[e,WN,Vn,V0,if_pos ht];rfl⟩
  ·exact⟨eZ,⟨_,_,rfl⟩,by rw[e,WN,Vn,V0,if_neg (by rw[ht];simp)];simp⟩
 ·rintro β o ⟨_,⟨x0,x1,rfl⟩,rfl⟩;rw[US,WJ];exact⟨h0,q⟩
theorem b5 {α:Type}{l:List α}:l.filter (λ_=>true)=l:=List.filter_eq_self.mpr λ_ _=>rfl
theorem mK {a b:List D}(h:a.length+b.length<=1000000):Bf (.lst a) (.lst b)=some (.lst (a++b)):=by
 show (if a.length+b.length<=U_ then _ else _)=_
 rw[if_pos (VN h (by decide))]
theorem jv {α:Type}{f:α->Int}:∀{l:List α},D.bY (l.map λx=>D.int (f x))=true
 |[]=>rfl
 |_::l=>jv (l:=l)
theorem oG:∀{a b:List D},D.bY a=true->D.bY b=true->D.bY (a++b)=true
 |[],_,_,h=>h
 |d::a,b,h,h'=>by
  have f':(d.flat&&D.bY a)=true:=h;rw[Vz]at f';show (d.flat&&D.bY (a++b))=true;rw[f'.1,oG f'.2 h'];rfl
theorem zU {α:Type}{f:α->Int}{l:List α}{x:Int}:dw fW [.lst ((l.map λk=>D.int (f k))++[D.int x])]=some (.int ((fW (l.map f++[x])).getD 0)):=by
 have e:(l.map λk=>D.int (f k))++[D.int x]=(l.map f++[x]).map D.int:=by simp
 rw[e];exact gV n_
theorem C6 {α:Type}{l:List α}{m:Nat}{x:α}(h:l.Nodup)(hx:l[m]?=some x):x∉l.take m:=λz=>by
 obtain⟨i,hi⟩:=List.mem_iff_getElem?.mp z;rw[List.getElem?_take]at hi
 split at hi
 ·next eZ =>
  have:=(Zi (U3.mp hi).1 h).mp (hi.trans hx.symm);lia
 ·cases hi
def AV:FD:=λds R=>∃n:Nat,ds=[.int n]/\n<=80/\R (.lst ((o_ n).map yc))
theorem AV.mono:dy AV:=λds R R' k h=>by obtain⟨n,e,h1,q⟩:=h;exact⟨n,e,h1,k _ q⟩
def mw:FD:=λds R=>∃n ps,ds=[fk n ps]/\yj n ps/\R (zj n ps)
theorem mw.mono:dy mw:=λds R R' k h=>by obtain⟨n,ps,e,h1,q⟩:=h;exact⟨n,ps,e,h1,k _ q⟩
def mx:FD:=λds R=>∃(n:Nat) (ps:List (Nat×Nat)) (w:Nat×Nat->Int) (L:Nat->Nat) (T:Nat->Nat->Int) (i k j:Nat),ds=[wD ps w,kZ n L T,.int i,.int k,.int j]/\(i,k)∈ps/\i<k/\k<j/\j<=n/\k-i-1<L (i+1)/\j-k-1<L (k+1) /\
 R (.int (w (i,k)+T (k-i-1) (i+1)+T (j-k-1) (k+1)))
theorem mx.mono:dy mx:=λds R R' k h=>by obtain⟨n,ps,w,L,T,i,k',j,e,h1,h2,h3,h4,h5,h6,q⟩:=h;exact⟨n,ps,w,L,T,i,k',j,e,h1,h2,h3,h4,h5,h6,k _ q⟩
def my:FD:=λds R=>∃(n:Nat) (ps:List (Nat×Nat)) (w:Nat×Nat->Int) (L:Nat->Nat) (T:Nat->Nat->Int) (i j:Nat),ds=[zj n ps,wD ps w,kZ n L T,.int i,.int j]/\yj n ps/\i<j/\j<=n/\(∀a,i<a->a<=n->n+1-a<=L a)/\R (.int (iF ps w T i j))
theorem my.mono:dy my:=λds R R' k h=>by obtain⟨n,ps,w,L,T,i,j,e,h1,h2,h3,h4,q⟩:=h;exact⟨n,ps,w,L,T,i,j,e,h1,h2,h3,h4,k _ q⟩
abbrev dJ (n:Nat)(T:Nat->Nat->Int):D:=kZ n (λi=>n+1-i) T
def mz:FD:=λds R=>∃(n:Nat) (ps:List (Nat×Nat)) (w:Nat×Nat->Int),ds=[fk n ps,wD ps w]/\yj n ps/\R (dJ n (tW ps w))
theorem mz.mono:dy mz:=λds R R' k h=>by obtain⟨n,ps,w,e,h1,q⟩:=h;exact⟨n,ps,w,e,h1,k _ q⟩
def w1:Nat×Nat->Int:=λ_=>1
def uL:FD:=λds R=>∃(n:Nat) (ps:List (Nat×Nat)),ds=[fk n ps]/\yj n ps/\R (wD ps w1)
theorem uL.mono:dy uL:=λds R R' k h=>by obtain⟨n,ps,e,h1,q⟩:=h;exact⟨n,ps,e,h1,k _ q⟩
def gU:FD:=λds R=>∃(n:Nat) (ps:List (Nat×Nat)),ds=[fk n ps]/\yj n ps/\R (dJ n (tW ps w1))
theorem gU.mono:dy gU:=λds R R' k h=>by obtain⟨n,ps,e,h1,q⟩:=h;exact⟨n,ps,e,h1,k _ q⟩
theorem dW {n:Nat}(h:n<=1000):n<=U_:=VN h (by decide)
theorem fM {n:Nat}(h:n<=1000):n<U_:=Nat.lt_of_le_of_lt h (by decide)
theorem xr {n i:Nat}{x:Int}(hx:x=(i:Int))(h:i<n):vG n x=some i:=by
 subst hx;unfold vG;rw[if_pos (by lia),if_pos (by lia)]
 simp
theorem va {α:Type}{n i:Nat}{f:Nat->α}{y:α}(h:i<n):((UZ n).map f).set i y=(UZ n).map λk=>if k=i then y else f k:=by
 refine WB λk=>?_;rw[WU]
 by_cases hk:k<n
 ·rw[a6 hk,a6 hk,US,Vm]
  by_cases e:i=k
  ·rw[if_pos e,if_pos (e▸hk),if_pos e.symm]
  ·rw[if_neg e,if_neg (V5 e)]
 ·rw[VT (l:=(UZ n).map f) (by simpa using hk),VT (l:=(UZ n).map λk=>if k=i then y else f k) (by simpa using hk),if_neg (by lia)]
theorem FV {n i k:Nat}{ps:List (Nat×Nat)}(h:i<n):((UZ n).map λj=>D.lst (bp (jh ps j))).set i (.lst (bp (jh ps i)++[D.int k]))=(UZ n).map λj=>D.lst (bp (jh (ps++[(i,k)]) j)):=by
 rw[va h];refine VH λj _=>?_;unfold jh bp;rw[WN,Vn,Vn]
 by_cases e:j=i
 ·rw[if_pos e,e];simp
 ·rw[if_neg e,V0,if_neg (by simpa using V5 e)];simp
theorem iq {ps:List (Nat×Nat)}{i:Nat}:(jh ps i).length<=ps.length:=by
 unfold jh;rw[US];exact Wj _ _
def fv (n a b:Nat)(i:Nat):Nat:=if n-1-a<i then n+1-i else if i=n-1-a then b+1 else 1
theorem Ce {n a b:Nat}{T:Nat->Nat->Int}(ha:a<n)(hb:b<=a):
  ((UZ (n+1)).map λi=>D.lst (o9 (fv n a b i) λl=>T l i)).set (n-1-a) (.lst (o9 (b+1) (λl=>T l (n-1-a))++[D.int (T (b+1) (n-1-a))]))=(UZ (n+1)).map λi=>D.lst (o9 (fv n a (b+1) i) λl=>T l i):=by
 rw[va (by lia)]
 refine VH λi _=>?_;unfold fv
 by_cases e:i=n-1-a
 ·rw[if_pos e,e,if_neg (by lia),if_pos rfl]
  unfold o9;rw[XJ (n:=b+1),Vn];rfl
 ·rw[if_neg e,if_neg e,if_neg e]
theorem xn {n a:Nat}(h:a+1<n)(i:Nat)(hi:i<=n):fv n a (a+1) i=fv n (a+1) 0 i:=by
 unfold fv
 by_cases h1:n-1-a<i
 ·rw[if_pos h1,if_pos (by omega)]
 ·rw[if_neg h1]
  by_cases h2:i=n-1-a
  ·rw[if_pos h2,if_pos (by omega)];omega
  ·rw[if_neg h2,if_neg (by omega)]
   split <;> rfl
theorem Aa {n a:Nat}(h:n=a+1)(i:Nat)(hi:i<=n):fv n a (a+1) i=n+1-i:=by
 unfold fv
 split
 ·rfl
 ·split <;> lia
theorem uq {n:Nat}(h:0<n)(i:Nat)(hi:i<=n):fv n 0 0 i=1:=by
 unfold fv
 split
 ·lia
 ·split <;> rfl
theorem nL {n:Nat}{L L':Nat->Nat}{T:Nat->Nat->Int}(h:∀i,i<=n->L i=L' i):kZ n L T=kZ n L' T:=by
 unfold kZ
 congr 1
 refine VH λi hi=>?_;rw[h i (by have:=V8.mp hi;lia)]
def wg (n idx:Nat)(L:Nat->Nat):Prop:=(n=0/\L 0=1)\/∃a b,a<n/\b<=a+1/\(∀i,i<=n->L i=fv n a b i)/\(o_ n).drop idx=d3 n a b
theorem su {n:Nat}:wg n 0 λ_=>1:=by
 rcases Y5 n with h|h
 ·exact .inl ⟨h,rfl⟩
 ·exact .inr ⟨0,0,h,U7 _,λi hi=>(uq h i hi).symm,wu h⟩
theorem xI {n:Nat}{L:Nat->Nat}(h:wg n (o_ n).length L):∀i,i<=n->L i=n+1-i:=by
 rcases h with⟨rfl,h⟩|⟨a,b,h1,h2,h3,h4⟩
 ·intro i hi;rw[show i=0 by lia,h]
 ·intro i hi;rw[List.drop_length]at h4;have hb:b=a+1:=by
   rcases V6 a b with q|q
   ·lia
   ·rw[gL q]at h4;cases h4
  have ha:n=a+1:=by
   rcases V6 (a+1) n with q|q
   ·rw[hb,nP q,gL (U7 _)]at h4;cases h4
   ·lia
  rw[h3 i hi,hb];exact Aa ha i hi
theorem uO {n idx:Nat}{L:Nat->Nat}{p:Nat×Nat}(h:wg n idx L)(hp:(o_ n)[idx]?=some p):∃a b,a<n/\b<=a/\p=(n-1-a,n-a+b)/\(∀i,i<=n->L i=fv n a b i)/\(o_ n).drop (idx+1)=d3 n a (b+1):=by
 have hd:(o_ n).drop idx=p::(o_ n).drop (idx+1):=by
  obtain⟨h1,h2⟩:=U3.mp hp;rw[VO h1,h2]
 rcases h with⟨rfl,h⟩|⟨a,b,h1,h2,h3,h4⟩
 ·cases hp
 ·have key:∃a b,a<n/\b<=a/\(∀i,i<=n->L i=fv n a b i)/\(o_ n).drop idx=d3 n a b:=by
   rcases V6 a b with q|q
   ·have e:b=a+1:=by lia
    rcases V6 (a+1) n with q2|q2
    ·exact⟨a+1,0,q2,U7 _,λi hi=>by rw[h3 i hi,e,xn q2 i hi],by rw[h4,e,nP q2]⟩
    ·rw[h4,e,tY q2]at hd;cases hd
   ·exact⟨a,b,h1,q,h3,h4⟩
  obtain⟨a,b,h1,h2,h3,h4⟩:=key;rw[h4,gL h2]at hd;injection hd with e1 e2
  exact⟨a,b,h1,h2,e1.symm,h3,e2.symm⟩
theorem qH {n a:Nat}:(dS n a).length=a+1:=by unfold dS;simp
theorem wM {n a b:Nat}(h:b<a+1):(dS n a).take (b+1)=(dS n a).take b++[(n-1-a,n-a+b)]:=by
 rw[Wd];unfold dS;rw[a6 h];rfl
theorem zb {n a:Nat}:(dS n a).take (a+1)=dS n a:=Wo (by rw[qH];exact UU _)
theorem rP {n:Nat}:∀a:Nat,a<=n->(((UZ n).take a).flatMap (dS n)).length<=a*a
 |0,_=>by simp
 |a+1,h=>by
  have:=rP (n:=n) a (by lia)
  rw[Wd,WD (show a<n by lia),YW,Vu]
  have e:((some a).toList.flatMap (dS n)).length=a+1:=by simp[qH]
  rw[e,Nat.mul_add,Nat.add_mul];lia
theorem yJ {n a b:Nat}(hn:n<=80)(ha:a<n)(hb:b<a+1):(((UZ n).take a).flatMap (dS n)).length+((dS n a).take b).length<U_:=by
 have h1:=rP (n:=n) a (by lia)
 have h2:((dS n a).take b).length<=b:=by rw[Vl];exact Nat.min_le_left _ _
 have h3:a*a<=80*80:=ZN (by lia) (by lia)
 have h4:80*80+80<U_:=by decide
 lia
end L2.Q
namespace kJ
open PySem L2 L2.Q
section
variable {P:U0}{w:Vf}{K:PySem.W.Frag}{mg:Str->Option UT}{base:Heap}
theorem gB:aS ["many"] ["many"] (aA bI):=⟨rfl,rfl,rfl,by decide +kernel,rfl,by decide +kernel,by decide +kernel⟩
theorem CQ {j6 fD} (uP:D4 K mg j6 fD) (B:ym mg):aN P w K mg base b6 1 j6 fD ["many"] (dX P w true AV):=by
 refine qY uP.F gB (λds R KG=> by obtain⟨n,e,_⟩ := KG;subst e;rfl) λcX A outer s H E hr=>⟨_,(ak (aZ (Ss ["i","j","many"] [none,none,some 0] (by rfl) (by decide:(["i","j","many"]:List Str).Nodup) rfl (lC B.range (aa (aE af (bS.m bu) (ab (i:=0)) ah) (aa (qR ic ah) (aa (qR ic ah) ae)))) (λ_ _ _ _ _ _=>(ao (i:=0) (by decide:(["i","j","many"]:List Str).Nodup))) (λ_ _ _ _ _ _=>dc) (λ_ _ _ _ _ _=>(t9 B.range (aa (aE aF au (ab (i:=0)) ah) (aa (aE aF au (ab (i:=2)) ah) ae)))) (λ_ _ _ _ _ _=>(ao (i:=1) (by decide:(["i","j","many"]:List Str).Nodup))) (λ_ _ _ _ _ _=>dc) (λ_ _ _ _ _ _=>(bf (aa (ab (i:=0)) (aa (ab (i:=1)) ae))))))),λds R h=>?_⟩
 obtain⟨n,rfl,hn,q⟩:=h;refine⟨_,rfl,trivial,_,rfl,trivial,_,rfl,rfl,trivial,_,rfl,rfl,trivial,(n:Int)-1,-1,rfl,⟨by lia,by lia,by lia,by lia⟩,trivial,?_⟩
 have en:((n:Int)-1 - -1).toNat=n:=by lia
 rw[en];refine⟨λa β o=>a<=n/\(∃x0 x1,β=[x0,x1,some (.val false (.int n))])/\o=(((UZ n).take a).flatMap (dS n)).map yc,⟨U7 _,⟨_,_,rfl⟩,rfl⟩,?_,?_⟩
 ·rintro a d β o hd ⟨ha,⟨x0,x1,rfl⟩,rfl⟩;obtain⟨vJ,rfl⟩:=lA hd;have e1:(n:Int)-1-a=((n-1-a:Nat):Int):=by lia
  rw[e1];refine⟨_,rfl,trivial,_,rfl,trivial,_,rfl,trivial,_,rfl,trivial,((n-1-a:Nat):Int)+1,(n:Int)+1,rfl,⟨by lia,by lia,by lia,by lia⟩,?_⟩
  have e2:((n:Int)+1-(((n-1-a:Nat):Int)+1)).toNat=a+1:=by lia
  rw[e2];refine⟨λb β o=>b<=a+1/\(∃x1,β=[some (.val true (.int ((n-1-a:Nat):Int))),x1,some (.val false (.int n))])/\o=(((UZ n).take a).flatMap (dS n)++(dS n a).take b).map yc,⟨U7 _,⟨_,rfl⟩,by simp⟩,?_,?_⟩
  ·rintro b d β o hd ⟨hb,⟨x1,rfl⟩,rfl⟩;obtain⟨me,rfl⟩:=bF hd;refine⟨_,rfl,trivial,_,rfl,trivial,i4,trivial,?_,me,⟨_,rfl⟩,?_⟩
   ·rw[US,Vu];exact yJ hn vJ me
   ·rw[show ((n-1-a:Nat):Int)+1+(b:Int)=((n-a+b:Nat):Int) by lia,wM me,<- V4,Vn,Vn,Vn]
    rfl
  ·rintro β o ⟨_,⟨x1,rfl⟩,rfl⟩;refine⟨vJ,⟨_,_,rfl⟩,?_⟩;rw[cv,zb,Wd,WD vJ,YW];simp
 ·rintro β o ⟨_,⟨x0,x1,rfl⟩,rfl⟩;rw[lz,Wo (by simp)]
  exact⟨trivial,trivial,q⟩
theorem bE:aS ["row","many","ties","partners","a","b"] ["row"] (aA cY):=⟨rfl,rfl,rfl,by decide +kernel,rfl,by decide +kernel,by decide +kernel⟩
theorem vw {iL ee} (ny:D5 K mg iL ee) (B:ym mg):aN P w K mg base b6 1 iL ee ["row"] (dX P w true mw):=by
 refine qY ny.F bE (λds R KD=> by obtain⟨n,ps,e,_⟩ := KD;subst e;rfl) λcX A outer s H E hr=>⟨_,(ag (ud (ab (i:=0)) (cK (n:=2) rfl (aJ (ao (i:=1) bE.nd) (aJ (ao (i:=2) bE.nd) bV))))
    (ag (wL (i:=3) true ["point"] [none] (by rfl) (by decide:(["point"]:List Str).Nodup) rfl (λ_=>(a7 B.range (aa (ab (i:=1)) ae))) (λ_ _ _ _ _ _=>(ao (i:=0) (by decide:(["point"]:List Str).Nodup))) (λ_ _ _ _ _ _=>dc) (λ_ _ _ _ _ _=>(bh ae)) bE.nd)
    (ag (cm VI rfl (bJ (ab (i:=2))) (cK (n:=2) rfl (aJ (ao (i:=4) bE.nd) (aJ (ao (i:=5) bE.nd) bV))) (ak (d4 (i:=3) true (λ_=>(ab (i:=5))) (λ_=>(ab (i:=4))))))
    (ak (iy (i:=3)))))),λds R h=>?_⟩
 obtain⟨n,ps,rfl,ok,q⟩:=h;have hn:=ok.le;refine⟨_,rfl,_,rfl,rfl,_,_,rfl,_,_,rfl,rfl,_,rfl,trivial,n,rfl,by lia,by lia,trivial,?_⟩
 rw[Xf];refine fX (λ_=>true) (λ_=>.lst []) trivial (by rw[Vm];exact dW (by lia)) (λx hx x0 o J ho h1 _=>⟨U7 _,trivial,ho,h1 rfl _⟩) ?_
 rw[b5];refine⟨_,rfl,_,rfl,trivial,?_⟩;refine⟨λm β=>∃x4 x5,β=[some (.val false (fk n ps)),some (.val true (.int n)),some (.val false (kU ps)),some (.own (zj n (ps.take m))),x4,x5],⟨_,_,rfl⟩,?_,?_⟩
 ·rintro m d β hd ⟨x4,x5,rfl⟩;rw[U8]at hd;obtain⟨p,hp,rfl⟩:=Vv.mp hd;obtain⟨h1,h2⟩:=ok.lt p (VJ hp);refine⟨_,rfl,rfl,_,_,rfl,_,_,rfl,rfl,⟨_,rfl⟩,_,rfl,_,_,_,_,rfl,rfl,by rw[US,Vm];exact xr rfl (show p.1<n by lia),a6 (show p.1<n by lia),_,rfl,trivial,rfl,?_,?_⟩
  ·unfold Q.bp;rw[US];have:=iq (ps:=ps.take m) (i:=p.1);rw[Vl]at this;have:=ok.sm;exact fM (by lia)
  ·refine⟨some (.val true (.int p.1)),some (.val true (.int p.2)),?_⟩;have e:ps.take (m+1)=ps.take m++[(p.1,p.2)]:=by rw[Wd,hp];rfl
   rw[FV (show p.1<n by lia),e]
   rfl
 ·rintro β ⟨x4,x5,rfl⟩;rw[US,WJ];exact⟨_,rfl,q⟩
theorem lj:aS ["worth","table","i","k","j"] ["worth","table","i","k","j"] (aA cZ):=⟨rfl,rfl,rfl,by decide +kernel,rfl,by decide +kernel,by decide +kernel⟩
theorem vx {fI cS} (j8:D6 K mg fI cS):aN P w K mg base b6 1 fI cS ["worth","table","i","k","j"] (dX P w true mx):=by
 refine qY j8.F lj (λds R KC=> by obtain⟨n,ps,w,L,T,i,k,j,e,_⟩ := KC;subst e;rfl) λcX A outer s H E hr=>⟨_,(ak (aZ (aE aF au (aE aF au (aG af (JY hr.yz) (ab (i:=0)) (bf (aa (ab (i:=2)) (aa (ab (i:=3)) ae)))) (aG af a9 (aG af a9 (ab (i:=1)) (aE aF au (ab (i:=2)) ah)) (aE af (bS.m bu) (aE af (bS.m bu) (ab (i:=3)) (ab (i:=2))) ah))) (aG af a9 (aG af a9 (ab (i:=1)) (aE aF au (ab (i:=3)) ah)) (aE af (bS.m bu) (aE af (bS.m bu) (ab (i:=4)) (ab (i:=3))) ah))))),λds R h=>?_⟩
 obtain⟨n,ps,w,L,T,i,k,j,rfl,hm,h1,h2,h3,h4,h5,q⟩:=h;exact⟨_,rfl,trivial,_,rfl,trivial,_,rfl,trivial,i4,_,HG hm,trivial,_,rfl,trivial,_,rfl,trivial,_,rfl,_,om (i:=i+1) (by lia) (by lia),.inr ⟨trivial,_,rfl,trivial,_,rfl,_,rfl,trivial,_,rfl,_,oq (l:=k-i-1) (by lia) h4,_,rfl,trivial,
  _,rfl,trivial,_,rfl,trivial,_,rfl,_,om (i:=k+1) (by lia) (by lia),.inr ⟨trivial,_,rfl,trivial,_,rfl,_,rfl,trivial,_,rfl,_,oq (l:=j-k-1) (by lia) h5,_,rfl,trivial,q⟩⟩⟩
theorem fB:aS ["partners","worth","table","i","j","numbers"] ["partners","worth","table","i","j"] (aA cI):=⟨rfl,rfl,rfl,by decide +kernel,rfl,by decide +kernel,by decide +kernel⟩
theorem zO {j7 fE} (uQ:D7 K mg j7 fE) {fI cS} (j8:D6 K mg fI cS) (B:ym mg):aN P w K mg base b6 2 j7 fE ["partners","worth","table","i","j"] (dX P w true my):=by
 have P7:aN P w K mg base b6 1 _ _ _ (dX P w true mx):= vx j8;refine qY uQ.F fB (λds R KA=> by obtain⟨n,ps,w,L,T,i,j,e,_⟩ := KA;subst e;rfl) λcX A outer s H E hr=>⟨_,(ag (wL (i:=5) false ["k","worth","table","i","j"] [none,some 1,some 2,some 3,some 4] (by rfl) (by decide:(["k","worth","table","i","j"]:List Str).Nodup) rfl (λ_=>(bJ (aG af a9 (ab (i:=0)) (ab (i:=3))))) (λ_ _ _ _ _ _=>(ao (i:=0) (by decide:(["k","worth","table","i","j"]:List Str).Nodup))) (λ_ _ _ _ _ _=>(kT (aK af (bS.m lL) (ab (i:=0)) (ab (i:=4))))) (λ_ _ _ _ _ _=>(aT mx.mono P7 (hr.mono (by decide)) j8.m j8.F.kp j8.b (aa (ab (i:=1)) (aa (ab (i:=2)) (aa (ab (i:=3)) (aa (ab (i:=0)) (aa (ab (i:=4)) ae))))))) fB.nd)
    (ak (aZ (bU af (cG.m (oP rfl)) B.max qd (aa (aE aF au (ab (i:=5)) (bh (aa (aG af a9 (aG af a9 (ab (i:=2)) (aE aF au (ab (i:=3)) ah)) (aE af (bS.m bu) (aE af (bS.m bu) (ab (i:=4)) (ab (i:=3))) ah)) ae))) ae))))),λds R h=>?_⟩
 obtain⟨n,ps,w,L,T,i,j,rfl,ok,h1,h2,h3,q⟩:=h;have BH:=ok.sm;have hle:=ok.le;have hl:((jh ps i).filter λk=>decide (k<j)).length<=400:=VN (Wj _ _) (VN iq BH);refine⟨_,rfl,trivial,_,rfl,_,JZ rfl (by lia),.inr ⟨_,rfl,trivial,?_⟩⟩
 refine fX (λk=>decide (k<j)) (λk=>.int (w (i,k)+T (k-i-1) (i+1)+T (j-k-1) (k+1))) trivial (dW (VN iq (by lia))) (λk hk x0 o J ho j1 j2=>?_) ?_
 ·have hm:=du.mp hk;obtain⟨g1,g2⟩:=ok.lt _ hm;dsimp only at g1 g2;refine⟨_,rfl,trivial,_,rfl,_,rfl,_,rfl,ni (λOV=>?_) (λOV=>j2 (by simp;lia) _)⟩
  have AG:k<j:=by lia
  have a1:=h3 (i+1) (by lia) (by lia)
  have a2:=h3 (k+1) (by lia) (by lia)
  exact⟨_,rfl,trivial,_,rfl,trivial,_,rfl,trivial,_,rfl,trivial,_,rfl,trivial,n,ps,w,L,T,i,k,j,rfl,hm,g1,AG,h2,by lia,by lia,trivial,ho,j1 (by simpa using AG) _⟩
 ·have a1:=h3 (i+1) (by lia) (by lia)
  refine⟨_,rfl,trivial,_,rfl,trivial,_,rfl,trivial,_,rfl,_,om (i:=i+1) (by lia) (by lia),.inr ⟨trivial,_,rfl,trivial,_,rfl,_,rfl,trivial,_,rfl,_,oq (l:=j-i-1) (by lia) (by lia),trivial,B4,_,mK (by rw[US];show _+1<=_;lia),.inl ⟨oG jv rfl,trivial,_,zU,trivial,q⟩⟩⟩
theorem ba:aS ["row","worth","many","partners","table","i","j"] ["row","worth"] (aA b8):=⟨rfl,rfl,rfl,by decide +kernel,rfl,by decide +kernel,by decide +kernel⟩
theorem zP {nu gI} (uR:D8 K mg nu gI) {iL ee} (ny:D5 K mg iL ee) {j6 fD} (uP:D4 K mg j6 fD) {j7 fE} (uQ:D7 K mg j7 fE) {fI cS} (j8:D6 K mg fI cS) (B:ym mg):aN P w K mg base b6 3 nu gI ["row","worth"] (dX P w true mz):=by
 have P5:aN P w K mg base b6 1 _ _ _ (dX P w true mw):= vw ny B;have T_:aN P w K mg base b6 1 _ _ _ (dX P w true AV):= CQ uP B;have Uc:aN P w K mg base b6 2 _ _ _ (dX P w true my):= zO uQ j8 B;refine qY uR.F ba (λds R Kz=> by obtain⟨n,ps,w,e,_⟩ := Kz;subst e;rfl) λcX A outer s H E hr=>⟨_,(ag (a8 (i:=2) (aG af a9 (ab (i:=0)) ah) ba.nd)
    (ag (a8 (i:=3) (aT mw.mono P5 (hr.mono (by decide)) ny.m ny.F.kp ny.b (aa (ab (i:=0)) ae)) ba.nd)
    (ag (wL (i:=4) true ["i"] [none] (by rfl) (by decide:(["i"]:List Str).Nodup) rfl (λ_=>(a7 B.range (aa (aE aF au (ab (i:=2)) ah) ae))) (λ_ _ _ _ _ _=>(ao (i:=0) (by decide:(["i"]:List Str).Nodup))) (λ_ _ _ _ _ _=>dc) (λ_ _ _ _ _ _=>(bh (aa ah ae))) ba.nd)
    (ag (cm VI rfl (bJ (aT AV.mono T_ (hr.mono (by decide)) uP.m uP.F.kp uP.b (aa (ab (i:=2)) ae))) (cK (n:=2) rfl (aJ (ao (i:=5) ba.nd) (aJ (ao (i:=6) ba.nd) bV))) (ak (d4 (i:=4) true (λ_=>(aT my.mono Uc (hr.mono (by decide)) uQ.m uQ.F.kp uQ.b (aa (ab (i:=3)) (aa (ab (i:=1)) (aa (ab (i:=4)) (aa (ab (i:=5)) (aa (ab (i:=6)) ae))))))) (λ_=>(ab (i:=5))))))
    (ak (iy (i:=4))))))),λds R h=>?_⟩
 obtain⟨n,ps,w,rfl,ok,q⟩:=h;have hn:=ok.le;have hp:∀p∈ps,p.1<p.2:=λp hp=>(ok.lt p hp).1;refine⟨_,rfl,trivial,_,rfl,_,rfl,trivial,n,ps,rfl,ok,_,rfl,trivial,_,rfl,trivial,(n:Int)+1,rfl,by lia,by lia,trivial,?_⟩
 rw[show ((n:Int)+1).toNat=n+1 by lia]
 refine fX (λ_=>true) (λ_=>.lst [.int 0]) trivial (by rw[Vm];exact dW (by lia)) (λx hx x0 o J ho h1 _=>⟨trivial,B4,trivial,ho,h1 rfl _⟩) ?_
 rw[b5];refine⟨_,rfl,trivial,n,rfl,hn,_,rfl,trivial,?_⟩;refine⟨λidx β=>∃L x5 x6,β=[some (.val false (fk n ps)),some (.val false (wD ps w)),some (.val true (.int n)),some (.val true (zj n ps)),some (.own (kZ n L (tW ps w))),x5,x6]/\wg n idx L,⟨λ_=>1,_,_,rfl,su⟩,?_,?_⟩
 ·rintro idx d β hd ⟨L,x5,x6,rfl,dn⟩;rw[U8]at hd;obtain⟨p,uF,rfl⟩:=Vv.mp hd;obtain⟨a,b,ha,hb,rfl,hL,Ki⟩:=uO dn uF;have eL:kZ n L (tW ps w)=kZ n (fv n a b) (tW ps w):=nL hL;have e0:fv n a b (n-1-a)=b+1:=by unfold fv;rw[if_neg (by lia),if_pos rfl]
  rw[eL];refine⟨_,rfl,rfl,_,_,rfl,_,_,rfl,rfl,⟨_,rfl⟩,_,rfl,_,_,_,_,rfl,rfl,by rw[US,Vm];exact xr rfl (show n-1-a<n+1 by lia),a6 (show n-1-a<n+1 by lia),
   _,rfl,trivial,_,rfl,trivial,_,rfl,trivial,_,rfl,trivial,_,rfl,trivial,n,ps,w,fv n a b,tW ps w,n-1-a,n-a+b,rfl,ok,by lia,by lia,λa' h1 h2=>by unfold fv;rw[if_pos h1];exact UU _,trivial,rfl,?_,?_⟩
  ·rw[e0];unfold o9;rw[US,Vm];exact fM (by lia)
  ·refine⟨fv n a (b+1),some (.val true (.int ((n-1-a:Nat):Int))),some (.val true (.int ((n-a+b:Nat):Int))),?_,.inr ⟨a,b+1,ha,by lia,λ_ _=>rfl,Ki⟩⟩
   have ev:iF ps w (tW ps w) (n-1-a) (n-a+b)=tW ps w (b+1) (n-1-a):=by rw[kc hp,show n-1-a+b+1=n-a+b by lia]
   rw[ev,e0,Ce ha hb];rfl
 ·rintro β ⟨L,x5,x6,rfl,dn⟩;rw[US]at dn;have e:kZ n L (tW ps w)=dJ n (tW ps w):=nL (xI dn);rw[e];exact⟨_,rfl,q⟩
theorem qE:aS ["row"] ["row"] (aA fe):=⟨rfl,rfl,rfl,by decide +kernel,rfl,by decide +kernel,by decide +kernel⟩
theorem zN {nr gH} (sA:D9 K mg nr gH):aN P w K mg base b6 1 nr gH ["row"] (dX P w true uL):=by
 refine qY sA.F qE (λds R Ky=> by obtain⟨n,ps,e,_⟩ := Ky;subst e;rfl) λcX A outer s H E hr=>⟨_,(ak (aZ (TQ (Nat.lt_of_succ_lt hr.yz) ["tie"] [none] (by rfl) (by decide:(["tie"]:List Str).Nodup) rfl (bJ (aG af a9 (ab (i:=0)) ah)) (λ_ _ _ _ _ _=>(ao (i:=0) (by decide:(["tie"]:List Str).Nodup))) (λ_ _ _ _ _ _=>dc) (λ_ _ _ _ _ _=>(ab (i:=0))) (λ_ _ _ _ _ _=>ah)))),λds R h=>?_⟩
 obtain⟨n,ps,rfl,ok,q⟩:=h;have BH:=ok.sm;refine⟨_,rfl,trivial,_,rfl,.inr ⟨_,rfl,trivial,?_⟩⟩;refine⟨λm β o=>m<=ps.length/\(∃x0,β=[x0])/\o=(ps.take m).map λp=>(tI p,D.int (w1 p)),⟨U7 _,⟨_,rfl⟩,rfl⟩,?_,?_⟩
 ·rintro m d β o hd ⟨hm,⟨x0,rfl⟩,rfl⟩;rw[U8]at hd;obtain⟨p,hp,rfl⟩:=Vv.mp hd;have eZ:=(U3.mp hp).1;refine⟨_,rfl,tI p,rfl,rfl,CZ (C6 ok.nd hp),?_,eZ,⟨_,rfl⟩,?_⟩
  ·rw[US,Vl];exact fM (by lia)
  ·rw[Wd,hp,Vn];rfl
 ·rintro β o ⟨_,⟨x0,rfl⟩,rfl⟩;rw[US,WJ];exact⟨trivial,trivial,q⟩
theorem qD:aS ["row"] ["row"] (aA fc):=⟨rfl,rfl,rfl,by decide +kernel,rfl,by decide +kernel,by decide +kernel⟩
theorem qX {rW jS} (vW:MA K mg rW jS) {nu gI} (uR:D8 K mg nu gI) {iL ee} (ny:D5 K mg iL ee) {j6 fD} (uP:D4 K mg j6 fD) {j7 fE} (uQ:D7 K mg j7 fE) {fI cS} (j8:D6 K mg fI cS) {nr gH} (sA:D9 K mg nr gH) (B:ym mg):aN P w K mg base b6 4 rW jS ["row"] (dX P w true gU):=by
 have Ud:aN P w K mg base b6 3 _ _ _ (dX P w true mz):= zP uR ny uP uQ j8 B;have P6:aN P w K mg base b6 1 _ _ _ (dX P w true uL):= zN sA;refine qY vW.F qD (λds R Kx=> by obtain⟨n,ps,e,_⟩ := Kx;subst e;rfl) λcX A outer s H E hr=>⟨_,(ak (aZ (aT mz.mono Ud (hr.mono (by decide)) uR.m uR.F.kp uR.b (aa (ab (i:=0)) (aa (aT uL.mono P6 (hr.mono (by decide)) sA.m sA.F.kp sA.b (aa (ab (i:=0)) ae)) ae))))),λds R h=>?_⟩
 obtain⟨n,ps,rfl,ok,q⟩:=h;exact⟨_,rfl,trivial,_,rfl,trivial,n,ps,rfl,ok,trivial,n,ps,w1,rfl,ok,trivial,q⟩
end
end kJ
namespace L2.Q
open Mx
def Gx:Sr Nat:=⟨0,1,(·+·),(· * ·)⟩
theorem xi {l:List Int}{x:Int}:(fW (l++[x])).getD 0∈l++[x]/\∀y∈l++[x],y<=(fW (l++[x])).getD 0:=by
 cases l with
 |nil=>exact bX [] x
 |cons a l=>exact bX (l++[x]) a
theorem oh {ps:List (Nat×Nat)}{w:Nat×Nat->Int}{T:Nat->Nat->Int}{i j:Nat}:
  (iF ps w T i j=T (j-i-1) (i+1)\/∃k,(i,k)∈ps/\k<j/\iF ps w T i j=w (i,k)+T (k-i-1) (i+1)+T (j-k-1) (k+1)) /\
  T (j-i-1) (i+1)<=iF ps w T i j/\∀k,(i,k)∈ps->k<j->w (i,k)+T (k-i-1) (i+1)+T (j-k-1) (k+1)<=iF ps w T i j:=by
 obtain⟨h1,h2⟩:=xi (l:=((jh ps i).filter λk=>decide (k<j)).map λk=>w (i,k)+T (k-i-1) (i+1)+T (j-k-1) (k+1)) (x:=T (j-i-1) (i+1));refine⟨?_,h2 _ (by simp),λk hk hj=>h2 _ (V9 _ (Vx.mpr ⟨k,VB.mpr ⟨du.mpr hk,decide_eq_true hj⟩,rfl⟩))⟩
 rcases Vg.mp h1 with h|h
 ·obtain⟨k,hk,e⟩:=Vx.mp h;obtain⟨q1,q2⟩:=VB.mp hk;exact .inr ⟨k,du.mp q1,of_decide_eq_true q2,e.symm⟩
 ·exact .inl (U9.mp h)
end L2.Q
namespace L2
open PySem PySem.Spec PyProof.Rows
def bB (X:Cx)(x0:Str)(scope:W3)(N':List Str)(cl:List (Str×Addr))(C:Addr)(s:UW)(H:Hp)(ex:List Addr):Cx :=
 {X with N:=N',s₀:=s,H₀:=H,env:=compEnvC scope ((x0,C+1)::cl) C X.env,outer:=X.stack,stack:=X.stack,ex:=ex,fn:=λx=>x==x0,pn:=[],xe:=λ_ _=>False}
structure hE (X:Cx)(x0:Str)(scope:W3)(N':List Str)(lk:List (Option Nat)):Prop where
 kind:scope.kind=.function
 one:scope.names.filter (λx=>x.2==VX)=[(x0,.cell)]
 names:∀x∈scope.names,x.2=.local->scope.names.lookup x.1=some .local
 free:∀x,(x,VC)∈scope.names->x≠x0/\(X.env.kindOf x=some .cell\/X.env.kindOf x=some .free)
 len:lk.length=N'.length
 link:∀(i j:Nat),lk[i]?=some (some j)->∃x,N'[i]?=some x/\X.N[j]?=some x/\(x,VC)∈scope.names/\scope.names.lookup x=some .free
def uo (outer:List (Str×W8))(N:List Str)(x0:Str)(scope:W3)(N':List Str)(lk:List (Option Nat)):Bool :=
 (scope.kind==.function)&&(scope.names.filter (λx=>x.2==VX)==[(x0,.cell)])&&scope.names.all (λx=>(x.2 != .local || scope.names.lookup x.1==some .local)&&(x.2 != .free || x.1 != x0&&(outer.lookup x.1==some .cell || outer.lookup x.1==some .free))) &&
 lk.length==N'.length&&(UZ lk.length).all λi=>match lk[i]? with
  |some (some j)=>match N'[i]? with
   |some x=>N[j]?==some x&&scope.names.contains (x,.free)&&scope.names.lookup x==some .free
   |none=>false
  |_=>true
theorem hE.of {X:Cx}{x0:Str}{scope:W3}{N':List Str}{lk:List (Option Nat)}(h:uo X.env.scope.names X.N x0 scope N' lk=true):hE X x0 scope N' lk:=by
 simp only[uo,Vz]at h;obtain⟨⟨⟨⟨h1,h0⟩,h2⟩,h3⟩,h4⟩:=h;rw[WK]at h2 h4;refine⟨by simpa using h1,by simpa using h0,λx hx hl=>?_,λx hx=>?_,by simpa using h3,λi j aH=>?_⟩
 ·have:=h2 x hx;simp only[Vz]at this;have q:=this.1;rw[hl]at q;simpa using q
 ·have:=h2 _ hx;simp only[Vz]at this;have q:=this.2;simp only[ZF,Vz]at q;rcases q with q|⟨q1,q⟩
  ·simp at q
  ·refine⟨by simpa using q1,?_⟩
   rcases q with q|q
   ·exact .inl (show X.env.scope.names.lookup x=some .cell by simpa using q)
   ·exact .inr (show X.env.scope.names.lookup x=some .free by simpa using q)
 ·have hi:i<lk.length:=(U3.mp aH).1;have q:=h4 i (V8.mpr hi);rw[aH]at q;simp only at q;cases e:N'[i]? with
  |none=>rw[e]at q;simp at q
  |some x =>
   rw[e]at q;simp only[Vz]at q;obtain⟨⟨q1,q2⟩,q3⟩:=q;exact⟨x,rfl,by simpa using q1,by simpa using q2,by simpa using q3⟩
theorem eG {env:Env}{k:W8}(hk:k=.cell\/k=.free):∀{names:List (Str×W8)} {x:Str},
  (names.map λ(n,k)=>if (k==VC&&env.scope.kind==.function&&env.kindOf n==some .cell) then (n,VX) else (n,k)).lookup x=some k->(x,VC)∈names\/(x,VX)∈names
 |[],_,h=>by simp at h
 | (n,k')::r,x,h=>by
  have ih:=@eG env k hk r x;rw[Vo]at h
  by_cases hc:(k'==VC&&env.scope.kind==.function&&env.kindOf n==some .cell)=true
  ·simp only[hc,if_true]at h;rw[VS]at h;cases q:x==n with
   |true =>
    rw[eq_of_beq q];simp only[Vz]at hc;have:k'=.free:=by simpa using hc.1.1
    rw[this];simp
   |false =>
    rw[q]at h;exact(ih h).imp (λz=>Vi _ z) λz=>Vi _ z
  ·simp only[hc]at h;simp only[X0,if_false]at h;rw[VS]at h;cases q:x==n with
   |true =>
    rw[q]at h;cases h;rw[eq_of_beq q];rcases hk with rfl|rfl
    ·exact .inr (by simp)
    ·exact .inl (by simp)
   |false =>
    rw[q]at h;exact(ih h).imp (λz=>Vi _ z) λz=>Vi _ z
theorem Bj {x0:Str}:∀{names:List (Str×W8)} {n:Nat} {cl:List (Str×Addr)} {h:Heap},names.filter (λx=>x.2==VX)=[(x0,.cell)]->Yk n names cl=(x0,n)::cl/\pushCells h names=h.push {cls:=.type "cell",data:=.cell none}
 |[],_,_,_,e=>by cases e
 | (y,k)::r,n,cl,h,e=>by
  have no:∀{r:List (Str×W8)} {n:Nat} {cl:List (Str×Addr)} {h:Heap},r.filter (λx=>x.2==VX)=[]->Yk n r cl=cl/\pushCells h r=h:=λ{r}=>by
   induction r with
   |nil=>intro n cl h _;exact⟨rfl,rfl⟩
   |cons p r ih =>
    intro n cl h e;obtain⟨y,k⟩:=p;rw[V0]at e
    by_cases hk:(k==VX)=true
    ·rw[if_pos hk]at e;cases e
    ·rw[if_neg hk]at e;unfold Yk pushCells;rw[if_neg hk,if_neg hk];exact ih e
  rw[V0]at e;unfold Yk pushCells
  by_cases hk:(k==VX)=true
  ·rw[if_pos hk]at e;rw[if_pos hk,if_pos hk];injection e with e1 e2
   injection e1 with e1 _
   subst e1;exact no e2
  ·rw[if_neg hk]at e;rw[if_neg hk,if_neg hk];exact Bj e
section
variable {X:Cx}{x0:Str}{scope:W3}{N':List Str}{lk:List (Option Nat)}{cl:List (Str×Addr)}{pins:List (Addr×Obj)}{σ:St}{H:Hp}{s:UW}{ex:List Addr}
theorem xw {h':Heap}{t':Nat}(I:Inv X pins σ H s)(L:hE X x0 scope N' lk)(hex:∀b∈ex,dU X pins H b)(Hw:∀b∈ex,∃o,s.heap.get? b=some o)
  (iX:∀x,(x,VC)∈scope.names->∃c,cl.lookup x=some c) (mR:∀x c,cl.lookup x=some c->X.env.cells.lookup x=some c)
  (hn:h'.Ns s.heap.objs.size (λ_=>none)) (hk:∀b o,s.heap.get? b=some o->h'.get? b=some o) (h0:h'.IsCell (s.heap.objs.size+1) none) :
  Inv (bB X x0 scope N' cl s.heap.objs.size s H ex) [] (cN lk σ) H {s with heap:=h',toks:=t'}:=by
 obtain⟨m,hm,hl⟩:=I.loc;have Ml:∀b∈ex,b<s.heap.objs.size:=λb hb=>by
  obtain⟨o,e⟩:=Hw b hb;exact Vb e
 have two:∀x c,(((x0,s.heap.objs.size+1)::cl).lookup x=some c)->(x=x0/\c=s.heap.objs.size+1)\/(x≠x0/\X.env.cells.lookup x=some c):=λx c e=>by
  rw[VS]at e;cases q:x==x0 with
  |true=>rw[q]at e;cases e;exact .inl ⟨eq_of_beq q,rfl⟩
  |false=>rw[q]at e;exact .inr ⟨λz=>by rw[z]at q;simp at q,mR _ _ e⟩
 have old:∀x c,X.env.cells.lookup x=some c->c<s.heap.objs.size:=λx c e=>by
  obtain⟨v,o,ho,_⟩:=I.cell x c e;exact Vb ho
 have skip:∀x c,x≠x0->cl.lookup x=some c->((x0,s.heap.objs.size+1)::cl).lookup x=some c:=λx c n e=>by
  rw[VS];have:(x==x0)=false:=beq_eq_false_iff_ne.mpr n;rw[this];exact e
 refine⟨⟨I.ok.mod,L.kind,I.ok.glob,I.ok.blt,UU _,λx y c h1 h2=>?_,λx hx=>?_,λx c z e=>?_,I.ok.hd,I.ok.frames,.inl rfl,
  λb hb=>⟨Vw (Ml b hb),λx c e=>?_⟩,I.bs,VN I.ok.BM I.sz,λb o e z=>?_,λb hb z=>?_,I.stack,I.pj⟩,
  rfl,I.bare,Un.kept hk,⟨_,hn,λi x v h1 h2 h3=>?_⟩,λx c e=>?_,I.br.fresh (UU _),λx c e=>?_,λp hp=>absurd (show p∈([]:List (Addr×Obj)) from hp) (by simp),I.br.kept hk,?_⟩
 ·rcases two x c h1 with⟨rfl,e1⟩|⟨n1,e1⟩ <;> rcases two y c h2 with⟨rfl,e2⟩|⟨n2,e2⟩
  ·rfl
  ·exact absurd (show s.heap.objs.size+1<s.heap.objs.size from e1▸old _ _ e2) (Nat.not_lt.mpr (X7 _))
  ·exact absurd (show s.heap.objs.size+1<s.heap.objs.size from e2▸old _ _ e1) (Nat.not_lt.mpr (X7 _))
  ·exact I.ok.inj x y c e1 e2
 ·have yf:(relabel scope X.env).names.lookup x=some .cell\/(relabel scope X.env).names.lookup x=some .free:=hx;have key:(x,VC)∈scope.names\/(x,VX)∈scope.names:=yf.elim (λq=>eG (.inl rfl) q) λq=>eG (.inr rfl) q;rcases key with q|q
  ·obtain⟨c,hc⟩:=iX x q;exact⟨c,skip x c (L.free x q).1 hc⟩
  ·have:(x,VX)∈scope.names.filter (λx=>x.2==VX):=VB.mpr ⟨q,rfl⟩;rw[L.one]at this;have e:=congrArg Prod.fst (U9.mp this);exact⟨s.heap.objs.size+1,by show ((x0,_)::cl).lookup x=_;rw[show x=x0 from e,VS];simp⟩
 ·rcases two x c e with⟨_,e1⟩|⟨n1,_⟩
  ·show s.heap.objs.size<=c;lia
  ·exact absurd (eq_of_beq z) n1
 ·rcases two x c e with⟨_,e1⟩|⟨_,e1⟩
  ·intro q;exact absurd (show s.heap.objs.size+1<s.heap.objs.size from (e1▸q:s.heap.objs.size+1=b)▸Ml b hb) (Nat.not_lt.mpr (X7 _))
  ·exact(hex b hb).2.2.2.2.1 x c e1
 ·obtain⟨f0,f1,f2,f3,_⟩:=hex b z;rcases f3 with q|q
  ·exact I.ok.xc b o e q
  ·have h1:=Vb e;have h2:=I.ok.BM;exact absurd (Vy h1 (VN h2 q)) (Xq _)
 ·obtain⟨f0,f1,f2,f3,_⟩:=hex b hb;rcases U1.mp (I.ph b z)with q|q
  ·exact f1 q
  ·exact f2 q
 ·have hi:∃j,lk[i]?=some (some j)/\σ[j]?=some (some v):=by
   have mT:(cN lk σ)[i]?=some (some v):=h2;unfold cN at mT;rw[U8]at mT;cases e:lk[i]? with
   |none=>rw[e]at mT;cases mT
   |some l =>
    cases l with
    |none=>rw[e]at mT;cases mT
    |some j =>
     rw[e]at mT;cases e2:σ[j]? with
     |none=>simp[e2]at mT
     |some w' =>
      simp only[XI,e2,X6]at mT;subst mT;exact⟨j,rfl,e2⟩
  obtain⟨j,hj,hσ⟩:=hi;obtain⟨y,e1,e2,e3,e4⟩:=L.link i j hj;have Px:x=y:=by
   have yg:N'[i]?=some x:=h1;rw[e1]at yg;exact(VA yg).symm
  subst Px;have G_:sQ X.env.scope x:=by
   rcases (L.free x e3).2 with q|q
   ·exact .inr (.inl q)
   ·exact .inr (.inr q)
  obtain⟨u,ru,lu⟩:=hl j x v e2 hσ G_;refine⟨u,ru,.inr ⟨?_,?_⟩⟩
  ·exact cq e4
  ·rcases lu with⟨k,_⟩|⟨_,c,hc,z⟩
   ·rcases (L.free x e3).2 with q|q <;> (rw[k]at q;cases q)
   ·obtain⟨c',oC⟩:=iX x e3;have:=mR x c' oC;rw[hc]at this;cases this;obtain⟨o,ho,hd⟩:=z;exact⟨c,skip x c (L.free x e3).1 oC,o,hk _ _ ho,hd⟩
 ·rcases two x c e with⟨_,e1⟩|⟨_,e1⟩
  ·exact⟨none,by rw[e1];exact h0⟩
  ·obtain⟨v,o,ho,hd⟩:=I.cell x c e1;exact⟨v,o,hk _ _ ho,hd⟩
 ·rcases two x c e with⟨_,e1⟩|⟨_,e1⟩
  ·rw[e1];exact I.br.fresh (by lia)
  ·exact I.f6 x c e1
 ·show (cN lk σ).length=N'.length;unfold cN;rw[US,L.len]
theorem xx {s':UW}{σ':St}{H':Hp}{pl:List (Addr×Obj)}{h'':Heap}(I:Inv X pins σ H s)(hex:∀b∈ex,dU X pins H b)
  (J:Inv (bB X x0 scope N' cl s.heap.objs.size s H ex) pl σ' H' s') (hs:Wq s.heap.objs.size s'.heap h''):Inv X pins σ H' {s' with heap:=h''}:=by
 have hC:H' s.heap.objs.size=none:=J.free;have u:=J.base;refine I.Fe (ch:=ex) (s':={s' with heap:=h''}) J.os ?_ ?_ J.bare (λb hb=>?_)
 ·have kk:∀b o,b≠s.heap.objs.size->s'.heap.get? b=some o->h''.get? b=some o:=λb o hb e=>(hs.2 b hb).trans e;have ne:∀b o,s.heap.get? b=some o->b≠s.heap.objs.size:=λb o e=>Vw (Vb e);refine⟨λb o e n hb hx=>kk b _ (ne b o e) (u.keep b o e n hb hx),λb o e n hb hx=>?_,u.free,λb o e hx=>?_,u.mZ,u.mh,u.m6⟩
  ·obtain⟨sl,q⟩:=u.slot b o e n hb hx;exact⟨sl,kk b _ (ne b o e) q⟩
  ·obtain⟨o',q⟩:=u.there b o e hx;exact⟨o',kk b _ (ne b o e) q⟩
 ·intro b o e;have hb:b≠s.heap.objs.size:=λz=>by rw[z]at e;rw[hC]at e;cases e
  refine(J.br b o e).pk (λc v hc q=>(hs.2 c ?_).trans q) (λ_ q=>q) λ_ _ q=>q;rcases hc with z|z
  ·rw[z];exact hb
  ·intro z';rw[z']at z;rw[hC]at z;cases z
 ·obtain⟨f0,f1,f2,f3,f4,f5⟩:=hex b hb;exact⟨f3,f1,f4,f5⟩
end
section
variable {X:Cx}{x0:Str}{e:Expr}{g:WZ}{gs:List WZ}{scope:W3}{N':List Str}{lk:List (Option Nat)}{tg:Addr->TG}{tt:Addr->TT}{wi:TI}
theorem sG {cn:Sem UT}{o:HO}{after:UT->Env->Sem Fin->Sem Fin}{ta:Addr->jC}(L:hE X x0 scope N' lk)(hc:X.calm=true)(hA:g_ X cn o)
  (F:∀acc env,fG e 0 g acc env (after acc env))
  (xB:∀a cl C s H ex,PG (bB X x0 scope N' cl C s H ex) g.target (tg a)/\qf (bB X x0 scope N' cl C s H ex) g.ifs (tt a)/\mQ (bB X x0 scope N' cl C s H ex) (after (.ref a) (bB X x0 scope N' cl C s H ex).env) (ta a))
  {cl:List (Str×Addr)} (iX:∀x,(x,VC)∈scope.names->∃c,cl.lookup x=some c) (mR:∀x c,cl.lookup x=some c->X.env.cells.lookup x=some c)
  {pins:List (Addr×Obj)} {σ:St} {s:UW} {Q:V->Hp->Prop} {ye:UT} {E:UT->UW->Prop} {RR:UT->Addr->Result->UW->Prop}
  (h:Ie X pins σ g.target (λJ H1=>∀a,H1 a=none->eM J (tg a) (tt a) (ta a) (λ_ H'=>Q (.ref a) H') (cN lk σ) (upd H1 a o)) ye s)
  (hR:∀a H' C s',Inv X pins σ H' s'->dU X pins H' C->(∃m,s'.heap.Ns C m)->Q (.ref a) H'->RR (.ref a) C (.ok .next) s') :
  Vq (model X.prog X.w) X.A cn (λacc s₃=>Vq (model X.prog X.w) X.A (ZJ scope X.env.globals cl [] X.env.qual none .none (some X.env)) (λBi s₄ =>
   XR (model X.prog X.w) X.A (.compStart e 0 ye acc {Bi with scope:=relabel scope X.env}) (RR acc Bi.locals) s₄) E s₃) E s:=by
 obtain⟨it,fp,tn,J,H2,e1,I2,T,eK,f2,hl⟩:=h;subst e1;refine hA.ok pins s σ H2 _ E I2 λa s3 ha hn hk I3=>?_;simp only[ZJ,Option.isSome_some,if_true];refine UR (wpAny_alloc ?_);refine UR (wpAny_layCells _ (λname kind cells=>by cases S8:kind==VX <;> simp[S8]) _ _ _ _ ?_)
 obtain⟨c1,c2⟩:=Bj (n:=s3.heap.objs.size+1) (cl:=cl) (h:=s3.heap.push {cls:=.type "dict",data:=.dict #[]}) L.one;have hsz:(s3.heap.push {cls:=.type "dict",data:=.dict #[]}).objs.size=s3.heap.objs.size+1:=WO ..
 dsimp only;rw[hsz,c1,c2];refine UR ?_;rw[ZP];refine UY (UY ?_);generalize E3:(s3.heap.push {cls:=.type "dict",data:=.dict #[]}).push {cls:=.type "cell",data:=.cell none}=h₁;have Hw:∀b∈fp,∃o,s3.heap.get? b=some o:=λb hb=>by
  obtain⟨ob,q,_⟩:=T.obj _ _ eK b hb;exact⟨ob,hk b ob q⟩
 have Lb:∀b∈fp,b≠a:=λb hb=>by
  obtain⟨ob,q,_⟩:=T.obj _ _ eK b hb;exact Vw (Vy (Vb q) ha)
 have f3:∀b∈fp,dU X pins (upd H2 a o) b:=λb hb=>⟨by rw[ar (Lb b hb)];exact(f2 b hb).1,(f2 b hb).2⟩
 have Iv:∀b ob,s3.heap.get? b=some ob->h₁.get? b=some ob:=λb ob q=>by rw[<- E3];exact UX _ (UX _ q)
 have Ir:h₁.Ns s3.heap.objs.size (λ_=>none):=by rw[<- E3];exact(Heap.Ns.new s3.heap (.type "dict")).keeps λb ob q=>UX _ q
 have jR:h₁.IsCell (s3.heap.objs.size+1) none:=by rw[<- E3,<- hsz];exact⟨_,Vp _ rfl,rfl⟩
 have I4:=xw (t':=s3.toks) I3 L f3 Hw iX mR Ir Iv jR;obtain⟨g1,g2,g3⟩:=xB a cl s3.heap.objs.size s3 (upd H2 a o) fp;have f4:∀b∈fp,dU (bB X x0 scope N' cl s3.heap.objs.size s3 (upd H2 a o) fp) [] (upd H2 a o) b:=λb hb =>
  ⟨(f3 b hb).1,(I4.ok.IC b hb).1,I4.ok.xH b hb,.inl hb,(I4.ok.IC b hb).2,λp hp=>absurd (show p∈([]:List (Addr×Obj)) from hp) (by simp)⟩
 have FN:tn 0 h₁:=T.keep 0 _ _ eK λb hb ob q=>Iv b ob (hk b ob q);refine Xl (gW (X:=bB X x0 scope N' cl s3.heap.objs.size s3 (upd H2 a o) fp) rfl hc (F (.ref a) _) g1 g2 g3 T I4 FN f4 (hl a hn)) λr s' hr=>?_;obtain⟨rfl,σ',H',J',q⟩:=hr;have I5:Inv X pins σ H' s':=xx (h'':=s'.heap) I3 f3 J' (.refl ..);refine hR a H' s3.heap.objs.size s' I5 (I3.xD (UU _) J'.free) ?_ q;obtain⟨m,hm,_⟩:=J'.loc;exact⟨m,hm⟩
theorem zm {cn:Sem UT}{o:HO}{after:UT->Env->Sem Fin->Sem Fin}{ta:Addr->jC}{pos pos' ik:Pos}{y:Str}{i:Nat}(L:hE X x0 scope N' lk)(hc:X.calm=true)(hA:g_ X cn o)
  (oB:WR e (some (.Name y pos')) ik.line X.env=pure true)
  (AK:YO e X.env (assign (.Name y pos') X.env)=(do let _ <- comprehension e scope X.env pos cn false (eval g.iter X.env) (some (assign (.Name y pos') X.env));pure ())) (AL:clausesOf e=g::gs)
  (hN:X.N.Nodup) (hy:X.N[i]?=some y) (hx:Loc X.env.scope y) (hf:X.fn y=true\/X.env.scope.names.lookup y=some .local)
  (F:∀acc env,fG e 0 g acc env (after acc env)) (hi:PI X g.target g.iter wi)
  (xB:∀a cl C s H ex,PG (bB X x0 scope N' cl C s H ex) g.target (tg a)/\qf (bB X x0 scope N' cl C s H ex) g.ifs (tt a)/\mQ (bB X x0 scope N' cl C s H ex) (after (.ref a) (bB X x0 scope N' cl C s H ex).env) (ta a))
  (hs:∀x,VG g.iter X.env x=pure x) :
  PS X (.Assign [.Name y pos'] e ik) (λD σ H=>wi σ H λJ H1=>∀a,H1 a=none->eM J (tg a) (tt a) (ta a) (λ_ H'=>D.nx (σ.set i (some (.ref a))) H') (cN lk σ) (upd H1 a o)):=by
 intro pins s σ H D I h;rw[exec_Assign_Name_used _ _ _ _ oB,AK];refine UR (WW (UR (UR ?_)));obtain⟨cl,rK,iX,mR⟩:=eI (env:=X.env) (scope:=scope) λx hx=>I.ok.has x (L.free x hx).2;refine bC (Yb (use:=some (assign (.Name y pos') X.env)) (Q:=λ_ s'=>SP X pins D .next s') AL hs rK L.kind L.names (bC (hi pins s σ H _ I h) λv s1 h1=>bC h1 λye s2 h2=>?_)) λ_ s' q=>UY (UY q)
 refine sG (Q:=λv H'=>D.nx (σ.set i (some v)) H') (RR:=λacc C=>compPost (model X.prog X.w) X.A X.xe (some (assign (.Name y pos') X.env)) (λ_ s'=>SP X pins D .next s') acc C) L hc hA F xB iX mR h2 λa H' C s' I' f hm q=>?_
 obtain⟨m,hm⟩:=hm;show Vq _ _ (assign (.Name y pos') X.env (.ref a)) _ _ s';have Tu:∃o,s'.heap.get? C=some o:=by obtain⟨o,_,_,ho,_⟩:=hm;exact⟨o,ho⟩
 refine Y8 (i5 I' hN hy hx (v:=.ref a) (u:=.ref a) rfl (λs4 I4 k4=>?_) hf);obtain⟨a4,M6,Pf⟩:=k4;have AE:C≠a4:=by
  rcases Pf with z|z
  ·rw[z];exact f.2.1
  ·exact(f.2.2.2.2.1 y a4 z).symm
 exact⟨m,hm.at' (λo e=>(M6.2 C AE).trans e),λh' uC=>⟨_,H',I4.sameBut f uC,q⟩⟩
end
end L2
namespace L2.Q
open PySem PySem.Spec PySem.SeqAt PyProof.Rows
def F1 (lk:List (Option Nat))(ι:ck)(γ:cR)(τ:aY)(φ:aR):aR:=λβ R=>ι β λds k β1=>hold k false/\iE γ τ (AY φ) ds k (cw lk β1) [] λβf o=>d9 (cw lk β1) βf/\R (.lst o) .own β1
section
variable {X:Cx}{C:Cfg}{γ:cR}{τ:aY}{φ:aR}{T:List Nat}{scope:W3}{tg bP elt:Expr}{ifs:List Expr}{ι:ck}{pi:Bool}{pos pos' ik:Pos}{y:Str}{i:Nat}
theorem lX {x0:Str}{N':List Str}{lk:List (Option Nat)}(L:hE X x0 scope N' lk)(hN:N'.Nodup):∀(i i' j:Nat),lk[i]?=some (some j)->lk[i']?=some (some j)->i=i':=λi i' j h1 h2=>by
 obtain⟨x,a1,a2,_⟩:=L.link i j h1;obtain⟨y,b1,b2,_⟩:=L.link i' j h2;rw[a2]at b2;cases b2;exact(Zi (U3.mp a1).1 hN).mp (a1.trans b1.symm)
theorem M7 (x0:Str)(o:Bool)(N':List Str)(lk:List (Option Nat))(L:uo X.env.scope.names X.N x0 scope N' lk=true)(mS:N'.Nodup)(hc:X.calm=true)(hi:∀U,tm X (C.u U) pi tg bP ι)
  (jQ:∀U cl c s H ex,tw (bB X x0 scope N' cl c s H ex) (C.u U) tg T γ) (hX:∀U cl c s H ex,nE (bB X x0 scope N' cl c s H ex) (C.u U) true ifs τ)
  (gS:∀U cl c s H ex,PQ (bB X x0 scope N' cl c s H ex) (C.u U) true elt φ)
  (hN:X.N.Nodup) (hT:T.all (λi=>match lk[i]? with|some (some _)=>false|_=>true)=true:=by rfl) (hy:X.N[i]?=some y:=by rfl) (hx:Loc X.env.scope y:=by first|exact .inl rfl|exact .inr rfl) (hf:X.fn y=true\/X.env.scope.names.lookup y=some .local:=by first|exact .inl rfl|exact .inr rfl|assumption)
  (oB:WR (.ListComp elt [⟨tg,bP,ifs,0⟩] scope pos) (some (.Name y pos')) ik.line X.env=pure true:=by rfl)
  (AK:YO (.ListComp elt [⟨tg,bP,ifs,0⟩] scope pos) X.env (assign (.Name y pos') X.env)=(do let _ <- comprehension (.ListComp elt [⟨tg,bP,ifs,0⟩] scope pos) scope X.env (firstIterPos [⟨tg,bP,ifs,0⟩] pos) (newList []) false (eval bP X.env) (some (assign (.Name y pos') X.env));pure ()):=by first|rfl|exact Yd ..)
  (hs:∀x,VG bP X.env x=pure x:=by intro _;rfl) :
  PB X C (.Assign [.Name y pos'] (.ListComp elt [⟨tg,bP,ifs,0⟩] scope pos) ik) (λE β=>F1 lk ι γ τ φ β λd _ β'=>E.nx (β'.set i (some (match o with|true=>.own d|false=>.val true d)))):=by
 have L:=hE.of L;have AN:∀i∈T,∀j,lk[i]?≠some (some j):=λi hi j e=>by
  have:=WK.mp hT i hi;rw[e]at this;cases this
 have γm:=(jQ (λ_=>False) [] 0 X.s₀ X.H₀ []).mono;have τm:=(hX (λ_=>False) [] 0 X.s₀ X.H₀ []).mono;have φm:=(gS (λ_=>False) [] 0 X.s₀ X.H₀ []).mono;refine⟨λE E' β l h=>(hi λ_=>False).mono β _ _ (λds kd β1 q=>⟨q.1,q.2.mono λ_ _ z=>⟨z.1,l.nx _ z.2⟩⟩) h,λpins s σ H D I0 hh=>?_⟩;obtain⟨Z,E,β,⟨own,sq,n⟩,h,ok⟩:=hh;refine zm (g:=⟨tg,bP,ifs,0⟩) (gs:=[]) (tg:=λa=>FF X C a T γ) (tt:=λa=>iV X (C.u λc=>c=a) true τ) (ta:=λa=>MK X C a φ)
  L hc fV oB AK rfl hN hy hx hf (λ_ _=>vZ) (hi λa=>H a=none).pi (λa cl c s H ex=>⟨(jQ _ cl c s H ex).pg,(hX _ cl c s H ex).pt,fT (X:=bB X x0 scope N' cl c s H ex) rfl (gS _ cl c s H ex).pe⟩) hs pins s σ H D I0 ?_
 refine⟨β,own,sq.nH (C:=C.z) (U:=λa=>H a=none) λa z=>z,(hi λ_=>False).mono β _ _ (λds k β1 h J H1 aD o1 it a ha=>?_) h⟩;obtain⟨hk,q⟩:=h;refine lr (C:=C.u λa=>H a=none) (T:=T) (qe (P:=X.prog) (w:=X.w) (H1:=H1)) γm τm (λj hj=>hj) (lX L mS) AN o1.sq ha hk it ⟨[],[],aw,(show aI _ _ _ [] [] [] from ⟨rfl,rfl⟩),VQ,λc hc=>(nomatch hc)⟩ (o1.sq.enter ha (lX L mS))
  (λHb Wb βx ox σx Hx Nx h0 sx qx=>vc h0 ha φm sx qx) q λol H' q o2 r=>?_
 have r':=(Bv o1.sq ha r).later o1.sn;have RQ:=o1.sn.trans o2.sn;have m:=n.trans RQ;cases o with
 |false=>exact ok.nx _ _ _ ⟨_,(bR.QA o2.sq).eD (az.aW (λa z=>z.elim id λz=>z.elim) (KV.rep r')),k9 m⟩ q
 |true =>
  obtain⟨A,h1,h2,h3⟩:=r';refine ok.nx _ _ _ ⟨_,o2.sq.tV h1 h2 λc hc=>⟨(h3 c hc).2.2,(h3 c hc).2.1,(h3 c hc).1⟩,?_⟩ q;exact⟨λb hq=>by
   obtain⟨j,hj⟩:=hq
   by_cases aH:i=j
   ·rw[<- aH,os_eq]at hj;exact .inr (n.free (h3 b hj).1)
   ·rw[bt aH]at hj;exact m.w b ⟨j,hj⟩,m.k,m.d⟩
end
section
end
section
end
section
variable {X:Cx}{C:Cfg}{γ:cR}{τ:aY}{φ:aR}{T:List Nat}{scope:W3}{tg bP elt:Expr}{ifs:List Expr}{ι:ck}{pos:Pos}
theorem So (N':List Str)(lk:List (Option Nat))(L:fY X.env.scope.names X.N scope N' lk=true)(mS:N'.Nodup)(hc:X.calm=true)(hi:tm X C true tg bP ι)
  (jQ:∀a cl c s H ex,tw (aB X scope N' cl c s H ex) (C.u λc=>c=a) tg T γ) (hX:∀a cl c s H ex,nE (aB X scope N' cl c s H ex) (C.u λc=>c=a) true ifs τ)
  (gS:∀a cl c s H ex,PQ (aB X scope N' cl c s H ex) (C.u λc=>c=a) true elt φ) (hT:T.all (λi=>match lk[i]? with|some (some _)=>false|_=>true)=true:=by rfl)
  (hs:∀x,VG bP X.env x=pure x:=by intro _;rfl):PQ X C true (.ListComp elt [⟨tg,bP,ifs,0⟩] scope pos) (qJ lk ι γ τ φ) :=
 EA (pi:=true) (pc:=true) (pe:=true) (Links.of L) mS hT hc hi jQ (λa cl c s H ex=>(hX a cl c s H ex).pt) (hX 0 [] 0 X.s₀ X.H₀ []).mono gS (jQ 0 [] 0 X.s₀ X.H₀ []).mono (gS 0 [] 0 X.s₀ X.H₀ []).mono hs
end
section
variable {X:Cx}{C:Cfg}{e a:Expr}{φ:aR}{p:Bool}{pos p2 p3 p4:Pos}{j:Nat}
theorem CA {te:TE}(he:PE X e te):PE X (.Subscript e (.Slice none none (some (.UnaryOp .USub (.Constant (.int 1) j p3) p4)) p2) pos) (λσ H Q=>te σ H λx H1=>∃a xs,x=.ref a/\H1 a=some (.lst xs)/\∀p,H1 p=none->Q (.ref p) (upd H1 p (.lst xs.reverse))):=by
 intro pins s σ H Q I h;refine Subscript_ (bC (he pins s σ H _ I h) λv s1 ⟨x,H1,I1,r1,q1⟩=>?_);refine wpAny_Slice ?_;rw[evalPart_none];refine UY (UY ?_);rw[evalPart_some];refine bC (EC (X:=X) (pos:=p4) yA (a_ (i:=1) (j:=j) (pos:=p3)) pins s1 σ H1 (λv H'=>v=.int (-1)/\H'=H1) I1 ⟨1,rfl,rfl,rfl⟩) λu s3 ⟨y,H3,I3,r3,ey,eH⟩=>?_;subst ey eH;obtain⟨tk,rfl⟩:=(show ∃t,u=Value.int (-1) t from r3)
 have I4:Inv X pins σ H3 {s3 with heap:=s3.heap.push {cls:=.type "slice",data:=.fields #[.none,.none,.int (-1) tk]}}:=I3.kept (t':=s3.toks) λb ob q=>UX _ q
 have Iq:(s3.heap.push {cls:=.type "slice",data:=.fields #[.none,.none,.int (-1) tk]}).IsSliceOf s3.heap.objs.size .none .none (.int (-1) tk):=Heap.IsSliceOf.new ..
 generalize SI:({s3 with heap:=s3.heap.push {cls:=.type "slice",data:=.fields #[.none,.none,.int (-1) tk]}}:UW)=s4 at I4 ⊢
 have Of:s4.heap.IsSliceOf s3.heap.objs.size .none .none (.int (-1) tk):=by rw[<- SI];exact Iq
 have main:∃T id,typeLookup (.type T) "__getitem__" = pure (some (.builtin id))/\s4.TypeIs v T/\Vq (model X.prog X.w) X.A (getItem v (.ref s3.heap.objs.size)) (EP X pins σ Q) X.xe s4:=by
  obtain⟨a,xs,rfl,hx,q⟩:=q1;cases (show v=Value.ref a from r1)
  obtain⟨its,r,ht,hz⟩:=I4.list (cP.of hx);have hlen:=r.length;refine⟨"list",_,Y_.lookup,ht.isList.typeIs,?_⟩;refine wpAny_getItem_list_slice ht.isList Of .none .none (.int (-1) tk) (by simp) ?_ (by rw[Vk] <;> lia)
  rw[HT.m7];refine⟨.ref s4.heap.objs.size,_,I4.laid (t':=s4.toks) (o:=.lst xs.reverse) (λb ob q=>UX _ q) (UU _) ?_,rfl,q _ (I4.br.fresh (UU _))⟩;exact⟨by rw[List.length_reverse];lia,_,0,by simpa using Vals.rev r,Vp _ rfl⟩
 obtain⟨T,id,hT,ht,hg⟩:=main;show Vq (model X.prog X.w) X.A (subscriptTail e (.Slice none none (some (.UnaryOp .USub (.Constant (.int 1) j p3) p4)) p2) v (.ref s3.heap.objs.size)) (EP X pins σ Q) X.xe s4;exact tail_any (ops:=[v,.ref s3.heap.objs.size]) ht hT hg (by with_unfolding_all rfl)
def Ln:D->Option D
 |.lst ds=>some (.lst ds.reverse)
 |_=>none
def Jo (φ:aR):aR:=λβ R=>φ β λx k β1=>∃d,Ln x=some d/\kN NL d k.wk λk'=>R d k' β1
theorem Cw {j:Nat}(ha:PQ X C p a φ):PQ X C p (.Subscript a (.Slice none none (some (.UnaryOp .USub (.Constant (.int 1) j p3) p4)) p2) pos) (Jo φ) :=
 ⟨λβ R R' k h=>ha.mono β _ _ (λx kx β1 h=>by obtain⟨d,e,q⟩:=h;exact⟨d,e,q.mono λ_ z=>k _ _ _ z⟩) h,
  (CA ha.pe).pre λσ H Q h=>by
    obtain⟨β,own,s,h⟩:=h;refine tQ.of ha s h λd k β1 v H1 aD h o1 r1=>?_;obtain⟨d',e,q⟩:=h;have rr:=az.aW Br r1.rep;cases d with
    |lst ds =>
      cases e;obtain⟨c,vs,rfl,h1,n1,rs⟩:=rr;refine⟨c,vs,rfl,h1,λp hp=>?_⟩;have sm:ay H1 (upd H1 p (.lst vs.reverse)):=ay.new hp;have hw:¬ av C (Wn aD) k.wk p:=λz=>o1.sq.A_ _ p z hp;have r2:az X.prog X.w (av C (Wn aD) k.wk) (upd H1 p (.lst vs.reverse)) (.lst ds.reverse) (.ref p):=⟨p,_,rfl,aw,hw,(aj.rev rs).same sm⟩;obtain⟨k',q,r⟩:=KV.kN (Z:=(H,Wn own)) Es r2 (λn=>iB (H:=H1) o1.sq.A9 o1.sq.iO (λa z e=>o1.sn.d a z e) n ⟨p,_,rfl,aw,λz=>z hp,aj.flat n ((aj.rev rs).same sm)⟩) q;exact q _ _ aD (o1.same sm) r
    |_=>cases e⟩
end
section
variable {X:Cx}{C:Cfg}{a:Expr}{φ:aR}{p:Bool}
def Nl (φ:aR):aY:=λβ R=>φ β λd _ β'=>∃ds,d=.lst ds/\R (!ds.isEmpty) β'
theorem Cs (ha:PQ X C p a φ)(he:∀whole,Zm a X.env whole=(do let v <- whole;X5 a.pos;holding [v] (truthy v)):=by intro _;rfl):tj X C p a (Nl φ) :=
 ⟨λβ R R' k h=>ha.mono β _ _ (λd kd β' h=>by obtain⟨b,e,q⟩:=h;exact⟨b,e,k _ _ q⟩) h,(zi ha.pe he).pre λσ H Q h=>by
  obtain⟨β,own,s,h⟩:=h;refine tQ.of ha s h λd k β' v H1 aD h o1 r1=>?_;obtain⟨ds,e,q⟩:=h;subst e;obtain⟨c,vs,rfl,h1,n1,rs⟩:=r1.rep;refine⟨!ds.isEmpty,.inl ⟨vs,cP.of h1,?_⟩,q H1 aD o1⟩;have:=rs.length;cases ds <;> cases vs <;> first|rfl|cases this⟩
end
def oD:Option Nat->D
 |none=>.bK
 |some k=>.int (k:Int)
def parts (i:Nat)(k:Option Nat)(j:Nat):List (Nat×Nat):=match k with
 |none=>[(i+1,j)]
 |some k=>[(i+1,k),(k+1,j)]
def eW (ps:List (Nat×Nat))(w:Nat×Nat->Int)(T:Nat->Nat->Int)(i j:Nat):List (Option Nat) :=
 ((jh ps i).filter λk=>decide (k<j)&&decide (w (i,k)+T (k-i-1) (i+1)+T (j-k-1) (k+1)=T (j-i) i)).map some++(if T (j-i-1) (i+1)=T (j-i) i then [none] else [])
def Sa (ps:List (Nat×Nat))(w:Nat×Nat->Int)(T:Nat->Nat->Int)(i j:Nat):Option Nat->Prop
 |none=>T (j-i-1) (i+1)=T (j-i) i
 |some k=>(i,k)∈ps/\k<j/\w (i,k)+T (k-i-1) (i+1)+T (j-k-1) (k+1)=T (j-i) i
theorem dB {ps:List (Nat×Nat)}{w:Nat×Nat->Int}{T:Nat->Nat->Int}{i j:Nat}{c:Option Nat}(h:c∈eW ps w T i j):Sa ps w T i j c:=by
 unfold eW at h;rcases Vg.mp h with h|h
 ·obtain⟨k,hk,rfl⟩:=Vx.mp h;obtain⟨h1,h2⟩:=VB.mp hk;rw[Vz,decide_eq_true_eq,decide_eq_true_eq]at h2;exact⟨du.mp h1,h2.1,h2.2⟩
 ·split at h
  ·next e=>rw[U9.mp h];exact e
  ·cases h
theorem sN {ps:List (Nat×Nat)}{w:Nat×Nat->Int}(hp:∀p∈ps,p.1<p.2){i j:Nat}(h:i<j):eW ps w (tW ps w) i j≠[]:=by
 have e:tW ps w (j-i) i=iF ps w (tW ps w) i j:=by rw[show j-i=(j-i-1)+1 by lia,kc hp,show i+(j-i-1)+1=j by lia]
 obtain⟨h1,_,_⟩:=oh (ps:=ps) (w:=w) (T:=tW ps w) (i:=i) (j:=j);rw[<- e]at h1;unfold eW;intro z;obtain⟨z1,z2⟩:=List.append_eq_nil_iff.mp z;rcases h1 with q|⟨k,hk,hj,q⟩
 ·rw[if_pos q.symm]at z2;cases z2
 ·have:k∈(jh ps i).filter λk=>decide (k<j)&&decide (w (i,k)+tW ps w (k-i-1) (i+1)+tW ps w (j-k-1) (k+1)=tW ps w (j-i) i):=VB.mpr ⟨du.mpr hk,by rw[Vz,decide_eq_true_eq,decide_eq_true_eq];exact⟨hj,q.symm⟩⟩
  rw[List.map_eq_nil_iff.mp z1]at this;cases this
def cu (ps:List (Nat×Nat))(w:Nat×Nat->Int)(i j:Nat):Option Nat:=(eW ps w (tW ps w) i j).headD none
theorem cW {ps:List (Nat×Nat)}{w:Nat×Nat->Int}(hp:∀p∈ps,p.1<p.2){i j:Nat}(h:i<j):cu ps w i j∈eW ps w (tW ps w) i j:=by
 have:=sN (w:=w) hp h;unfold cu;cases q:eW ps w (tW ps w) i j with
 |nil=>exact absurd q this
 |cons a l=>simp
def nk (ps:List (Nat×Nat))(w:Nat×Nat->Int):Nat->Nat->Nat->List (Nat×Nat)
 |0,_,_=>[]
 |n+1,i,j=>if i<j then match cu ps w i j with
   |none=>nk ps w n (i+1) j
   |some k=>(i,k)::(nk ps w n (i+1) k++nk ps w n (k+1) j)
  else []
theorem dC {ps:List (Nat×Nat)}{w:Nat×Nat->Int}(hp:∀p∈ps,p.1<p.2):∀{n m i j:Nat},j-i<=n->j-i<=m->nk ps w n i j=nk ps w m i j
 |0,0,_,_,_,_=>rfl
 |0,m+1,i,j,h,_=>by unfold nk;rw[if_neg (by omega)]
 |n+1,0,i,j,_,h=>by unfold nk;rw[if_neg (by omega)]
 |n+1,m+1,i,j,h1,h2=>by
  unfold nk
  by_cases h:i<j
  ·rw[if_pos h,if_pos h];have hm:=dB (cW (w:=w) hp h);cases q:cu ps w i j with
   |none=>exact dC hp (by omega) (by omega)
   |some k =>
    rw[q]at hm;have:=hp _ hm.1;dsimp only at this;have h3:=hm.2.1;dsimp only;rw[dC hp (n:=n) (m:=m) (i:=i+1) (j:=k) (by omega) (by omega),dC hp (n:=n) (m:=m) (i:=k+1) (j:=j) (by omega) (by omega)]
  ·rw[if_neg h,if_neg h]
def bQ (ps:List (Nat×Nat))(w:Nat×Nat->Int)(i j:Nat):List (Nat×Nat):=nk ps w (j-i) i j
theorem c9 {ps:List (Nat×Nat)}{w:Nat×Nat->Int}{i j:Nat}(h:¬ i<j):bQ ps w i j=[]:=by
 unfold bQ;rw[show j-i=0 by lia]
 rfl
theorem gA {ps:List (Nat×Nat)}{w:Nat×Nat->Int}(hp:∀p∈ps,p.1<p.2){i j:Nat}(h:i<j):bQ ps w i j=match cu ps w i j with
  |none=>bQ ps w (i+1) j
  |some k=>(i,k)::(bQ ps w (i+1) k++bQ ps w (k+1) j):=by
 unfold bQ;rw[show j-i=(j-i-1)+1 by lia]
 conv=>lhs;unfold nk
 rw[if_pos h];have hm:=dB (cW (w:=w) hp h);cases q:cu ps w i j with
 |none=>exact dC hp (by lia) (by lia)
 |some k =>
  rw[q]at hm;have:=hp _ hm.1;dsimp only at this;have h3:=hm.2.1;dsimp only;rw[dC hp (n:=j-i-1) (m:=k-(i+1)) (i:=i+1) (j:=k) (by lia) (by lia),dC hp (n:=j-i-1) (m:=j-(k+1)) (i:=k+1) (j:=j) (by lia) (by lia)]
def rJ (i:Nat):Option Nat->List (Nat×Nat)
 |none=>[]
 |some k=>[(i,k)]
theorem uJ {ps:List (Nat×Nat)}{w:Nat×Nat->Int}(hp:∀p∈ps,p.1<p.2){i j:Nat}(h:i<j):bQ ps w i j=rJ i (cu ps w i j)++(parts i (cu ps w i j) j).flatMap λp=>bQ ps w p.1 p.2:=by
 rw[gA hp h];cases cu ps w i j with
 |none=>simp[parts,rJ]
 |some k=>simp[parts,rJ]
theorem iJ {ps:List (Nat×Nat)}{w:Nat×Nat->Int}(hp:∀p∈ps,p.1<p.2):∀l i j,j-i<=l->2*(bQ ps w i j).length<=j-i:=by
 intro l
 induction l with
 |zero=>intro i j h;rw[c9 (by lia)];exact U7 _
 |succ l ih =>
  intro i j h
  by_cases aH:i<j
  ·rw[gA hp aH];have hm:=dB (cW (w:=w) hp aH);cases q:cu ps w i j with
   |none=>have:=ih (i+1) j (by lia);dsimp only;lia
   |some k =>
    rw[q]at hm;have h1:=hp _ hm.1;dsimp only at h1;have h3:=hm.2.1;have a1:=ih (i+1) k (by lia)
    have a2:=ih (k+1) j (by lia)
    dsimp only;rw[Vd,Vu];lia
  ·rw[c9 aH];exact U7 _
def mq:FD:=λds R=>∃(i:Nat) (k:Option Nat) (j:Nat),ds=[.int i,oD k,.int j]/\R (.lst ((parts i k j).map yc))
theorem mq.mono:dy mq:=λds R R' k h=>by obtain⟨i,c,j,e,q⟩:=h;exact⟨i,c,j,e,k _ q⟩
def sg:FD:=λds R=>∃(n:Nat) (ps:List (Nat×Nat)) (w:Nat×Nat->Int) (T:Nat->Nat->Int) (i j:Nat),ds=[zj n ps,wD ps w,dJ n T,.int i,.int j]/\yj n ps/\i<j/\j<=n/\R (.lst ((eW ps w T i j).map oD))
theorem sg.mono:dy sg:=λds R R' k h=>by obtain⟨n,ps,w,T,i,j,e,h1,h2,h3,q⟩:=h;exact⟨n,ps,w,T,i,j,e,h1,h2,h3,k _ q⟩
def sf:FD:=λds R=>∃(n:Nat) (ps:List (Nat×Nat)) (w:Nat×Nat->Int) (i j:Nat),ds=[fk n ps,wD ps w,dJ n (tW ps w),.int i,.int j]/\yj n ps/\i<=j/\j<=n/\R (kU (bQ ps w i j))
theorem sf.mono:dy sf:=λds R R' k h=>by obtain⟨n,ps,w,i,j,e,h1,h2,h3,q⟩:=h;exact⟨n,ps,w,i,j,e,h1,h2,h3,k _ q⟩
def EM (ps:List (Nat×Nat))(i j:Nat):D:=.tup [.int (tW ps w1 (j-i) i),kU (bQ ps w1 i j)]
def iM:FD:=λds R=>∃(n:Nat) (ps:List (Nat×Nat)) (i j:Nat),ds=[fk n ps,.int i,.int j]/\yj n ps/\i<=j/\j<=n/\R (EM ps i j)
theorem iM.mono:dy iM:=λds R R' k h=>by obtain⟨n,ps,i,j,e,h1,h2,h3,q⟩:=h;exact⟨n,ps,i,j,e,h1,h2,h3,k _ q⟩
def tH (ws:List (Nat×Nat)):Nat:=(ws.map λp=>2*(p.2-p.1)+1).sum
theorem o7 {a b:List (Nat×Nat)}:tH (a++b)=tH a+tH b:=by unfold tH;rw[Vn,List.sum_append]
theorem BW {a:List (Nat×Nat)}:tH a.reverse=tH a:=by
 unfold tH;rw[List.map_reverse];exact(List.reverse_perm _).sum_nat
open Mx
theorem mm {ps:List (Nat×Nat)}:D.bY (ps.map λp=>kD (tI p))=true:=by
 have:=eV (ps.map tI);rw[Wg]at this;exact this
def mB:FD:=λds R=>∃n ps,ds=[fk n ps]/\R (fk n ps)
theorem mB.mono:dy mB:=λds R R' k h=>by obtain⟨n,ps,e,q⟩:=h;exact⟨n,ps,e,k _ q⟩
def near (ps:List (Nat×Nat))(b:Nat):List Nat:=(ps.filter λp=>decide (p.2=b)).map (·.1)
theorem dG {ps:List (Nat×Nat)}{a b:Nat}:a∈near ps b↔(a,b)∈ps:=by
 unfold near;rw[Vx];constructor
 ·rintro⟨p,hp,rfl⟩;obtain⟨h1,h2⟩:=VB.mp hp;rw[<- of_decide_eq_true h2];exact h1
 ·intro h;exact⟨(a,b),VB.mpr ⟨h,by simp⟩,rfl⟩
theorem C5 {ps:List (Nat×Nat)}{b:Nat}(h:ps.Nodup):(near ps b).Nodup:=by
 unfold near;refine WA.mpr ((h.filter _).imp_of_mem λ{p q} hp hq n e=>n ?_);have h1:=of_decide_eq_true (VB.mp hp).2;have h2:=of_decide_eq_true (VB.mp hq).2;exact Prod.ext e (h1.trans h2.symm)
theorem lO {ps:List (Nat×Nat)}{b:Nat}:(near ps b).length<=ps.length:=by
 unfold near;rw[US];exact Wj _ _
theorem u7 {f:Nat->Nat}{p:Nat->Bool}{x:Nat}(hx:p x=false):∀{l:List Nat},l.Nodup->((l.filter λa=>p a || decide (a=x)).map f).sum=((l.filter p).map f).sum+if x∈l then f x else 0
 |[],_=>by simp
 |a::l,h=>by
  obtain⟨h1,h2⟩:=Vt.mp h;have ih:=u7 (f:=f) hx h2
  by_cases e:a=x
  ·subst e;rw[V0,if_pos (by simp),V0,if_neg (by rw[hx];simp),Vo,WY,ih,if_neg h1,if_pos (by simp)]
   lia
  ·have e':(if x∈a::l then f x else 0)=if x∈l then f x else 0:=by
    by_cases q:x∈l
    ·rw[if_pos q,if_pos (by simp[q])]
    ·rw[if_neg q,if_neg (by simp[q];exact λz=>e z.symm)]
   rw[e',V0,V0];cases q:p a
   ·rw[if_neg (by simp[e]),if_neg (by simp)];exact ih
   ·rw[if_pos (by simp),if_pos rfl,Vo,WY,Vo,WY,ih];lia
theorem nM {f:Nat->Nat}{l:List Nat}(h:l.Nodup){i:Nat}:∀len:Nat,((l.filter λa=>decide (i<=a)&&decide (a<i+len)).map f).sum=Mx.B5 Gx len λr=>(if i+r∈l then 1 else 0)*f (i+r)
 |0=>by
  have:(l.filter λa=>decide (i<=a)&&decide (a<i+0))=[]:=List.filter_eq_nil_iff.mpr λa _=>by simp
  rw[this];rfl
 |len+1=>by
  have e:(λa=>decide (i<=a)&&decide (a<i+(len+1)))=λa=>(decide (i<=a)&&decide (a<i+len)) || decide (a=i+len):=by
   funext a
   rw[XN];simp;lia
  rw[e,u7 (by simp) h,nM h len]
  show _+_=_+(if i+len∈l then 1 else 0)*f (i+len)
  congr 1
  split
  ·rw[Zw]
  ·rw[Nat.zero_mul]
theorem qu {α:Type}{f:α->Nat}:∀{l:List α},(l.map λa=>((f a:Nat):Int)).sum=((l.map f).sum:Nat)
 |[]=>rfl
 |a::l=>by rw[Vo,WY,Vo,WY,qu];lia
def kz:Nat->Nat
 |0=>1
 |n+1=>(n+1)*kz n
theorem vP (a:Nat):∀b,kz a*kz b<=kz (a+b)
 |0=>by show kz a*1<=kz a;lia
 |b+1=>by
  show kz a*((b+1)*kz b)<=(a+b+1)*kz (a+b);rw[Nat.mul_left_comm];exact ZN (by lia) (vP a b)
theorem AU {a b:Nat}(h:a<=b):kz a<=kz b:=by
 induction b with
 |zero=>rw[show a=0 by lia];exact UU _
 |succ b ih =>
  rcases V6 b a with q|q
  ·rw[show a=b+1 by lia];exact UU _
  ·exact VN (ih q) (Nat.le_mul_of_pos_left _ (by lia))
theorem u9 {f:Nat->Nat}{c:Nat}:∀{n:Nat},(∀r,r<n->f r<=c)->Mx.B5 Gx n f<=n*c
 |0,_=>U7 _
 |n+1,h=>by
  show Mx.B5 Gx n f+f n<=_;have:=u9 (f:=f) (n:=n) λr hr=>h r (by lia)
  have:=h n (by lia)
  rw[Nat.add_mul,Zw];lia
theorem HS {a b:Int}(h:qh a b):Lq (.int a) (.int b)=some (.int (a*b)):=by
 show (if qh a b then _ else _)=_
 rw[if_pos h]
theorem sum_ints {α:Type}{f:α->Int}{l:List α}:dw (λns=>some ns.sum) [.lst (l.map λk=>D.int (f k))]=some (.int (l.map f).sum):=by
 have e:(l.map λk=>D.int (f k))=(l.map f).map D.int:=by simp
 rw[e];exact gV rfl
theorem qz (n:Nat)(ps:List (Nat×Nat)):(fk n ps).pd.canLay0=true/\(fk n ps).pd.depth<=4:=by
 have:=wB (n:Int) (ps.map tI);unfold F0 at this;rw[Wg]at this;exact this
end L2.Q
namespace kJ
open PySem L2 L2.Q
section
variable {P:U0}{w:Vf}{K:PySem.W.Frag}{mg:Str->Option UT}{base:Heap}
theorem m9:aS ["i","k","j"] ["i","k","j"] (aA dk):=⟨rfl,rfl,rfl,by decide +kernel,rfl,by decide +kernel,by decide +kernel⟩
theorem zM {rX jT} (BJ:Mz K mg rX jT):aN P w K mg base b6 1 rX jT ["i","k","j"] (dX P w true mq):=by
 refine qY BJ.F m9 (λds R Kw=> by obtain⟨i,k,j,e,_⟩ := Kw;subst e;rfl) λcX A outer s H E hr=>⟨_,(ft (bG (aK af (bS.m pL) (ab (i:=1)) lD) (ak (aZ (bh (aa (bf (aa (aE aF au (ab (i:=0)) ah) (aa (ab (i:=2)) ae))) ae)))) aP)
    (ak (aZ (bh (aa (bf (aa (aE aF au (ab (i:=0)) ah) (aa (ab (i:=1)) ae))) (aa (bf (aa (aE aF au (ab (i:=1)) ah) (aa (ab (i:=2)) ae))) ae)))))),λds R h=>?_⟩
 obtain⟨i,k,j,rfl,q⟩:=h;cases k with
 |none=>exact⟨λ_=>False,⟨_,rfl,trivial,_,rfl,_,rfl,s9 rfl ⟨_,rfl,trivial,_,rfl,trivial,_,rfl,trivial,i4,trivial,B4,trivial,q⟩⟩,λ_ z=>z.elim⟩
 |some k =>
  refine⟨λβ=>β=[some (.val false (.int i)),some (.val false (.int k)),some (.val false (.int j))],⟨_,rfl,trivial,_,rfl,_,rfl,gy rfl rfl⟩,?_⟩;rintro β rfl;exact⟨_,rfl,trivial,_,rfl,trivial,_,rfl,trivial,i4,trivial,_,rfl,trivial,_,rfl,trivial,_,rfl,trivial,i4,trivial,i4,trivial,q⟩
theorem df:aS ["partners","worth","table","i","j","best","choices"] ["partners","worth","table","i","j"] (aA cJ):=⟨rfl,rfl,rfl,by decide +kernel,rfl,by decide +kernel,by decide +kernel⟩
theorem CV {rY jU} (BK:My K mg rY jU) {fI cS} (j8:D6 K mg fI cS) (B:ym mg):aN P w K mg base b6 2 rY jU ["partners","worth","table","i","j"] (dX P w true sg):=by
 have P7:aN P w K mg base b6 1 _ _ _ (dX P w true mx):= vx j8;refine qY BK.F df (λds R Kv=> by obtain⟨n,ps,w,T,i,j,e,_⟩ := Kv;subst e;rfl) λcX A outer s H E hr=>⟨_,(ag (a8 (i:=5) (aG af a9 (aG af a9 (ab (i:=2)) (ab (i:=3))) (aE af (bS.m bu) (ab (i:=4)) (ab (i:=3)))) df.nd)
    (ag (wL (i:=6) true ["k","j","best","worth","table","i"] [none,some 4,some 5,some 1,some 2,some 3] (by rfl) (by decide:(["k","j","best","worth","table","i"]:List Str).Nodup) rfl (λ_=>(bJ (aG af a9 (ab (i:=0)) (ab (i:=3))))) (λ_ _ _ _ _ _=>(ao (i:=0) (by decide:(["k","j","best","worth","table","i"]:List Str).Nodup))) (λ_ _ _ _ _ _=>(kT (uW.t (pG (aK af (bS.m lL) (ab (i:=0)) (ab (i:=1))) (lB (aK af (bS.m (cC hr.units)) (aT mx.mono P7 (hr.mono (by decide)) j8.m j8.F.kp j8.b (aa (ab (i:=3)) (aa (ab (i:=4)) (aa (ab (i:=5)) (aa (ab (i:=0)) (aa (ab (i:=1)) ae)))))) (ab (i:=2)))))))) (λ_ _ _ _ _ _=>(ab (i:=0))) df.nd)
    (ft (bG (aK af (bS.m (cC hr.units)) (aG af a9 (aG af a9 (ab (i:=2)) (aE aF au (ab (i:=3)) ah)) (aE af (bS.m bu) (aE af (bS.m bu) (ab (i:=4)) (ab (i:=3))) ah)) (ab (i:=5))) (ak (cE (i:=6) (λ_=>lD))) aP)
    (ak (iy (i:=6)))))),λds R h=>?_⟩
 obtain⟨n,ps,w,T,i,j,rfl,ok,h1,h2,q⟩:=h;have BH:=ok.sm;have hle:=ok.le;refine⟨_,rfl,trivial,_,rfl,_,om rfl (by lia),.inr ⟨trivial,_,rfl,trivial,_,rfl,_,rfl,_,oq (l:=j-i) (by lia) (by lia),?_⟩⟩
 refine⟨_,rfl,trivial,_,rfl,_,JZ rfl (by lia),.inr ⟨_,rfl,trivial,?_⟩⟩
 refine fX (λk=>decide (k<j)&&decide (w (i,k)+T (k-i-1) (i+1)+T (j-k-1) (k+1)=T (j-i) i)) (λk=>.int (k:Int)) trivial (dW (VN iq (by lia))) (λk hk x0 o J ho j1 j2=>?_) ?_
 ·have hm:=du.mp hk;obtain⟨g1,g2⟩:=ok.lt _ hm;dsimp only at g1 g2;refine⟨_,rfl,trivial,_,rfl,_,rfl,_,rfl,ni (λOV=>?_) (λOV=>gy rfl (j2 ?_ _))⟩
  ·have AG:k<j:=by lia
   refine⟨_,rfl,trivial,_,rfl,trivial,_,rfl,trivial,_,rfl,trivial,_,rfl,trivial,n,ps,w,(λi=>n+1-i),T,i,k,j,rfl,hm,g1,AG,h2,by show _<n+1-(i+1);lia,by show _<n+1-(k+1);lia,trivial,_,rfl,_,cg _ _,_,rfl,ni (λe=>?_) (λe=>j2 ?_ _)⟩
   ·exact⟨_,rfl,trivial,ho,j1 (by rw[Vz,decide_eq_true_eq,decide_eq_true_eq];exact⟨AG,e⟩) _⟩
   ·rw[Bool.and_eq_false_iff];exact .inr (decide_eq_false e)
  ·rw[Bool.and_eq_false_iff];exact .inl (decide_eq_false (by lia))
 ·have eb:eW ps w T i j=((jh ps i).filter λk=>decide (k<j)&&decide (w (i,k)+T (k-i-1) (i+1)+T (j-k-1) (k+1)=T (j-i) i)).map some++(if T (j-i-1) (i+1)=T (j-i) i then [none] else []):=rfl
  have em:(((jh ps i).filter λk=>decide (k<j)&&decide (w (i,k)+T (k-i-1) (i+1)+T (j-k-1) (k+1)=T (j-i) i)).map λ(k:Nat)=>D.int (k:Int))=(((jh ps i).filter λk=>decide (k<j)&&decide (w (i,k)+T (k-i-1) (i+1)+T (j-k-1) (k+1)=T (j-i) i)).map some).map oD:=by rw[Wg];rfl
  have hl:(((jh ps i).filter λk=>decide (k<j)&&decide (w (i,k)+T (k-i-1) (i+1)+T (j-k-1) (k+1)=T (j-i) i)).map some).length<=400:=by rw[US];exact VN (Wj _ _) (VN iq BH)
  rw[em];generalize ((jh ps i).filter λk=>decide (k<j)&&decide (w (i,k)+T (k-i-1) (i+1)+T (j-k-1) (k+1)=T (j-i) i)).map some=cs at eb hl ⊢
  refine⟨λβ=>β[6]?=some (some (.own (.lst ((eW ps w T i j).map oD)))),?_,λβ hβ=>⟨_,hβ,q⟩⟩;refine⟨_,rfl,trivial,_,rfl,trivial,_,rfl,_,om (i:=i+1) (by lia) (by lia),.inr ⟨trivial,_,rfl,trivial,_,rfl,_,rfl,trivial,_,rfl,_,oq (l:=j-i-1) (by lia) (by lia),trivial,_,rfl,_,cg _ _,_,rfl,ni (λe=>?_) (λe=>?_)⟩⟩
  ·rw[if_pos e]at eb;refine⟨⟨_,rfl⟩,trivial,_,rfl,by rw[US];exact fM (by lia),?_⟩
   rw[eb,Vn];rfl
  ·rw[if_neg e,Wf]at eb;rw[eb];rfl
theorem aX:aS ["row","worth","table","i","j","partners","found","waiting","low","high","k"] ["row","worth","table","i","j"] (aA b9):=⟨rfl,rfl,rfl,by decide +kernel,rfl,by decide +kernel,by decide +kernel⟩
theorem CT {xF oJ} (Fd:P_ K mg xF oJ) {iL ee} (ny:D5 K mg iL ee) {rY jU} (BK:My K mg rY jU) {fI cS} (j8:D6 K mg fI cS) {rX jT} (BJ:Mz K mg rX jT) (B:ym mg):aN P w K mg base b6 3 xF oJ ["row","worth","table","i","j"] (dX P w true sf):=by
 have P5:aN P w K mg base b6 1 _ _ _ (dX P w true mw):= vw ny B;have Ug:aN P w K mg base b6 2 _ _ _ (dX P w true sg):= CV BK j8 B;have Ua:aN P w K mg base b6 1 _ _ _ (dX P w true mq):= zM BJ;refine qY Fd.F aX (λds R Ku=> by obtain⟨n,ps,w,i,j,e,_⟩ := Ku;subst e;rfl) λcX A outer s H E hr=>⟨_,(ag (a8 (i:=5) (aT mw.mono P5 (hr.mono (by decide)) ny.m ny.F.kp ny.b (aa (ab (i:=0)) ae)) aX.nd)
    (ag (cM (i:=6) (λ_=>(bh ae)) aX.nd)
    (ag (cM (i:=7) (λ_=>(bh (aa (bf (aa (ab (i:=3)) (aa (ab (i:=4)) ae))) ae))) aX.nd)
    (ag (zD VI (Cs (ab (i:=7))) (ag (ud (zu (i:=7)) (cK (n:=2) rfl (aJ (ao (i:=8) aX.nd) (aJ (ao (i:=9) aX.nd) bV))))
    (ak (bG (aK af (bS.m lL) (ab (i:=8)) (ab (i:=9))) (ag (a8 (i:=10) (aG af a9 (aT sg.mono Ug (hr.mono (by decide)) BK.m BK.F.kp BK.b (aa (ab (i:=5)) (aa (ab (i:=1)) (aa (ab (i:=2)) (aa (ab (i:=8)) (aa (ab (i:=9)) ae)))))) ah) aX.nd)
    (ft (bG (aK af (bS.m zI) (ab (i:=10)) lD) (ak (cE (i:=6) (λ_=>(bf (aa (ab (i:=8)) (aa (ab (i:=10)) ae)))))) aP)
    (ak (nV (i:=7) (Cw (aT mq.mono Ua (hr.mono (by decide)) BJ.m BJ.F.kp BJ.b (aa (ab (i:=8)) (aa (ab (i:=10)) (aa (ab (i:=9)) ae))))))))) aP))))
    (ak (iy (i:=6))))))),λds R h=>?_⟩
 obtain⟨n,ps,w,i,j,rfl,ok,h1,h2,q⟩:=h;have hn:=ok.le;have hp:∀p∈ps,p.1<p.2:=λp hp=>(ok.lt p hp).1;have UI:(bQ ps w i j).length<=40:=by have:=iJ (w:=w) hp (j-i) i j (UU _);lia
 refine⟨_,rfl,trivial,n,ps,rfl,ok,U7 _,trivial,_,rfl,trivial,_,rfl,trivial,i4,trivial,B4,trivial,?_⟩;refine⟨λm β=>∃(ws:List (Nat×Nat)) (fs:List (Nat×Nat)) (x8 x9 h7:Option Q.B),β=[some (.val false (fk n ps)),some (.val false (wD ps w)),some (.val false (dJ n (tW ps w))),some (.val false (.int i)),some (.val false (.int j)),some (.val true (zj n ps)),some (.own (kU fs)),some (.own (.lst (ws.map yc))),x8,x9,h7]/\(∀p∈ws,p.2<=n)/\tH ws=m/\m<=200/\fs++(ws.reverse.flatMap λp=>bQ ps w p.1 p.2)=bQ ps w i j,⟨_,[(i,j)],[],_,_,_,rfl,λp hp=>by rw[U9.mp hp];exact h2,rfl,by show 2*(j-i)+1+0<=200;lia,by simp⟩,?_⟩
 rintro m β ⟨ws,fs,x8,x9,h7,rfl,hw,hm,hl,hf⟩;rcases List.eq_nil_or_concat ws with rfl|⟨tx,⟨l,h⟩,rfl⟩
 ·refine⟨_,rfl,_,rfl,gy rfl ?_⟩;have hf:fs=bQ ps w i j:=by simpa using hf
  rw[<- hf]at q;exact⟨_,rfl,q⟩
 ·rw[List.concat_eq_append]at hw hm hf ⊢
  rw[o7]at hm;have UC:tx.length<=tH tx:=by
   unfold tH
   clear hw hm hf
   induction tx with
   |nil=>exact UU _
   |cons a l ih=>rw[Vo,WY,Vd];lia
  have hm:tH tx+(2*(h-l)+1)=m:=hm;have hh:h<=n:=hw (l,h) (by simp)
  rw[XQ,List.reverse_singleton,List.singleton_append,List.flatMap_cons]at hf;refine⟨_,rfl,_,rfl,s9 (by rw[Vn];cases tx <;> rfl) ?_⟩
  rw[Vn];refine⟨tx.map yc,yc (l,h),rfl,_,rfl,rfl,_,_,rfl,_,_,rfl,rfl,?_⟩;refine⟨_,rfl,trivial,_,rfl,_,rfl,_,rfl,ni (λE1=>?_) (λE1=>?_)⟩
  ·have E1:l<h:=by lia
   have AE:=sN (w:=w) hp E1;have Q4:=uJ (w:=w) hp E1;have gR:=dB (cW (w:=w) hp E1);have DC:cu ps w l h=(eW ps w (tW ps w) l h).headD none:=rfl;cases hb:eW ps w (tW ps w) l h with
   |nil=>exact absurd hb AE
   |cons c cs =>
    rw[hb]at DC;have DC:cu ps w l h=c:=DC;rw[DC]at Q4 gR;rw[Q4]at hf;have fin:∀(qi:List (Nat×Nat)) (h7:Option Q.B),qi=fs++rJ l c->∃m',m'<m/\∃(ws:List (Nat×Nat)) (fs:List (Nat×Nat)) (x8 x9 IM:Option Q.B),[some (Q.B.val false (fk n ps)),some (.val false (wD ps w)),some (.val false (dJ n (tW ps w))),some (.val false (.int i)),some (.val false (.int j)),some (.val true (zj n ps)),some (.own (kU qi)),some (.own (.lst (tx.map yc++(parts l c h).reverse.map yc))),some (.val true (.int l)),some (.val true (.int h)),h7]=[some (Q.B.val false (fk n ps)),some (.val false (wD ps w)),some (.val false (dJ n (tW ps w))),some (.val false (.int i)),some (.val false (.int j)),some (.val true (zj n ps)),some (.own (kU fs)),some (.own (.lst (ws.map yc))),x8,x9,IM]/\(∀p∈ws,p.2<=n)/\tH ws=m'/\m'<=200/\fs++(ws.reverse.flatMap λp=>bQ ps w p.1 p.2)=bQ ps w i j:=λqi h7 e=>by
     have Uv:tH (parts l c h).reverse<2*(h-l)+1:=by
      rw[BW];cases c with
      |none=>show 2*(h-(l+1))+1+0<_;lia
      |some k =>
       have:=hp _ gR.1;dsimp only at this;have h3:=gR.2.1;show 2*(k-(l+1))+1+(2*(h-(k+1))+1+0)<_;lia
     refine⟨tH (tx++(parts l c h).reverse),by rw[o7];lia,tx++(parts l c h).reverse,qi,_,_,_,by rw[Vn],λp uF=>?_,rfl,by rw[o7];lia,?_⟩
     ·rcases Vg.mp uF with z|z
      ·exact hw p (by simp[z])
      ·have z:=List.mem_reverse.mp z;cases c with
       |none=>rw[U9.mp z];exact hh
       |some k =>
        have h3:=gR.2.1;rcases U1.mp z with rfl|z
        ·show k<=n;lia
        ·rw[U9.mp z];exact hh
     ·rw[<- hf,e,XQ,List.reverse_reverse,YW];simp only[V4]
    refine⟨_,rfl,trivial,_,rfl,trivial,_,rfl,trivial,_,rfl,trivial,_,rfl,trivial,n,ps,w,tW ps w,l,h,rfl,ok,E1,hh,trivial,oD c,eS (i:=0) rfl (by rw[hb];rfl),?_⟩
    cases c with
    |none =>
     refine⟨λβ=>β=[some (Q.B.val false (fk n ps)),some (.val false (wD ps w)),some (.val false (dJ n (tW ps w))),some (.val false (.int i)),some (.val false (.int j)),some (.val true (zj n ps)),some (.own (kU fs)),some (.own (.lst (tx.map yc))),some (.val true (.int l)),some (.val true (.int h)),some (.val true .bK)],⟨_,rfl,trivial,_,rfl,_,rfl,gy rfl rfl⟩,?_⟩;rintro β rfl;exact⟨⟨_,rfl⟩,_,rfl,trivial,_,rfl,trivial,_,rfl,trivial,l,none,h,rfl,_,rfl,.inl ⟨rfl,_,_,rfl,rfl,rfl,by rw[US];exact dW (show tx.length+1<=1000 by lia),fin fs _ (by simp[rJ])⟩⟩
    |some k =>
     refine⟨λβ=>β=[some (Q.B.val false (fk n ps)),some (.val false (wD ps w)),some (.val false (dJ n (tW ps w))),some (.val false (.int i)),some (.val false (.int j)),some (.val true (zj n ps)),some (.own (kU (fs++[(l,k)]))),some (.own (.lst (tx.map yc))),some (.val true (.int l)),some (.val true (.int h)),some (.val true (.int k))],⟨_,rfl,trivial,_,rfl,_,rfl,s9 rfl ⟨⟨_,rfl⟩,_,rfl,trivial,_,rfl,trivial,i4,trivial,_,rfl,?_,?_⟩⟩,?_⟩
     ·rw[US];have:=congrArg List.length hf;rw[Vu]at this;exact fM (by lia)
     ·unfold kU;rw[Vn];rfl
     ·rintro β rfl;exact⟨⟨_,rfl⟩,_,rfl,trivial,_,rfl,trivial,_,rfl,trivial,l,some k,h,rfl,_,rfl,.inl ⟨rfl,_,_,rfl,rfl,rfl,by rw[US];exact dW (show tx.length+2<=1000 by lia),fin (fs++[(l,k)]) _ rfl⟩⟩
  ·have E1:¬ l<h:=by lia
   rw[c9 E1]at hf;exact⟨tH tx,by lia,tx,fs,_,_,_,rfl,λp uF=>hw p (by simp[uF]),rfl,by lia,by simpa using hf⟩
theorem ll:aS ["row","i","j","table"] ["row","i","j"] (aA gh):=⟨rfl,rfl,rfl,by decide +kernel,rfl,by decide +kernel,by decide +kernel⟩
theorem w9 {DM vN} (IG:Rq K mg DM vN) {rW jS} (vW:MA K mg rW jS) {nu gI} (uR:D8 K mg nu gI) {iL ee} (ny:D5 K mg iL ee) {j6 fD} (uP:D4 K mg j6 fD) {j7 fE} (uQ:D7 K mg j7 fE) {fI cS} (j8:D6 K mg fI cS) {nr gH} (sA:D9 K mg nr gH) {xF oJ} (Fd:P_ K mg xF oJ) {rY jU} (BK:My K mg rY jU) {rX jT} (BJ:Mz K mg rX jT) (B:ym mg):aN P w K mg base b6 5 DM vN ["row","i","j"] (dX P w true iM):=by
 have P4:aN P w K mg base b6 4 _ _ _ (dX P w true gU):= qX vW uR ny uP uQ j8 sA B;have Ue:aN P w K mg base b6 3 _ _ _ (dX P w true sf):= CT Fd ny BK j8 BJ B;have P6:aN P w K mg base b6 1 _ _ _ (dX P w true uL):= zN sA;refine qY IG.F ll (λds R Kt=> by obtain⟨n,ps,i,j,e,_⟩ := Kt;subst e;rfl) λcX A outer s H E hr=>⟨_,(ag (bG (gu (wV ah (qQ pK (ab (i:=1)) (qQ pK (ab (i:=2)) (Cv pK (aG af a9 (ab (i:=0)) ah)))))) nU aP)
    (ag (a8 (i:=3) (aT gU.mono P4 (hr.mono (by decide)) vW.m vW.F.kp vW.b (aa (ab (i:=0)) ae)) ll.nd)
    (ak (aZ (bf (aa (aG af a9 (aG af a9 (ab (i:=3)) (ab (i:=1))) (aE af (bS.m bu) (ab (i:=2)) (ab (i:=1)))) (aa (aT sf.mono Ue (hr.mono (by decide)) Fd.m Fd.F.kp Fd.b (aa (ab (i:=0)) (aa (aT uL.mono P6 (hr.mono (by decide)) sA.m sA.F.kp sA.b (aa (ab (i:=0)) ae)) (aa (ab (i:=3)) (aa (ab (i:=1)) (aa (ab (i:=2)) ae)))))) ae))))))),λds R h=>?_⟩
 obtain⟨n,ps,i,j,rfl,ok,h1,h2,q⟩:=h;have ej:(j:Int)-(i:Int)=((j-i:Nat):Int):=by lia
 refine⟨_,rfl,_,rfl,s9 (decide_eq_true (by lia)) ⟨_,rfl,_,rfl,s9 (decide_eq_true (by lia)) ⟨_,rfl,trivial,_,rfl,_,rfl,_,rfl,gy (by show (!decide _)=false;rw[decide_eq_true (show (j:Int)<=(n:Int) by lia)];rfl) ?_⟩⟩⟩
 exact⟨_,rfl,trivial,n,ps,rfl,ok,_,rfl,trivial,_,rfl,_,om rfl (by lia),.inr ⟨trivial,_,rfl,trivial,_,rfl,_,rfl,_,oq (l:=j-i) ej (by lia),trivial,_,rfl,trivial,_,rfl,trivial,n,ps,rfl,ok,trivial,_,rfl,trivial,_,rfl,trivial,_,rfl,trivial,n,ps,w1,i,j,rfl,ok,h1,h2,trivial,i4,trivial,q⟩⟩
end
end kJ
namespace L2.Q
open PySem PySem.Spec PySem.SeqAt PyProof.Rows
section
variable {X:Cx}{C:Cfg}{lk:List (Option Nat)}{γ:cR}{τ:aY}{φ:aR}{T:List Nat}{scope:W3}{N':List Str}{tg bP elt:Expr}{ifs:List Expr}{ι:ck}{pos:Pos}
def zf (lk:List (Option Nat))(ι:ck)(γ:cR)(τ:aY)(φ:aR):aR:=λβ R=>ι β λds k β1=>hold k true/\jO γ τ φ ds k (cw lk β1) λo=>R (.lst o) .own β1
theorem F8 (L:Links X scope N' lk)(mS:N'.Nodup)(hT:T.all (λi=>match lk[i]? with|some (some _)=>false|_=>true)=true)(hc:X.calm=true)(hi:tm X C true tg bP ι)
  (jQ:∀a cl c s H ex,tw (aB X scope N' cl c s H ex) (C.u λc=>c=a) tg T γ) (hX:∀a cl c s H ex,qf (aB X scope N' cl c s H ex) ifs (iV (aB X scope N' cl c s H ex) (C.u λc=>c=a) true τ)) (τm:∀β R R',(∀d β,R d β->R' d β)->τ β R->τ β R')
  (gS:∀a cl c s H ex,PQ (aB X scope N' cl c s H ex) (C.u λc=>c=a) true elt φ) (γm:∀d k β R R',(∀r,R r->R' r)->γ d k β R->γ d k β R') (φm:∀β R R',(∀d k β,R d k β->R' d k β)->φ β R->φ β R')
  (hs:∀x,VG bP X.env x=pure x:=by intro _;rfl):PQ X C true (.ListComp elt [⟨tg,bP,ifs,0⟩] scope pos) (zf lk ι γ τ φ):=by
 have AN:∀i∈T,∀j,lk[i]?≠some (some j):=λi hi j e=>by
  have:=WK.mp hT i hi;rw[e]at this;cases this
 refine⟨λβ R R' k h=>hi.mono β _ _ (λds kd β1 q=>⟨q.1,q.2.mono λo z=>k _ _ _ z⟩) h,?_⟩;refine(ir (g:=⟨tg,bP,ifs,0⟩) (gs:=[]) (tg:=λa v σ H Q=>∃own β d k,SQ X (C.u λc=>c=a) σ H β own/\Rp X (gc (C.u λc=>c=a) (Wn own) k) H d v/\γ d k β λβ'=>∀σ' aQ,SQ X (C.u λc=>c=a) σ' H β' aQ->(∀a,Wn aQ a->Wn own a)->(∀j,j∉T->σ'[j]?=σ[j]?)->Q σ' H)
  (tt:=λa=>iV X (C.u λc=>c=a) true τ) (ta:=λa N σ H=>tQ X (C.u λc=>c=a) true φ σ H λv H1=>∃xs,H1 a=some (.lst xs)/\xs.length<U_/\N σ (upd H1 a (.lst (xs++[v]))))
  L hc fV rfl rfl (λ_ _=>vZ) hi.pi (λa cl c s H ex=>⟨(jQ a cl c s H ex).pg,hX a cl c s H ex,fT rfl (gS a cl c s H ex).pe⟩) hs).pre λσ H Q ⟨β,own,s,h⟩=>?_
 refine⟨β,own,s,hi.mono β _ _ (λds k β1 ⟨hk,q⟩ J H1 aD o1 it a ha=>?_) h⟩;exact jy γm τm φm (cV L mS) AN o1.sq ha (hp:=true) (λ_=>rfl) hk it q λo H' q o2 r=>q _ _ aD (o1.trans o2) (r.later o1.sn)
theorem QI (N':List Str)(lk:List (Option Nat))(L:fY X.env.scope.names X.N scope N' lk=true)(mS:N'.Nodup)(hc:X.calm=true)(hi:tm X C true tg bP ι)
  (jQ:∀U cl c s H ex,tw (aB X scope N' cl c s H ex) (C.u U) tg T γ) (hX:∀U cl c s H ex,nE (aB X scope N' cl c s H ex) (C.u U) true ifs τ) (gS:∀U cl c s H ex,PQ (aB X scope N' cl c s H ex) (C.u U) true elt φ)
  (hT:T.all (λi=>match lk[i]? with|some (some _)=>false|_=>true)=true:=by rfl) (hs:∀x,VG bP X.env x=pure x:=by intro _;rfl):PQ X C true (.ListComp elt [⟨tg,bP,ifs,0⟩] scope pos) (zf lk ι γ τ φ) :=
 F8 (Links.of L) mS hT hc hi (λa=>jQ _) (λa cl c s H ex=>(hX _ cl c s H ex).pt) (hX (λ_=>False) [] 0 X.s₀ X.H₀ []).mono (λa=>gS _) (jQ (λ_=>False) [] 0 X.s₀ X.H₀ []).mono (gS (λ_=>False) [] 0 X.s₀ X.H₀ []).mono hs
end
theorem Lm {n:Nat}{ps:List (Nat×Nat)}(h:ps.length<=1000):Dp 3 (fk n ps):=by
 refine .tup (by show 2<=1000;decide) λx hx=>?_
 rcases U1.mp hx with rfl|hx
 ·exact .int
 ·rw[U9.mp hx];refine .lst (by rw[US];exact h) λy hy=>?_
  obtain⟨p,_,rfl⟩:=Vx.mp hy;exact .kD (by show 2<=1000;decide)
section
variable {ps:List (Nat×Nat)}
def mX (ps:List (Nat×Nat))(i j:Nat):Int:=tW ps w1 (j-i) i
theorem c0 {i j:Nat}(h:j<=i):mX ps i j=0:=by unfold mX;rw[show j-i=0 by lia];rfl
theorem kq {l:List Int}{m:Int}(h:fW l=some m):m∈l/\∀x∈l,x<=m:=by
 cases l with
 |nil=>cases h
 |cons a l=>cases h;exact bX l a
theorem C_ {l:List Int}{m:Int}(h1:m∈l)(h2:∀x∈l,x<=m):fW l=some m:=by
 cases h:fW l with
 |none=>cases l with|nil=>cases h1|cons a l=>cases h
 |some k =>
  obtain⟨g1,g2⟩:=kq h;have:=h2 _ g1;have:=g2 _ h1;rw[show k=m by lia]
theorem pO (hp:∀p∈ps,p.1<p.2){i j:Nat}(h:i<j):fW ((((jh ps i).filter λk=>decide (k<j)).map λk=>1+mX ps (i+1) k+mX ps (k+1) j)++[mX ps (i+1) j])=some (mX ps i j):=by
 have e:mX ps i j=iF ps w1 (tW ps w1) i j:=by
  unfold mX;rw[show j-i=(j-i-1)+1 by lia,kc hp,show i+(j-i-1)+1=j by lia]
 rw[e];unfold iF;rw[<- n_];have e2:(((jh ps i).filter λk=>decide (k<j)).map λk=>1+mX ps (i+1) k+mX ps (k+1) j)=((jh ps i).filter λk=>decide (k<j)).map λk=>w1 (i,k)+tW ps w1 (k-i-1) (i+1)+tW ps w1 (j-k-1) (k+1):=by
  refine VH λk _=>?_;unfold mX;rw[show k-(i+1)=k-i-1 by lia,show j-(k+1)=j-k-1 by lia]
  rfl
 rw[e2];unfold mX;rw[show j-(i+1)=j-i-1 by lia]
theorem ku (hp:∀p∈ps,p.1<p.2){i j:Nat}(h:i<j):mX ps (i+1) j<=mX ps i j:=(kq (pO hp h)).2 _ (by simp)
theorem lT (hp:∀p∈ps,p.1<p.2){i j k:Nat}(h:(i,k)∈ps)(hk:k<j):1+mX ps (i+1) k+mX ps (k+1) j<=mX ps i j:=by
 have DB:=hp _ h;dsimp only at DB;refine(kq (pO hp (show i<j by lia))).2 _ (V9 _ (Vx.mpr ⟨k,VB.mpr ⟨du.mpr h,decide_eq_true hk⟩,rfl⟩))
theorem lU (hp:∀p∈ps,p.1<p.2){i j:Nat}(h:i<j):mX ps i j=mX ps (i+1) j\/∃k,(i,k)∈ps/\k<j/\mX ps i j=1+mX ps (i+1) k+mX ps (k+1) j:=by
 rcases Vg.mp (kq (pO hp h)).1 with z|z
 ·obtain⟨k,hk,e⟩:=Vx.mp z;obtain⟨h1,h2⟩:=VB.mp hk;exact .inr ⟨k,du.mp h1,of_decide_eq_true h2,e.symm⟩
 ·exact .inl (U9.mp z)
theorem Et (hp:∀p∈ps,p.1<p.2):∀len i,0<=tW ps w1 len i
 |0,_=>Int.le_refl 0
 |l+1,i=>by
  rw[kc hp];have h:=(oh (ps:=ps) (w:=w1) (T:=tW ps w1) (i:=i) (j:=i+l+1)).2.1;rw[show i+l+1-i-1=l by lia]at h
  exact Int.le_trans (Et hp l (i+1)) h
theorem JV (hp:∀p∈ps,p.1<p.2){i j:Nat}:0<=mX ps i j:=Et hp (j-i) i
theorem iD (hp:∀p∈ps,p.1<p.2):∀(n i j:Nat),j-i<=n->i<j->mX ps i (j-1)<=mX ps i j
 |0,i,j,h,aH=>by lia
 |n+1,i,j,h,aH=>by
  by_cases e:i=j-1
  ·rw[c0 (by lia)];exact JV hp
  ·have s:=ku hp aH;rcases lU hp (show i<j-1 by lia)with z|⟨k,h1,h2,z⟩
   ·have:=iD hp n (i+1) j (by lia) (by lia)
    lia
   ·have DB:=hp _ h1;dsimp only at DB;have:=iD hp n (k+1) j (by lia) (by lia)
    have:=lT hp h1 (show k<j by lia)
    lia
theorem iC (hp:∀p∈ps,p.1<p.2){a j:Nat}(ha:(a,j-1)∈ps)(hj:0<j):∀(n i:Nat),j-i<=n->i<=a->mX ps i a+1+mX ps (a+1) (j-1)<=mX ps i j
 |0,i,h,hi=>by have:=hp _ ha;dsimp only at this;lia
 |n+1,i,h,hi=>by
  have To:=hp _ ha;dsimp only at To
  by_cases e:i=a
  ·subst e;have t:=lT hp ha (show j-1<j by lia)
   rw[c0 (UU i)];rw[c0 (i:=j-1+1) (by lia)]at t
   lia
  ·have s:=ku hp (show i<j by lia)
   rcases lU hp (show i<a by lia)with z|⟨k,h1,h2,z⟩
   ·have:=iC hp ha hj n (i+1) (by lia) (by lia)
    lia
   ·have DB:=hp _ h1;dsimp only at DB;have:=iC hp ha hj n (k+1) (by lia) (by lia)
    have:=lT hp h1 (show k<j by lia)
    lia
theorem jm (hp:∀p∈ps,p.1<p.2):∀(n i j:Nat),j-i<=n->i<j->mX ps i j=mX ps i (j-1)\/∃a,(a,j-1)∈ps/\i<=a/\mX ps i j=mX ps i a+1+mX ps (a+1) (j-1)
 |0,i,j,h,aH=>by lia
 |n+1,i,j,h,aH=>by
  have rs:=iD hp (j-i) i j (UU _) aH;rcases lU hp aH with z|⟨k,h1,h2,z⟩
  ·by_cases e:i+1=j
   ·left
    rw[c0 (i:=i+1) (by lia)]at z
    rw[c0 (i:=i) (j:=j-1) (by lia)]
    exact z
   ·have s:=ku hp (show i<j-1 by lia)
    rcases jm hp n (i+1) j (by lia) (by lia)with y|⟨a,h1,h2,y⟩
    ·left;lia
    ·right
     have s2:=ku hp (show i<a by lia)
     have t:=iC hp h1 (by lia) (j-i) i (UU _) (by lia)
     exact⟨a,h1,by lia,by lia⟩
  ·have DB:=hp _ h1;dsimp only at DB
   by_cases e:k=j-1
   ·right
    subst e;refine⟨i,h1,UU _,?_⟩;rw[c0 (i:=j-1+1) (by lia)]at z
    rw[c0 (UU i)];lia
   ·rcases jm hp n (k+1) j (by lia) (by lia)with y|⟨a,g1,g2,y⟩
    ·left
     have:=lT hp h1 (show k<j-1 by lia)
     lia
    ·right
     have:=lT hp h1 (show k<a by lia)
     have t:=iC hp g1 (by lia) (j-i) i (UU _) (by lia)
     exact⟨a,g1,by lia,by lia⟩
theorem zY (hp:∀p∈ps,p.1<p.2){i j:Nat}(h:i<j):fW ([mX ps i (j-1)]++(((near ps (j-1)).filter λa=>decide (i<=a)).map λa=>mX ps i a+1+mX ps (a+1) (j-1)))=some (mX ps i j):=by
 refine C_ ?_ λx hx=>?_
 ·rcases jm hp (j-i) i j (UU _) h with z|⟨a,h1,h2,z⟩
  ·rw[z];simp
  ·exact VE _ (Vx.mpr ⟨a,VB.mpr ⟨dG.mpr h1,decide_eq_true h2⟩,z.symm⟩)
 ·rcases Vg.mp hx with z|z
  ·rw[U9.mp z];exact iD hp (j-i) i j (UU _) h
  ·obtain⟨a,ha,rfl⟩:=Vx.mp z;obtain⟨h1,h2⟩:=VB.mp ha;exact iC hp (dG.mp h1) (by lia) (j-i) i (UU _) (of_decide_eq_true h2)
end
section
end
theorem xh {l:List Int}{m:Int}(h:fW l=some m):dw fW [.lst (l.map D.int)]=some (.int m):=gV h
section
variable {X:Cx}{C:Cfg}{e k k2:Expr}{φ φk φj:aR}{i:Nat}{x:Str}{pos pos' px kp:Pos}{p:Bool}
theorem qU (he:∀U,PQ X (C.u U) p e φ)(hk:∀U,PQ X (C.u U) true k φk)(hj:∀U,PQ X (C.u U) true k2 φj)(hN:X.N[i]?=some x:=by rfl)(hv:sQ X.env.scope x:=by first|exact .inl rfl|exact .inr (.inl rfl)|exact .inr (.inr rfl))(hd:(x==("__debug__" : Str))=false:=by decide)(gG:(x==("__classdict__" : Str))=false:=by decide)
  (OZ:kG k:=by exact λ_ _=>rfl)
  (ha:∀v,assign (.Subscript (.Subscript (.Name x px) k kp) k2 pos') X.env v=(do
   let ov <- holding [v] (eval (.Subscript (.Name x px) k kp) X.env)
   let iv <- holding [v,ov] (eval k2 X.env)
   X5 pos'
   holding [v,ov,iv] (setItem ov iv v)
   release [v,ov,iv] []):=by intro _;rfl) (hs:swapsWithSole [.Subscript (.Subscript (.Name x px) k kp) k2 pos'] e pos.line X.env=pure false:=by rfl) (hw:swappedStores [.Subscript (.Subscript (.Name x px) k kp) k2 pos'] e X.env=pure none:=by rfl)
  (h1:(WX [.Subscript (.Subscript (.Name x px) k kp) k2 pos'] X.env).map (·.2)=[assign (.Subscript (.Subscript (.Name x px) k kp) k2 pos') X.env]:=by rfl) :
  PB X C (.Assign [.Subscript (.Subscript (.Name x px) k kp) k2 pos'] e pos) (λE β=>φ β λd kd β1=>d.flat=true/\(∃d0,β1[i]?=some (some (.own d0)))/\φk β1 λjd _ β2=>∃ds j m es,jd=.int j/\β2[i]?=some (some (.own (.lst ds)))/\vG ds.length j=some m/\ds[m]?=some (.lst es) /\
   φj β2 λid _ β3=>∃j2 m2,id=.int j2/\β3[i]?=some (some (.own (.lst ds)))/\vG es.length j2=some m2/\E.nx (β3.set i (some (.own (.lst (ds.set m (.lst (es.set m2 d)))))))):=by
 refine⟨λE E' β l q=>(he λ_=>False).mono _ _ _ (λd kd β1 h=>by
  obtain⟨f,h0,q⟩:=h;exact⟨f,h0,(hk λ_=>False).mono _ _ _ (λjd _ β2 h=>by
   obtain⟨ds,j,m,es,g1,g2,g3,g4,q⟩:=h;exact⟨ds,j,m,es,g1,g2,g3,g4,(hj λ_=>False).mono _ _ _ (λid _ β3 h=>by obtain⟨j2,m2,g5,g6,g7,q⟩:=h;exact⟨j2,m2,g5,g6,g7,l.nx _ q⟩) q⟩) q⟩) q,λpins s σ H De I ⟨Z,E,β,⟨own,sq,n⟩,q,ok⟩=>?_⟩
 refine pE (he λa=>H a=none).pe (ub (jM (pos:=kp) d8 (cT (pos:=px) hN hv hd gG) (hk λa=>H a=none).pe OZ) (hj λa=>H a=none).pe set_list ha) hs hw h1 pins s σ H De I ?_;refine tQ.of (he λa=>H a=none) (sq.nH (C:=C.z) (U:=λa=>H a=none) λa z=>z) q λd kd β1 v H1 aD ⟨f,⟨d0,Iz⟩,q⟩ o r=>?_;obtain⟨v0,Dw,_,_⟩:=o.sq.ow i d0 Iz;refine⟨v0,Dw,tQ.of (hk λa=>H a=none) o.sq q λjd kk β2 kv H2 a5 ⟨ds,j,m,es,e1,hb,S9,hm,q⟩ o2 r2=>?_⟩;subst e1;cases r2.rep;obtain⟨v1,EX,ow,h0⟩:=o2.sq.ow i _ hb;rw[Dw]at EX;cases EX;obtain⟨a,vs,c,us,B,rfl,q1,q2,q3,q4,q5,q6,q7,q8,q9⟩:=fU (l:=true) ow (o2.sq.lM i) hm;have Mo:nB vs j=some (.ref c):=by unfold nB;rw[q2,S9];exact q3
 refine⟨a,vs,j,.ref c,rfl,rfl,cP.of q1,Mo,tQ.of (hj λa=>H a=none) o2.sq q λid kj β3 iv H3 Jv ⟨j2,m2,e2,Q6,QZ,q⟩ o3 r3=>?_⟩;subst e2;cases r3.rep;obtain⟨s3,e3⟩:=o3.pu rfl;subst e3;obtain⟨v2,QN,R_,UM⟩:=o3.sq.ow i _ Q6;rw[Dw]at QN;cases QN;obtain⟨a',vs',c',tL,B',ea,p1,p2,p3,p4,p5,p6,p7,p8,p9⟩:=fU (l:=true) R_ (o3.sq.lM i) hm;cases ea;have e4:=s3 _ _ q1;rw[p1]at e4;cases e4;rw[q3]at p3;cases p3;have e5:=s3 _ _ q4;rw[p4]at e5;cases e5;have HC:m2<es.length:=G5 QZ;have S0:es[m2]?=some es[m2]:=U6 HC;obtain⟨w0,B1,B2,B3,k1,rfl,k3,k4,k5⟩:=p6.split S0;have L9:m2<us.length:=by rw[p6.length];exact HC
 have rf:Own X.prog X.w H3 d v []:=c8 f (((az.flat (W':=λ_=>True) f r.rep).keep (o2.sn.k.mono λ_ _=>trivial)).same s3);have NJ:aI X.prog X.w H3 (es.set m2 d) (us.set m2 v) (B1++([]++B3)):=by
  rw[Xx,if_pos HC,Xx,if_pos L9];exact k3.append ⟨v,_,[],B3,rfl,rfl,rf,k5⟩
 have nd:=p8;obtain⟨n1,n2,n3⟩:=V3.mp nd;obtain⟨n4,n5,n6⟩:=V3.mp n2;obtain⟨A',g1,g2,g3⟩:=p9 (es.set m2 d) (us.set m2 v) (B1++([]++B3)) NJ (V3.mpr ⟨n1,n5,λx hx y hy=>n3 x hx y (VE _ hy)⟩)
  (λx hx=>.inl ((Vg.mp hx).elim (λz=>by simp[z]) λz=>by simp[show x∈B3 from z])) (λx hx=>(p7 x ((Vg.mp hx).elim (λz=>by simp[z]) λz=>by simp[show x∈B3 from z])).2)
 have hA:∀x∈A',x∈Jv i\/(C.H0 x=none/\¬ Wn Jv x/\H x=none):=λx hx=>by
  rcases g3 x hx with z|z
  ·exact .inl z
  ·exact .inl (p7 x ((Vg.mp z).elim (λz=>by simp[z]) λz=>by simp[show x∈B3 from z])).1
 exact⟨c,us,j2,m2,rfl,rfl,p4,by rw[p6.length];exact QZ,ok.nx _ _ _ ⟨_,o3.sq.putIn (C:=C) (U:=λa=>H a=none) Q6 Dw p5 g1 g2 hA,k8 (((n.trans o.sn).trans o2.sn).trans o3.sn) (λb z=>n.free z) ⟨i,p5⟩ ⟨_,p4,λxs z=>by cases z⟩ hA⟩ q⟩
end
theorem CB {X:Cx}{C:Cfg}{a:List Stmt}{ψ:En}(i:Nat)(h:tu X C a ψ):tu X C a (λE β=>∃d,β[i]?=some (some (.own d))/\ψ E (β.set i (some (.val true d)))) :=
 ⟨λE E' β l q=>by obtain⟨d,e,q⟩:=q;exact⟨d,e,h.mono E E' _ l q⟩,h.ps.pre λD σ H z=>by
  obtain⟨Z,E,β,⟨own,s,n⟩,⟨d,e,q⟩,ok⟩:=z;exact⟨Z,E,_,⟨_,s.freeze e,k9 n⟩,q,ok⟩⟩
end L2.Q
namespace L2
open PySem PySem.Spec PySem.SeqAt PyProof.Rows
def HR (a b:D):Option D:=a.Dc.bind λds=>b.int?.bind λk=>if 0<=k/\k<2 ^ 62/\ds.length*k.toNat<=U_ then some (.lst (VF k.toNat ds).flatten) else none
theorem i9 {P:U0}{w:Vf}{W:Addr->Prop}{H:Hp}{ds:List D}{vs:List V}(h:aj P w W H ds vs):∀k:Nat,aj P w W H (VF k ds).flatten (VF k vs).flatten
 |0=>rfl
 |k+1=>by
  rw[Wr,WV,Wr,WV];exact h.append (i9 h k)
theorem zH {X:Cx}:LG X (W5 .Mult) HR:=by
 intro pins s σ H x y v u Q I rx ry h;obtain⟨W,d1,d2,d,hd,r1,r2,e,q⟩:=h;obtain⟨ds,h1,e⟩:=We.mp e;obtain⟨k,h2,e⟩:=We.mp e;obtain⟨⟨k0,k1,hl⟩,rfl⟩:=fw e;rw[D.vB h1]at r1;rw[D.vH h2]at r2;obtain⟨p,vs,rfl,g1,n1,q1⟩:=r1;exact Gk pins s σ H _ _ v u Q I rx ry ⟨p,k,vs,rfl,r2,g1,by lia,by lia,by rw[q1.length];exact hl,λl uG=>q _ _ (ay.new uG) (Rp.gM hd uG (i9 q1 _)) λf=>ui uG f (i9 q1 _)⟩
namespace Q
def bH (n:Nat)(f:Nat->Nat->D):D:=.lst ((UZ (n+1)).map λb=>.lst ((UZ (n+1)).map λe=>f b e))
theorem lg {α:Type}{n m:Nat}{f g:Nat->α}(h:∀k,k<n->k≠m->f k=g k):((UZ n).map f).set m (g m)=(UZ n).map g:=by
 apply WB;intro k;rw[WU]
 by_cases hk:k<n
 ·rw[a6 hk]
  by_cases e:m=k
  ·subst e;rw[if_pos rfl,if_pos (by rw[US,Vm];exact hk),a6 hk]
  ·rw[if_neg e,a6 hk,h k hk (V5 e)]
 ·have hn:((UZ n).map g)[k]?=none:=VT (by rw[US,Vm];lia)
  have Iu:((UZ n).map f)[k]?=none:=VT (by rw[US,Vm];lia)
  rw[hn,Iu]
  split
  ·rw[if_neg (by rw[US,Vm];lia)]
  ·rfl
theorem yZ {n b e:Nat}{f g:Nat->Nat->D}(h:∀x y,¬ (x=b/\y=e)->f x y=g x y):((UZ (n+1)).map λx=>D.lst ((UZ (n+1)).map λy=>f x y)).set b (.lst (((UZ (n+1)).map λy=>f b y).set e (g b e)))=(UZ (n+1)).map λx=>D.lst ((UZ (n+1)).map λy=>g x y):=by
 have e1:((UZ (n+1)).map λy=>f b y).set e (g b e)=(UZ (n+1)).map λy=>g b y:=lg λk _ hk=>h b k λz=>hk z.2;rw[e1];exact lg (g:=λx=>D.lst ((UZ (n+1)).map λy=>g x y)) λk _ hk=>by
  rw[show (λy=>f k y)=λy=>g k y from funext λy=>h k y λz=>hk z.1]
theorem oH {α:Type}{f:α->D}(h:∀x,(f x).flat=true):∀l:List α,D.bY (l.map f)=true
 |[]=>rfl
 |x::l=>by
  show ((f x).flat&&D.bY (l.map f))=true;rw[h x,oH h l];rfl
theorem Cm {d:D}{k:Nat}:(VF k [d]).flatten=VF k d:=by
 induction k with
 |zero=>rfl
 |succ k ih=>rw[Wr,WV,ih];rfl
theorem nZ {l:List (Nat×Nat)}{p:Nat×Nat}{b:Nat}:near (l++[p]) b=near l b++if p.2=b then [p.1] else []:=by
 unfold near;rw[WN,Vn,V0,List.filter_nil]
 by_cases h:p.2=b <;> simp[h]
section
variable {ps:List (Nat×Nat)}
def BL (ps:List (Nat×Nat)):Nat->Nat->Nat->Nat
 |0,_,_=>1
 |f+1,b,e=>if e<=b then 1 else (if mX ps b (e-1)=mX ps b e then BL ps f b (e-1) else 0)+(((near ps (e-1)).filter λa=>decide (b<=a)).map λa=>if 1+mX ps b a+mX ps (a+1) (e-1)=mX ps b e then BL ps f b a*BL ps f (a+1) (e-1) else 0).sum
theorem gb (hp:∀p∈ps,p.1<p.2):∀{f g b e:Nat},e-b<=f->e-b<=g->BL ps f b e=BL ps g b e
 |0,0,_,_,_,_=>rfl
 |0,g+1,b,e,h,_=>by unfold BL;rw[if_pos (by lia)]
 |f+1,0,b,e,_,h=>by unfold BL;rw[if_pos (by lia)]
 |f+1,g+1,b,e,h1,h2=>by
  unfold BL
  by_cases hb:e<=b
  ·rw[if_pos hb,if_pos hb]
  ·rw[if_neg hb,if_neg hb,gb hp (f:=f) (g:=g) (b:=b) (e:=e-1) (by lia) (by lia)]
   congr 2
   refine VH λa ha=>?_;obtain⟨h3,h4⟩:=VB.mp ha;have h5:=of_decide_eq_true h4;have h6:=hp _ (dG.mp h3);dsimp only at h6;rw[gb hp (f:=f) (g:=g) (b:=b) (e:=a) (by lia) (by lia),gb hp (f:=f) (g:=g) (b:=a+1) (e:=e-1) (by lia) (by lia)]
def cL (ps:List (Nat×Nat))(b e:Nat):Nat:=BL ps (e-b) b e
theorem qc {b e:Nat}(h:e<=b):cL ps b e=1:=by
 unfold cL;rw[show e-b=0 by lia]
 rfl
theorem v3 (hp:∀p∈ps,p.1<p.2){b e:Nat}(h:b<e):cL ps b e=(if mX ps b (e-1)=mX ps b e then cL ps b (e-1) else 0)+(((near ps (e-1)).filter λa=>decide (b<=a)).map λa=>if 1+mX ps b a+mX ps (a+1) (e-1)=mX ps b e then cL ps b a*cL ps (a+1) (e-1) else 0).sum:=by
 unfold cL;rw[show e-b=(e-1-b)+1 by lia]
 conv=>lhs;unfold BL
 rw[if_neg (by lia)]
 congr 2
 refine VH λa ha=>?_;obtain⟨h3,h4⟩:=VB.mp ha;have h5:=of_decide_eq_true h4;have h6:=hp _ (dG.mp h3);dsimp only at h6;rw[gb hp (f:=e-1-b) (g:=a-b) (b:=b) (e:=a) (by lia) (by lia),gb hp (f:=e-1-b) (g:=e-1-(a+1)) (b:=a+1) (e:=e-1) (by lia) (by lia)]
theorem v7 (hp:∀p∈ps,p.1<p.2)(nd:ps.Nodup):∀(l b e:Nat),e-b<=l->cL ps b e<=kz (e-b)
 |0,b,e,h=>by rw[qc (by lia),show e-b=0 by lia];decide
 |l+1,b,e,h=>by
  by_cases hb:e<=b
  ·rw[qc hb,show e-b=0 by lia];decide
  ·obtain⟨m,hm⟩:∃m,e-b=m+1:=⟨e-b-1,by lia⟩
   rw[v3 hp (by lia),hm]
   have h1:(if mX ps b (e-1)=mX ps b e then cL ps b (e-1) else 0)<=kz m:=by
    have:=v7 hp nd l b (e-1) (by lia)
    rw[show e-1-b=m by lia]at this
    split <;> lia
   cases m with
   |zero =>
    have en:(near ps (e-1)).filter (λa=>decide (b<=a))=[]:=by
     rw[List.filter_eq_nil_iff];intro a ha z;have h5:=of_decide_eq_true z;have h6:=hp _ (dG.mp ha);dsimp only at h6;lia
    rw[en];show _+0<=_;have:kz 0=1:=rfl;have:kz (0+1)=1:=rfl;lia
   |succ m =>
    have ef:(near ps (e-1)).filter (λa=>decide (b<=a))=(near ps (e-1)).filter λa=>decide (b<=a)&&decide (a<b+(m+1)):=List.filter_congr λa ha=>by
     have h6:=hp _ (dG.mp ha);dsimp only at h6;rw[decide_eq_true (show a<b+(m+1) by lia),Bool.and_true]
    rw[ef,nM (C5 nd)];have h2:=u9 (n:=m+1) (c:=kz m) (f:=λr=>(if b+r∈near ps (e-1) then 1 else 0)*(if 1+mX ps b (b+r)+mX ps (b+r+1) (e-1)=mX ps b e then cL ps b (b+r)*cL ps (b+r+1) (e-1) else 0)) (λr hr=>by
     have k1:=v7 hp nd l b (b+r) (by lia)
     have k2:=v7 hp nd l (b+r+1) (e-1) (by lia)
     rw[show b+r-b=r by lia]at k1
     rw[show e-1-(b+r+1)=m-r by lia]at k2
     have k3:=ZN k1 k2;have k4:=vP r (m-r);rw[show r+(m-r)=m by lia]at k4
     have k5:(if 1+mX ps b (b+r)+mX ps (b+r+1) (e-1)=mX ps b e then cL ps b (b+r)*cL ps (b+r+1) (e-1) else 0)<=kz m:=by split <;> lia
     split
     ·rw[Zw];exact k5
     ·rw[Nat.zero_mul];exact U7 _)
    have e1:kz (m+1)=(m+1)*kz m:=rfl;have e2:kz (m+1+1)=(m+1+1)*kz (m+1):=rfl;rw[e2,Nat.succ_mul];have e3:kz (m+1)<=(m+1)*kz (m+1):=Nat.le_mul_of_pos_left _ (by lia)
    lia
end
theorem Ck {n:Nat}(hn:n<=40){d:D}:HR (.lst [d]) (.int ((n:Int)+1))=some (.lst ((UZ (n+1)).map λ_=>d)):=by
 unfold HR D.Dc D.int?;rw[W7,W7,if_pos ⟨by lia,by lia,by rw[WQ,Zw,show ((n:Int)+1).toNat=n+1 by lia];exact dW (by lia)⟩,Cm,show ((n:Int)+1).toNat=n+1 by lia,List.map_const',Vm]
def jL (ps:List (Nat×Nat))(b e:Nat):D:=.tup [.int (mX ps b e),.int (cL ps b e:Int)]
theorem qN {ps:List (Nat×Nat)}{b e:Nat}(h:e<=b):jL ps b e=.tup [.int 0,.int 1]:=by
 unfold jL;rw[c0 h,qc h];rfl
def j4 (ps:List (Nat×Nat))(J m b e:Nat):D:=if e<J\/(e=J/\J<=b+m) then jL ps b e else .tup [.int 0,.int 1]
theorem tO {ps:List (Nat×Nat)}{J m b e:Nat}(h:e<J\/(e=J/\J<=b+m)):j4 ps J m b e=jL ps b e:=if_pos h
theorem gT {n:Nat}{f g:Nat->Nat->D}(h:∀b e,b<=n->e<=n->f b e=g b e):bH n f=bH n g:=by
 unfold bH
 congr 1
 refine VH λb hb=>?_
 congr 1
 exact VH λe he=>h b e (by have:=V8.mp hb;lia) (by have:=V8.mp he;lia)
theorem wx {ps:List (Nat×Nat)}{n:Nat}:bH n (λ_ _=>.tup [.int 0,.int 1])=bH n (j4 ps 1 0):=gT λb e _ _=>by
 unfold j4
 split
 ·rw[qN (by lia)]
 ·rfl
theorem yL {ps:List (Nat×Nat)}{n J:Nat}:bH n (j4 ps J J)=bH n (j4 ps (J+1) 0):=gT λb e _ _=>by
 unfold j4
 by_cases h1:e<J\/(e=J/\J<=b+J)
 ·rw[if_pos h1,if_pos (by lia)]
 ·rw[if_neg h1]
  split
  ·rw[qN (by lia)]
  ·rfl
theorem B7 {ps:List (Nat×Nat)}{n:Nat}:bH n (j4 ps (n+1) 0)=bH n (jL ps):=gT λb e _ he=>tO (.inl (by lia))
theorem B6 {ps:List (Nat×Nat)}{n J m b:Nat}(h:b+m+1=J):((UZ (n+1)).map λx=>D.lst ((UZ (n+1)).map λy=>j4 ps J m x y)).set b (.lst (((UZ (n+1)).map λy=>j4 ps J m b y).set J (jL ps b J)))=(UZ (n+1)).map λx=>D.lst ((UZ (n+1)).map λy=>j4 ps J (m+1) x y):=by
 have:=yZ (n:=n) (b:=b) (e:=J) (f:=j4 ps J m) (g:=j4 ps J (m+1)) λx y J9=>by
  unfold j4
  by_cases h1:y<J\/(y=J/\J<=x+m)
  ·rw[if_pos h1,if_pos (by lia)]
  ·rw[if_neg h1]
   split
   ·next h2=>exact absurd (show x=b/\y=J by lia) J9
   ·rfl
 rw[show j4 ps J (m+1) b J=jL ps b J from tO (.inr ⟨rfl,by lia⟩)]at this
 exact this
def vY (ps:List (Nat×Nat))(b J:Nat)(l:List Nat):List (Int×Int):=(mX ps b (J-1),(cL ps b (J-1):Int))::(l.filter λa=>decide (b<=a)).map λa=>(1+mX ps b a+mX ps (a+1) (J-1),(cL ps b a:Int)*(cL ps (a+1) (J-1):Int))
def R8 (p:Int×Int):D:=.tup [.int p.1,.int p.2]
theorem Bg {ps:List (Nat×Nat)}{b J:Nat}{l:List Nat}{a:Nat}:vY ps b J (l++[a])=vY ps b J l++if b<=a then [(1+mX ps b a+mX ps (a+1) (J-1),(cL ps b a:Int)*(cL ps (a+1) (J-1):Int))] else []:=by
 unfold vY;rw[WN,Vn,V0,List.filter_nil,Zr]
 by_cases h:b<=a <;> simp[h]
theorem Eb {ps:List (Nat×Nat)}(hp:∀p∈ps,p.1<p.2){b J:Nat}(h:b<J):fW ((vY ps b J (near ps (J-1))).map (·.1))=some (mX ps b J):=by
 have:=zY hp h;unfold vY;rw[Vo,Wg];rw[show (((near ps (J-1)).filter λa=>decide (b<=a)).map λa=>mX ps b a+1+mX ps (a+1) (J-1))=((near ps (J-1)).filter λa=>decide (b<=a)).map ((λx:Int×Int=>x.1) ∘ λa=>(1+mX ps b a+mX ps (a+1) (J-1),(cL ps b a:Int)*(cL ps (a+1) (J-1):Int))) from VH λa _=>by show _=1+mX ps b a+mX ps (a+1) (J-1);lia]at this
 exact this
theorem yI {α:Type}{q:α->Bool}{f:α->Int}:∀l:List α,((l.filter q).map f).sum=(l.map λx=>if q x=true then f x else 0).sum
 |[]=>rfl
 |x::l=>by
  rw[V0,Vo,WY,<- yI l]
  split
  ·rw[Vo,WY]
  ·rw[Int.zero_add]
theorem Ea {ps:List (Nat×Nat)}(hp:∀p∈ps,p.1<p.2){b J:Nat}(h:b<J):(((vY ps b J (near ps (J-1))).filter λp=>decide (p.1=mX ps b J)).map (·.2)).sum=(cL ps b J:Int):=by
 rw[yI,v3 hp h];unfold vY;rw[Vo,WY,Wg,Int.natCast_add,<- qu]
 congr 1
 ·by_cases h1:mX ps b (J-1)=mX ps b J
  ·rw[if_pos (decide_eq_true h1),if_pos h1]
  ·rw[if_neg (by rw[decide_eq_false h1];simp),if_neg h1];rfl
 ·congr 1
  refine VH λa _=>?_;show (if decide (1+mX ps b a+mX ps (a+1) (J-1)=mX ps b J)=true then _ else _)=_
  by_cases h1:1+mX ps b a+mX ps (a+1) (J-1)=mX ps b J
  ·rw[if_pos (decide_eq_true h1),if_pos h1,Int.natCast_mul]
  ·rw[if_neg (by rw[decide_eq_false h1];simp),if_neg h1];rfl
def r_:FD:=λds R=>∃(n:Nat) (ps:List (Nat×Nat)),ds=[fk n ps]/\yj n ps/\n<=40/\R (bH n (jL ps))
theorem r_.mono:dy r_:=λds R R' k h=>by obtain⟨n,ps,e,h1,h2,q⟩:=h;exact⟨n,ps,e,h1,h2,k _ q⟩
theorem HY {ps:List (Nat×Nat)}(hp:∀p∈ps,p.1<p.2)(nd:ps.Nodup){a b c d:Nat}(h:(b-a)+(d-c)<=40):qh (cL ps a b:Int) (cL ps c d:Int):=by
 have big:∀x y,y-x<=20->((cL ps x y:Nat):Int)<2 ^ 64:=λx y hl=>by
  have h1:=v7 hp nd (y-x) x y (UU _);have h2:=AU hl;have h3:kz 20<2 ^ 64:=by decide
  lia
 rcases V6 20 (b-a)with q|q
 ·exact .inr ⟨by lia,big c d (by lia)⟩
 ·exact .inl ⟨by lia,big a b q⟩
end Q
end L2
namespace kJ
open PySem L2 L2.Q
section
variable {P:U0}{w:Vf}{K:PySem.W.Frag}{mg:Str->Option UT}{base:Heap}
theorem aL:aS ["row","many","ties","lesser","one","other","found","end","begin","some","point","left","right","best"] ["row"] (aA dY):=⟨rfl,rfl,rfl,by decide +kernel,rfl,by decide +kernel,by decide +kernel⟩
theorem CP {DL vM} (IF:Ro K mg DL vM) (B:ym mg):aN P w K mg base b6 1 DL vM ["row"] (dX P w true r_):=by
 refine qY IF.F aL (λds R Ks=> by obtain⟨n,ps,e,_⟩ := Ks;subst e;rfl) λcX A outer s H E hr=>⟨_,(ag (ud (ab (i:=0)) (cK (n:=2) rfl (aJ (ao (i:=1) aL.nd) (aJ (ao (i:=2) aL.nd) bV))))
    (ag (wL (i:=3) true ["point"] [none] (by rfl) (by decide:(["point"]:List Str).Nodup) rfl (λ_=>(a7 B.range (aa (ab (i:=1)) ae))) (λ_ _ _ _ _ _=>(ao (i:=0) (by decide:(["point"]:List Str).Nodup))) (λ_ _ _ _ _ _=>dc) (λ_ _ _ _ _ _=>(bh ae)) aL.nd)
    (ag (cm VI rfl (bJ (ab (i:=2))) (cK (n:=2) rfl (aJ (ao (i:=4) aL.nd) (aJ (ao (i:=5) aL.nd) bV))) (ak (d4 (i:=3) true (λ_=>(ab (i:=4))) (λ_=>(ab (i:=5))))))
    (CB 3 (ag (wL (i:=6) true ["begin","many"] [none,some 1] (by rfl) (by decide:(["begin","many"]:List Str).Nodup) rfl (λ_=>(a7 B.range (aa (aE aF au (ab (i:=1)) ah) ae))) (λ_ _ _ _ _ _=>(ao (i:=0) (by decide:(["begin","many"]:List Str).Nodup))) (λ_ _ _ _ _ _=>dc) (λ_ _ _ _ _ _=>(aE aF zH (bh (aa (bf (aa ah (aa ah ae))) ae)) (aE aF au (ab (i:=1)) ah))) aL.nd)
    (ag (cm VI rfl (fq B.range (aa ah (aa (aE aF au (ab (i:=1)) ah) ae))) (ao (i:=7) aL.nd) (ak (cm VI rfl (lC B.range (aa (aE af (bS.m bu) (ab (i:=7)) ah) (aa (qR ic ah) (aa (qR ic ah) ae)))) (ao (i:=8) aL.nd) (ag (cM (i:=9) (λ_=>(bh (aa (aG af a9 (aG af a9 (ab (i:=6)) (ab (i:=8))) (aE af (bS.m bu) (ab (i:=7)) ah)) ae))) aL.nd)
    (ag (cm VI rfl (bJ (aG af a9 (ab (i:=3)) (aE af (bS.m bu) (ab (i:=7)) ah))) (ao (i:=10) aL.nd) (ak (bG (aK af (bS.m uf) (ab (i:=10)) (ab (i:=8))) (ag (a8 (i:=11) (aG af a9 (aG af a9 (ab (i:=6)) (ab (i:=8))) (ab (i:=10))) aL.nd)
    (ag (a8 (i:=12) (aG af a9 (aG af a9 (ab (i:=6)) (aE aF au (ab (i:=10)) ah)) (aE af (bS.m bu) (ab (i:=7)) ah)) aL.nd)
    (ak (cE (i:=9) (λ_=>(bf (aa (aE aF au (aE aF au ah (aG af a9 (ab (i:=11)) ah)) (aG af a9 (ab (i:=12)) ah)) (aa (aE af (bS.m CK) (aG af a9 (ab (i:=11)) ah) (aG af a9 (ab (i:=12)) ah)) ae)))))))) aP)))
    (ag (a8 (i:=13) (bU af (cG.m (oP rfl)) B.max qd (aa (QI ["most","sets"] [none,none] (by rfl) (by decide:(["most","sets"]:List Str).Nodup) rfl (bJ (ab (i:=9))) (λ_ _ _ _ _ _=>(cK (n:=2) rfl (aJ (ao (i:=0) (by decide:(["most","sets"]:List Str).Nodup)) (aJ (ao (i:=1) (by decide:(["most","sets"]:List Str).Nodup)) bV)))) (λ_ _ _ _ _ _=>dc) (λ_ _ _ _ _ _=>(ab (i:=0)))) ae)) aL.nd)
    (ak (qU (i:=6) (λ_=>(bf (aa (ab (i:=13)) (aa (bU af (cG.m (xS rfl)) B.sum H4 (aa (QI ["most","sets","best"] [none,none,some 13] (by rfl) (by decide:(["most","sets","best"]:List Str).Nodup) rfl (bJ (ab (i:=9))) (λ_ _ _ _ _ _=>(cK (n:=2) rfl (aJ (ao (i:=0) (by decide:(["most","sets","best"]:List Str).Nodup)) (aJ (ao (i:=1) (by decide:(["most","sets","best"]:List Str).Nodup)) bV)))) (λ_ _ _ _ _ _=>(kT (aK af (bS.m (cC hr.units)) (ab (i:=0)) (ab (i:=2))))) (λ_ _ _ _ _ _=>(ab (i:=1)))) ae)) ae)))) (λ_=>(ab (i:=8))) (λ_=>(ab (i:=7)))))))))))
    (ak (iy (i:=6))))))))),λds R h=>?_⟩
 obtain⟨n,ps,rfl,ok,hn,q⟩:=h;have BH:=ok.sm;have hp:∀p∈ps,p.1<p.2:=λp hp=>(ok.lt p hp).1;refine⟨_,rfl,_,rfl,rfl,_,_,rfl,_,_,rfl,rfl,_,rfl,trivial,n,rfl,by lia,by lia,trivial,?_⟩
 rw[Xf];refine fX (λ_=>true) (λ_=>.lst []) trivial (by rw[Vm];exact dW (by lia)) (λx hx x0 o J ho h1 _=>⟨U7 _,trivial,ho,h1 rfl _⟩) ?_
 rw[b5];refine⟨_,rfl,_,rfl,trivial,?_⟩;refine⟨λm β=>∃x4 x5 x6 x7 x8 x9 h7 kL iY j9,β=[some (.val false (fk n ps)),some (.val true (.int n)),some (.val false (kU ps)),some (.own (.lst ((UZ n).map λi=>D.lst (Q.bp (near (ps.take m) i))))),x4,x5,x6,x7,x8,x9,h7,kL,iY,j9],⟨_,_,_,_,_,_,_,_,_,_,rfl⟩,?_,?_⟩
 ·rintro m d β hd ⟨x4,x5,x6,x7,x8,x9,h7,kL,iY,j9,rfl⟩;rw[U8]at hd;obtain⟨p,rG,rfl⟩:=Vv.mp hd;obtain⟨h1,h2⟩:=ok.lt p (VJ rG);have et:ps.take (m+1)=ps.take m++[p]:=by rw[Wd,rG];rfl
  have es:((UZ n).map λi=>D.lst (Q.bp (near (ps.take m) i))).set p.2 (.lst (Q.bp (near (ps.take m) p.2)++[.int (p.1:Int)]))=(UZ n).map λi=>D.lst (Q.bp (near (ps.take (m+1)) i)):=by
   rw[et];have e1:D.lst (Q.bp (near (ps.take m) p.2)++[.int (p.1:Int)])=D.lst (Q.bp (near (ps.take m++[p]) p.2)):=by
    rw[nZ,if_pos rfl];unfold Q.bp;rw[Vn];rfl
   rw[e1];exact lg (g:=λi=>D.lst (Q.bp (near (ps.take m++[p]) i))) λk _ hk=>by rw[nZ,if_neg (V5 hk),Wf]
  refine⟨_,rfl,rfl,_,_,rfl,_,_,rfl,rfl,⟨_,rfl⟩,_,rfl,_,_,_,_,rfl,rfl,by rw[US,Vm];exact xr rfl (show p.2<n by lia),a6 (show p.2<n by lia),_,rfl,trivial,rfl,?_,?_⟩
  ·unfold Q.bp;rw[US];have:=lO (ps:=ps.take m) (b:=p.2);rw[Vl]at this;exact fM (by lia)
  ·exact⟨_,_,_,_,_,_,_,_,_,_,by rw[es];rfl⟩
 ·rintro β ⟨x4,x5,x6,x7,x8,x9,h7,kL,iY,j9,rfl⟩;rw[US,WJ];have Pz:=Ck hn (d:=.tup [.int 0,.int 1]);refine⟨_,rfl,_,rfl,trivial,_,rfl,trivial,(n:Int)+1,rfl,by lia,by lia,trivial,?_⟩
  rw[show ((n:Int)+1).toNat=n+1 by lia]
  refine fX (λ_=>true) (λ_=>.lst ((UZ (n+1)).map λ_=>D.tup [.int 0,.int 1])) trivial (by rw[Vm];exact dW (by lia)) (λx hx x0 o J ho h1 _=>?_) ?_
  ·exact⟨trivial,trivial,i4,trivial,B4,trivial,_,rfl,trivial,_,rfl,_,Pz,.inl ⟨oH (λ_=>rfl) _,trivial,ho,h1 rfl _⟩⟩
  rw[b5];have e0:D.lst ((UZ (n+1)).map λ_=>D.lst ((UZ (n+1)).map λ_=>D.tup [.int 0,.int 1]))=bH n (j4 ps 1 0):=wx;rw[e0];refine⟨trivial,_,rfl,trivial,_,rfl,trivial,1,(n:Int)+1,rfl,⟨by lia,by lia,by lia,by lia⟩,trivial,?_⟩
  rw[show ((n:Int)+1-1).toNat=n by lia]
  refine⟨λj β=>j<=n/\∃x7 x8 x9 h7 kL iY j9,β=[some (.val false (fk n ps)),some (.val true (.int n)),some (.val false (kU ps)),some (.val true (.lst ((UZ n).map λi=>D.lst (Q.bp (near ps i))))),x4,x5,some (.own (bH n (j4 ps (j+1) 0))),x7,x8,x9,h7,kL,iY,j9],⟨U7 _,_,_,_,_,_,_,_,rfl⟩,?_,?_⟩
  ·rintro j d β hd ⟨_,x7,x8,x9,h7,kL,iY,j9,rfl⟩;obtain⟨hj,rfl⟩:=bF hd;obtain⟨J,hJ⟩:∃J,J=j+1:=⟨_,rfl⟩;rw[show (1:Int)+(j:Int)=(J:Int) by lia,<- hJ]
   refine⟨_,rfl,trivial,_,rfl,trivial,_,rfl,rfl,trivial,_,rfl,rfl,trivial,(J:Int)-1,-1,rfl,⟨by lia,by lia,by lia,by lia⟩,trivial,?_⟩
   rw[show ((J:Int)-1 - -1).toNat=J by lia]
   refine⟨λm β=>m<=J/\∃x8 x9 h7 kL iY j9,β=[some (.val false (fk n ps)),some (.val true (.int n)),some (.val false (kU ps)),some (.val true (.lst ((UZ n).map λi=>D.lst (Q.bp (near ps i))))),x4,x5,some (.own (bH n (j4 ps J m))),some (.val true (.int J)),x8,x9,h7,kL,iY,j9],⟨U7 _,_,_,_,_,_,_,rfl⟩,?_,?_⟩
   ·rintro m d β hd ⟨_,x8,x9,h7,kL,iY,j9,rfl⟩;obtain⟨hm,rfl⟩:=lA hd;obtain⟨b,hb⟩:∃b,b+m+1=J:=⟨J-1-m,by lia⟩
    rw[show (J:Int)-1-(m:Int)=(b:Int) by lia]
    have l9:∀x:Nat,x<=n->mV (bH n (j4 ps J m)) (.int (x:Int))=some (.lst ((UZ (n+1)).map λy=>j4 ps J m x y)):=λx hx=>eS rfl (a6 (by lia))
    have BI:∀x y:Nat,y<=n->(y<J\/(y=J/\J<=x+m))->mV (.lst ((UZ (n+1)).map λy=>j4 ps J m x y)) (.int (y:Int))=some (.tup [.int (mX ps x y),.int (cL ps x y:Int)]):=λx y hy h=>eS rfl (by rw[a6 (by lia),tO h];rfl)
    have eJ:(J:Int)-1=((J-1:Nat):Int):=by lia
    have E2:∀x:Nat,mV (.lst ((UZ (n+1)).map λy=>j4 ps J m x y)) (.int ((J:Int)-1))=some (.tup [.int (mX ps x (J-1)),.int (cL ps x (J-1):Int)]):=λx=>by rw[eJ];exact BI x (J-1) (by lia) (.inl (by lia))
    refine⟨_,rfl,trivial,_,rfl,_,l9 b (by lia),.inr ⟨trivial,_,rfl,trivial,_,rfl,_,E2 b,trivial,B4,.inl ⟨⟨rfl,trivial⟩,trivial,?_⟩⟩⟩
    refine⟨_,rfl,trivial,_,rfl,trivial,_,rfl,_,eS (i:=J-1) eJ (a6 (by lia)),.inr ⟨_,rfl,trivial,?_⟩⟩
    refine⟨λk β=>k<=(near ps (J-1)).length/\∃h7 kL iY,β=[some (.val false (fk n ps)),some (.val true (.int n)),some (.val false (kU ps)),some (.val true (.lst ((UZ n).map λi=>D.lst (Q.bp (near ps i))))),x4,x5,some (.own (bH n (j4 ps J m))),some (.val true (.int J)),some (.val true (.int b)),some (.own (.lst ((vY ps b J ((near ps (J-1)).take k)).map R8))),h7,kL,iY,j9],⟨U7 _,_,_,_,rfl⟩,?_,?_⟩
    ·rintro k d β hd ⟨_,h7,kL,iY,rfl⟩;have OO:=lO (ps:=ps) (b:=J-1);unfold Q.bp at hd;rw[U8]at hd;obtain⟨a,ha,rfl⟩:=Vv.mp hd;have Ma:=(U3.mp ha).1;have SN:=ok.lt _ (dG.mp (VJ ha));dsimp only at SN;have et:(near ps (J-1)).take (k+1)=(near ps (J-1)).take k++[a]:=by rw[Wd,ha];rfl
     have Mn:=Bg (ps:=ps) (b:=b) (J:=J) (l:=(near ps (J-1)).take k) (a:=a);refine⟨_,rfl,trivial,_,rfl,_,rfl,_,rfl,ni (λh=>?_) (λh=>?_)⟩
     ·have Lb:b<=a:=by lia
      rw[if_pos Lb]at Mn;refine⟨_,rfl,trivial,_,rfl,_,l9 b (by lia),.inr ⟨trivial,_,rfl,_,BI b a (by lia) (.inl (by lia)),rfl,?_⟩⟩
      refine⟨_,rfl,trivial,_,rfl,trivial,_,rfl,_,l9 (a+1) (by lia),.inr ⟨trivial,_,rfl,trivial,_,rfl,_,E2 (a+1),rfl,?_⟩⟩
      refine⟨⟨_,rfl⟩,trivial,_,rfl,trivial,_,rfl,_,rfl,trivial,_,rfl,trivial,_,rfl,_,rfl,trivial,_,rfl,trivial,_,rfl,trivial,_,rfl,trivial,_,rfl,_,HS (HY hp ok.nd (by lia)),trivial,i4,trivial,_,rfl,?_,Ma,_,_,_,by rw[et,Mn,Vn];rfl⟩
      rw[US];have e1:=Wj (λa=>decide (b<=a)) ((near ps (J-1)).take k);have e2:((near ps (J-1)).take k).length<=400:=by rw[Vl];lia
      unfold vY;rw[Vd,US];exact fM (by lia)
     ·rw[if_neg (by lia),Wf]at Mn
      exact⟨Ma,_,_,_,by rw[et,Mn];rfl⟩
    ·rintro β ⟨_,h7,kL,iY,rfl⟩;rw[show (Q.bp (near ps (J-1))).length=(near ps (J-1)).length by unfold Q.bp;rw[US],WJ]
     have AL:(vY ps b J (near ps (J-1))).length<=1000:=by
      have e1:=Wj (λa=>decide (b<=a)) (near ps (J-1));have OO:=lO (ps:=ps) (b:=J-1);unfold vY;rw[Vd,US];lia
     have em:dw fW [.lst ((vY ps b J (near ps (J-1))).map λp=>D.int p.1)]=some (.int (mX ps b J)):=by
      have:=xh (Eb hp (show b<J by lia))
      rw[Wg]at this;exact this
     refine⟨_,rfl,_,rfl,trivial,?_⟩;refine z9 (λ_=>true) (λp=>.int p.1) trivial (dW AL) (λp uF y0 y1 o J' ho j1 j2=>?_) ?_
     ·exact⟨_,rfl,rfl,_,_,rfl,_,_,rfl,rfl,_,rfl,trivial,ho,j1 rfl _ _⟩
     rw[b5];refine⟨trivial,_,em,?_⟩;have Py:dw (λns=>some ns.sum) [.lst (((vY ps b J (near ps (J-1))).filter λp=>decide (p.1=mX ps b J)).map λp=>D.int p.2)]=some (.int (cL ps b J:Int)):=by
      have:=sum_ints (f:=λp:Int×Int=>p.2) (l:=(vY ps b J (near ps (J-1))).filter λp=>decide (p.1=mX ps b J));rw[Ea hp (show b<J by lia)]at this
      exact this
     refine⟨_,rfl,trivial,_,rfl,_,rfl,trivial,?_⟩;refine z9 (λp=>decide (p.1=mX ps b J)) (λp=>.int p.2) trivial (dW AL) (λp uF y0 y1 o J' ho j1 j2=>?_) ?_
     ·exact⟨_,rfl,rfl,_,_,rfl,_,_,rfl,rfl,_,rfl,trivial,_,rfl,_,cg _ _,_,rfl,ni (λh=>⟨_,rfl,trivial,ho,j1 (decide_eq_true h) _ _⟩) (λh=>j2 (decide_eq_false h) _ _)⟩
     have PC:((UZ (n+1)).map λx=>D.lst ((UZ (n+1)).map λy=>j4 ps J m x y)).set b (.lst (((UZ (n+1)).map λy=>j4 ps J m b y).set J (.tup [.int (mX ps b J),.int (cL ps b J:Int)])))=(UZ (n+1)).map λx=>D.lst ((UZ (n+1)).map λy=>j4 ps J (m+1) x y):=B6 hb;refine⟨trivial,_,Py,trivial,i4,rfl,⟨_,rfl⟩,_,rfl,_,(b:Int),b,_,rfl,rfl,by rw[US,Vm];exact xr rfl (by lia),a6 (show b<n+1 by lia),_,rfl,(J:Int),J,rfl,rfl,by rw[US,Vm];exact xr rfl (by lia),hm,_,_,_,_,_,_,by rw[PC];rfl⟩
   ·rintro β ⟨_,x8,x9,h7,kL,iY,j9,rfl⟩;rw[lz,yL];exact⟨by lia,_,_,_,_,_,_,_,rfl⟩
  ·rintro β ⟨_,x7,x8,x9,h7,kL,iY,j9,rfl⟩;rw[cv,B7];exact⟨_,rfl,q⟩
end
end kJ
namespace L2.Q
open PySem
section
variable {ps:List (Nat×Nat)}(hp:∀p∈ps,p.1<p.2)
include hp
theorem gz:∀(l i j:Nat),j-i<=l->((bQ ps w1 i j).length:Int)=mX ps i j
 |0,i,j,h=>by rw[c9 (by lia),c0 (by lia)];rfl
 |l+1,i,j,h=>by
  by_cases aH:i<j
  ·rw[gA hp aH];have hm:=dB (cW (w:=w1) hp aH);cases q:cu ps w1 i j with
   |none =>
    rw[q]at hm;dsimp only;rw[gz l (i+1) j (by lia)]
    unfold mX;rw[show j-(i+1)=j-i-1 by lia]
    exact hm
   |some k =>
    rw[q]at hm;obtain⟨h1,h2,h3⟩:=hm;have DB:=hp _ h1;dsimp only at DB ⊢
    rw[Vd,Vu];have e1:=gz l (i+1) k (by lia)
    have e2:=gz l (k+1) j (by lia)
    unfold mX at e1 e2 ⊢
    rw[show k-(i+1)=k-i-1 by lia]at e1
    rw[show j-(k+1)=j-k-1 by lia]at e2
    rw[<- h3,<- e1,<- e2];show _=(1:Int)+_+_;lia
  ·rw[c9 aH,c0 (by lia)];rfl
theorem pW {i j:Nat}:((bQ ps w1 i j).length:Int)=mX ps i j:=gz hp (j-i) i j (UU _)
end
def mM (ps:List (Nat×Nat))(i j:Nat)(p:Nat×Nat):List (Nat×Nat):=p::(bQ ps w1 (i+1) p.2++bQ ps w1 (p.2+1) j)
def kX (i j:Nat)(l:List (Nat×Nat)):List (Nat×Nat):=l.filter λp=>decide (p.1=i)&&decide (p.2<j)
def gF (ps:List (Nat×Nat))(i j:Nat)(c:List (Nat×Nat)):Bool:=decide ((c.length:Int)=mX ps i j)
section
variable {ps:List (Nat×Nat)}{i j:Nat}
theorem lS {l:List (Nat×Nat)}{p:Nat×Nat}:p∈kX i j l↔p∈l/\p.1=i/\p.2<j:=by
 unfold kX;rw[VB,Vz,decide_eq_true_eq,decide_eq_true_eq]
variable (hp:∀p∈ps,p.1<p.2)
include hp
theorem p0 {p:Nat×Nat}:((mM ps i j p).length:Int)=1+mX ps (i+1) p.2+mX ps (p.2+1) j:=by
 unfold mM;rw[Vd,Vu,<- pW hp,<- pW hp];lia
theorem xX:((jh ps i).filter λk=>decide (k<j)&&decide (w1 (i,k)+tW ps w1 (k-i-1) (i+1)+tW ps w1 (j-k-1) (k+1)=tW ps w1 (j-i) i))=((kX i j ps).filter λp=>gF ps i j (mM ps i j p)).map (·.2):=by
 unfold jh kX;rw[List.filter_map,List.filter_filter,List.filter_filter]
 congr 1
 refine List.filter_congr λp _=>?_;unfold gF;rw[p0 hp];unfold mX;simp only[Function.comp];rw[show p.2-(i+1)=p.2-i-1 by lia,show j-(p.2+1)=j-p.2-1 by lia]
 rw[show w1 (i,p.2)=1 from rfl]
 cases decide (p.1=i) <;> cases decide (p.2<j) <;> simp
theorem mn {p:Nat×Nat}{r:List (Nat×Nat)}(e:(kX i j ps).filter (λp=>gF ps i j (mM ps i j p))=p::r):cu ps w1 i j=some p.2:=by
 unfold cu eW;rw[xX hp,e];rfl
end
section
end
def iW (ps:List (Nat×Nat))(b e:Nat)(p:Nat×Nat):Bool:=decide (b<=p.1)&&decide (p.2<e)&&decide (1+mX ps (p.1+1) p.2+mX ps (p.2+1) e=mX ps b e)
theorem cA {ps:List (Nat×Nat)}{b e:Nat}{p:Nat×Nat}:iW ps b e p=true↔b<=p.1/\p.2<e/\1+mX ps (p.1+1) p.2+mX ps (p.2+1) e=mX ps b e:=by
 unfold iW;rw[Vz,Vz,decide_eq_true_eq,decide_eq_true_eq,decide_eq_true_eq,and_assoc]
theorem oI {α:Type}{p q:α->Bool}:∀{l:List α},(∀x∈l,p x=q x)->l.find? p=l.find? q
 |[],_=>rfl
 |x::l,h=>by rw[Wa,Wa,h x (by simp),oI λy hy=>h y (by simp[hy])]
section
variable {ps:List (Nat×Nat)}(hp:∀p∈ps,p.1<p.2)(hs:ps.Pairwise λp q=>p.1<q.1\/(p.1=q.1/\p.2<q.2))
include hp hs
theorem DI {b e k:Nat}(hm:(b,k)∈ps)(hk:iW ps b e (b,k)=true)(hf:∀x,(b,x)∈ps->x<k->iW ps b e (b,x)=false):ps.find? (iW ps b e)=some (b,k):=by
 rw[Zy];refine⟨hk,?_⟩;obtain⟨l,r,e'⟩:=List.append_of_mem hm;refine⟨l,r,e',λq hq=>?_⟩;have SM:q∈ps:=by rw[e'];simp[hq]
 have eZ:q.1<b\/(q.1=b/\q.2<k):=by
  rw[e']at hs;exact(List.pairwise_append.mp hs).2.2 q hq (b,k) (by simp)
 rcases eZ with h|⟨h1,h2⟩
 ·have:iW ps b e q=false:=by
   cases z:iW ps b e q with
   |false=>rfl
   |true=>have:=(cA.mp z).1;lia
  simp[this]
 ·have:iW ps b e q=false:=by
   rw[show q=(b,q.2) by rw[<- h1]]
   exact hf q.2 (by rw[show (b,q.2)=q by rw[<- h1]];exact SM) h2
  simp[this]
theorem rN:∀(l b e:Nat),e-b<=l->b<e->bQ ps w1 b e=match ps.find? (iW ps b e)with
  |some p=>p::(bQ ps w1 (p.1+1) p.2++bQ ps w1 (p.2+1) e)
  |none=>[]
 |0,b,e,h,AM=>by lia
 |l+1,b,e,h,AM=>by
  have Tc:=cW (w:=w1) hp AM;have hm:=dB Tc;rw[gA hp AM];cases q:cu ps w1 b e with
  |some k =>
   rw[q]at hm;obtain⟨h1,h2,h3⟩:=hm;have Ti:=hp _ h1;dsimp only at Ti;have hk:iW ps b e (b,k)=true:=cA.mpr ⟨UU _,h2,by
    unfold mX;rw[show k-(b+1)=k-b-1 by lia,show e-(k+1)=e-k-1 by lia]
    exact h3⟩
   rw[DI hp hs h1 hk λx hx BG=>?_];cases z:iW ps b e (b,x)with
   |false=>rfl
   |true =>
    exfalso
    obtain⟨_,z2,z3⟩:=cA.mp z;dsimp only at z2 z3;have hL:=gF ps b e (mM ps b e (b,x));have yf:gF ps b e (mM ps b e (b,x))=true:=decide_eq_true (by rw[p0 hp];exact z3)
    have gR:(b,x)∈(kX b e ps).filter λp=>gF ps b e (mM ps b e p):=VB.mpr ⟨lS.mpr ⟨hx,rfl,z2⟩,yf⟩;cases ef:(kX b e ps).filter (λp=>gF ps b e (mM ps b e p))with
    |nil=>rw[ef]at gR;cases gR
    |cons p r =>
     have e1:=mn hp ef;rw[q]at e1;have e2:k=p.2:=VA e1;have Oc:(p::r).Sublist ps:=by rw[<- ef];exact(List.filter_sublist).trans List.filter_sublist
     have OI:=hs.sublist Oc;have rG:p.1=b:=(lS.mp (VB.mp (show p∈(kX b e ps).filter _ by rw[ef];simp)).1).2.1
     rw[ef]at gR;rcases U1.mp gR with z|z
     ·rw[<- z]at e2;dsimp only at e2;lia
     ·have:=(Wu.mp OI).1 (b,x) z;dsimp only at this;lia
  |none =>
   rw[q]at hm;have em:mX ps (b+1) e=mX ps b e:=by
    unfold mX;rw[show e-(b+1)=e-b-1 by lia]
    exact hm
   have AB:(kX b e ps).filter (λp=>gF ps b e (mM ps b e p))=[]:=by
    cases ef:(kX b e ps).filter (λp=>gF ps b e (mM ps b e p))with
    |nil=>rfl
    |cons p r=>rw[mn hp ef]at q;cases q
   have heq:ps.find? (iW ps b e)=ps.find? (iW ps (b+1) e):=by
    refine oI λp rG=>?_;cases z:iW ps (b+1) e p with
    |true =>
     obtain⟨z1,z2,z3⟩:=cA.mp z;exact cA.mpr ⟨by lia,z2,by rw[z3,em]⟩
    |false =>
     cases z':iW ps b e p with
     |false=>rfl
     |true =>
      obtain⟨z1,z2,z3⟩:=cA.mp z'
      by_cases hb:p.1=b
      ·have:p∈(kX b e ps).filter λp=>gF ps b e (mM ps b e p):=VB.mpr ⟨lS.mpr ⟨rG,hb,z2⟩,decide_eq_true (by rw[p0 hp];rw[hb]at z3;exact z3)⟩
       rw[AB]at this;cases this
      ·have:iW ps (b+1) e p=true:=cA.mpr ⟨by lia,z2,by rw[z3,em]⟩
       rw[this]at z;cases z
   dsimp only;rw[heq]
   by_cases La:b+1<e
   ·exact rN l (b+1) e (by lia) La
   ·rw[c9 La];have:ps.find? (iW ps (b+1) e)=none:=by
     rw[Y6];intro p rG z;obtain⟨z1,z2,_⟩:=cA.mp z;have:=hp p rG;lia
    rw[this]
end
def jV (k:Nat):FD:=λds R=>∃(n:Nat) (ps:List (Nat×Nat)) (b e:Nat),ds=[fk n ps,bH n (jL ps),.int b,.int e]/\yj n ps/\n<=40/\(ps.Pairwise λp q=>p.1<q.1\/(p.1=q.1/\p.2<q.2))/\e<=n/\e-b<=k/\R (kU (bQ ps w1 b e))
theorem jV.mono {k:Nat}:dy (jV k):=λds R R' kk h=>by obtain⟨n,ps,b,e,h0,h1,h2,h3,h4,h5,q⟩:=h;exact⟨n,ps,b,e,h0,h1,h2,h3,h4,h5,kk _ q⟩
end L2.Q
namespace kJ
open PySem L2 L2.Q
section
variable {P:U0}{w:Vf}{K:PySem.W.Frag}{mg:Str->Option UT}{base:Heap}
theorem b7:aS ["row","table","begin","end","one","other","here","inner"] ["row","table","begin","end"] (aA dZ):=⟨rfl,rfl,rfl,by decide +kernel,rfl,by decide +kernel,by decide +kernel⟩
theorem CU {DP vO} (xK:Rn K mg DP vO) (B:Bs2 mg):∀k:Nat,aN P w K mg base b6 (k+1) DP vO ["row","table","begin","end"] (dX P w true (jV k)):=by
 intro k
 induction k with
 |zero =>
  refine qY xK.F b7 (λds R Kr=> by obtain⟨n,ps,b,e,e0,_⟩ := Kr;subst e0;rfl) λcX A outer s H E hr=>⟨_,(ag (bG (aK af (bS.m uf) (ab (i:=2)) (ab (i:=3))) (ak (aZ (bh ae))) aP) nU),λds R h=>?_⟩
  obtain⟨n,ps,b,e,rfl,ok,hn,hs,he,hk,q⟩:=h;rw[c9 (by lia)]at q
  exact⟨_,rfl,trivial,_,rfl,_,rfl,_,rfl,s9 (decide_eq_true (by lia)) ⟨U7 _,trivial,q⟩⟩
 |succ k ih =>
  have Mv:aN P w K mg base b6 (k+1) _ _ _ (dX P w true (jV k)):=ih;refine qY xK.F b7 (λds R Kq=> by obtain⟨n,ps,b,e,e0,_⟩ := Kq;subst e0;rfl) λcX A outer s H E hr=>⟨_,(ag (bG (aK af (bS.m uf) (ab (i:=2)) (ab (i:=3))) (ak (aZ (bh ae))) aP)
    (ag (cm VI rfl (bJ (aG af a9 (ab (i:=0)) ah)) (cK (n:=2) rfl (aJ (ao (i:=4) b7.nd) (aJ (ao (i:=5) b7.nd) bV))) (ak (bG (uW.t (pG (aK af (bS.m pK) (ab (i:=2)) (ab (i:=4))) (lB (aK af (bS.m lL) (ab (i:=5)) (ab (i:=3)))))) (ag (a8 (i:=6) (aE aF au (aE aF au ah (aG af a9 (aG af a9 (aG af a9 (ab (i:=1)) (aE aF au (ab (i:=4)) ah)) (ab (i:=5))) ah)) (aG af a9 (aG af a9 (aG af a9 (ab (i:=1)) (aE aF au (ab (i:=5)) ah)) (ab (i:=3))) ah)) b7.nd)
    (ak (bG (aK af (bS.m (cC hr.units)) (ab (i:=6)) (aG af a9 (aG af a9 (aG af a9 (ab (i:=1)) (ab (i:=2))) (ab (i:=3))) ah)) (ag (a8 (i:=7) (aT jV.mono Mv (hr.mono (by lia)) xK.m xK.F.kp xK.b (aa (ab (i:=0)) (aa (ab (i:=1)) (aa (aE aF au (ab (i:=4)) ah) (aa (ab (i:=5)) ae))))) b7.nd)
    (ak (aZ (aE aF au (aE aF au (bh (aa (bf (aa (ab (i:=4)) (aa (ab (i:=5)) ae))) ae)) (ab (i:=7))) (aT jV.mono Mv (hr.mono (by lia)) xK.m xK.F.kp xK.b (aa (ab (i:=0)) (aa (ab (i:=1)) (aa (aE aF au (ab (i:=5)) ah) (aa (ab (i:=3)) ae))))))))) aP))) aP)))
    (ak (aZ (bh ae))))),λds R h=>?_⟩
  obtain⟨n,ps,b,e,rfl,ok,hn,hs,he,hk,q⟩:=h;have hp:∀p∈ps,p.1<p.2:=λp hp=>(ok.lt p hp).1;refine⟨_,rfl,trivial,_,rfl,_,rfl,_,rfl,ni (λh=>?_) (λh=>?_)⟩
  ·rw[c9 (by lia)]at q
   exact⟨U7 _,trivial,q⟩
  ·rw[rN hp hs (e-b) b e (UU _) (by lia)]at q
   refine⟨_,rfl,trivial,_,rfl,.inr ⟨_,rfl,trivial,?_⟩⟩;have l9:∀x:Nat,x<=n->mV (bH n (jL ps)) (.int (x:Int))=some (.lst ((UZ (n+1)).map λy=>jL ps x y)):=λx hx=>eS rfl (a6 (by lia))
   have BI:∀x y:Nat,y<=n->mV (.lst ((UZ (n+1)).map λy=>jL ps x y)) (.int (y:Int))=some (.tup [.int (mX ps x y),.int (cL ps x y:Int)]):=λx y hy=>eS rfl (by rw[a6 (by lia)];rfl)
   refine⟨λm β=>(∀p∈ps.take m,iW ps b e p=false)/\∃x4 x5 x6 x7,β=[some (.val false (fk n ps)),some (.val false (bH n (jL ps))),some (.val false (.int b)),some (.val false (.int e)),x4,x5,x6,x7],⟨λp hp=>(nomatch hp),_,_,_,_,rfl⟩,?_,?_⟩
   ·rintro m d β hd ⟨AB,x4,x5,x6,x7,rfl⟩;rw[U8]at hd;obtain⟨p,rG,rfl⟩:=Vv.mp hd;obtain⟨h1,h2⟩:=ok.lt p (VJ rG);have et:ps.take (m+1)=ps.take m++[p]:=by rw[Wd,rG];rfl
    have next:iW ps b e p=false->∀p'∈ps.take (m+1),iW ps b e p'=false:=λhf p' uF=>by
     rw[et]at uF;rcases Vg.mp uF with z|z
     ·exact AB p' z
     ·rw[U9.mp z];exact hf
    refine⟨_,rfl,rfl,_,_,rfl,_,_,rfl,rfl,?_⟩;refine⟨_,rfl,trivial,_,rfl,_,rfl,_,rfl,ni (λc1=>⟨_,rfl,trivial,_,rfl,_,rfl,_,rfl,ni (λc2=>?_) (λc2=>?_)⟩) (λc1=>?_)⟩
    ·have Pc:b<=p.1:=by lia
     have Mf:p.2<e:=by lia
     refine⟨trivial,_,rfl,trivial,_,rfl,trivial,_,rfl,_,l9 (p.1+1) (by lia),.inr ⟨trivial,_,rfl,_,BI (p.1+1) p.2 (by lia),trivial,_,rfl,_,rfl,trivial,_,rfl,trivial,_,rfl,trivial,_,rfl,_,l9 (p.2+1) (by lia),.inr ⟨trivial,_,rfl,_,BI (p.2+1) e (by lia),trivial,_,rfl,_,rfl,?_⟩⟩⟩
     refine⟨_,rfl,trivial,_,rfl,trivial,_,rfl,_,l9 b (by lia),.inr ⟨trivial,_,rfl,_,BI b e (by lia),trivial,_,rfl,_,cg _ _,_,rfl,ni (λc3=>?_) (λc3=>?_)⟩⟩
     ·have br:iW ps b e p=true:=cA.mpr ⟨Pc,Mf,c3⟩;have K6:ps.find? (iW ps b e)=some p:=by
       rw[Zy];refine⟨br,ps.take m,ps.drop (m+1),?_,λq hq=>by rw[AB q hq];rfl⟩
       have:=Ws m ps;rw[VO (U3.mp rG).1,(U3.mp rG).2]at this;exact this.symm
      rw[K6]at q;dsimp only at q;have l1:=iJ (w:=w1) hp (p.2-(p.1+1)) (p.1+1) p.2 (UU _);have l2:=iJ (w:=w1) hp (e-(p.2+1)) (p.2+1) e (UU _);have a1:Bf (.lst [kD (tI p)]) (kU (bQ ps w1 (p.1+1) p.2))=some (kU (p::bQ ps w1 (p.1+1) p.2)):=mK (by rw[US];show 1+_<=_;lia)
      have a2:Bf (kU (p::bQ ps w1 (p.1+1) p.2)) (kU (bQ ps w1 (p.2+1) e))=some (kU (p::(bQ ps w1 (p.1+1) p.2++bQ ps w1 (p.2+1) e))):=by
       have:=mK (a:=(p::bQ ps w1 (p.1+1) p.2).map λp=>kD (tI p)) (b:=(bQ ps w1 (p.2+1) e).map λp=>kD (tI p)) (by rw[US,US,Vd];lia)
       rw[<- Vn]at this;exact this
      refine⟨_,rfl,trivial,_,rfl,trivial,_,rfl,trivial,_,rfl,trivial,_,rfl,trivial,n,ps,p.1+1,p.2,rfl,ok,hn,hs,by lia,by lia,?_⟩
      exact⟨_,rfl,trivial,_,rfl,trivial,i4,trivial,B4,trivial,_,rfl,_,a1,.inl ⟨mm,trivial,_,rfl,trivial,_,rfl,trivial,_,rfl,trivial,_,rfl,trivial,_,rfl,trivial,n,ps,p.2+1,e,rfl,ok,hn,hs,he,by lia,_,a2,.inl ⟨mm,trivial,q⟩⟩⟩
     ·have hf:iW ps b e p=false:=by
       cases z:iW ps b e p with
       |false=>rfl
       |true=>exact absurd (cA.mp z).2.2 c3
      exact⟨next hf,_,_,_,_,rfl⟩
    ·have hf:iW ps b e p=false:=by
      cases z:iW ps b e p with
      |false=>rfl
      |true=>exact absurd (cA.mp z).2.1 (by lia)
     exact⟨next hf,_,_,_,_,rfl⟩
    ·have hf:iW ps b e p=false:=by
      cases z:iW ps b e p with
      |false=>rfl
      |true=>exact absurd (cA.mp z).1 (by lia)
     exact⟨next hf,_,_,_,_,rfl⟩
   ·rintro β ⟨AB,x4,x5,x6,x7,rfl⟩;rw[US,WJ]at AB;rw[Y6.mpr λp hp z=>by rw[AB p hp]at z;cases z]at q
    exact⟨U7 _,trivial,q⟩
end
end kJ
namespace L2.Q
open PySem PySem.Spec PySem.SeqAt PyProof.Rows
def upTo (c_:List (List D))(d:D)(k:Nat):List D:=((c_.take k).map λes=>D.lst (es++[d]))++((c_.drop k).map D.lst)
theorem yx {c_:List (List D)}{d:D}{k:Nat}{es:List D}(h:c_[k]?=some es):(upTo c_ d k)[k]?=some (.lst es):=by
 have hk:=(U3.mp h).1;unfold upTo;rw[VR (by rw[US,Vl];lia),US,Vl,Nat.min_eq_left (Yt hk),XA,U8,Xu,Zf,h]
 rfl
theorem yv {c_:List (List D)}{d:D}{k:Nat}{es:List D}(h:c_[k]?=some es):(upTo c_ d k).set k (.lst (es++[d]))=upTo c_ d (k+1):=by
 obtain⟨hk,e⟩:=U3.mp h;unfold upTo;rw[List.set_append_right _ _ (by rw[US,Vl];lia),US,Vl,Nat.min_eq_left (Yt hk),XA,VO hk,e,Vo,List.set_cons_zero,Wd,h,Vn]
 simp
theorem yw {c_:List (List D)}{d:D}{k:Nat}:(upTo c_ d k).length=c_.length:=by
 unfold upTo;rw[Vu,US,US,Vl,XF];lia
theorem wo {c_:List (List D)}{d:D}:upTo c_ d 0=c_.map D.lst:=by unfold upTo;simp
theorem yy {c_:List (List D)}{d:D}:upTo c_ d c_.length=c_.map λes=>D.lst (es++[d]):=by unfold upTo;simp
theorem set_same {α:Type}{l:List α}{k:Nat}{v:α}(h:l[k]?=some v):l.set k v=l:=by
 apply WB;intro m;rw[WU]
 split
 ·next e=>subst e;rw[if_pos (U3.mp h).1,h]
 ·rfl
section
variable {X:Cx}{C:Cfg}{i j:Nat}{x y:Str}{c:Int}{cj:Nat}{pos px py pz ap cp pe pc:Pos}
theorem w6 (hp:Zn (model X.prog X.w) X.A X.env X.xe)(hc:X.calm=true)(l_:X.N.Nodup)(aH:i≠j:=by decide)(hN:X.N[i]?=some x:=by rfl)(hM:X.N[j]?=some y:=by rfl)
  (hv:sQ X.env.scope x:=by first|exact .inl rfl|exact .inr (.inl rfl)|exact .inr (.inr rfl)) (hd:(x==("__debug__" : Str))=false:=by decide) (gG:(x==("__classdict__" : Str))=false:=by decide)
  (L7:sQ X.env.scope y:=by first|exact .inl rfl|exact .inr (.inl rfl)|exact .inr (.inr rfl)) (O8:(y==("__debug__" : Str))=false:=by decide) (O_:(y==("__classdict__" : Str))=false:=by decide)
  (hx:Loc X.env.scope y:=by first|exact .inl rfl|exact .inr rfl) (hf:X.fn y=true\/X.env.scope.names.lookup y=some .local:=by first|exact .inl rfl|exact .inr rfl|assumption)
  (hs:∀z,VG (.Name x px) X.env z=pure z:=by intro _;rfl)
  (eU:Xo (.Name y pz) "append" X.env (eval (.Name y pz) X.env)=eval (.Name y pz) X.env:=by rfl)
  (pV:((W6 cp (Ve [.Constant (.int c) cj pc] X.env)).all (λx=>!x.1)&&(ZL cp (YM [] X.env)).all (λx=>x.1.isSome)&&decide ([Expr.Constant (.int c) cj pc].length+([]:List X9).length+(if ([]:List X9).isEmpty then 0 else 1)<30))=true:=by rfl)
  (eT:(ap.endLine==cp.line)=true:=by rfl) (EY:Ve [.Constant (.int c) cj pc] X.env=(false,eval (.Constant (.int c) cj pc) X.env)::Ve [] X.env:=by rfl) (fx:(W6 cp (Ve [] X.env)).any (·.1)=false:=by rfl)
  (oB:WR (.Call (.Attribute (.Name y pz) "append" ap) [.Constant (.int c) cj pc] [] cp) none pe.line X.env=pure false:=by rfl) :
  PB X C (.For (.Name y py) (.Name x px) [.Expr (.Call (.Attribute (.Name y pz) "append" ap) [.Constant (.int c) cj pc] [] cp) pe] [] pos) (λE β=>∃c_:List (List D),β[i]?=some (some (.own (.lst (c_.map D.lst))))/\(∀es∈c_,es.length<U_)/\∀z,E.nx ((β.set i (some (.own (.lst (c_.map λes=>D.lst (es++[.int c])))))).set j z)):=by
 refine⟨λE E' β l h=>by obtain⟨c_,h1,h2,q⟩:=h;exact⟨c_,h1,h2,λz=>l.nx _ (q z)⟩,λpins s σ H De I ⟨Z,E,β,⟨own,sq,n⟩,⟨c_,hb,hl,q⟩,ok⟩=>?_⟩
 refine t7 hp hc (pH (cT (pos:=px) hN hv hd gG)) (vn l_ hM hx hf) (gq (kh (pos:=pe) (vq (apos:=ap) (cpos:=cp) PySem.F.plainAttrs_list PySem.F.slot_list_append PySem.F.type_list_append gw (cT (pos:=pz) hM L7 O8 O_) (bo a_ cU EY) eU pV eT EY fx) oB)) hs pins s σ H De I ?_;obtain⟨a,vs,A0,h1,h2,h3,h4⟩:=sq.og hb;refine⟨.ref a,h1,a,rfl,⟨vs,cP.of h2⟩,λk m σ H=>k<=c_.length/\m=c_.length-k/\σ[i]?=some (some (.ref a))/\∃z own,SQ X C.z σ H ((β.set i (some (.own (.lst (upTo c_ (.int c) k))))).set j z) own/\Sn Z H (Wn own),?_,?_⟩
 ·refine⟨_,U7 _,rfl,h1,(match β[j]? with|some z=>z|none=>none),own,?_,n⟩
  rw[wo,set_same hb];cases e:β[j]? with
  |none=>rw[List.set_eq_of_length_le (X2.mp e)];exact sq
  |some z=>rw[set_same e];exact sq
 ·rintro k m σ2 H2 ⟨hk,rfl,hσ,z,a5,s2,n2⟩;have AI:i<β.length:=(U3.mp hb).1;have Tj:((β.set i (some (.own (.lst (upTo c_ (.int c) k))))).set j z)[i]?=some (some (.own (.lst (upTo c_ (.int c) k)))):=by rw[bc (V5 aH),get_set AI]
  obtain⟨v1,EX,ow,h0⟩:=s2.ow i _ Tj;rw[hσ]at EX;cases EX
  by_cases eZ:k<c_.length
  ·right
   have Mc:c_[k]?=some c_[k]:=U6 eZ;obtain⟨a',vs',c',us,B,ea,q1,q2,q3,q4,q5,q6,q7,q8,q9⟩:=fU (l:=true) (ds:=upTo c_ (.int c) k) ow (s2.lM i) (yx Mc);cases ea;refine⟨⟨vs',.ref c',cP.of q1,q3⟩,λσ' H'=>σ'[i]?=some (some (.ref a))/\∃z own,SQ X C.z σ' H' ((β.set i (some (.own (.lst (upTo c_ (.int c) (k+1)))))).set j z) own/\Sn Z H' (Wn own),λσ' H' h=>⟨_,by lia,eZ,rfl,h⟩,λx' H3 yl=>?_⟩
   obtain⟨rfl,yl⟩:=yl;have ex:=yl vs' (cP.of q1);rw[q3]at ex;cases ex;have s3:=s2.eD (i:=j) (d:=.obj c') (v:=.ref c') (y:=true) (show az X.prog X.w _ H3 (.obj c') (.ref c') from rfl)
   have n3:Sn Z H3 (Wn (aM a5 j [])):=k9 n2;have oi:aM a5 j [] i=a5 i:=bt (V5 aH);rw[Zh]at s3;have S_:j<σ2.length:=by
    have e1:=s2.len;rw[ZE,ZE]at e1;rw[<- e1,sq.len,I.len];exact(U3.mp hM).1
   refine⟨.ref c',get_set S_,.inl ⟨rfl,us,cP.of q4⟩,c',us,.int c,rfl,rfl,q4,by rw[q6.length];exact hl _ (W9 eZ),?_⟩
   obtain⟨A',g1,g2,g3⟩:=q9 (c_[k]++[.int c]) (us++[.int c]) B (by have:=q6.append (aI.one (show Own X.prog X.w H3 (.int c) (.int c) [] from ⟨rfl,rfl⟩));rwa [Wf]at this) q8 (λx hx=>.inl hx) (λx hx=>(q7 x hx).2)
   have Pb:((β.set i (some (.own (.lst (upTo c_ (.int c) k))))).set j (some (.val true (.obj c'))))[i]?=some (some (.own (.lst (upTo c_ (.int c) k)))):=by rw[bc (V5 aH),get_set AI]
   have hA:∀x∈A',x∈aM a5 j [] i\/(C.H0 x=none/\¬ Wn (aM a5 j []) x/\(λ_=>False) x):=λx hx=>.inl (by rw[oi];exact(g3 x hx).elim id λz=>(q7 x z).1)
   have s4:=bR.putIn (U:=λ_=>False) (C:=C) s3 Pb (by rw[bc (V5 aH)];exact hσ) (by rw[oi];exact q5) g1 g2 hA
   refine⟨by rw[bc (V5 aH)];exact hσ,some (.val true (.obj c')),_,?_,k8 (C:=C) n3 (λb z=>z.elim) ⟨i,by rw[oi];exact q5⟩ ⟨_,q4,λxs z=>by cases z⟩ hA⟩
   have e1:Io true ((upTo c_ (.int c) k).set k (.lst (c_[k]++[.int c])))=.lst (upTo c_ (.int c) (k+1)):=by rw[yv Mc]
   rw[e1]at s4;rw[List.set_comm _ _ (V5 aH),Zh]at s4;exact s4
  ·left
   have e:k=c_.length:=by lia
   subst e;obtain⟨vs',A1,ea,e1,e2,e3⟩:∃vs' A1,H2 a=some (.lst vs')/\a5 i=a::A1/\aI X.prog X.w H2 (upTo c_ (.int c) c_.length) vs' A1/\True:=by
    obtain⟨a',vs',A1,e,g1,g2,g3⟩:=ow;cases e;exact⟨vs',A1,g1,g2,g3,trivial⟩
   refine⟨⟨vs',cP.of ea,by rw[e2.length,yw];exact UU _⟩,?_⟩
   have:=q z;rw[<- yy]at this;exact ok.nx _ _ _ ⟨a5,s2,n2⟩ this
end
end L2.Q
namespace kJ
open PySem L2 L2.Q
section
variable {P:U0}{w:Vf}{K:PySem.W.Frag}{mg:Str->Option UT}{base:Heap}
theorem qF:aS ["found","due"] ["found","due"] (aA fg):=⟨rfl,rfl,rfl,by decide +kernel,rfl,by decide +kernel,by decide +kernel⟩
def fS:Nat->FD
 |0=>λ_ _=>False
 |n+1=>fy n
theorem fS.mono:∀{n:Nat},dy (fS n)
 |0=>λ_ _ _ _ h=>h
 |_+1=>fy.mono
theorem JD {DO pX} (dM:Mw K mg DO pX) (B:Bs2 mg):∀n:Nat,aN P w K mg base b6 n DO pX ["found","due"] (dX P w true (fS n)):=by
 intro n
 induction n with
 |zero=>exact⟨λ_ _ _ _ h=>by obtain⟨_,_,h⟩:=h;exact h.elim,λ_ _ _ _ _ _ _ _ _ _ _ _ _ h=>by obtain⟨_,_,h⟩:=h;exact h.elim⟩
 |succ n GM =>
  refine qY dM.F qF (λds R Ko=> by obtain⟨d,e,_⟩ := Ko;subst e;rfl) λcX A outer s H E hr=>⟨_,(ag (bG (fo (fR (ve B.EU (eE (i:=1)) B.list iS B.tuple sL))) (ag (bG (uW.t (pF (gu (fo (fR (ve B.EU (eE (i:=0)) B.list iS B.tuple sL)))) (ki (aK af (bS.m (jj hr.units)) (fR (gn B.EU (eE (i:=0)) B.list iS)) (fR (gn B.EU (eE (i:=1)) B.list iS)))))) (ak (aZ lF)) aP)
    (ag (bG (aK af (bS.m (jj hr.units)) (bU af (cG.m oQ) B.len Bo (aa (ab (i:=0)) ae)) (bU af (cG.m oQ) B.len Bo (aa (ab (i:=1)) ae))) (ak (aZ lF)) aP)
    (ak (aZ (lE af (bS.m (cC hr.units)) (L1 ["one","other"] [none,none] (by rfl) (by decide:(["one","other"]:List Str).Nodup) rfl (Cu (Co B.zip (qL (eE (i:=0)) (qL (eE (i:=1)) Cp)))) (λ_ _ _ _ _ _=>(cK (n:=2) rfl (aJ (ao (i:=0) (by decide:(["one","other"]:List Str).Nodup)) (aJ (ao (i:=1) (by decide:(["one","other"]:List Str).Nodup)) bV)))) (λ_ _ _ _ _ _=>(kT (gu (fo (aT fS.mono GM (hr.mono (by lia)) dM.m dM.F.kp dM.b (aa (ab (i:=0)) (aa (ab (i:=1)) ae))))))) (λ_ _ _ _ _ _=>ah)) (bh ae)))))) aP)
    (ag (bG (fo (fR (gn B.EU (eE (i:=1)) B.str Bn))) (ak (aZ (ua (fR (gn B.EU (eE (i:=0)) B.str Bn)) (zv (lE af (bS.m (cC hr.units)) (ab (i:=0)) (ab (i:=1))))))) aP)
    (ag (bG (aK af (bS.m pL) (ab (i:=1)) lD) (ak (aZ (lE af (bS.m pL) (ab (i:=0)) lD))) aP)
    (ak (aZ (ua (fR (gn B.EU (eE (i:=0)) B.int uV)) (ua (F7 (fR (gn B.EU (eE (i:=0)) B.bool Ef))) (zv (lE af (bS.m (cC hr.units)) (ab (i:=0)) (ab (i:=1))))))))))),λds R h=>?_⟩
  obtain⟨d,rfl,hl,q⟩:=h;cases hl with
  |leaf hl =>
   cases hl with
   |int i =>
    refine⟨_,rfl,_,_,rfl,Dl,rfl,_,rfl,gy rfl ⟨_,rfl,_,_,rfl,kit_is,rfl,_,rfl,gy rfl ⟨_,rfl,trivial,_,rfl,_,rfl,gy rfl ?_⟩⟩⟩;exact⟨_,rfl,_,_,rfl,GU,rfl,_,rfl,s9 rfl ⟨_,rfl,_,_,rfl,GV,rfl,_,rfl,_,rfl,s9 rfl ⟨_,rfl,trivial,_,rfl,_,iP (bL i),trivial,q⟩⟩⟩
   |str x hx =>
    refine⟨_,rfl,_,_,rfl,Dj,rfl,_,rfl,gy rfl ⟨_,rfl,_,_,rfl,Ag,rfl,_,rfl,s9 rfl ?_⟩⟩;exact⟨_,rfl,_,_,rfl,Ag,rfl,_,rfl,s9 rfl ⟨_,rfl,trivial,_,rfl,_,iP (wA x hx),trivial,q⟩⟩
   |bK =>
    refine⟨_,rfl,_,_,rfl,Dk,rfl,_,rfl,gy rfl ⟨_,rfl,_,_,rfl,GS,rfl,_,rfl,gy rfl ⟨_,rfl,trivial,_,rfl,_,rfl,s9 rfl ?_⟩⟩⟩;exact⟨_,rfl,trivial,_,rfl,trivial,q⟩
  | @tup _ es l hl =>
   refine⟨_,rfl,_,_,rfl,vD,rfl,_,rfl,s9 rfl ?_⟩;refine⟨_,rfl,_,_,rfl,vD,rfl,_,rfl,gy rfl ⟨_,rfl,_,_,rfl,Ae,rfl,trivial,_,rfl,_,_,rfl,Ae,rfl,_,dP (qA false),_,rfl,gy rfl ?_⟩⟩;refine⟨_,rfl,trivial,_,rfl,trivial,_,rfl,trivial,_,rfl,_,dP (bL _),_,rfl,gy rfl ?_⟩;refine⟨_,rfl,_,rfl,es,es,.inr rfl,trivial,?_⟩;refine⟨λi β o=>o=[]/\∃x0 x1,β=[x0,x1],⟨rfl,_,_,rfl⟩,?_,?_⟩
   ·rintro i d β o hd ⟨rfl,x0,x1,rfl⟩;obtain⟨a,ha,rfl⟩:=nF (VJ hd);have vJ:=hl a ha;have hb:=vJ
    clear ha hd
    cases hb with
    |leaf h=>cases h <;> exact⟨_,rfl,rfl,_,_,rfl,_,_,rfl,rfl,_,rfl,trivial,_,rfl,trivial,_,rfl,vJ,_,rfl,gy rfl ⟨rfl,_,_,rfl⟩⟩
    |tup=>exact⟨_,rfl,rfl,_,_,rfl,_,_,rfl,rfl,_,rfl,trivial,_,rfl,trivial,_,rfl,vJ,_,rfl,gy rfl ⟨rfl,_,_,rfl⟩⟩
    |lst=>exact⟨_,rfl,rfl,_,_,rfl,_,_,rfl,rfl,_,rfl,trivial,_,rfl,trivial,_,rfl,vJ,_,rfl,gy rfl ⟨rfl,_,_,rfl⟩⟩
   ·rintro β o ⟨rfl,x0,x1,rfl⟩;exact⟨trivial,trivial,U7 _,_,iP (fb []),trivial,q⟩
  | @lst _ es l hl =>
   refine⟨_,rfl,_,_,rfl,vE,rfl,_,rfl,s9 rfl ?_⟩;refine⟨_,rfl,_,_,rfl,vE,rfl,_,rfl,gy rfl ⟨_,rfl,_,_,rfl,Ah,rfl,trivial,_,rfl,_,_,rfl,Ah,rfl,_,dP (qA true),_,rfl,gy rfl ?_⟩⟩;refine⟨_,rfl,trivial,_,rfl,trivial,_,rfl,trivial,_,rfl,_,dP (bL _),_,rfl,gy rfl ?_⟩;refine⟨_,rfl,_,rfl,es,es,.inl rfl,trivial,?_⟩;refine⟨λi β o=>o=[]/\∃x0 x1,β=[x0,x1],⟨rfl,_,_,rfl⟩,?_,?_⟩
   ·rintro i d β o hd ⟨rfl,x0,x1,rfl⟩;obtain⟨a,ha,rfl⟩:=nF (VJ hd);have vJ:=hl a ha;have hb:=vJ
    clear ha hd
    cases hb with
    |leaf h=>cases h <;> exact⟨_,rfl,rfl,_,_,rfl,_,_,rfl,rfl,_,rfl,trivial,_,rfl,trivial,_,rfl,vJ,_,rfl,gy rfl ⟨rfl,_,_,rfl⟩⟩
    |tup=>exact⟨_,rfl,rfl,_,_,rfl,_,_,rfl,rfl,_,rfl,trivial,_,rfl,trivial,_,rfl,vJ,_,rfl,gy rfl ⟨rfl,_,_,rfl⟩⟩
    |lst=>exact⟨_,rfl,rfl,_,_,rfl,_,_,rfl,rfl,_,rfl,trivial,_,rfl,trivial,_,rfl,vJ,_,rfl,gy rfl ⟨rfl,_,_,rfl⟩⟩
   ·rintro β o ⟨rfl,x0,x1,rfl⟩;exact⟨trivial,trivial,U7 _,_,iP (fb []),trivial,q⟩
theorem vt {DO pX} (dM:Mw K mg DO pX) (B:Bs2 mg) (n:Nat):aN P w K mg base b6 (n+1) DO pX ["found","due"] (dX P w true (fy n)):=JD dM B (n+1)
theorem m_:aS ["row"] ["row"] (aA dq):=⟨rfl,rfl,rfl,by decide +kernel,rfl,by decide +kernel,by decide +kernel⟩
theorem nY {xG oK} (yh:P9 K mg xG oK) (B:Bs mg):aN P w K mg base b6 1 xG oK ["row"] (dX P w true mB):=by
 refine qY yh.F m_ (λds R Kn=> by obtain⟨n,ps,e,_⟩ := Kn;subst e;rfl) λcX A outer s H E hr=>⟨_,(ak (aZ (bf (aa (aG af a9 (ab (i:=0)) ah) (aa (ji aF sJ B.list iS (aa (aG af a9 (ab (i:=0)) ah) ae)) ae))))),λds R h=>?_⟩
 obtain⟨n,ps,rfl,q⟩:=h;exact⟨_,rfl,trivial,_,rfl,trivial,_,rfl,trivial,_,rfl,.inr ⟨trivial,_,rfl,.inl ⟨mm,trivial,i4,trivial,q⟩⟩⟩
def r9:FD:=λds R=>∃(n:Nat) (ps:List (Nat×Nat)),ds=[fk n ps,bH n (jL ps)]/\yj n ps/\n<=40/\R (.bl true)
theorem Ca {es:List D}{d:D}:PH (.lst (es++[d])) none (some (-1))=some (.lst es):=by
 show some (D.lst (((es++[d]).drop 0).take ((if (-1:Int)<0 then ((-1:Int)+((es++[d]).length:Int)).toNat else min (-1:Int).toNat (es++[d]).length)-0)))=_
 rw[if_pos (by decide),Vu,show ((-1:Int)+((es.length+[d].length:Nat):Int)).toNat-0=es.length by rw[WQ];lia,ZQ,List.take_left]
theorem wF {α β:Type}{l:List α}{m:α->List β}{f:α->β->Int}:(D.lst (l.map λa=>D.lst ((m a).map λb=>D.int (f a b)))).pd.canLay0=true/\(D.lst (l.map λa=>D.lst ((m a).map λb=>D.int (f a b)))).pd.depth<=3:=gg λd hd=>by
 obtain⟨a,_,rfl⟩:=Vx.mp hd;exact gg λd hd=>by
  obtain⟨b,_,rfl⟩:=Vx.mp hd;exact bL _
theorem r9.mono:dy r9:=λds R R' k h=>by obtain⟨n,ps,e,h1,h2,q⟩:=h;exact⟨n,ps,e,h1,h2,k _ q⟩
theorem aU:aS ["row","table","many","due","handed","again","found","line"] ["row","table"] (aA bO):=⟨rfl,rfl,rfl,by decide +kernel,rfl,by decide +kernel,by decide +kernel⟩
theorem CO {DK vL} (IE:Rm K mg DK vL) {xG oK} (yh:P9 K mg xG oK) {DO pX} (dM:Mw K mg DO pX) {rW jS} (vW:MA K mg rW jS) {nu gI} (uR:D8 K mg nu gI) {iL ee} (ny:D5 K mg iL ee) {j6 fD} (uP:D4 K mg j6 fD) {j7 fE} (uQ:D7 K mg j7 fE) {fI cS} (j8:D6 K mg fI cS) {nr gH} (sA:D9 K mg nr gH) (B:ym mg):aN P w K mg base b6 5 DK vL ["row","table"] (dX P w true r9):=by
 have P4:aN P w K mg base b6 4 _ _ _ (dX P w true gU):= qX vW uR ny uP uQ j8 sA B;have P8:aN P w K mg base b6 1 _ _ _ (dX P w true mB):=nY yh B.toBs;have GM:aN P w K mg base b6 3 _ _ _ (dX P w true (fy 2)):=vt dM B.toBs2 2;refine qY IE.F aU (λds R Km=> by obtain⟨n,ps,e,_⟩ := Km;subst e;rfl) λcX A outer s H E hr=>⟨_,(ag (a8 (i:=2) (aG af a9 (ab (i:=0)) ah) aU.nd)
    (ag (M7 (i:=3) "begin" false ["begin","table","many"] [none,some 1,some 2] (by rfl) (by decide:(["begin","table","many"]:List Str).Nodup) rfl (λ_=>(a7 B.range (aa (aE aF au (ab (i:=2)) ah) ae))) (λ_ _ _ _ _ _=>(ao (i:=0) (by decide:(["begin","table","many"]:List Str).Nodup))) (λ_ _ _ _ _ _=>dc) (λ_ _ _ _ _ _=>(So ["end","table","begin"] [none,some 1,some 0] (by rfl) (by decide:(["end","table","begin"]:List Str).Nodup) rfl (fq B.range (aa (ab (i:=0)) (aa (aE aF au (ab (i:=2)) ah) ae))) (λ_ _ _ _ _ _=>(ao (i:=0) (by decide:(["end","table","begin"]:List Str).Nodup))) (λ_ _ _ _ _ _=>dc) (λ_ _ _ _ _ _=>(aG af a9 (aG af a9 (aG af a9 (ab (i:=1)) (ab (i:=2))) (ab (i:=0))) ah)))) aU.nd)
    (ag (a8 (i:=4) (aT mB.mono P8 (hr.mono (by decide)) yh.m yh.F.kp yh.b (aa (ab (i:=0)) ae)) aU.nd)
    (ag (cm VI rfl (a7 B.range (aa ah ae)) (ao (i:=5) aU.nd) (ag (cM (i:=6) (λ_=>(aT gU.mono P4 (hr.mono (by decide)) vW.m vW.F.kp vW.b (aa (ab (i:=4)) ae))) aU.nd)
    (ag (bG (uW.t (pF (gu (fo (aT fy.mono GM (hr.mono (by decide)) dM.m dM.F.kp dM.b (aa (ab (i:=6)) (aa (ab (i:=3)) ae))))) (ki (aK af (bS.m (jj hr.units)) (ab (i:=4)) (ab (i:=0)))))) (ak (aZ lF)) aP)
    (ag (w6 (i:=6) (j:=7) VI rfl aU.nd)
    (ak (bG (aK af (bS.m (jj hr.units)) (L1 ["line"] [none] (by rfl) (by decide:(["line"]:List Str).Nodup) rfl (bJ (t_ (i:=6))) (λ_ _ _ _ _ _=>(ao (i:=0) (by decide:(["line"]:List Str).Nodup))) (λ_ _ _ _ _ _=>dc) (λ_ _ _ _ _ _=>(Ez (ab (i:=0)) qP (qO (qR ic ah))))) (ab (i:=3))) (ak (aZ lF)) aP))))))
    (ak (aZ lF)))))),λds R h=>?_⟩
 obtain⟨n,ps,rfl,ok,hn,q⟩:=h;refine⟨_,rfl,trivial,_,rfl,?_⟩;refine⟨_,rfl,trivial,_,rfl,trivial,(n:Int)+1,rfl,by lia,by lia,trivial,?_⟩
 rw[show ((n:Int)+1).toNat=n+1 by lia]
 have l9:∀x:Nat,x<=n->mV (bH n (jL ps)) (.int (x:Int))=some (.lst ((UZ (n+1)).map λy=>jL ps x y)):=λx hx=>eS rfl (a6 (by lia))
 have BI:∀x y:Nat,y<=n->mV (.lst ((UZ (n+1)).map λy=>jL ps x y)) (.int (y:Int))=some (.tup [.int (mX ps x y),.int (cL ps x y:Int)]):=λx y hy=>eS rfl (by rw[a6 (by lia)];rfl)
 refine⟨λa β o=>a<=n+1/\(∃x0,β=[x0,some (.val false (bH n (jL ps))),some (.val true (.int n))])/\o=(UZ a).map λb=>D.lst ((UZ (n+1-b)).map λr=>.int (tW ps w1 r b)),⟨U7 _,⟨_,rfl⟩,rfl⟩,?_,?_⟩
 ·rintro b d β o hd ⟨hb,⟨x0,rfl⟩,rfl⟩;obtain⟨me,rfl⟩:=bF hd;rw[Int.zero_add];refine⟨_,rfl,trivial,_,rfl,trivial,_,rfl,trivial,(b:Int),(n:Int)+1,rfl,⟨by lia,by lia,by lia,by lia⟩,trivial,?_⟩
  rw[show ((n:Int)+1-(b:Int)).toNat=n+1-b by lia]
  refine fX (λ_=>true) (λr=>.int (tW ps w1 r b)) trivial (by rw[Vm];exact dW (by lia)) (λr hr y0 o J ho h1 _=>?_) ?_
  ·have Ux:=V8.mp hr;rw[show (b:Int)+(r:Int)=((b+r:Nat):Int) by lia]
   have em:mX ps b (b+r)=tW ps w1 r b:=by unfold mX;rw[show b+r-b=r by lia]
   rw[<- em]at h1;exact⟨_,rfl,trivial,_,rfl,_,l9 b (by lia),.inr ⟨trivial,_,rfl,_,BI b (b+r) (by lia),trivial,_,rfl,trivial,ho,h1 rfl _⟩⟩
  rw[b5];exact⟨trivial,by rw[US,Vm];exact fM (by lia),me,⟨_,rfl⟩,by rw[XJ,Vn];rfl⟩
 ·rintro β o ⟨_,⟨x0,rfl⟩,rfl⟩;rw[cv];refine⟨trivial,?_⟩;obtain⟨c_,DD⟩:∃c_:List (List D),c_=(UZ (n+1)).map λi=>(UZ (n+1-i)).map λl=>D.int (tW ps w1 l i):=⟨_,rfl⟩;have eF:dJ n (tW ps w1)=.lst (c_.map D.lst):=by rw[DD,Wg];rfl
  have gS:∀es∈c_,es.length<U_:=λes h=>by
   rw[DD]at h;obtain⟨i,hi,rfl⟩:=Vx.mp h;rw[US,Vm];exact fM (by lia)
  have Te:∀es∈c_,D.bY es=true:=λes h=>by
   rw[DD]at h;obtain⟨i,hi,rfl⟩:=Vx.mp h;exact jv
  have UJ:c_.length=n+1:=by rw[DD,US,Vm]
  have BH:(dJ n (tW ps w1)).pd.canLay0=true/\(dJ n (tW ps w1)).pd.depth<=3:=wF;refine⟨_,rfl,trivial,n,ps,rfl,trivial,2,rfl,by decide,by decide,trivial,?_⟩
  refine⟨λ_ β=>∃x5 x6 x7,β=[some (.val false (fk n ps)),some (.val false (bH n (jL ps))),some (.val true (.int n)),some (.val true (dJ n (tW ps w1))),some (.val true (fk n ps)),x5,x6,x7],⟨_,_,_,rfl⟩,?_,?_⟩
  ·rintro k d β hd ⟨x5,x6,x7,rfl⟩;obtain⟨_,rfl⟩:=bF hd;refine⟨_,rfl,trivial,n,ps,rfl,ok,trivial,?_⟩;refine⟨_,rfl,trivial,_,rfl,trivial,dJ n (tW ps w1),rfl,?_,_,rfl,gy rfl ⟨_,rfl,trivial,_,rfl,_,dP (qz n ps),_,rfl,gy rfl ?_⟩⟩
   ·exact .lst (by rw[US,Vm];lia) λx hx=>by
     obtain⟨i,hi,rfl⟩:=Vx.mp hx;exact .lst (by unfold o9;rw[US,Vm];show n+1-i<=1000;lia) λy hy=>by
      obtain⟨l,hl,rfl⟩:=Vx.mp hy;exact .int
   ·refine⟨c_,congrArg (λd=>some (some (Q.B.own d))) eF,gS,λz=>?_⟩;refine⟨_,rfl,_,rfl,trivial,?_⟩;refine fX (λ_=>true) (λes=>.lst es) trivial (dW (by lia)) (λes Mc y0 o J ho h1 _=>?_) ?_
    ·exact⟨_,rfl,_,rfl,rfl,_,rfl,_,Ca,.inl ⟨Te es Mc,trivial,ho,h1 rfl _⟩⟩
    rw[b5,<- eF];exact⟨trivial,_,rfl,_,dP BH,_,rfl,gy rfl ⟨_,_,_,rfl⟩⟩
  ·rintro β ⟨x5,x6,x7,rfl⟩;exact⟨trivial,q⟩
end
section
variable {P:U0}{w:Vf}{K:PySem.W.Frag}{mg:Str->Option UT}{base:Heap}
theorem FQ {ps:List (Nat×Nat)}(h:sR (ps.map tI))(nd:ps.Nodup):ps.Pairwise λp q=>p.1<q.1\/(p.1=q.1/\p.2<q.2):=by
 have h1:=WA.mp h;refine(h1.and nd).imp λ{p q} hh=>?_;obtain⟨z,ne⟩:=hh;have z:(if (q.1:Int)=p.1 then (if (q.2:Int)=p.2 then HT.lexLt [] [] else decide ((q.2:Int)<p.2)) else decide ((q.1:Int)<p.1))=false:=z
 by_cases e1:(q.1:Int)=p.1
 ·rw[if_pos e1]at z
  by_cases e2:(q.2:Int)=p.2
  ·exact absurd (Prod.ext (by lia) (by lia)) ne
  ·rw[if_neg e2]at z;have:=of_decide_eq_false z;lia
 ·rw[if_neg e1]at z;have:=of_decide_eq_false z;lia
theorem cB:aS ["script","cell","hand","row","many","table","handed","some","k","begin","end","due","again","found"] ["script"] (aA lx):=⟨rfl,rfl,rfl,by decide +kernel,rfl,by decide +kernel,by decide +kernel⟩
def yR (K:PySem.W.Frag):Sp:=λvs H Q _=>∃(a:Addr) (ns:List Int),vs=[.ref a]/\cP K H a (ns.map V.int)/\ns.length<=63/\∀H',Q (.bl true) H'
def JL (β:Q.bg):Prop:=∃y0 y1 y2 y3 y4 y5 y6 y7 y8 y9 IM MG MF ME:Option Q.B,β=[y0,y1,y2,y3,y4,y5,y6,y7,y8,y9,IM,MG,MF,ME]
theorem Gq {f:Addr} {fd:VL} (F:BO K "law" "law" lx f fd) (B:ym mg) {DM vN} (IG:Rq K mg DM vN) {rW jS} (vW:MA K mg rW jS) {nu gI} (uR:D8 K mg nu gI) {iL ee} (ny:D5 K mg iL ee) {j6 fD} (uP:D4 K mg j6 fD) {j7 fE} (uQ:D7 K mg j7 fE) {fI cS} (j8:D6 K mg fI cS) {nr gH} (sA:D9 K mg nr gH) {xF oJ} (Fd:P_ K mg xF oJ) {rY jU} (BK:My K mg rY jU) {rX jT} (BJ:Mz K mg rX jT) {Tz Pr} (dH:Ui K mg Tz Pr) {HL uK} (dT:D1 K mg HL uK) {E9 rV} (dA:D0 K mg E9 rV) {IB xE} (dI:D2 K mg IB xE) {Mk DJ} (dR:D3 K mg Mk DJ) {DO pX} (dM:Mw K mg DO pX) {DL vM} (IF:Ro K mg DL vM) {DP vO} (xK:Rn K mg DP vO) {xG oK} (yh:P9 K mg xG oK) {DK vL} (IE:Rm K mg DK vL):aN P w K mg base b6 45 f fd ["script"] (yR K):=by
 have GH:aN P w K mg base b6 1 _ _ _ (dX P w true sd):=HF (CS dH.F ⟨B.max,B.min,B.int⟩);have GT:aN P w K mg base b6 1 _ _ _ (i8 P w hV true cF):=o8 (km dT.F);have GR:aN P w K mg base b6 4 _ _ _ (i8 P w hV true AW):=Gp dR dT dA dI B.toBs;have T8:aN P w K mg base b6 1 _ _ _ (dX P w true r_):=CP IF B;have T7:aN P w K mg base b6 5 _ _ _ (dX P w true r9):=CO IE yh dM vW uR ny uP uQ j8 sA B;have P8:aN P w K mg base b6 1 _ _ _ (dX P w true mB):=nY yh B.toBs;have Mv:aN P w K mg base b6 41 _ _ _ (dX P w true (jV 40)):=CU xK B.toBs2 40;have Ub:aN P w K mg base b6 5 _ _ _ (dX P w true iM):=w9 IG vW uR ny uP uQ j8 sA Fd BK BJ B;have GM:aN P w K mg base b6 4 _ _ _ (dX P w true (fy 3)):=vt dM B.toBs2 3;refine F.ok cB (λvs H Q E h=>?_) (λcX A outer s H vs Qk E hr h=>?_)
 ·obtain⟨a,ns,rfl,_⟩:=h;rfl
 ·obtain⟨a,ns,rfl,hS,hlen,k⟩:=h;have O0:∀b:Addr,¬ (λ_=>False) b:=λb z=>z;obtain⟨ψ,hb,hψ⟩:∃ψ,Q.tu (nz b6 P w K mg base _ "law" (aA lx) f cX A outer s H E).EH ⟨H,λ_=>False,true,λ_=>False⟩ (match (eC lx)with | .For _ _ b _ _::_=>b|_=>[]) ψ /\
    ∀(c:Int) (x0 x2 x3 x4 x5 x6 x7 x8 x9 h7 kL iY j9:Option Q.B),ψ {nx:=JL,rt:=λd _=>d=.bl true,bk:=JL,ct:=JL} [x0,some (.val true (.int c)),x2,x3,x4,x5,x6,x7,x8,x9,h7,kL,iY,j9]:=by
   refine⟨_,(ag (CC (i:=2) hV O0 (λ_=>(aT sd.mono GH (hr.mono (by decide)) dH.m dH.F.kp dH.b (aa (ab (i:=1)) ae))) cB.nd)
    (ag (a8 (i:=3) (bA (ih:=2) AW.mono GR (hr.mono (by decide)) dR.m dR.F.kp dR.b ae) cB.nd)
    (ag (a8 (i:=4) (aG af a9 (ab (i:=3)) ah) cB.nd)
    (ag (a8 (i:=5) (aT r_.mono T8 (hr.mono (by decide)) IF.m IF.F.kp IF.b (aa (ab (i:=3)) ae)) cB.nd)
    (ag (bG (gu (fo (aT r9.mono T7 (hr.mono (by decide)) IE.m IE.F.kp IE.b (aa (ab (i:=3)) (aa (ab (i:=5)) ae))))) (ak (aZ lF)) aP)
    (ag (a8 (i:=6) (aT mB.mono P8 (hr.mono (by decide)) yh.m yh.F.kp yh.b (aa (ab (i:=3)) ae)) cB.nd)
    (ag (cM (i:=7) (λ_=>(bh (aa (bf (aa ah (aa (ab (i:=4)) ae))) (aa (bf (aa (ab (i:=4)) (aa (ab (i:=4)) ae))) (aa (bf (aa ah (aa ah ae))) ae))))) cB.nd)
    (ag (cm VI rfl (a7 B.range (aa ah ae)) (ao (i:=8) cB.nd) (ag (a8 (i:=9) (bA (ih:=2) cF.mono GT (hr.mono (by decide)) dT.m dT.F.kp dT.b (aa (aE aF au (ab (i:=4)) ah) ae)) cB.nd)
    (ak (cE (i:=7) (λ_=>(bf (aa (ab (i:=9)) (aa (aE aF au (ab (i:=9)) (bA (ih:=2) cF.mono GT (hr.mono (by decide)) dT.m dT.F.kp dT.b (aa (aE af (bS.m bu) (aE aF au (ab (i:=4)) ah) (ab (i:=9))) ae))) ae))))))))
    (ak (cm VI rfl (bJ (t_ (i:=7))) (cK (n:=2) rfl (aJ (ao (i:=9) cB.nd) (aJ (ao (i:=10) cB.nd) bV))) (ag (a8 (i:=11) (bf (aa (aG af a9 (aG af a9 (aG af a9 (ab (i:=5)) (ab (i:=9))) (ab (i:=10))) ah) (aa (aT jV.mono Mv (hr.mono (by decide)) xK.m xK.F.kp xK.b (aa (ab (i:=3)) (aa (ab (i:=5)) (aa (ab (i:=9)) (aa (ab (i:=10)) ae))))) ae))) cB.nd)
    (ak (cm VI rfl (a7 B.range (aa ah ae)) (ao (i:=12) cB.nd) (ag (cM (i:=13) (λ_=>(aT iM.mono Ub (hr.mono (by decide)) IG.m IG.F.kp IG.b (aa (ab (i:=6)) (aa (ab (i:=9)) (aa (ab (i:=10)) ae))))) cB.nd)
    (ag (bG (uW.t (pF (gu (fo (aT fy.mono GM (hr.mono (by decide)) dM.m dM.F.kp dM.b (aa (ab (i:=13)) (aa (ab (i:=11)) ae))))) (ki (aK af (bS.m (jj hr.units)) (ab (i:=6)) (ab (i:=3)))))) (ak (aZ lF)) aP)
    (ak (d4 (i:=13) false (λ_=>(bf (aa ah (aa ah ae)))) (λ_=>ah)))))))))))))))))),λc x0 x2 x3 x4 x5 x6 x7 x8 x9 h7 kL iY j9=>?_⟩
   refine⟨_,rfl,trivial,c,rfl,λns hk=>⟨trivial,(by show 2<14;decide),ns,rfl,hk,?_⟩⟩
   refine⟨rfl,rfl,trivial,rfl,λn ts n0 n1 dr=>?_⟩;obtain⟨hl,tr,sr,nd⟩:=dr;obtain⟨m,ps,ok,en,TC,er⟩:=Cj n0 (by lia) (by lia) tr nd
   rw[er];rw[TC]at sr;have hs:=FQ sr ok.nd;have hm:m<=40:=by lia
   have hp:∀p∈ps,p.1<p.2:=λp hp=>(ok.lt p hp).1;have l9:∀x:Nat,x<=m->mV (bH m (jL ps)) (.int (x:Int))=some (.lst ((UZ (m+1)).map λy=>jL ps x y)):=λx hx=>eS rfl (a6 (by lia))
   have BI:∀x y:Nat,y<=m->mV (.lst ((UZ (m+1)).map λy=>jL ps x y)) (.int (y:Int))=some (.tup [.int (mX ps x y),.int (cL ps x y:Int)]):=λx y hy=>eS rfl (by rw[a6 (by lia)];rfl)
   refine⟨_,rfl,trivial,_,rfl,?_⟩;refine⟨_,rfl,trivial,m,ps,rfl,ok,hm,?_⟩;refine⟨_,rfl,trivial,_,rfl,trivial,m,ps,rfl,ok,hm,_,rfl,gy rfl ?_⟩;refine⟨_,rfl,trivial,m,ps,rfl,?_⟩;refine⟨trivial,_,rfl,trivial,i4,trivial,_,rfl,trivial,_,rfl,trivial,i4,trivial,trivial,trivial,i4,trivial,dW (by show 3<=1000;decide),trivial,?_⟩
   refine⟨trivial,3,rfl,by decide,by decide,trivial,?_⟩
   refine⟨λi β=>∃(ss:List (Nat×Nat)) (x8 x9:Option Q.B),β=[x0,some (.val true (.int c)),some (.hand hV),some (.val true (fk m ps)),some (.val true (.int m)),some (.val true (bH m (jL ps))),some (.val true (fk m ps)),some (.own (.lst (ss.map λp=>kD (tI p)))),x8,x9,h7,kL,iY,j9]/\(∀p∈ss,p.1<=p.2/\p.2<=m)/\ss.length<=3+i,⟨[(0,m),(m,m),(0,0)],_,_,rfl,λp hp=>by
    simp only[U1,VZ,or_false]at hp;rcases hp with rfl|rfl|rfl
    ·exact⟨U7 _,UU _⟩
    ·exact⟨UU _,UU _⟩
    ·exact⟨UU _,U7 _⟩,UU _⟩,?_,?_⟩
   ·rintro i d β hd ⟨ss,x8,x9,rfl,Oe,S5⟩;obtain⟨hi,rfl⟩:=bF hd;have UE:i<3:=hi;refine⟨rfl,_,rfl,trivial,_,rfl,trivial,rfl,trivial,(m:Int)+1,rfl,by lia,by lia,λr r0 r1=>?_⟩
    obtain⟨b,rfl⟩:∃b:Nat,r=b:=⟨r.toNat,by lia⟩
    refine⟨⟨_,rfl⟩,_,rfl,trivial,_,rfl,trivial,rfl,_,rfl,trivial,_,rfl,trivial,_,rfl,_,rfl,trivial,rfl,trivial,(m:Int)+1-(b:Int),rfl,by lia,by lia,λr' R4 Ex=>?_⟩
    obtain⟨l,rfl⟩:∃l:Nat,r'=l:=⟨r'.toNat,by lia⟩
    refine⟨_,rfl,trivial,i4,trivial,_,rfl,by rw[US];exact fM (by lia),ss++[(b,b+l)],_,_,by rw[Vn];rfl,λp hp=>?_,by rw[Vu];show _+1<=_;lia⟩
    rcases Vg.mp hp with z|z
    ·exact Oe p z
    ·rw[U9.mp z];exact⟨by show b<=b+l;lia,by show b+l<=m;lia⟩
   ·rintro β ⟨ss,x8,x9,rfl,Oe,S5⟩;refine⟨_,rfl,_,rfl,trivial,?_⟩;refine⟨λ_ β=>∃x9 h7 kL iY j9:Option Q.B,β=[x0,some (.val true (.int c)),some (.hand hV),some (.val true (fk m ps)),some (.val true (.int m)),some (.val true (bH m (jL ps))),some (.val true (fk m ps)),some (.val true (.lst (ss.map λp=>kD (tI p)))),x8,x9,h7,kL,iY,j9],⟨_,_,_,_,_,rfl⟩,?_,?_⟩
    ·rintro i d β hd ⟨x9,h7,kL,iY,j9,rfl⟩;rw[U8]at hd;obtain⟨p,rG,rfl⟩:=Vv.mp hd;obtain⟨h1,h2⟩:=Oe p (VJ rG);obtain⟨F,hF⟩:∃F,F=bQ ps w1 p.1 p.2:=⟨_,rfl⟩;have eX:mX ps p.1 p.2=(F.length:Int):=by rw[hF];exact(pW hp).symm
     have UO:F.length<=40:=by rw[hF];have:=iJ (w:=w1) hp (p.2-p.1) p.1 p.2 (UU _);lia
     have Lk:EM ps p.1 p.2=fk F.length F:=by
      show D.tup [.int (mX ps p.1 p.2),kU (bQ ps w1 p.1 p.2)]=_;rw[eX,<- hF];rfl
     have Pe:mV (.lst ((UZ (m+1)).map λy=>jL ps p.1 y)) (.int (p.2:Int))=some (.tup [.int (F.length:Int),.int (cL ps p.1 p.2:Int)]):=by rw[BI p.1 p.2 h2,eX]
     refine⟨_,rfl,rfl,_,_,rfl,_,_,rfl,rfl,?_⟩;refine⟨_,rfl,trivial,_,rfl,_,l9 p.1 (by lia),.inr ⟨trivial,_,rfl,_,Pe,trivial,_,rfl,trivial,_,rfl,trivial,_,rfl,trivial,_,rfl,trivial,_,rfl,trivial,m,ps,p.1,p.2,rfl,ok,hm,hs,h2,by lia,trivial,i4,?_⟩⟩
     rw[<- hF];refine⟨trivial,2,rfl,by decide,by decide,trivial,?_⟩
     refine⟨λ_ β=>∃iY j9:Option Q.B,β=[x0,some (.val true (.int c)),some (.hand hV),some (.val true (fk m ps)),some (.val true (.int m)),some (.val true (bH m (jL ps))),some (.val true (fk m ps)),some (.val true (.lst (ss.map λp=>kD (tI p)))),x8,some (.val true (.int p.1)),some (.val true (.int p.2)),some (.val true (fk F.length F)),iY,j9],⟨_,_,rfl⟩,?_,?_⟩
     ·rintro j d β hd ⟨iY,j9,rfl⟩;obtain⟨_,rfl⟩:=bF hd;refine⟨_,rfl,trivial,_,rfl,trivial,_,rfl,trivial,m,ps,p.1,p.2,rfl,ok,h1,h2,?_⟩;rw[Lk];refine⟨trivial,_,rfl,trivial,_,rfl,trivial,fk F.length F,rfl,Lm (by lia),_,rfl,gy rfl ⟨_,rfl,trivial,_,rfl,_,dP (qz m ps),_,rfl,gy rfl ?_⟩⟩
      exact⟨⟨_,rfl⟩,[.int F.length,kU F],1,1,_,rfl,rfl,xr (i:=1) rfl (by show 1<2;decide),rfl,trivial,trivial,i4,trivial,rfl,by rw[US];exact fM (by lia),_,_,rfl⟩
     ·rintro β ⟨iY,j9,rfl⟩;exact⟨_,_,_,_,_,rfl⟩
    ·rintro β ⟨x9,h7,kL,iY,j9,rfl⟩;exact⟨_,_,_,_,_,_,_,_,_,_,_,_,_,_,rfl⟩
  refine⟨_,dF (t7 VI rfl (pH (c7 zL (uc (bo (c7 pJ a_ a_) cU)) (qT u_ (pv 0) vi (vh a_)))) (Q.ao (C:=⟨H,λ_=>False,true,λ_=>False⟩) (i:=1) cB.nd).pg hb.ps) (gq (jg ED)),?_⟩;obtain⟨ms,em,hm⟩:=xM ns none (some 4);refine⟨_,_,rfl,rfl,zw,(by show 1<=U_;decide),λp1 KZ=>⟨_,rfl,_,rfl,a,_,rfl,(ay.new KZ).seq hS,λp2 L8=>?_⟩⟩
  have Sj:p1≠p2:=cD aw L8;refine⟨p1,p2,_,_,rfl,rfl,(by rw[ar Sj];exact aw),aw,(by rw[em,US,V2,WQ];lia),λl hl=>⟨l,rfl,⟨_,cP.of aw⟩,?_⟩⟩
  rw[em];rw[em]at hl;have sm:ay H (upd (upd (upd H p1 (.lst [V.int (10 ^ (18:Int).toNat)])) p2 (.lst (ms.map V.int))) l (.lst ([V.int (10 ^ (18:Int).toNat)]++ms.map V.int))):=((ay.new KZ).trans (ay.new (by rw[em]at *;exact L8))).trans (ay.new hl)
  have jR:(upd (upd (upd H p1 (.lst [V.int (10 ^ (18:Int).toNat)])) p2 (.lst (ms.map V.int))) l (.lst ([V.int (10 ^ (18:Int).toNat)]++ms.map V.int))) l=some (.lst (((10 ^ (18:Int).toNat)::ms).map V.int)):=aw;generalize (upd (upd (upd H p1 (.lst [V.int (10 ^ (18:Int).toNat)])) p2 (.lst (ms.map V.int))) l (.lst ([V.int (10 ^ (18:Int).toNat)]++ms.map V.int)))=H1 at sm jR ⊢
  generalize ((10 ^ (18:Int).toNat)::ms)=cs at jR;let X:Cx:=(nz b6 P w K mg base ["script","cell","hand","row","many","table","handed","some","k","begin","end","due","again","found"] "law" (aA lx) f cX A outer s H E).EH
  let C:Q.Cfg:=⟨H,λ_=>False,true,λ_=>False⟩
  have it:xZ X (λ_=>False) (Mu K l) (cs.map D.int) H1:=rC jR (λz=>z) (b_ cs);have Ip:=it (λb=>(λ_=>False) b\/H1 b=none) λb z=>z;have s':Q.bR P w C.z (L2.start ["script","cell","hand","row","many","table","handed","some","k","begin","end","due","again","found"] [.ref a]) H1 (VF 14 none) (λ_=>[]):=B9 (by rfl) sm
  generalize Tf:cs.map D.int=ds at Ip;have hint:∀d∈ds,∃c:Int,d=.int c:=λd hd=>by
   rw[<- Tf]at hd;obtain⟨c,_,rfl⟩:=Vx.mp hd;exact⟨c,rfl⟩
  refine⟨λi m σ H'=>i<=ds.length/\m=ds.length-i/\∃β,Q.SB X C (H1,Q.Wn λ_=>[]) σ H' β/\JL β,⟨_,U7 _,rfl,_,⟨_,s',Sn.refl⟩,⟨_,_,_,_,_,_,_,_,_,_,_,_,_,_,rfl⟩⟩,?_⟩;rintro i m σ2 H2 ⟨hi,rfl,β2,⟨a5,s2,n2⟩,⟨y0,y1,y2,y3,y4,y5,y6,y7,y8,y9,IM,MG,MF,ME,rfl⟩⟩;obtain⟨bP,pR⟩:=Ip i H2 (n2.k.mono λb z=>z.imp (λKl=> by obtain⟨_,q⟩ := Kl;exact(nomatch q)) id)
  by_cases eZ:i<ds.length
  ·right
   have hd:ds[i]?=some ds[i]:=U6 eZ;obtain⟨go,yl⟩:=bP _ hd;obtain⟨c,hc⟩:=hint ds[i] (W9 eZ);refine⟨go,λσ' H'=>∃β,Q.SB X C (H1,Q.Wn λ_=>[]) σ' H' β/\JL β,λσ' H' Kk=> by obtain⟨β',tX,uG⟩ := Kk;exact⟨_,by lia,eZ,rfl,β',tX,uG⟩,λx H3 y=>?_⟩
   obtain⟨s3,r3⟩:=yl x H3 y;rw[hc]at r3;refine⟨a5,_,.int c,.own,s2.same s3,az.flat rfl r3,λσ4 qV s4 w4 _=>?_⟩;exact⟨(H1,Q.Wn λ_=>[]),{nx:=JL,rt:=λd _=>d=.bl true,bk:=JL,ct:=JL},_,⟨qV,s4,Q.il (n2.same s3) w4⟩,hψ c y0 y2 y3 y4 y5 y6 y7 y8 y9 IM MG MF ME,⟨λσ5 H5 β5 wK q5=>⟨β5,wK,q5⟩,λσ5 H5 β5 d5 v5 wK r5 q5=>by
    subst q5;cases (show v5=V.bl true from Ji r5)
    exact k _,λσ5 H5 β5 wK q5=>k _,λσ5 H5 β5 wK q5=>⟨β5,wK,q5⟩⟩⟩
  ·left
   have e:i=ds.length:=by lia
   subst e;exact⟨pR (UU _),k _⟩
end
theorem jn {α:Type}{P:List α->Prop}(h:∀a,P [a]):∀us:List α,us.length=1->P us:=λus e=>by
 obtain⟨a,rfl⟩:=List.length_eq_one_iff.mp e;exact h a
theorem ur {α:Type}{P:List α->Prop}(h:∀a b,P [a,b]):∀us:List α,us.length=2->P us:=λus e=>by
 cases us with
 |nil=>cases e
 |cons a us=>exact jn (P:=λus=>P (a::us)) (h a) us (Yr e)
theorem GL {α:Type}{P:List α->Prop}(h:∀a b c,P [a,b,c]):∀us:List α,us.length=3->P us:=λus e=>by
 cases us with
 |nil=>cases e
 |cons a us=>exact ur (P:=λus=>P (a::us)) (h a) us (Yr e)
theorem JX {α:Type}{P:List α->Prop}(h:∀a b c d,P [a,b,c,d]):∀us:List α,us.length=4->P us:=λus e=>by
 cases us with
 |nil=>cases e
 |cons a us=>exact GL (P:=λus=>P (a::us)) (h a) us (Yr e)
theorem Dg {α:Type}{P:List α->Prop}(h:∀a b c d e,P [a,b,c,d,e]):∀us:List α,us.length=5->P us:=λus e=>by
 cases us with
 |nil=>cases e
 |cons a us=>exact JX (P:=λus=>P (a::us)) (h a) us (Yr e)
abbrev vS (x:Str)(t:Nat):UT:=.str x t
abbrev kE (P:Params)(x:Str)(t:Nat)(v:UT):DictEntry:=⟨PyData.keyHash P x,.str x t,v⟩
abbrev kC (n:Str)(t l p r8 Sw R1:Nat)(Rx Rw Rv:UT)(RZ Sv RI:Nat):Obj:={cls:=.type "code",data:=.fields #[vS n t,vS n (t+1),vS "/claim/cut.py" (t+2),.int l 0,.int p 0,.int 0 0,.int 0 0,.int 3 0,.ref r8,.bool true,.int Sw 0,.ref R1,Rx,Rw,Rv,.ref RZ,.int Sv 0,.int l 0,vS "/claim/cut.py" RI]}
abbrev L3 (st:Stmt)(x m:Str)(t c:Nat):VL:=PySem.W.fnOf x x (kA st) (eC st) (aA st) .none .none .none (vS m t) none (.ref c) .none
abbrev kF (st:Stmt)(x m:Str)(t c:Nat):Obj:={cls:=.type "function",data:=.func (L3 st x m t c)}
theorem AR {K:PySem.W.Frag}{x m:Str}{st:Stmt}{t c f:Nat}(l:K.lookup f=some (kF st x m t c))(cd:PySem.W.codeIn K (.ref c) x=true)(k:PySem.W.keepIn K (.ref f)=true):BO K x x st f (L3 st x m t c):=HI l cd k
theorem cz {K:PySem.W.Frag}{h:Heap}{mg:Str->Option UT}{x m:Str}{st:Stmt}{t c f:Nat}{ps:List Str}(X:K.In h)(G:h.Ns WT mg)(l:K.lookup f=some (kF st x m t c))(cd:PySem.W.codeIn K (.ref c) x=true)(k:PySem.W.keepIn K (.ref f)=true)
  (a:PySem.W.nsIn K WT x=some (some (.ref f))) (b:∀us:List UT,us.length=ps.length->bindArgs (L3 st x m t c) ⟨us,[]⟩=pure (ps.zip us)):Df K mg x st ps f (L3 st x m t c):=⟨AR l cd k,.all b,PySem.W.mg_of X G a⟩
def KK:Params->PySem.W.Frag:=λP=>[(3,{cls:=.type "dict",data:=.dict #[kE P "__name__" 165 (vS "law_archrow_k07_stretches_and_tables" 317),kE P "__doc__" 166 .none,kE P "__package__" 167 .none,kE P "__loader__" 168 (.builtin "__main__.__loader__#opaque"),kE P "__spec__" 169 .none,kE P "__annotations__" 170 (.ref 6),kE P "__builtins__" 171 (.ref 4),kE P "__file__" 173 (vS "/claim/cut.py" 172),kE P "__cached__" 174 .none,kE P "ArchError" 206 (.ref 24),kE P "NoStretch" 222 (.ref 37),kE P "stretches_rising" 230 (.ref 44),kE P "partners_of" 236 (.ref 49),kE P "parts_left" 245 (.ref 56),kE P "greatest_table" 251 (.ref 61),kE P "number_with" 262 (.ref 68),kE P "least_number" 268 (.ref 73),kE P "best_choices" 274 (.ref 78),kE P "first_greatest" 291 (.ref 85),kE P "most_of" 303 (.ref 92),kE P "table_of" 310 (.ref 99),kE P "one_each" 316 (.ref 104),kE P "_law_hand" 325 (.ref 111),kE P "_law_take" 334 (.ref 118),kE P "_law_arcs" 346 (.ref 125),kE P "_law_ties" 352 (.ref 130),kE P "_law_row" 360 (.ref 137),kE P "_law_same" 366 (.ref 142),kE P "_law_table" 372 (.ref 147),kE P "_law_first" 386 (.ref 154),kE P "_law_copied" 393 (.ref 161),kE P "_law_table_right" 399 (.ref 166),kE P "law" 419 (.ref 173)] 33}),
 (43,kC "stretches_rising" 225 7 1 40 181 41 .none .none .none 42 228 229),
 (44,kF bI "stretches_rising" "archrow.stretches" 223 43),
 (48,kC "partners_of" 231 9 1 45 181 46 .none .none .none 47 234 235),
 (49,kF cY "partners_of" "archrow.stretches" 223 48),
 (55,kC "parts_left" 237 15 3 50 181 51 .none (.ref 52) (.ref 53) 54 243 244),
 (56,kF dk "parts_left" "archrow.stretches" 223 55),
 (60,kC "greatest_table" 246 19 2 57 181 58 .none .none .none 59 249 250),
 (61,kF b8 "greatest_table" "archrow.stretches" 223 60),
 (67,kC "number_with" 252 26 5 62 181 63 .none (.ref 64) (.ref 65) 66 260 261),
 (68,kF cZ "number_with" "archrow.stretches" 223 67),
 (72,kC "least_number" 263 28 5 69 181 70 .none .none .none 71 266 267),
 (73,kF cI "least_number" "archrow.stretches" 223 72),
 (77,kC "best_choices" 269 31 5 74 181 75 .none .none .none 76 272 273),
 (78,kF cJ "best_choices" "archrow.stretches" 223 77),
 (84,kC "first_greatest" 275 37 5 79 181 80 .none (.ref 81) (.ref 82) 83 289 290),
 (85,kF b9 "first_greatest" "archrow.stretches" 223 84),
 (91,kC "most_of" 294 50 3 86 181 87 .none (.ref 88) (.ref 89) 90 301 302),
 (92,kF gh "most_of" "archrow.kept" 292 91),
 (98,kC "table_of" 304 55 1 93 181 94 .none (.ref 95) (.ref 96) 97 308 309),
 (99,kF fc "table_of" "archrow.kept" 292 98),
 (103,kC "one_each" 311 57 1 100 181 101 .none .none .none 102 314 315),
 (104,kF fe "one_each" "archrow.kept" 292 103),
 (110,kC "_law_hand" 319 60 1 105 181 106 .none (.ref 107) (.ref 108) 109 323 324),
 (111,kF dE "_law_hand" "law_archrow_k07_stretches_and_tables" 317 110),
 (117,kC "_law_take" 326 62 2 112 181 113 .none (.ref 114) (.ref 115) 116 332 333),
 (118,kF dD "_law_take" "law_archrow_k07_stretches_and_tables" 317 117),
 (124,kC "_law_arcs" 335 69 2 119 181 120 .none (.ref 121) (.ref 122) 123 344 345),
 (125,kF fh "_law_arcs" "law_archrow_k07_stretches_and_tables" 317 124),
 (129,kC "_law_ties" 347 79 2 126 181 127 .none .none .none 128 350 351),
 (130,kF ff "_law_ties" "law_archrow_k07_stretches_and_tables" 317 129),
 (136,kC "_law_row" 353 101 1 131 181 132 .none (.ref 133) (.ref 134) 135 358 359),
 (137,kF gj "_law_row" "law_archrow_k07_stretches_and_tables" 317 136),
 (141,kC "_law_same" 361 106 2 138 181 139 .none .none .none 140 364 365),
 (142,kF fg "_law_same" "law_archrow_k07_stretches_and_tables" 317 141),
 (146,kC "_law_table" 367 118 1 143 181 144 .none .none .none 145 370 371),
 (147,kF dY "_law_table" "law_archrow_k07_stretches_and_tables" 317 146),
 (153,kC "_law_first" 373 135 4 148 181 149 .none (.ref 150) (.ref 151) 152 384 385),
 (154,kF dZ "_law_first" "law_archrow_k07_stretches_and_tables" 317 153),
 (160,kC "_law_copied" 387 145 1 155 181 156 .none (.ref 157) (.ref 158) 159 391 392),
 (161,kF dq "_law_copied" "law_archrow_k07_stretches_and_tables" 317 160),
 (165,kC "_law_table_right" 394 147 2 162 181 163 .none .none .none 164 397 398),
 (166,kF bO "_law_table_right" "law_archrow_k07_stretches_and_tables" 317 165),
 (172,kC "law" 400 160 1 167 181 168 .none (.ref 169) (.ref 170) 171 417 418),
 (173,kF lx "law" "law_archrow_k07_stretches_and_tables" 317 172)]
abbrev HK:PySem.W.Hook:=PySem.W.kHook KK [3,43,44,48,49,55,56,60,61,67,68,72,73,77,78,84,85,91,92,98,99,103,104,110,111,117,118,124,125,129,130,136,137,141,142,146,147,153,154,160,161,165,166,172,173] (λ_=>by kernel_rfl)
def view:U0:={PySem.Challenge.pw_archrow_k07_stretches_and_tables with main:={PySem.Challenge.pw_archrow_k07_stretches_and_tables.main with body:=[top 1,top 2,top 4,top 5,top 6,top 7,top 8,top 9,top 10,top 11,top 13,top 14,top 15,top 17,top 18,top 19,top 20,top 21,top 22,top 23,top 24,top 25,top 26,top 27]}}
theorem left:PySem.W.LeftO PySem.Challenge.pw_archrow_k07_stretches_and_tables view [] (λs=>PySem.W.xlAt view [] s&&PySem.W.recOk (PySem.W.RowW.records PySem.Challenge.rw_archrow_k07_stretches_and_tables.row.toRowW) s) HK.obs HK.val 2306:=λw=>by kernel_rfl
theorem all_mk {l:PySem.W.OpenLaw} (w:Vf) (mg:Str->Option UT) (fa:Addr) (h:Heap) (X:(KK w.params).In h) (G:h.Ns WT mg) (Td:mg "law" = some (.ref fa))   :∃fd:VL,(∀(s:UW) (v:UT),BindsTo s fd ⟨[v],[]⟩ [("script",v)])/\∀base:Heap,(KK w.params).In base->base.Ns WT mg->aN l.prog w (KK w.params) mg base b6 45 fa fd ["script"] (yR (KK w.params)):=by
 have e:=Td.symm.trans (PySem.W.mg_of X G (v:=.ref 173) (by kernel_rfl))
 cases e;have JS:=PySem.W.mg_none_of X G (n:="max") (by kernel_rfl)
 have JR:=PySem.W.mg_none_of X G (n:="min") (by kernel_rfl)
 have JU:=PySem.W.mg_none_of X G (n:="int") (by kernel_rfl)
 have C9:=PySem.W.mg_none_of X G (n:="range") (by kernel_rfl)
 have zT:=PySem.W.mg_none_of X G (n:="sorted") (by kernel_rfl)
 have JQ:=PySem.W.mg_none_of X G (n:="set") (by kernel_rfl)
 have JT:=PySem.W.mg_none_of X G (n:="len") (by kernel_rfl)
 have Gy:=PySem.W.mg_none_of X G (n:="list") (by kernel_rfl)
 have pN:=PySem.W.mg_none_of X G (n:="isinstance") (by kernel_rfl)
 have C8:=PySem.W.mg_none_of X G (n:="tuple") (by kernel_rfl)
 have JP:=PySem.W.mg_none_of X G (n:="str") (by kernel_rfl)
 have Gz:=PySem.W.mg_none_of X G (n:="bool") (by kernel_rfl)
 have JN:=PySem.W.mg_none_of X G (n:="zip") (by kernel_rfl)
 have rg:=PySem.W.mg_none_of X G (n:="enumerate") (by kernel_rfl)
 have JO:=PySem.W.mg_none_of X G (n:="sum") (by kernel_rfl)
 have B:=(⟨⟨⟨JS,JR,JU,C9,zT,JQ,JT,Gy⟩,pN,C8,JP,Gz,JN,rg⟩,JO⟩:ym mg);exact⟨_,λs v=>.of_eq rfl,λbase _ _=>Gq (AR (x:="law") (m:="law_archrow_k07_stretches_and_tables") (st:=lx) (t:=317) (c:=172) (f:=173) (by kernel_rfl) (by kernel_rfl) (by kernel_rfl)) B (cz X G (x:="most_of") (m:="archrow.kept") (st:=gh) (t:=292) (c:=91) (f:=92) (ps:=["row","i","j"]) (by kernel_rfl) (by kernel_rfl) (by kernel_rfl) (by kernel_rfl) (GL λ_ _ _=>rfl))
  (cz X G (x:="table_of") (m:="archrow.kept") (st:=fc) (t:=292) (c:=98) (f:=99) (ps:=["row"]) (by kernel_rfl) (by kernel_rfl) (by kernel_rfl) (by kernel_rfl) (jn λ_=>rfl))
  (cz X G (x:="greatest_table") (m:="archrow.stretches") (st:=b8) (t:=223) (c:=60) (f:=61) (ps:=["row","worth"]) (by kernel_rfl) (by kernel_rfl) (by kernel_rfl) (by kernel_rfl) (ur λ_ _=>rfl))
  (cz X G (x:="partners_of") (m:="archrow.stretches") (st:=cY) (t:=223) (c:=48) (f:=49) (ps:=["row"]) (by kernel_rfl) (by kernel_rfl) (by kernel_rfl) (by kernel_rfl) (jn λ_=>rfl))
  (cz X G (x:="stretches_rising") (m:="archrow.stretches") (st:=bI) (t:=223) (c:=43) (f:=44) (ps:=["many"]) (by kernel_rfl) (by kernel_rfl) (by kernel_rfl) (by kernel_rfl) (jn λ_=>rfl))
  (cz X G (x:="least_number") (m:="archrow.stretches") (st:=cI) (t:=223) (c:=72) (f:=73) (ps:=["partners","worth","table","i","j"]) (by kernel_rfl) (by kernel_rfl) (by kernel_rfl) (by kernel_rfl) (Dg λ_ _ _ _ _=>rfl))
  (cz X G (x:="number_with") (m:="archrow.stretches") (st:=cZ) (t:=223) (c:=67) (f:=68) (ps:=["worth","table","i","k","j"]) (by kernel_rfl) (by kernel_rfl) (by kernel_rfl) (by kernel_rfl) (Dg λ_ _ _ _ _=>rfl))
  (cz X G (x:="one_each") (m:="archrow.kept") (st:=fe) (t:=292) (c:=103) (f:=104) (ps:=["row"]) (by kernel_rfl) (by kernel_rfl) (by kernel_rfl) (by kernel_rfl) (jn λ_=>rfl))
  (cz X G (x:="first_greatest") (m:="archrow.stretches") (st:=b9) (t:=223) (c:=84) (f:=85) (ps:=["row","worth","table","i","j"]) (by kernel_rfl) (by kernel_rfl) (by kernel_rfl) (by kernel_rfl) (Dg λ_ _ _ _ _=>rfl))
  (cz X G (x:="best_choices") (m:="archrow.stretches") (st:=cJ) (t:=223) (c:=77) (f:=78) (ps:=["partners","worth","table","i","j"]) (by kernel_rfl) (by kernel_rfl) (by kernel_rfl) (by kernel_rfl) (Dg λ_ _ _ _ _=>rfl))
  (cz X G (x:="parts_left") (m:="archrow.stretches") (st:=dk) (t:=223) (c:=55) (f:=56) (ps:=["i","k","j"]) (by kernel_rfl) (by kernel_rfl) (by kernel_rfl) (by kernel_rfl) (GL λ_ _ _=>rfl))
  (cz X G (x:="_law_hand") (m:="law_archrow_k07_stretches_and_tables") (st:=dE) (t:=317) (c:=110) (f:=111) (ps:=["cell"]) (by kernel_rfl) (by kernel_rfl) (by kernel_rfl) (by kernel_rfl) (jn λ_=>rfl))
  (cz X G (x:="_law_take") (m:="law_archrow_k07_stretches_and_tables") (st:=dD) (t:=317) (c:=117) (f:=118) (ps:=["hand","many"]) (by kernel_rfl) (by kernel_rfl) (by kernel_rfl) (by kernel_rfl) (ur λ_ _=>rfl))
  (cz X G (x:="_law_arcs") (m:="law_archrow_k07_stretches_and_tables") (st:=fh) (t:=317) (c:=124) (f:=125) (ps:=["hand","many"]) (by kernel_rfl) (by kernel_rfl) (by kernel_rfl) (by kernel_rfl) (ur λ_ _=>rfl))
  (cz X G (x:="_law_ties") (m:="law_archrow_k07_stretches_and_tables") (st:=ff) (t:=317) (c:=129) (f:=130) (ps:=["hand","many"]) (by kernel_rfl) (by kernel_rfl) (by kernel_rfl) (by kernel_rfl) (ur λ_ _=>rfl))
  (cz X G (x:="_law_row") (m:="law_archrow_k07_stretches_and_tables") (st:=gj) (t:=317) (c:=136) (f:=137) (ps:=["hand"]) (by kernel_rfl) (by kernel_rfl) (by kernel_rfl) (by kernel_rfl) (jn λ_=>rfl))
  (cz X G (x:="_law_same") (m:="law_archrow_k07_stretches_and_tables") (st:=fg) (t:=317) (c:=141) (f:=142) (ps:=["found","due"]) (by kernel_rfl) (by kernel_rfl) (by kernel_rfl) (by kernel_rfl) (ur λ_ _=>rfl))
  (cz X G (x:="_law_table") (m:="law_archrow_k07_stretches_and_tables") (st:=dY) (t:=317) (c:=146) (f:=147) (ps:=["row"]) (by kernel_rfl) (by kernel_rfl) (by kernel_rfl) (by kernel_rfl) (jn λ_=>rfl))
  (cz X G (x:="_law_first") (m:="law_archrow_k07_stretches_and_tables") (st:=dZ) (t:=317) (c:=153) (f:=154) (ps:=["row","table","begin","end"]) (by kernel_rfl) (by kernel_rfl) (by kernel_rfl) (by kernel_rfl) (JX λ_ _ _ _=>rfl))
  (cz X G (x:="_law_copied") (m:="law_archrow_k07_stretches_and_tables") (st:=dq) (t:=317) (c:=160) (f:=161) (ps:=["row"]) (by kernel_rfl) (by kernel_rfl) (by kernel_rfl) (by kernel_rfl) (jn λ_=>rfl))
  (cz X G (x:="_law_table_right") (m:="law_archrow_k07_stretches_and_tables") (st:=bO) (t:=317) (c:=165) (f:=166) (ps:=["row","table"]) (by kernel_rfl) (by kernel_rfl) (by kernel_rfl) (by kernel_rfl) (ur λ_ _=>rfl))⟩
end kJ
abbrev PySem.W.Fast.tw17895497180820072891:PySem.Program:=PySem.Challenge.pw_archrow_k07_stretches_and_tables
theorem PySem.W.Fast.te17895497180820072891:PySem.Challenge.pw_archrow_k07_stretches_and_tables=PySem.W.Fast.tw17895497180820072891:=rfl
open PySem PySem.W PyProof.Rows
set_option maxRecDepth 100000 in
set_option maxHeartbeats 0 in
theorem PySem.Challenge.cw_archrow_k07_stretches_and_tables_holds : PySem.Challenge.rw_archrow_k07_stretches_and_tables.Holds := by
 w_on;o_law
 refine holds_open (q:=kJ.view) (loose:=[]) (Xt:=λs=>xlAt kJ.view [] s&&recOk (RowW.records PySem.Challenge.rw_archrow_k07_stretches_and_tables.row.toRowW) s) (XP:=XL kJ.view []) (Yf:=kJ.HK.obs) (Ya:=kJ.HK.val) (YP:=λw h=>(kJ.KK w.params).In h) (N:=2306) kJ.left kJ.HK.of kJ.HK.keeps (λs e=>xl_of s (Bool.and_eq_true_iff.mp e).1) XL.keeps (by rfl) (by rfl) (by rfl) (λs e=>recFacts_of (Bool.and_eq_true_iff.mp e).2) (by rfl) (by first|assumption|decide +kernel) (by decide +kernel) ⟨rfl,rfl,rfl,rfl,rfl,by decide +kernel⟩ ?hw ?hc
 (case hw=>w_witness2)
 case hc =>
  exact L2.BX (l:=PySem.Challenge.rw_archrow_k07_stretches_and_tables) (K:=kJ.KK) (n:=63) (k:=45) (x:="script") (CX:=λ_=>L2.b6) (sp:=λw=>kJ.yR (kJ.KK w.params)) rfl (by decide) rfl ⟨rfl,by decide,by decide⟩ (λw h Y=>Y) kJ.all_mk (λ_ _ a ns hl _ hS=>⟨a,ns,rfl,hS,hl,λ_=>rfl⟩) λ_ _ _ _ _ z=>z
#print axioms PySem.Challenge.cw_archrow_k07_stretches_and_tables_holds
