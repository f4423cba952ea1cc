import PyProof.Rows.All
import Wide.All
import OpenK.AllK
import Wide.FinOn
import Lean
import PyProof.EqAt
import PyProof.EqKinds
import PyProof.TupleCall
import PyProof.Rows.SortShell
import PyProof.Rows.SortWalk
import PyProof.CompFree
import PyProof.Rows.SortRuns
import PyProof.EqLayable
import PyProof.NeData
import PyProof.P3In
import PyProof.ZipIter
import PyProof.EnumMake
import PyProof.EnumFor
import PyProof.Rows.Range3
import PyProof.AttrMissSeq
import KE.KDictOf
import PyProof.Rows.SeqMore
import PyProof.ConsumeWalk
import PyProof.ListNew
import PySem.Challenge.RW_archrow_k14_whole_papers_and_tables
set_option Elab.async false
set_option linter.all false
set_option maxRecDepth 100000
set_option maxHeartbeats 4000000
set_option compiler.extract_closed false
open PySem renaming wpAny_bind->Sf,Value->Sh,Shared->Si,wpAny_pure->Sm,Program->So,sizeLine->SG,World->SI,starEach->SX,wpAny->S6,FuncData->Tn,foldedSetIterable->TB,Around->TF,sizeLine_eq->TH,compareOp->TQ,bootBuiltins->TV,wpAny_holding->T_,wpAny_setField_rec->Uh,wpAny_setState_of->Uk,wpAny_call_entry->Ut,wpAny_truthy_bool->Uz,mainGlobals->UA,assignEach->UB,wpAny_seqItems->UC,sliceBounds->UG,wpAny_passesOwn->UI,binaryOp->UJ,wpAny_standAt->UK,behindInMarks->UL,wpAny_rule->UO,backTo->UP,swapsWith->UU,IsPair->UY,Comprehension->U3,wpAny_Call_Name_kw->U4,wpAny_field->U6,wpAny_callSpecial?_slot->U7,Scope->U8,wpAny_newObj_type->Va,codeAny_mono->Vc,sysModules->Vi,attributeBase->Vo,Builtin->Vq,NameKind->Vs,cLine->Vx,wpAny_mono->VA,pyNext->VB,CmpOp->VG,standAt->VL,codeAny->VM,wpAny_attempt->VP,wpAny_askSetting->VW,tupleKind->VX,wpAny_execs_nil->V9,letOwnedTupleGo->V_,codeAny_builtin->Wa,wpAny_updateSeq_pair->Wr,IsZip->Wt,Keyword->Wz,wpAny_setEntries_of->WB,wpAny_onRaise->WG,pyIter->WI,wpAny_pyIter_list->WN,valueAt->WO,slot_list_getitem->WQ,callerA->WR,wpAny_isInstance->W4,wpAny_forIn_list->W5,isTrue->W6,keywordEach->W_,IsRangeIter->Xc,wpAny_loadPart'->Xf,codeAny_of_tree->Xg,isSubtype_type->Xk,atKey->Xm
open List renaming length_map->Sg,getElem?_eq_getElem->Sk,mem_cons->Sr,getElem?_map->Su,getElem?_eq_some_iff->Sz,mem_singleton->SF,length_cons->SM,getD_eq_getElem?_getD->SN,mem_append->SO,length_take->SU,range->SV,size_toArray->SW,mem_cons_self->SY,mem_cons_of_mem->S0,nodup_cons->S4,getElem?_eq_none->S7,map_append->S9,length_append->S_,map_cons->Ta,length_range->Tc,mem_append_right->Th,mem_map->Tj,mem_range->Tq,getElem?_append_right->Tr,not_mem_nil->Tt,nodup_nil->Tv,map_congr_left->Tw,filterMap_cons->Tx,map_map->Tz,nodup_append->TC,drop_eq_getElem_cons->TJ,append_assoc->TM,take_add_one->TR,mem_of_getElem?->TU,mem_append_left->T3,lookup_cons->T6,getElem?_append_left->T7,mem_filter->Ua,find?_cons->Ub,take_of_length_le->Ud,ext_getElem?->Ue,take_length->Ui,append_nil->Uo,getElem?_range->Up,getElem_mem->Uu,pairwise_cons->Uw,take_append_drop->Ux,length_filter_le->Uy,pairwise_map->UM,replicate->UR,length_drop->UW,getElem?_take_of_lt->U1,filter_append->U5,getElem?_cons_succ->U9,set_eq_take_append_cons_drop->U_,getElem?_set->Vf,length_singleton->Vg,getElem?_toArray->Vh,filter_cons->Vm,all_eq_true->Vn,mem_of_mem_take->Vt,getElem?_of_mem->Vu,reverse_append->Vy,flatMap_append->Vz,zip_cons_cons->VD,mem_filterMap->VE,getElem?_drop->VF,pairwise_iff_getElem->VH,extract_eq_take_drop->VI,reverse_cons->VN,map_take->VS,perm_middle->VZ,getElem?_set_self->V4,drop_of_length_le->V5,range_succ->We,of_mem_zip->Wf,forIn_cons->Wg,foldl_cons->Wh,filterMap_append->Wl,map_drop->WH,zip_nil_left->WY,zipIdx_cons->W8,take_succ->Xn,getElem?_eq_none_iff->Xu
open Nat renaming le_refl->Sj,zero_le->SH,ne_of_lt->S5,lt_of_lt_of_le->Td,le_trans->Ts,lt_or_ge->TZ,zero_add->UH,lt_succ_of_lt->Ve,le_add_right->Vl,lt_irrefl->Vp,pow_le_pow_right->Vr,mod_lt->VC,sub_self->V2,pow_succ->V3,strongRecOn->Wd,pow_pos->Ws,eq_zero_or_pos->WK,ne_of_gt->WW,lt_trichotomy->WX,mod_eq_of_lt->W7,mod_mul->Xb,not_lt_zero->Xh
open PySem.Heap renaming get?_push_of_some->Sl,lt_size->SD,get?_push_size->Tf,SameBut->Uq,size_push->Wv
open PyProof.Rows renaming Keyed->Ss,wpS_bind->Sw,wpS_pure->SA,pendingOf->S3,SortSt->Tb,arrOf->Te,wpS_forRange->TL,callWith_type1->TN,setArr->TY,wpS_mono->Uj,seqObj->UD,wpS_modify->UN,SortKind->UZ,failedOf->Vb,setPending->Vj,wpS_get->VJ,envOfC->V0,IntsAre->V6,AllBare->V8,wpS_lift->Wq,boot_range->Xl
open Array renaming length_toList->Sv,getElem?_toList->SK,getD_eq_getD_getElem?->SS,toList_append->T8,toList_push->Ul,getElem?_eq_none->Ur,perm_iff_toList_perm->UT,size_setIfInBounds->VV,getElem?_setIfInBounds_self_of_lt->Wo,toList_extract->Ww,getElem?_setIfInBounds_ne->W3,toList_zip->W9,size_zip->Xq,size_map->Xr
open Option renaming map_eq_some_iff->SJ,bind_eq_some_iff->Uc,bind_some->Vk,map_some->Vv,isNone_iff_eq_none->Xs
open Option.some renaming inj->S8,injEq->WV
open Decidable renaming by_contra->Ti
open PySem.NameKind renaming free->To,cell->U0
open Bool renaming and_eq_true->Tu,false_ne_true->T4,eq_iff_iff->Vw,not_eq_true'->VO,not_eq_false'->WL,false_eq_true->WM
open PySem.PassesOwn renaming never->TX
open Ne renaming symm->T5
open PySem.Builtin.SmallTypes renaming nextOf->Ug,ownedTupleIsFree->Us,ownedTupleHandOut->WE
open PySem.PyData renaming eqv->Um,canLay0->Uv,canLayAll0->Vd,eqvAll->VR,depthAll->Wc
open PySem.Builtin.Range renaming rangeSize->UE
open PySem.Obj renaming mapSeq->UQ,putSet->WJ
open False renaming elim->US
open Classical renaming byContradiction->UX
open PyProof renaming noPylong_of_log2->VQ
open PySem.Code renaming compLoop->VT,compStart->Xo
open PySem.Builtin.List renaming listTooLong->VU,listLengthHint->Xj
open PySem.SeqAt renaming canLay_of_shaped->VY
open Nat.succ renaming inj->V1
open Int renaming le_trans->V7,le_refl->Wu,toNat_of_nonneg->WC,toNat_natCast->WZ,mul_le_mul_of_nonneg_left->Xd
open List.Perm renaming of_eq->Wi,append_left->Wm
open ForInStep renaming yield->Wj
open PySem.Around renaming under_plainId->Wx
open Sum renaming inl->Wy,inr->WT
open PySem.Data renaming cell->WA,fields->Xe
open PySem.Heap.SameBut renaming update->WD
open PySem.Value renaming isInt_shape->WS,isInt->Xa
open PySem.Str renaming ofString->WU
open Array.Perm renaming refl->Xi
open PySem.Calls renaming Name_function_global->Xp,call_function_entry->Xv
noncomputable section
namespace L2
open PySem PySem.Spec PyProof.Rows
abbrev Key:=Sum Int Str
def m6:Key->Sh->Bool
 |.inl k,v=>Xa k v
 |.inr x,v=>Value.isStrOf x v
def LS (w:SI):Key->Int
 |.inl k=>hashInt k
 |.inr x=>hashStr w x
theorem ba:∀{k:Key} {v:Sh},m6 k v=true->(∃i t,k=Wy i/\v=Value.int i t)\/(∃x t,k=WT x/\v=Value.str x t)
 |.inl i,v,h=>by
  obtain⟨t,e⟩:=WS (k:=i) (v:=v) h;exact .inl ⟨i,t,rfl,e⟩
 |.inr x,v,h=>by
  obtain⟨t,e⟩:=Value.isStrOf_shape (x:=x) (v:=v) h;exact .inr ⟨x,t,rfl,e⟩
theorem vU (i:Int)(t:Tok):m6 (.inl i) (.int i t)=true:=by simp[m6,Xa]
theorem vT (x:Str)(t:Tok):m6 (.inr x) (.str x t)=true:=by simp[m6,Value.isStrOf]
theorem EO (a b:Int):decide ((Wy a:Key)=Wy b)=(a==b):=by
 by_cases e:a=b
 ·subst e;simp
 ·have h:¬ (Wy a:Key)=Wy b:=λq=>e (Sum.inl.inj q);rw[decide_eq_false h];exact(beq_eq_false_iff_ne.mpr e).symm
theorem EL (a b:Str):decide ((WT a:Key)=WT b)=decide (a=b):=by
 by_cases e:a=b
 ·subst e;simp
 ·have h:¬ (WT a:Key)=WT b:=λq=>e (Sum.inr.inj q);rw[decide_eq_false h,decide_eq_false e]
theorem EN (a:Int)(b:Str):decide ((Wy a:Key)=WT b)=false:=decide_eq_false (λq=>nomatch q)
theorem EM (a:Str)(b:Int):decide ((WT a:Key)=Wy b)=false:=decide_eq_false (λq=>nomatch q)
def bP (prog:So)(w:SI):PySem.KeyKind prog w Key where
 is:=m6
 hash:=LS w
 inj:=λv a b ha hb=>by
  rcases ba ha with⟨i,t,rfl,rfl⟩|⟨x,t,rfl,rfl⟩
  ·rcases ba hb with⟨j,u,rfl,e⟩|⟨y,u,rfl,e⟩
   ·injection e with e1 _;rw[e1]
   ·exact nomatch e
  ·rcases ba hb with⟨j,u,rfl,e⟩|⟨y,u,rfl,e⟩
   ·exact nomatch e
   ·injection e with e1 _;rw[e1]
 byValue:=λk v h=>by
  rcases ba h with⟨i,t,rfl,rfl⟩|⟨x,t,rfl,rfl⟩ <;> rfl
 pyHash:=λhv h=>by
  rcases ba hv with⟨i,t,rfl,rfl⟩|⟨x,t,rfl,rfl⟩
  ·exact wpAny_pyHash_int h
  ·exact wpAny_pyHash_str h
 eqBool:=λhu hv h=>by
  rcases ba hu with⟨i,t,rfl,rfl⟩|⟨x,t,rfl,rfl⟩
  ·rcases ba hv with⟨j,u,rfl,rfl⟩|⟨y,u,rfl,rfl⟩
   ·rw[EO]at h;exact wpAny_eqBool_int h
   ·rw[EN]at h;exact SeqAt.EqAt.int_str i t y u _ _ _ _ h
  ·rcases ba hv with⟨j,u,rfl,rfl⟩|⟨y,u,rfl,rfl⟩
   ·rw[EM]at h;exact SeqAt.EqAt.str_int x t j u _ _ _ _ h
   ·rw[EL]at h;exact wpAny_eqBool_str h
 «strs»:=λk x t v h=>by
  rcases ba h with⟨i,u,rfl,e⟩|⟨y,u,rfl,e⟩
  ·exact nomatch e
  ·injection e with e1 _
   subst e1;cases v <;> rfl
theorem pZ (prog:So)(w:SI)(i:Int)(t:Tok):(bP prog w).is (.inl i) (.int i t)=true:=vU i t
theorem pY (prog:So)(w:SI)(x:Str)(t:Tok):(bP prog w).is (.inr x) (.str x t)=true:=vT x t
inductive V where
 |bX|bl (b:Bool)|int (i:Int)|str (x:Str)|zM (b:Array UInt8)|Nb (b:UInt64)|ref (a:Addr)|ty (n:String)
 deriving DecidableEq
def RelV:V->Sh->Prop
 |.bX,u=>u=Value.none
 |.bl b,u=>u=Value.bool b
 |.int i,u=>∃t,u=Value.int i t
 |.str x,u=>∃t,u=Value.str x t
 |.zM b,u=>∃t,u=Value.bytes b t
 |.Nb b,u=>∃t,u=Value.float b t
 |.ref a,u=>u=Value.ref a
 |.ty n,u=>u=Value.type n
abbrev Vals:List V->List Sh->Prop:=Paired RelV
theorem Vals.length {xs:List V}{us:List Sh}(r:Vals xs us):xs.length=us.length:=Paired.length r
theorem Vals.get:∀{xs:List V} {us:List Sh} {i:Nat} {x:V},Vals xs us->xs[i]?=some x->∃u,us[i]?=some u/\RelV x u
 |_,_,_,_,.nil,e=>by simp at e
 |_,_,0,_,.cons r _,e=>by simp at e;subst e;exact⟨_,rfl,r⟩
 |_,_,i+1,x,.cons _ t,e=>by
  obtain⟨u,h1,h2⟩:=Vals.get (i:=i) (x:=x) t (by simpa using e)
  exact⟨u,by simpa using h1,h2⟩
theorem Vals.set {x:V}{u:Sh}(r:RelV x u):∀{xs:List V} {us:List Sh} (i:Nat),Vals xs us->Vals (xs.set i x) (us.set i u)
 |_,_,_,.nil=>.nil
 |_,_,0,.cons _ t=>.cons r t
 |_,_,i+1,.cons q t=>.cons q (Vals.set r i t)
theorem Vals.append:∀{xs ys:List V} {us ws:List Sh},Vals xs us->Vals ys ws->Vals (xs++ys) (us++ws)
 |_,_,_,_,.nil,s=>s
 |_,_,_,_,.cons r t,s=>.cons r (Vals.append t s)
theorem Vals.take:∀{xs:List V} {us:List Sh} (n:Nat),Vals xs us->Vals (xs.take n) (us.take n)
 |_,_,0,_=>.nil
 |_,_,_+1,.nil=>.nil
 |_,_,n+1,.cons r t=>.cons r (Vals.take n t)
theorem Vals.drop:∀{xs:List V} {us:List Sh} (n:Nat),Vals xs us->Vals (xs.drop n) (us.drop n)
 |_,_,0,r=>r
 |_,_,_+1,.nil=>.nil
 |_,_,n+1,.cons _ t=>Vals.drop n t
theorem Vals.none_of:∀{xs:List V} {us:List Sh} {i:Nat},Vals xs us->xs[i]?=none->us[i]?=none:=λ{xs us i} r e=>by
 have h1:=r.length;have h2:xs.length<=i:=Xu.mp e;exact Xu.mpr (by lia)
def mG:Option V->Option Sh->Prop
 |some v,some u=>RelV v u
 |none,none=>True
 |_,_=>False
def KV {κ:Type}:List (κ×V)->List (κ×Sh)->Prop:=Paired λ(p:κ×V) (q:κ×Sh)=>p.1=q.1/\RelV p.2 q.2
def kV:Key->V
 |.inl i=>.int i
 |.inr x=>.str x
inductive HO where
 /-- a list -/
 |lst (xs:List V)
 /-- a tuple (never changes) -/
 |tup (xs:List V)
 /-- a dict whose keys are ints and texts;one whose keys are tuples of ints and texts (the empty one is both) -/
 |dK (kvs:List (Key×V))|dT (kvs:List (List Key×V))
 /-- a set of ints: its members,its size -/
 |set (S:Int->Bool) (n:Nat)
 /-- an instance of the class at C,its dict at dx,its attributes -/
 |ins (C dx:Addr) (fs:List (Str×V))
 /-- the dict of the instance at x -/
 |own (x:Addr)
 /-- the dict of an exception -/
 |xd (fs:List (Str×V))
 /-- a bound method,f of x -/
 |met (f x:Addr)
 /-- a range object lo,lo+1,.. below hi -/
 |K7 (lo hi:Int)
 /-- a Gu that is known to the object (the K3;a dict while a loop walks it): read,never written while it is so -/
 |Ad (o:Obj) (u:HO)
 /-- a code Hf table -/
 |cR (ps:Array Sh)
 /-- any other Gu,by what is true of its one object (a def of He own: Cq a S n:=HO.ext λh=>..) -/
 |ext (φ:Heap->Prop)
abbrev Hp:=Addr->Option HO
def upd (H:Hp)(a:Addr)(o:HO):Hp:=λb=>if b=a then some o else H b
theorem ar {H:Hp}{a:Addr}{o:HO}:upd H a o a=some o:=by unfold upd;rw[if_pos rfl]
theorem ak {H:Hp}{a b:Addr}{o:HO}(h:b≠a):upd H a o b=H b:=by unfold upd;rw[if_neg h]
theorem CI {H:Hp}{a b:Addr}{o u:HO}(h:H a=some o)(h':H b=some u)(d:o≠u):a≠b:=by
 intro e;subst e;rw[h]at h';exact d (S8 h')
theorem b_ {H:Hp}{a b:Addr}{o:HO}(h:H a=some o)(h':H b=none):a≠b:=by
 intro e;subst e;rw[h]at h';cases h'
section
variable (P:So)(w:SI)
def bV (H:Hp)(h:Heap)(a:Addr):HO->Prop
 |.lst xs=>xs.length<=SG/\∃(its:List Sh) (n:Nat),Vals xs its/\h.get? a=some {cls:=.type "list",data:=.seq its.toArray n}
 |.tup xs=>xs.length<=SG/\∃its:List Sh,Vals xs its/\IsTup h a its.toArray
 |.dK kvs=>kvs.length<=SG/\(a==Vi)=false/\∃vs,KV kvs vs/\h.DictOf (bP P w) a vs
 |.dT kvs=>kvs.length<=SG/\(a==Vi)=false/\∃xs:List (List Key×Addr×Sh),
   Paired (λ(p:List Key×V) (q:List Key×Addr×Sh)=>p.1=q.1/\H q.2.1=some (.tup (p.1.map kV))/\RelV p.2 q.2.2) kvs xs /\
   ∃o es ep,h.get? a=some o/\o.ExactDict/\o.data=.dict es ep/\es.toList=xs.map (entryOfKey (VX (bP P w)))/\(xs.map (·.1)).Nodup
 |.set S n=>h.SetOf (intKind P w) a S n
 |.ins C dx fs=>H dx=some (.own a)/\fs.length<=1000/\dx≠a/\h.get? a=some (PySem.W.instObj C dx) /\
   ∃mA,h.Ns1 dx mA/\(∀f,mG (fs.lookup f) (mA f))/\PySem.Within mA (fs.map (·.1))
 |.own _=>∃o,h.get? a=some o
 |.xd fs=>∃mA,h.Ns1 a mA/\∀f,mG (fs.lookup f) (mA f)
 |.K7 lo hi=>∃t u v,h.get? a=some {cls:=.type "range",data:=.fields #[.int lo t,.int hi u,.int 1 v]}
 |.Ad o u=>h.get? a=some o/\bV H h a u
 |.cR ps=>h.get? a=some {cls:=.none,data:=.fields ps}
 |.met f x=>h.get? a=some (PySem.W.methodObj (.ref f) (.ref x))
 |.ext φ=>φ h/\(∃o,h.get? a=some o)/\∀h1 h2:Heap,φ h1->(∀o,h1.get? a=some o->h2.get? a=some o)->φ h2
def gO (H:Hp)(h:Heap):Prop:=∀a o,H a=some o->bV P w H h a o
end
section
variable {P:So}{w:SI}{H H':Hp}{h h':Heap}{a:Addr}{o:HO}
theorem bV.lt (x:bV P w H h a o):a<h.objs.size:=by
 cases o with
 |lst xs=>obtain⟨_,_,_,_,e⟩:=x;exact SD e
 |tup xs=>obtain⟨_,_,_,p⟩:=x;exact p.lt
 |dK kvs=>obtain⟨_,_,_,_,o,_,_,e,_⟩:=x;exact SD e
 |dT kvs=>obtain⟨_,_,_,_,o,_,_,e,_⟩:=x;exact SD e
 |set S n=>obtain⟨o,_,_,_,e,_⟩:=x;exact SD e
 |ins C dx fs=>obtain⟨_,_,_,e,_⟩:=x;exact SD e
 |own y=>obtain⟨_,e⟩:=x;exact SD e
 |xd fs=>obtain⟨_,⟨_,_,_,e,_⟩,_⟩:=x;exact SD e
 |K7 lo hi=>obtain⟨_,_,_,e⟩:=x;exact SD e
 |Ad ob u=>obtain⟨e,_⟩:=x;exact SD e
 |cR ps=>exact SD (show h.get? a=some _ from x)
 |met f y=>exact SD (show h.get? a=some _ from x)
 |ext φ=>obtain⟨_,⟨_,e⟩,_⟩:=x;exact SD e
theorem Paired.ED {α β:Type}{F G:α->β->Prop}:∀{l₁:List α} {l₂:List β},Paired F l₁ l₂->(∀a b,F a b->G a b)->Paired G l₁ l₂
 |_,_,.nil,_=>.nil
 |_,_,.cons r t,f=>.cons (f _ _ r) (Paired.ED t f)
theorem bV.ph (x:bV P w H h a o)(k:∀b u,(b=a\/H b=some (.own a))->h.get? b=some u->h'.get? b=some u)
  (ho:∀b,H b=some (.own a)->H' b=some (.own a)) (ht:∀b xs,H b=some (.tup xs)->H' b=some (.tup xs)):bV P w H' h' a o:=by
 induction o with
 |lst xs=>obtain⟨z,its,n,r,e⟩:=x;exact⟨z,its,n,r,k _ _ (.inl rfl) e⟩
 |tup xs=>obtain⟨z,its,r,ob,e,c⟩:=x;exact⟨z,its,r,ob,k _ _ (.inl rfl) e,c⟩
 |dK kvs=>obtain⟨z,y,vs,r,ob,es,ep,e,c⟩:=x;exact⟨z,y,vs,r,ob,es,ep,k _ _ (.inl rfl) e,c⟩
 |dT kvs =>
  obtain⟨z,y,xs,r,ob,es,ep,e,c⟩:=x;exact⟨z,y,xs,Paired.ED r λp q z=>⟨z.1,ht _ _ z.2.1,z.2.2⟩,ob,es,ep,k _ _ (.inl rfl) e,c⟩
 |set S n=>obtain⟨ob,es,ep,t,e,c⟩:=x;exact⟨ob,es,ep,t,k _ _ (.inl rfl) e,c⟩
 |ins C dx fs =>
  obtain⟨d,z,ne,e,mA,⟨od,es,ep,e2,c⟩,r⟩:=x;exact⟨ho _ d,z,ne,k _ _ (.inl rfl) e,mA,⟨od,es,ep,k _ _ (.inr d) e2,c⟩,r⟩
 |own y=>obtain⟨ob,e⟩:=x;exact⟨ob,k _ _ (.inl rfl) e⟩
 |xd fs=>obtain⟨mA,⟨od,es,ep,e,c⟩,r⟩:=x;exact⟨mA,⟨od,es,ep,k _ _ (.inl rfl) e,c⟩,r⟩
 |K7 lo hi=>obtain⟨t,u,v,e⟩:=x;exact⟨t,u,v,k _ _ (.inl rfl) e⟩
 |Ad ob u ih=>obtain⟨e,q⟩:=x;exact⟨k _ _ (.inl rfl) e,ih q⟩
 |cR ps =>
  have e:h.get? a=some {cls:=.none,data:=.fields ps}:=x;show h'.get? a=some {cls:=.none,data:=.fields ps};exact k a _ (.inl rfl) e
 |met f y =>
  have e:h.get? a=some (PySem.W.methodObj (.ref f) (.ref y)):=x;show h'.get? a=some (PySem.W.methodObj (.ref f) (.ref y));exact k a _ (.inl rfl) e
 |ext φ=>obtain⟨p,⟨o,e⟩,st⟩:=x;exact⟨st _ _ p λo q=>k _ _ (.inl rfl) q,⟨o,k _ _ (.inl rfl) e⟩,st⟩
theorem gO.lt (x:gO P w H h)(e:H a=some o):a<h.objs.size:=(x a o e).lt
theorem gO.fresh (x:gO P w H h)(e:h.objs.size<=a):H a=none:=by
 cases q:H a with
 |none=>rfl
 |some u=>exact absurd (Td (x.lt q) e) (Vp _)
theorem gO.kept (x:gO P w H h)(k:∀b u,h.get? b=some u->h'.get? b=some u):gO P w H h':=λa o e =>
 (x a o e).ph (λb u _ q=>k b u q) (λ_ q=>q) λ_ _ q=>q
theorem gO.laid (x:gO P w H h)(k:∀b u,h.get? b=some u->h'.get? b=some u)(hp:h.objs.size<=a)(new:bV P w (upd H a o) h' a o):gO P w (upd H a o) h':=λb u e=>by
 have hn:=x.fresh hp
 by_cases hb:b=a
 ·subst hb;rw[ar]at e;cases e;exact new
 ·rw[ak hb]at e;exact(x b u e).ph (λc v _ q=>k c v q) (λc q=>by rw[ak (b_ q hn)];exact q) λc xs q=>by rw[ak (b_ q hn)];exact q
end
def Rd (H:Hp)(a:Addr)(u:HO):Prop:=H a=some u\/∃o,H a=some (.Ad o u)
theorem Rd.ok {P:So}{w:SI}{H:Hp}{h:Heap}{a:Addr}{u:HO}(r:Rd H a u)(x:gO P w H h):bV P w H h a u:=by
 rcases r with r|⟨o,r⟩
 ·exact x a u r
 ·obtain⟨_,q⟩:=x a _ r;exact q
def JP:Option HO->Prop
 |some (.lst _)=>True
 |some (.dK _)=>True
 |some (.dT _)=>True
 |some (.set _ _)=>True
 |some (.ins _ _ _)=>True
 |some (.ext _)=>True
 |_=>False
section
variable {P:So}{w:SI}{H:Hp}{h h':Heap}{x e:Addr}{o':HO}
theorem gO.write (ok:gO P w H h)(mu:JP (H x))(he:e=x\/H e=some (.own x))(k:∀b u,b≠e->h.get? b=some u->h'.get? b=some u)(F6:∃u,h'.get? e=some u)
  (new:bV P w (upd H x o') h' x o'):gO P w (upd H x o') h':=λb u q=>by
 have Hg:∀c y,H c=some (.own y)->c≠x:=λc y r z=>by subst z;rw[r]at mu;exact mu
 have LA:∀c xs,H c=some (.tup xs)->c≠x:=λc xs r z=>by subst z;rw[r]at mu;exact mu
 by_cases hb:b=x
 ·subst hb;rw[ar]at q;cases q;exact new
 ·rw[ak hb]at q
  by_cases Fj:b=e
  ·have q':H b=some (.own x):=by
    rcases he with z|z
    ·exact absurd (Fj.trans z) hb
    ·rw[Fj];exact z
   rw[q]at q';cases q';obtain⟨v,hv⟩:=F6;exact⟨v,by rw[Fj];exact hv⟩
  ·refine(ok b u q).ph (λc v hc r=>k c v ?_ r) (λc r=>by rw[ak (Hg c b r)];exact r) λc xs r=>by rw[ak (LA c xs r)];exact r
   rcases hc with rfl|hc
   ·exact Fj
   ·rintro rfl;rcases he with z|z
    ·exact Hg c b hc z
    ·rw[hc]at z;cases z;exact hb rfl
end
structure Un (fs ex:List Addr)(H H':Hp)(h h':Heap):Prop where
 keep:∀b o,h.get? b=some o->H b=none->b∉fs->b∉ex->h'.get? b=some o
 slot:∀b o,h.get? b=some o->H b=none->b∈fs->b∉ex->∃sl,h'.get? b=some {o with slots:=sl}
 free:∀b o,h.get? b=some o->H b=none->b∉ex->H' b=none
 there:∀b o,h.get? b=some o->b∉ex->∃o',h'.get? b=some o'
 nP:∀b xs,H b=some (.tup xs)->H' b=some (.tup xs)
 mq:∀b o u,H b=some (.Ad o u)->H' b=some (.Ad o u)
 nQ:∀b ps,H b=some (.cR ps)->∃more,H' b=some (.cR (ps++more))
section
variable {fs ex:List Addr}{H H1:Hp}{h h1 h':Heap}{a x e:Addr}{o:HO}
theorem Un.any (u:Un fs ex H H1 h h1){b:Addr}{ob:Obj}(q:h.get? b=some ob)(n:H b=none)(hx:b∉ex):∃sl,h1.get? b=some {ob with slots:=sl}:=by
 by_cases hb:b∈fs
 ·exact u.slot b ob q n hb hx
 ·exact⟨ob.slots,u.keep b ob q n hb hx⟩
theorem Un.kept (k:∀b u,h.get? b=some u->h'.get? b=some u):Un fs ex H H h h' :=
 ⟨λb ob q _ _ _=>k b ob q,λb ob q _ _ _=>⟨ob.slots,k b ob q⟩,λ_ _ _ n _=>n,λb ob q _=>⟨ob,k b ob q⟩,λ_ _ q=>q,λ_ _ _ q=>q,λ_ ps q=>⟨#[],by rw[q];simp⟩⟩
theorem Un.refl:Un fs ex H H h h:=Un.kept λ_ _ q=>q
theorem Un.laid (k:∀b u,h.get? b=some u->h'.get? b=some u)(hp:h.objs.size<=a)(hn:H a=none):Un fs ex H (upd H a o) h h' where
 keep:=λb u q _ _ _=>k b u q
 slot:=λb u q _ _ _=>⟨u.slots,k b u q⟩
 free:=λb u q n _=>by rw[ak (S5 (Td (SD q) hp))];exact n
 there:=λb u q _=>⟨u,k b u q⟩
 nP:=λb xs q=>by rw[ak (b_ q hn)];exact q
 mq:=λb u xs q=>by rw[ak (b_ q hn)];exact q
 nQ:=λb ps q=>⟨#[],by rw[ak (b_ q hn),q];simp⟩
theorem Un.write (mu:JP (H x))(he:e=x\/H e=some (.own x))(k:∀b u,b≠e->h.get? b=some u->h'.get? b=some u)(F6:∃u,h'.get? e=some u):Un fs ex H (upd H x o) h h':=by
 have hx:∀b,H b=none->b≠x:=λb n z=>by subst z;rw[n]at mu;exact mu
 have hb:∀b,H b=none->b≠e:=λb n z=>by
  subst z;rcases he with r|r
  ·exact hx b n r
  ·rw[n]at r;cases r
 have hm:∀b u,H b=some u->¬ JP (some u)->b≠x:=λb u q nm z=>by subst z;rw[q]at mu;exact nm mu
 refine⟨λb u q n _ _=>k b u (hb b n) q,λb u q n _ _=>⟨u.slots,k b u (hb b n) q⟩,λb u q n _=>by rw[ak (hx b n)];exact n,λb u q _=>?_,
  λb xs q=>by rw[ak (hm b _ q λz=>z)];exact q,λb u xs q=>by rw[ak (hm b _ q λz=>z)];exact q,λb ps q=>⟨#[],by rw[ak (hm b _ q λz=>z),q];simp⟩⟩
 by_cases Fj:b=e
 ·subst Fj;exact F6
 ·exact⟨u,k b u Fj q⟩
end
def JZ (h:Heap)(H:Hp):List Addr:=(SV h.objs.size).filter λa=>(H a).isSome
def oE (h:Heap)(H:Hp):Heap:=PySem.W.hideAll h (JZ h H)
theorem vY (h:Heap)(H:Hp):(oE h H).objs.size=h.objs.size:=PySem.W.hideAll_size _ _
theorem zg {h:Heap}{H:Hp}{b:Addr}{o:Obj}(e:h.get? b=some o)(n:H b=none):(oE h H).get? b=some o :=
 PySem.W.hideAll_get _ e λhm=>by
  have q:(H b).isSome=true:=(Ua.mp hm).2;rw[n]at q;simp at q
theorem Bm {h:Heap}{H:Hp}{b:Addr}{o:Obj}(e:(oE h H).get? b=some o):h.get? b=some o/\H b=none:=by
 have e':h.get? b=some o:=PySem.W.of_hideAll (JZ h H) e;refine⟨e',?_⟩;cases q:H b with
 |none=>rfl
 |some x =>
  have hm:b∈JZ h H:=Ua.mpr ⟨Tq.mpr (SD e'),by simp[q]⟩
  have z:(oE h H).get? b=none:=PySem.W.hideAll_none (JZ h H) hm;rw[z]at e;cases e
structure Mod (K:PySem.W.Frag)(mg:Str->Option Sh)(base:Heap):Prop where
 LR:K.In base
 glob:base.Ns UA mg
 blt:∃mb,base.Ns builtinsNs mb/\∀x:Str,x≠"__name__" -> mb x=TV x
 nolimit:base.NoLimit
structure Cx where
 prog:So
 w:SI
 K:PySem.W.Frag
 mg:Str->Option Sh
 base:Heap
 A:TF
 N:List Str
 s₀:Si
 H₀:Hp
 env:Env
 outer:List Env
 stack:List Env
 ex:List Addr
 fn:Str->Bool
 calm:Bool
 pn:List (Addr×Obj)
 xe:Sh->Si->Prop
def zr (l:List Env):List Addr:=l.filterMap (·.frame)
abbrev Cx.fs (X:Cx):List Addr:=zr X.outer
def tS (sc:U8)(x:Str):Prop:=sc.names.lookup x=some .local\/sc.names.lookup x=some .cell\/sc.names.lookup x=some .free
def Loc (sc:U8)(x:Str):Prop:=sc.names.lookup x=some .local\/sc.names.lookup x=some .cell
def Look (env:Env)(h:Heap)(m:Str->Option Sh)(x:Str)(u:Sh):Prop :=
 (env.kindOf x=some .local/\m x=some u)\/((env.kindOf x=some .cell\/env.kindOf x=some .free)/\∃c,env.cells.lookup x=some c/\h.IsCell c (some u))
structure Cx.Ok (X:Cx):Prop where
 mod:Mod X.K X.mg X.base
 kind:X.env.scope.kind=.function
 glob:X.env.globals=UA
 blt:X.env.builtins=builtinsNs
 above:X.s₀.heap.objs.size<=X.env.locals
 inj:∀x y c,X.env.cells.lookup x=some c->X.env.cells.lookup y=some c->x=y
 has:∀x,(X.env.kindOf x=some .cell\/X.env.kindOf x=some .free)->∃c,X.env.cells.lookup x=some c
 JE:∀x c,X.fn x=true->X.env.cells.lookup x=some c->X.s₀.heap.objs.size<=c
 hd:X.calm=true->X.A.handled=none
 frames:X.A.frames=some X.stack
 J1:X.stack=X.outer\/(X.stack=X.env::X.outer/\X.env.frame=some X.env.locals)
 Kr:∀b∈X.ex,b≠X.env.locals/\∀x c,X.env.cells.lookup x=some c->c≠b
 bs:∀b o,X.base.get? b=some o->X.s₀.heap.get? b=some o/\X.H₀ b=none
 Dg:X.base.objs.size<=X.s₀.heap.objs.size
 yx:∀b o,X.base.get? b=some o->b∉X.ex
 zv:∀b∈X.ex,b∉X.fs
 ly:X.s₀.heap.FunFrames X.base X.outer
 F9:∀b∈X.fs,X.H₀ b=none
structure Inv (X:Cx)(pins:List (Addr×Obj))(σ:List (Option V))(H:Hp)(s:Si):Prop where
 ok:X.Ok
 os:s.os=X.s₀.os
 bare:V8 s.gens
 base:Un X.fs X.ex X.H₀ H X.s₀.heap s.heap
 loc:∃m,s.heap.Ns X.env.locals m/\∀(i:Nat) (x:Str) (v:V),X.N[i]?=some x->σ[i]?=some (some v)->tS X.env.scope x->∃u,RelV v u/\Look X.env s.heap m x u
 cell:∀x c,X.env.cells.lookup x=some c->∃v,s.heap.IsCell c v
 free:H X.env.locals=none
 gm:∀x c,X.env.cells.lookup x=some c->H c=none
 pin:∀p∈X.pn++pins,s.heap.get? p.1=some p.2/\H p.1=none/\p.1≠X.env.locals/\p.1∉X.fs/\∀v,p.2.data≠.cell v
 bG:gO X.prog X.w H s.heap
 len:σ.length=X.N.length
section
variable {X:Cx}{pins:List (Addr×Obj)}{σ:List (Option V)}{H H':Hp}{s:Si}{h':Heap}
theorem Cx.Ok.Ey (ok:X.Ok){b:Addr}{o:Obj}(e:X.base.get? b=some o):b∉X.fs:=λhb=>by
 have:=(ok.ly.mem hb).1;rw[e]at this;cases this
theorem Inv.bs (I:Inv X pins σ H s):∀b o,X.base.get? b=some o->s.heap.get? b=some o/\H b=none:=λb o e =>
 ⟨I.base.keep b o (I.ok.bs b o e).1 (I.ok.bs b o e).2 (I.ok.Ey e) (I.ok.yx b o e),I.base.free b o (I.ok.bs b o e).1 (I.ok.bs b o e).2 (I.ok.yx b o e)⟩
theorem Inv.bk (I:Inv X pins σ H s):∀b o,X.base.get? b=some o->s.heap.get? b=some o:=λb o e=>(I.bs b o e).1
theorem Inv.mod (I:Inv X pins σ H s):Mod X.K X.mg X.base:=I.ok.mod
theorem Inv.F1 (I:Inv X pins σ H s):X.K.In s.heap:=I.ok.mod.LR.keeps I.bk
theorem Inv.lt (I:Inv X pins σ H s):X.env.locals<s.heap.objs.size:=let ⟨_,hn,_⟩:=I.loc;hn.lt
theorem Inv.sz (I:Inv X pins σ H s):X.s₀.heap.objs.size<=s.heap.objs.size:=Ts I.ok.above (Nat.le_of_lt I.lt)
theorem Inv.LB (I:Inv X pins σ H s){a:Addr}(h:s.heap.objs.size<=a):a∉X.fs:=λhb=>by
 obtain⟨_,o,ho,_⟩:=I.ok.ly.mem hb;exact absurd (Td (SD ho) (Ts I.sz h)) (Vp _)
theorem Inv.FE (I:Inv X pins σ H s):∀x c,X.env.cells.lookup x=some c->c≠X.env.locals:=λx c e z=>by
 obtain⟨v,o,ho,hd⟩:=I.cell x c e;obtain⟨m,⟨o',es,ep,BN,QI,_⟩,_⟩:=I.loc;rw[z,BN]at ho;cases ho;rw[QI]at hd;cases hd
theorem Inv.ly (I:Inv X pins σ H s):s.heap.FunFrames X.base X.outer:=by
 have all:∀(l:List Env),(∀b∈zr l,b∈X.fs)->X.s₀.heap.FunFrames X.base l->s.heap.FunFrames X.base l:=by
  intro l
  induction l with
  |nil=>intro _ _;trivial
  |cons env r ih =>
   intro hs hl;obtain⟨hk,⟨L,o,hf,hn,ho,hd⟩,hr⟩:=hl;have hL:L∈X.fs:=hs L (by unfold zr;rw[Tx,hf];exact SY)
   obtain⟨sl,e⟩:=I.base.slot L o ho (I.ok.F9 L hL) hL λz=>I.ok.zv L z hL;exact⟨hk,⟨L,_,hf,hn,e,hd⟩,ih (λb hb=>hs b (by unfold zr;rw[Tx,hf];exact S0 _ hb)) hr⟩
 exact all X.outer (λ_ hb=>hb) I.ok.ly
theorem Inv.stack (I:Inv X pins σ H s):s.heap.FunFrames X.base X.stack:=by
 rcases I.ok.J1 with e|⟨e,hf⟩
 ·rw[e];exact I.ly
 ·rw[e];obtain⟨m,hn,_⟩:=I.loc;refine .cons (by rw[I.ok.kind];decide) hf hn ?_ I.ly
  exact Heap.get?_none_of_le (Ts I.ok.Dg I.ok.above)
theorem Inv.rO (I:Inv X pins σ H s):∀b∈zr X.stack,b∈X.env.locals::X.fs:=λb hb=>by
 rcases I.ok.J1 with e|⟨e,hf⟩
 ·rw[e]at hb;exact S0 _ hb
 ·rw[e]at hb;unfold zr at hb;rw[Tx,hf]at hb;exact hb
theorem Inv.ud (I:Inv X pins σ H s):∀b∈zr X.stack,H b=none:=λb hb=>by
 rcases Sr.mp (I.rO b hb)with e|hb
 ·rw[e];exact I.free
 ·obtain⟨_,o,ho,_⟩:=I.ok.ly.mem hb;exact I.base.free b o ho (I.ok.F9 b hb) λz=>I.ok.zv b z hb
theorem Inv.step {g':Array GenState}{t':Nat}{d':Drawn}{ch:List Addr}(I:Inv X pins σ H s)
  (qq:∀b∈ch,(b∈X.ex\/X.s₀.heap.objs.size<=b)/\b≠X.env.locals/\(∀x c,X.env.cells.lookup x=some c->c≠b)/\∀p∈X.pn++pins,p.1≠b)
  (keep:∀b o,b≠X.env.locals->b∉X.fs->b∉ch->s.heap.get? b=some o->H b=none->h'.get? b=some o)
  (slot:∀b o,b≠X.env.locals->b∈X.fs->b∉ch->s.heap.get? b=some o->H b=none->∃sl,h'.get? b=some {o with slots:=sl}) (free:∀b o,b∉ch->s.heap.get? b=some o->H b=none->H' b=none)
  (there:∀b o,b∉ch->s.heap.get? b=some o->∃o',h'.get? b=some o')
  (nP:∀b xs,H b=some (.tup xs)->H' b=some (.tup xs)) (mq:∀b o u,H b=some (.Ad o u)->H' b=some (.Ad o u)) (nQ:∀b ps,H b=some (.cR ps)->∃more,H' b=some (.cR (ps++more)))
  (ns:∀m,s.heap.Ns X.env.locals m->h'.Ns X.env.locals m) (bG:gO X.prog X.w H' h') (hg:V8 g') :
  Inv X pins σ H' {s with heap:=h',gens:=g',drawn:=d',toks:=t'}:=by
 have Ob:∀b o,X.s₀.heap.get? b=some o->b≠X.env.locals:=λb o e=>S5 (Td (SD e) I.ok.above);have J9:∀b o,X.s₀.heap.get? b=some o->b∉X.ex->b∉ch:=λb o e hx hb=>by
  rcases (qq b hb).1 with z|z
  ·exact hx z
  ·exact absurd (Td (SD e) z) (Vp _)
 have cellK:∀x c,X.env.cells.lookup x=some c->∀v,s.heap.IsCell c v->h'.IsCell c v:=λx c e v za=>by
  obtain⟨o,ho,hd⟩:=za;have Hl:c∉ch:=λz=>(qq c z).2.2.1 x c e rfl
  by_cases hc:c∈X.fs
  ·obtain⟨sl,q⟩:=slot c o (I.FE x c e) hc Hl ho (I.gm x c e);exact⟨_,q,hd⟩
  ·exact⟨o,keep c o (I.FE x c e) hc Hl ho (I.gm x c e),hd⟩
 refine⟨I.ok,I.os,hg,⟨λb o e n hb hx=>?_,λb o e n hb hx=>?_,λb o e n hx=>?_,λb o e hx=>?_,λb xs e=>nP b xs (I.base.nP b xs e),λb o xs e=>mq b o xs (I.base.mq b o xs e),λb ps e=>?_⟩,?_,λx c e=>?_,?_,λx c e=>?_,λp hp=>?_,bG,I.len⟩
 ·exact keep b o (Ob b o e) hb (J9 b o e hx) (I.base.keep b o e n hb hx) (I.base.free b o e n hx)
 ·obtain⟨sl,e1⟩:=I.base.slot b o e n hb hx;obtain⟨DV,e2⟩:=slot b _ (Ob b o e) hb (J9 b o e hx) e1 (I.base.free b o e n hx);exact⟨DV,e2⟩
 ·obtain⟨o',e1⟩:=I.base.there b o e hx;exact free b o' (J9 b o e hx) e1 (I.base.free b o e n hx)
 ·obtain⟨o',e1⟩:=I.base.there b o e hx;exact there b o' (J9 b o e hx) e1
 ·obtain⟨m1,e1⟩:=I.base.nQ b ps e;obtain⟨m2,e2⟩:=nQ b _ e1;exact⟨m1++m2,by rw[e2,Array.append_assoc]⟩
 ·obtain⟨m,hn,hl⟩:=I.loc;refine⟨m,ns m hn,λi x v e1 e2 e3=>?_⟩;obtain⟨u,r,l⟩:=hl i x v e1 e2 e3;refine⟨u,r,?_⟩;rcases l with l|⟨k,c,e,z⟩
  ·exact .inl l
  ·exact .inr ⟨k,c,e,cellK x c e _ z⟩
 ·obtain⟨v,z⟩:=I.cell x c e;exact⟨v,cellK x c e v z⟩
 ·obtain⟨m,⟨o,_,_,ho,_⟩,_⟩:=I.loc;exact free _ o (λz=>(qq _ z).2.1 rfl) ho I.free
 ·obtain⟨v,o,ho,hd⟩:=I.cell x c e;exact free c o (λz=>(qq c z).2.2.1 x c e rfl) ho (I.gm x c e)
 ·obtain⟨e,n,ne,nf,d⟩:=I.pin p hp;have Hl:p.1∉ch:=λz=>(qq p.1 z).2.2.2 p hp rfl;exact⟨keep p.1 p.2 ne nf Hl e n,free p.1 p.2 Hl e n,ne,nf,d⟩
theorem Inv.un {t':Nat}(I:Inv X pins σ H s)(u:Un X.fs [] H H' s.heap h')(bG:gO X.prog X.w H' h'):Inv X pins σ H' {s with heap:=h',toks:=t'}:=by
 obtain⟨m,⟨o,es,ep,ho,r⟩,_⟩:=id I.loc;obtain⟨sl,hL⟩:=u.any ho I.free (by simp)
 exact I.step (g':=s.gens) (d':=s.drawn) (ch:=[]) (λ_ z=>nomatch z) (λb o _ hb _ e n=>u.keep b o e n hb (by simp)) (λb o _ hb _ e n=>u.slot b o e n hb (by simp)) (λb o _ e n=>u.free b o e n (by simp)) (λb o _ e=>u.there b o e (by simp)) u.nP u.mq u.nQ (λm' hm=>by
  obtain⟨o',dP,oH,BN,r'⟩:=hm;rw[ho]at BN;cases BN;exact⟨_,dP,oH,hL,r'⟩) bG I.bare
theorem Inv.call {g':Array GenState}{t':Nat}{d':Drawn}{ch:List Addr}(I:Inv X pins σ H s)(u:Un (zr X.stack) ch H H' s.heap h')(bG:gO X.prog X.w H' h')(hg:V8 g')
  (qq:∀b∈ch,(b∈X.ex\/X.s₀.heap.objs.size<=b)/\b≠X.env.locals/\(∀x c,X.env.cells.lookup x=some c->c≠b)/\∀p∈X.pn++pins,p.1≠b) :
  Inv X pins σ H' {s with heap:=h',gens:=g',drawn:=d',toks:=t'}:=by
 obtain⟨m,⟨o,es,ep,ho,r⟩,_⟩:=id I.loc;obtain⟨sl,hL⟩:=u.any ho I.free λz=>(qq _ z).2.1 rfl;exact I.step (ch:=ch) qq (λb o hL hb hc e n=>u.keep b o e n (λz=>(Sr.mp (I.rO b z)).elim hL hb) hc) (λb o _ _ hc e n=>u.any e n hc) (λb o hc e n=>u.free b o e n hc) (λb o hc e=>u.there b o e hc) u.nP u.mq u.nQ (λm' hm=>by
  obtain⟨o',dP,oH,BN,r'⟩:=hm;rw[ho]at BN;cases BN;exact⟨_,dP,oH,hL,r'⟩) bG hg
theorem Inv.turned {t':Nat}{it:Addr}(I:Inv X pins σ H s)(k:∀b o,b≠it->s.heap.get? b=some o->h'.get? b=some o)(hn:H it=none)(hL:it≠X.env.locals)
  (h1:it∈X.ex\/X.s₀.heap.objs.size<=it) (h2:∀x c,X.env.cells.lookup x=some c->c≠it) (h3:∀p∈X.pn++pins,p.1≠it):Inv X pins σ H {s with heap:=h',toks:=t'}:=by
 have Oa:∀b u,H b=some u->b≠it:=λb u e z=>by rw[z,hn]at e;cases e
 refine I.step (g':=s.gens) (d':=s.drawn) (ch:=[it]) (λb hb=>?_) (λb o _ _ hc e _=>k b o (λz=>hc (by simp[z])) e) (λb o _ _ hc e _=>⟨o.slots,k b o (λz=>hc (by simp[z])) e⟩) (λ_ _ _ _ n=>n)
  (λb o hc e=>⟨o,k b o (λz=>hc (by simp[z])) e⟩) (λ_ _ e=>e) (λ_ _ _ e=>e) (λb ps e=>⟨#[],by rw[e];simp⟩) (λm hm=>?_) (λb u e=>?_) I.bare
 ·have e:b=it:=by simpa using hb
  subst e;exact⟨h1,hL,h2,h3⟩
 ·obtain⟨o,es,ep,ho,r⟩:=hm;exact⟨o,es,ep,k _ o (T5 hL) ho,r⟩
 ·refine(I.bG b u e).ph (λc v hc q=>k c v ?_ q) (λ_ q=>q) λ_ _ q=>q;rcases hc with z|z
  ·rw[z];exact Oa b u e
  ·exact Oa c _ z
theorem Inv.tok (I:Inv X pins σ H s)(t:Nat):Inv X pins σ H {s with toks:=t}:=I.un (h':=s.heap) (t':=t) Un.refl I.bG
theorem Inv.kept {t':Nat}(I:Inv X pins σ H s)(k:∀b u,s.heap.get? b=some u->h'.get? b=some u):Inv X pins σ H {s with heap:=h',toks:=t'}:=I.un (Un.kept k) (I.bG.kept k)
theorem Inv.laid {a:Addr}{o:HO}{t':Nat}(I:Inv X pins σ H s)(k:∀b u,s.heap.get? b=some u->h'.get? b=some u)(hp:s.heap.objs.size<=a)(new:bV X.prog X.w (upd H a o) h' a o):
  Inv X pins σ (upd H a o) {s with heap:=h',toks:=t'}:=I.un (Un.laid k hp (I.bG.fresh hp)) (I.bG.laid k hp new)
theorem Inv.write {x e:Addr}{o:HO}{t':Nat}(I:Inv X pins σ H s)(mu:JP (H x))(he:e=x\/H e=some (.own x))(k:∀b u,b≠e->s.heap.get? b=some u->h'.get? b=some u)(F6:∃u,h'.get? e=some u)
  (new:bV X.prog X.w (upd H x o) h' x o):Inv X pins σ (upd H x o) {s with heap:=h',toks:=t'}:=I.un (Un.write mu he k F6) (I.bG.write mu he k F6 new)
theorem Inv.uv {CA:List (Addr×Obj)}(I:Inv X pins σ H s)(h:∀p∈CA,s.heap.get? p.1=some p.2/\H p.1=none/\p.1≠X.env.locals/\p.1∉X.fs/\∀v,p.2.data≠.cell v):Inv X CA σ H s :=
 ⟨I.ok,I.os,I.bare,I.base,I.loc,I.cell,I.free,I.gm,λp hp=>(SO.mp hp).elim (λz=>I.pin p (T3 _ z)) (h p),I.bG,I.len⟩
theorem pU {N:List Str}(hN:N.Nodup){i j:Nat}{x:Str}(a:N[i]?=some x)(b:N[j]?=some x):i=j:=by
 obtain⟨h1,e1⟩:=Sz.mp a;obtain⟨h2,e2⟩:=Sz.mp b;exact(List.getElem_inj hN).mp (e1.trans e2.symm)
theorem mM {M:Model}{A:TF}{E:Sh->Si->Prop}{i:Nat}{x:Str}{v:V}{u:Sh}{Q:Unit->Si->Prop}(I:Inv X pins σ H s)(hN:X.N.Nodup)(hi:X.N[i]?=some x)(hx:Loc X.env.scope x)(r:RelV v u)
  (h:∀s',Inv X pins (σ.set i (some v)) H s'->(∃a,Uq a s.heap s'.heap/\(a=X.env.locals\/X.env.cells.lookup x=some a))->Q () s') (hf:X.fn x=true\/X.env.scope.names.lookup x=some .local:=by first|exact .inl rfl|exact .inr rfl|assumption):S6 M A (storeName X.env x u) Q E s:=by
 obtain⟨m,hn,hl⟩:=id I.loc;have M1:(X.env.scope.kind==.class || (X.env.scope.kind==.module&&X.env.locals != X.env.globals))=false:=by rw[I.ok.kind];rfl
 have Jc:i<σ.length:=by rw[I.len];exact(Sz.mp hi).1
 have FE:=I.FE;have tracked:∀{a:Addr} {h':Heap},(∃o,s.heap.get? a=some o/\H a=none)->Uq a s.heap h'->gO X.prog X.w H h':=λ{a h'} ha hs b ob e=>by
  obtain⟨_,_,CY⟩:=ha;refine(I.bG b ob e).ph (λc w' hc q=>(hs.2 c ?_).trans q) (λ_ q=>q) λ_ _ q=>q;rintro rfl;rcases hc with rfl|hc
  ·rw[CY]at e;cases e
  ·rw[CY]at hc;cases hc
 rcases hx with hk|hk
 ·refine wpAny_storeName_local hk hn (λh' BP hs=>?_) M1;obtain⟨oL,_,_,Qs,_⟩:=id hn;refine h _ ⟨I.ok,I.os,I.bare,⟨λb o e n hb hx=>?_,λb o e n hb hx=>?_,I.base.free,λb o e hx=>?_,I.base.nP,I.base.mq,I.base.nQ⟩,⟨_,BP,λj y v' e1 e2 e3=>?_⟩,λy c e=>?_,I.free,I.gm,λp hp=>?_,tracked ⟨oL,Qs,I.free⟩ hs,by simpa using I.len⟩ ⟨_,hs,.inl rfl⟩
  ·exact(hs.2 b (S5 (Td (SD e) I.ok.above))).trans (I.base.keep b o e n hb hx)
  ·obtain⟨sl,e1⟩:=I.base.slot b o e n hb hx;exact⟨sl,(hs.2 b (S5 (Td (SD e) I.ok.above))).trans e1⟩
  ·obtain⟨o',e1⟩:=I.base.there b o e hx;exact⟨o',(hs.2 b (S5 (Td (SD e) I.ok.above))).trans e1⟩
  ·by_cases hj:j=i
   ·subst hj;rw[hi]at e1;cases e1;rw[V4 Jc]at e2;cases e2;exact⟨u,r,.inl ⟨hk,by simp⟩⟩
   ·rw[List.getElem?_set_ne (T5 hj)]at e2;obtain⟨u',r',q⟩:=hl j y v' e1 e2 e3;refine⟨u',r',?_⟩;rcases q with⟨k,e⟩|⟨k,c,e,z⟩
    ·refine .inl ⟨k,?_⟩;have:y≠x:=λe=>hj (pU hN e1 (e▸hi));simp[this,e]
    ·exact .inr ⟨k,c,e,z.sameBut hs (FE y c e)⟩
  ·obtain⟨w',z⟩:=I.cell y c e;exact⟨w',z.sameBut hs (FE y c e)⟩
  ·obtain⟨e,n,ne,nf,d⟩:=I.pin p hp;exact⟨(hs.2 p.1 ne).trans e,n,ne,nf,d⟩
 ·have M0:X.fn x=true:=by
   rcases hf with z|z
   ·exact z
   ·rw[z]at hk;cases hk
  obtain⟨c,hc⟩:=I.ok.has x (.inl hk);obtain⟨w',z⟩:=I.cell x c hc;refine wpAny_storeName_cell I.ok.kind hk hc z (λh' oF hs=>?_);obtain⟨oc,Fc,ME⟩:=id z;refine h {s with heap:=h'} ⟨I.ok,I.os,I.bare,⟨λb o e n hb hx=>?_,λb o e n hb hx=>?_,I.base.free,λb o e hx=>?_,I.base.nP,I.base.mq,I.base.nQ⟩,⟨m,hn.sameBut hs (T5 (FE x c hc)),λj y v' e1 e2 e3=>?_⟩,λy c' e=>?_,I.free,I.gm,λp hp=>?_,tracked ⟨oc,Fc,I.gm x c hc⟩ hs,by simpa using I.len⟩ ⟨c,hs,.inr hc⟩
  ·exact(hs.2 b (S5 (Td (SD e) (I.ok.JE x c M0 hc)))).trans (I.base.keep b o e n hb hx)
  ·obtain⟨sl,e1⟩:=I.base.slot b o e n hb hx;exact⟨sl,(hs.2 b (S5 (Td (SD e) (I.ok.JE x c M0 hc)))).trans e1⟩
  ·obtain⟨o',e1⟩:=I.base.there b o e hx;exact⟨o',(hs.2 b (S5 (Td (SD e) (I.ok.JE x c M0 hc)))).trans e1⟩
  ·by_cases hj:j=i
   ·subst hj;rw[hi]at e1;cases e1;rw[V4 Jc]at e2;cases e2;exact⟨u,r,.inr ⟨.inl hk,c,hc,oF⟩⟩
   ·rw[List.getElem?_set_ne (T5 hj)]at e2;obtain⟨u',r',q⟩:=hl j y v' e1 e2 e3;refine⟨u',r',?_⟩;rcases q with q|⟨k,c',e,z'⟩
    ·exact .inl q
    ·refine .inr ⟨k,c',e,z'.sameBut hs ?_⟩;rintro rfl;exact hj (pU hN e1 (I.ok.inj _ _ _ e hc▸hi))
  ·by_cases s9:c'=c
   ·subst s9;exact⟨_,oF⟩
   ·obtain⟨w2,z2⟩:=I.cell y c' e;exact⟨w2,z2.sameBut hs s9⟩
  ·obtain⟨e,n,ne,nf,d⟩:=I.pin p hp;refine⟨(hs.2 p.1 ?_).trans e,n,ne,nf,d⟩;intro q;rw[q,Fc]at e;have q':oc=p.2:=S8 e;exact d w' (by rw[<- q'];exact ME)
theorem o_ {M:Model}{A:TF}{E:Sh->Si->Prop}{i:Nat}{x:Str}{v:V}{u:Sh}{Q:Unit->Si->Prop}(I:Inv X pins σ H s)(hN:X.N.Nodup)(hi:X.N[i]?=some x)(hx:Loc X.env.scope x)(r:RelV v u)
  (h:∀s',Inv X pins (σ.set i (some v)) H s'->Q () s') (hf:X.fn x=true\/X.env.scope.names.lookup x=some .local:=by first|exact .inl rfl|exact .inr rfl|assumption):S6 M A (storeName X.env x u) Q E s :=
 mM I hN hi hx r (λs' I' _=>h s' I') hf
theorem Inv.JD {s':Si}{ch:List Addr}(I:Inv X pins σ H s)(ho:s'.os=s.os)(u:Un (zr X.stack) ch H H' s.heap s'.heap)(bG:gO X.prog X.w H' s'.heap)(hg:V8 s'.gens)
  (qq:∀b∈ch,(b∈X.ex\/X.s₀.heap.objs.size<=b)/\b≠X.env.locals/\(∀x c,X.env.cells.lookup x=some c->c≠b)/\∀p∈X.pn++pins,p.1≠b):Inv X pins σ H' s':=by
 obtain⟨h',g',d',t',o'⟩:=s';have e:o'=s.os:=ho;subst e;exact I.call (g':=g') (t':=t') (d':=d') u bG hg qq
end
abbrev XK:=Sh->Option Addr->Hp->Prop
abbrev St:=List (Option V)
abbrev VK:=V->Hp->Prop
abbrev TE:=St->Hp->VK->Prop
abbrev TT:=St->Hp->(Bool->Hp->Prop)->Prop
abbrev TA:=St->Hp->(List V->Hp->Prop)->Prop
structure Ends where
 nx:St->Hp->Prop
 rt:VK
 bk:St->Hp->Prop:=λ_ _=>False
 ct:St->Hp->Prop:=λ_ _=>False
abbrev TS:=Ends->St->Hp->Prop
def EP (X:Cx)(pins:List (Addr×Obj))(σ:St)(Q:VK)(u:Sh)(s':Si):Prop:=∃v H',Inv X pins σ H' s'/\RelV v u/\Q v H'
def TP (X:Cx)(pins:List (Addr×Obj))(σ:St)(Q:Bool->Hp->Prop)(b:Bool)(s':Si):Prop:=∃H',Inv X pins σ H' s'/\Q b H'
def AP (X:Cx)(pins:List (Addr×Obj))(σ:St)(Q:List V->Hp->Prop)(us:List Sh)(s':Si):Prop:=∃vs H',Inv X pins σ H' s'/\Vals vs us/\Q vs H'
def SP (X:Cx)(pins:List (Addr×Obj))(D:Ends)(f:Flow)(s':Si):Prop :=
 match f with
 |.next=>∃σ' H',Inv X pins σ' H' s'/\D.nx σ' H'
 |.brk=>∃σ' H',Inv X pins σ' H' s'/\D.bk σ' H'
 |.cont=>∃σ' H',Inv X pins σ' H' s'/\D.ct σ' H'
 |.ret u=>∃v σ' H',Inv X pins σ' H' s'/\RelV v u/\D.rt v H'
def PE (X:Cx)(e:Expr)(t:TE):Prop :=
 ∀(pins:List (Addr×Obj)) (s:Si) (σ:St) (H:Hp) (Q:VK),Inv X pins σ H s->t σ H Q->S6 (model X.prog X.w) X.A (eval e X.env) (EP X pins σ Q) X.xe s
def PT (X:Cx)(e:Expr)(t:TT):Prop :=
 ∀(pins:List (Addr×Obj)) (s:Si) (σ:St) (H:Hp) (Q:Bool->Hp->Prop),Inv X pins σ H s->t σ H Q->S6 (model X.prog X.w) X.A (W6 e X.env (eval e X.env)) (TP X pins σ Q) X.xe s
def PW (X:Cx)(e:Expr)(t:TT):Prop :=
 ∀(whole:Sem Sh) (pins:List (Addr×Obj)) (s:Si) (σ:St) (H:Hp) (Q:Bool->Hp->Prop),Inv X pins σ H s->t σ H Q->S6 (model X.prog X.w) X.A (W6 e X.env whole) (TP X pins σ Q) X.xe s
theorem PW.pt {X:Cx}{e:Expr}{t:TT}(h:PW X e t):PT X e t:=h _
def PA (X:Cx)(es:List Expr)(t:TA):Prop :=
 ∀(pos:Pos) (pins:List (Addr×Obj)) (s:Si) (σ:St) (H:Hp) (Q:List V->Hp->Prop),Inv X pins σ H s->t σ H Q->S6 (model X.prog X.w) X.A (spliced (UP pos (SX es X.env))) (AP X pins σ Q) X.xe s
def PS (X:Cx)(st:Stmt)(t:TS):Prop :=
 ∀(pins:List (Addr×Obj)) (s:Si) (σ:St) (H:Hp) (D:Ends),Inv X pins σ H s->t D σ H->S6 (model X.prog X.w) X.A (exec st X.env) (SP X pins D) X.xe s
def oS (X:Cx)(st:List Stmt)(t:TS):Prop :=
 ∀(pins:List (Addr×Obj)) (s:Si) (σ:St) (H:Hp) (D:Ends),Inv X pins σ H s->t D σ H->S6 (model X.prog X.w) X.A (execs st X.env) (SP X pins D) X.xe s
theorem br {α:Type}{t:Sem α}{Q Q':α->Si->Prop}{M:Model}{A:TF}{E:Sh->Si->Prop}{s:Si}(h:S6 M A t Q E s)(hQ:∀a s,Q a s->Q' a s):S6 M A t Q' E s:=VA h hQ λ_ _ x=>x
section
variable {X:Cx}
def Gw (i:Nat):TE:=λσ H Q=>∃v,σ[i]?=some (some v)/\Q v H
def tC (v:V):TE:=λ_ H Q=>Q v H
theorem cT {i:Nat} {x:Str} {pos:Pos} (hN:X.N[i]?=some x) (hv:tS X.env.scope x) (hd:(x==("__debug__" : Str))=false:=by decide) (gk:(x==("__classdict__" : Str))=false:=by decide):PE X (.Name x pos) (Gw i):=by
 intro pins s σ H Q I h;obtain⟨v,e,h⟩:=h;obtain⟨m,hn,hl⟩:=I.loc;obtain⟨u,r,l⟩:=hl i x v hN e hv;have fin:EP X pins σ Q u s:=⟨v,H,I,r,h⟩;rcases l with⟨hk,hm⟩|⟨hk,c,hc,ng⟩
 ·exact wpAny_Name (wpAny_loadName_local I.ok.kind hk hn hm fin) hd
 ·rcases hk with hk|hk
  ·exact wpAny_Name (wpAny_loadName_cell I.ok.kind hk hc ng fin) hd
  ·exact wpAny_Name (wpAny_loadName_free I.ok.kind hk hc ng fin gk) hd
theorem a6 {i j pos}:PE X (.Constant (.int i) j pos) (tC (.int i)):=λ_ _ _ H _ I h=>wpAny_Constant_int ⟨.int i,H,I.tok _,⟨_,rfl⟩,h⟩
theorem CC {b j pos}:PE X (.Constant (.bool b) j pos) (tC (.bl b)):=λ_ _ _ H _ I h=>Constant_bool ⟨.bl b,H,I,rfl,h⟩
theorem Ek {j pos}:PE X (.Constant .none j pos) (tC .bX):=λ_ _ _ H _ I h=>Constant_none ⟨.bX,H,I,rfl,h⟩
def Gl (X:Cx)(x:Str):Prop:=X.env.kindOf x=some .globalImplicit
theorem BA {E:Sh->Si->Prop}{pins:List (Addr×Obj)}{s:Si}{σ:St}{H:Hp}{x:Str}{u:Sh}{pos:Pos}{Q:Sh->Si->Prop}(I:Inv X pins σ H s)(hg:Gl X x)(hm:X.mg x=some u)(h:Q u s)
  (hd:(x==("__debug__" : Str))=false:=by decide):S6 (model X.prog X.w) X.A (eval (.Name x pos) X.env) Q E s :=
 Xp I.ok.kind hg (Calls.loadGlobal_global (by rw[I.ok.glob];exact I.mod.glob.keeps I.bk) hm h) hd
theorem eQ {E:Sh->Si->Prop}{pins:List (Addr×Obj)}{s:Si}{σ:St}{H:Hp}{x:Str}{u:Sh}{pos:Pos}{Q:Sh->Si->Prop}(I:Inv X pins σ H s)(hg:Gl X x)(hm:X.mg x=none)(hv:TV x=some u)(h:Q u s)
  (hn:x≠"__name__" := by decide) (hd:(x==("__debug__" : Str))=false:=by decide):S6 (model X.prog X.w) X.A (eval (.Name x pos) X.env) Q E s:=by
 obtain⟨mb,h1,h2⟩:=I.mod.blt;exact Xp I.ok.kind hg (Calls.loadGlobal_builtin (by rw[I.ok.glob];exact I.mod.glob.keeps I.bk) hm (by rw[I.ok.blt];exact h1.keeps I.bk) ((h2 x hn).trans hv) h) hd
variable {a b:Expr}{pos:Pos}
theorem pV (b:Expr){op:VG}(h:op≠.In)(h2:op≠.NotIn):UL op b=false:=by
 have e1:(op==CmpOp.In)=false:=by cases op <;> first|rfl|exact absurd rfl h
 have e2:(op==CmpOp.NotIn)=false:=by cases op <;> first|rfl|exact absurd rfl h2
 cases b <;> simp[UL,e1,e2]
def tB (t:TE):TT:=λσ H Q=>t σ H λx H1=>∃c,x=.bl c/\Q c H1
theorem Ef {e:Expr}{t:TE}(h:PE X e t)(he:∀whole,W6 e X.env whole=(do let v <- whole;VL e.pos;holding [v] (truthy v)):=by intro _;rfl):PT X e (tB t):=by
 intro pins s σ H Q I hw;refine isTrue_plain (br (h pins s σ H _ I hw) λv s1 ⟨x,H1,I1,r1,q1⟩=>?_) (he _);obtain⟨d,rfl,q⟩:=q1;cases r1;exact Uz ⟨H1,I1,q⟩
variable {tA J0:TT}{rest:List Expr}
def KW (t u:TT):TT:=λσ H Q=>t σ H λc H1=>if c=true then u σ H1 Q else Q false H1
def Pk (t u:TT):TT:=λσ H Q=>t σ H λc H1=>if c=true then Q true H1 else u σ H1 Q
def KO (t:TT):TT:=λσ H Q=>t σ H λc H1=>Q (!c) H1
theorem pw_and1 (ha:PT X a tA):PW X (.BoolOp .And [a] pos) tA:=by
 intro wh pins s σ H Q I h;refine isTrue_and (br (ha pins s σ H Q I h) λc s1 e=>?_);cases c with
 |true=>exact isTrue_and_nil e
 |false=>exact e
theorem pw_or1 (ha:PT X a tA):PW X (.BoolOp .Or [a] pos) tA:=by
 intro wh pins s σ H Q I h;refine isTrue_or (br (ha pins s σ H Q I h) λc s1 e=>?_);cases c with
 |false=>exact isTrue_or_nil e
 |true=>exact e
theorem pw_and (ha:PT X a tA)(hb:PW X (.BoolOp .And (b::rest) pos) J0):PW X (.BoolOp .And (a::b::rest) pos) (KW tA J0):=by
 intro wh pins s σ H Q I h;refine isTrue_and (br (ha pins s σ H _ I h) λc s1 ⟨H1,I1,q1⟩=>?_);cases c with
 |true=>exact hb wh pins s1 σ H1 Q I1 q1
 |false=>exact⟨H1,I1,q1⟩
theorem pw_or (ha:PT X a tA)(hb:PW X (.BoolOp .Or (b::rest) pos) J0):PW X (.BoolOp .Or (a::b::rest) pos) (Pk tA J0):=by
 intro wh pins s σ H Q I h;refine isTrue_or (br (ha pins s σ H _ I h) λc s1 ⟨H1,I1,q1⟩=>?_);cases c with
 |true=>exact⟨H1,I1,q1⟩
 |false=>exact hb wh pins s1 σ H1 Q I1 q1
theorem Eg (ha:PT X a tA):PT X (.UnaryOp .Not a pos) (KO tA):=by
 intro pins s σ H Q I h;exact isTrue_not (ha pins s σ H (λc H1=>Q (!c) H1) I h)
end
def cE (K:PySem.W.Frag)(H:Hp)(a:Addr)(xs:List V):Prop :=
 Rd H a (.lst xs) \/
  ∃(o:Obj) (its:Array Sh) (n:Nat),K.lookup a=some o/\o.cls=.type "list" /\ o.dict=none/\o.data=.seq its n/\its.size<=SG/\Vals xs its.toList
def tU (K:PySem.W.Frag)(H:Hp)(a:Addr)(xs:List V):Prop :=
 Rd H a (.tup xs) \/
  ∃(o:Obj) (its:Array Sh) (n:Nat),K.lookup a=some o/\o.cls=.type "tuple" /\ o.data=.seq its n/\its.size<=SG/\Vals xs its.toList
def Nr:Sh->Option V
 |.none=>some .bX
 |.bool b=>some (.bl b)
 |.int i _=>some (.int i)
 |.str x _=>some (.str x)
 |.bytes b _=>some (.zM b)
 |.float b _=>some (.Nb b)
 |.ref a=>some (.ref a)
 |.type n=>some (.ty n)
 |_=>none
theorem RelV.abs {x:V}{u:Sh}(r:RelV x u):Nr u=some x:=by
 cases x with
 |bX=>cases r;rfl
 |bl _=>cases r;rfl
 |int _=>obtain⟨t,rfl⟩:=r;rfl
 |str _=>obtain⟨t,rfl⟩:=r;rfl
 |zM _=>obtain⟨t,rfl⟩:=r;rfl
 |Nb _=>obtain⟨t,rfl⟩:=r;rfl
 |ref _=>cases r;rfl
 |ty _=>cases r;rfl
theorem RelV.inj {x y:V}{u:Sh}(r:RelV x u)(q:RelV y u):x=y:=S8 (r.abs.symm.trans q.abs)
theorem Vals.inj:∀{xs ys:List V} {us:List Sh},Vals xs us->Vals ys us->xs=ys
 |_,_,_,.nil,.nil=>rfl
 |_,_,_,.cons r t,.cons r' t'=>by rw[r.inj r',Vals.inj t t']
section
variable {X:Cx}{pins:List (Addr×Obj)}{σ:St}{H:Hp}{s:Si}{a:Addr}{xs ys:List V}
theorem cE.of {K:PySem.W.Frag}(h:H a=some (.lst xs)):cE K H a xs:=.inl (.inl h)
theorem tU.of {K:PySem.W.Frag}(h:H a=some (.tup xs)):tU K H a xs:=.inl (.inl h)
theorem Inv.list (I:Inv X pins σ H s)(h:cE X.K H a xs):∃its:List Sh,Vals xs its/\PlainL s.heap a its.toArray/\xs.length<=SG:=by
 rcases h with h|⟨o,its,n,hk,hc,hd,hs,hz,r⟩
 ·obtain⟨z,its,n,r,e⟩:=h.ok I.bG;exact⟨its,r,⟨_,n,e,rfl,rfl,rfl⟩,z⟩
 ·refine⟨its.toList,r,⟨o,n,I.F1 a o hk,hc,hd,by simpa using hs⟩,?_⟩
  have e:=r.length;simp only[Sv]at e;lia
theorem Inv.tuple (I:Inv X pins σ H s)(h:tU X.K H a xs):∃its:List Sh,Vals xs its/\IsTup s.heap a its.toArray/\xs.length<=SG:=by
 rcases h with h|⟨o,its,n,hk,hc,hs,hz,r⟩
 ·obtain⟨z,its,r,p⟩:=h.ok I.bG;exact⟨its,r,p,z⟩
 ·refine⟨its.toList,r,⟨o,I.F1 a o hk,hc,n,by simpa using hs⟩,?_⟩
  have e:=r.length;simp only[Sv]at e;lia
theorem Inv.yF (I:Inv X pins σ H s)(h:cE X.K H a xs)(h':cE X.K H a ys):xs=ys:=by
 obtain⟨its,r,⟨o,n,e,_,_,d⟩,_⟩:=I.list h;obtain⟨its',r',⟨o',n',e',_,_,d'⟩,_⟩:=I.list h';rw[e]at e';cases e';rw[d]at d';injection d' with d1 _
 have:its=its':=by simpa using congrArg Array.toList d1
 subst this;exact r.inj r'
end
abbrev Cx.l0 (X:Cx)(E:Sh->Si->Prop):Cx:={X with xe:=E}
abbrev Cx.CG (X:Cx):Cx:=X.l0 λ_ _=>False
theorem Cx.Ok.l0 {X:Cx}(ok:X.Ok)(E:Sh->Si->Prop):(X.l0 E).Ok :=
 ⟨ok.mod,ok.kind,ok.glob,ok.blt,ok.above,ok.inj,ok.has,ok.JE,ok.hd,ok.frames,ok.J1,ok.Kr,ok.bs,ok.Dg,ok.yx,ok.zv,ok.ly,ok.F9⟩
theorem Cx.Ok.fB {X:Cx}{E:Sh->Si->Prop}(ok:(X.l0 E).Ok):X.Ok :=
 ⟨ok.mod,ok.kind,ok.glob,ok.blt,ok.above,ok.inj,ok.has,ok.JE,ok.hd,ok.frames,ok.J1,ok.Kr,ok.bs,ok.Dg,ok.yx,ok.zv,ok.ly,ok.F9⟩
section
variable {X:Cx}{pins:List (Addr×Obj)}{σ:St}{H:Hp}{s:Si}{E:Sh->Si->Prop}
theorem Inv.l0 (I:Inv X pins σ H s)(E:Sh->Si->Prop):Inv (X.l0 E) pins σ H s:=⟨I.ok.l0 E,I.os,I.bare,I.base,I.loc,I.cell,I.free,I.gm,I.pin,I.bG,I.len⟩
theorem Inv.fB (I:Inv (X.l0 E) pins σ H s):Inv X pins σ H s:=⟨I.ok.fB,I.os,I.bare,I.base,I.loc,I.cell,I.free,I.gm,I.pin,I.bG,I.len⟩
theorem SP.fB {D:Ends}{f:Flow}{s':Si}(h:SP (X.l0 E) pins D f s'):SP X pins D f s':=by
 cases f with
 |next=>obtain⟨σ',H',I,q⟩:=h;exact⟨σ',H',I.fB,q⟩
 |brk=>obtain⟨σ',H',I,q⟩:=h;exact⟨σ',H',I.fB,q⟩
 |cont=>obtain⟨σ',H',I,q⟩:=h;exact⟨σ',H',I.fB,q⟩
 |ret u=>obtain⟨v,σ',H',I,r,q⟩:=h;exact⟨v,σ',H',I.fB,r,q⟩
theorem oS.CG {st:List Stmt}{t:TS}(h:oS X.CG st t):oS X st t:=λpins s σ H D I hw =>
 VA (h pins s σ H D (I.l0 _) hw) (λ_ _ q=>q.fB) λ_ _ z=>US z
end
section
variable {X:Cx}{st:Stmt}{rest:List Stmt}{t u:TS}{e:Expr}{te:TE}{pos:Pos}
def GD:TS:=λD σ H=>D.nx σ H
def KL (t u:TS):TS:=λD σ H=>t {D with nx:=u D} σ H
theorem uk:oS X [] GD:=λ_ _ σ H _ I h=>V9 ⟨σ,H,I,h⟩
theorem dh (h1:PS X st t)(h2:oS X rest u):oS X (st::rest) (KL t u):=by
 intro pins s σ H D I h;refine wpAny_execs_cons (br (h1 pins s σ H {D with nx:=u D} I h) λf s1 q=>?_)
 cases f with
 |next =>
  obtain⟨σ',H',I',q⟩:=q;exact h2 pins s1 σ' H' D I' q
 |ret v=>exact q
 |brk=>exact q
 |cont=>exact q
theorem g6 (h1:PS X st t):oS X [st] t:=by
 intro pins s σ H D I h;refine wpAny_execs_cons (br (h1 pins s σ H D I h) λf s1 q=>?_);cases f with
 |next=>exact V9 q
 |ret v=>exact q
 |brk=>exact q
 |cont=>exact q
theorem Inv.quiet {pins:List (Addr×Obj)}{σ:St}{H:Hp}{s:Si}(I:Inv X pins σ H s):interactive X.env=false:=by simp[interactive,I.ok.kind]
def GG (te:TE):TS:=λD σ H=>te σ H λ_ H1=>D.nx σ H1
theorem n_ (he:PE X e te)(hs:UU e none pos.line X.env=pure false:=by rfl):PS X (.Expr e pos) (GG te):=by
 intro pins s σ H D I h;exact wpAny_Expr_any (br (he pins s σ H _ I h) λv s1 yY=>by obtain⟨x,H1,I1,r1,q1⟩:=yY;exact⟨σ,H1,I1,q1⟩) I.quiet hs
def KN (te:TE):TS:=λD σ H=>te σ H D.rt
theorem iI (he:PE X e te):PS X (.Return (some e) pos) (KN te):=by
 intro pins s σ H D I h;exact wpAny_Return_some (br (he pins s σ H _ I h) λv s1 yX=>by obtain⟨x,H1,I1,r1,q1⟩:=yX;exact⟨x,σ,H1,I1,r1,q1⟩)
def KQ (c:TT)(t u:TS):TS:=λD σ H=>c σ H λb H1=>if b=true then t D σ H1 else u D σ H1
theorem Cy {c:Expr}{a b:List Stmt}{tc:TT}(hc:PT X c tc)(ha:oS X a t)(hb:oS X b u):PS X (.If c a b pos) (KQ tc t u):=by
 intro pins s σ H D I h;refine wpAny_If (br (hc pins s σ H _ I h) λd s1 ⟨H1,I1,q1⟩=>?_);cases d with
 |true=>exact ha pins s1 σ H1 D I1 q1
 |false=>exact hb pins s1 σ H1 D I1 q1
def DO:TS:=λ_ _ _=>False
theorem vw {Pq:List Stmt}:oS X Pq DO:=λ_ _ _ _ _ _ h=>h.elim
end
abbrev TG:=V->St->Hp->(St->Hp->Prop)->Prop
abbrev Dh:=List V->St->Hp->(St->Hp->Prop)->Prop
def PG (X:Cx)(target:Expr)(t:TG):Prop :=
 ∀(pins:List (Addr×Obj)) (s:Si) (σ:St) (H:Hp) (v:V) (u:Sh) (Q:St->Hp->Prop),Inv X pins σ H s->RelV v u->t v σ H Q ->
  S6 (model X.prog X.w) X.A (assign target X.env u) (λ_ s'=>∃σ' H',Inv X pins σ' H' s'/\Q σ' H') X.xe s
def Dl (X:Cx)(ts:List Expr)(t:Dh):Prop :=
 ∀(pins:List (Addr×Obj)) (s:Si) (σ:St) (H:Hp) (vs:List V) (us:List Sh) (Q:St->Hp->Prop),Inv X pins σ H s->Vals vs us->t vs σ H Q ->
  S6 (model X.prog X.w) X.A (assignInOrder ((UB ts X.env).map (·.2)) us) (λ_ s'=>∃σ' H',Inv X pins σ' H' s'/\Q σ' H') X.xe s
abbrev FQ:=V->V->V->Hp->(Hp->Prop)->Prop
def JO (X:Cx)(t:FQ):Prop :=
 ∀(pins:List (Addr×Obj)) (s:Si) (σ:St) (H:Hp) (o i v:V) (ov iv u:Sh) (Q:Hp->Prop),Inv X pins σ H s->RelV o ov->RelV i iv->RelV v u->t o i v H Q ->
  S6 (model X.prog X.w) X.A (setItem ov iv u) (λ_ s'=>∃H',Inv X pins σ H' s'/\Q H') X.xe s
section
variable {X:Cx}{pos:Pos}
def C5 (i:Nat):TG:=λv σ H Q=>Q (σ.set i (some v)) H
theorem AW {i:Nat}{x:Str}(hN:X.N.Nodup)(hi:X.N[i]?=some x)(hx:Loc X.env.scope x)(hf:X.fn x=true\/X.env.scope.names.lookup x=some .local:=by first|exact .inl rfl|exact .inr rfl|assumption):PG X (.Name x pos) (C5 i):=by
 intro pins s σ H v u Q I r h;exact wpAny_assign_Name (o_ I hN hi hx r (λs' I'=>⟨_,H,I',h⟩) hf)
def Fp:Dh:=λvs σ H Q=>vs=[]/\Q σ H
def zk (t:TG)(u:Dh):Dh:=λvs σ H Q=>∃v r,vs=v::r/\t v σ H λσ' H'=>u r σ' H' Q
theorem AV:Dl X [] Fp:=by
 intro pins s σ H vs us Q I r h;obtain⟨e,h⟩:=h;subst e;cases r;exact assignInOrder_nil ⟨σ,H,I,h⟩
theorem yc {e:Expr}{es:List Expr}{t:TG}{u:Dh}(h1:PG X e t)(h2:Dl X es u)
  (hs:(UB (e::es) X.env).map (·.2)=assign e X.env::(UB es X.env).map (·.2):=by rfl):Dl X (e::es) (zk t u):=by
 intro pins s σ H vs us Q I r h;obtain⟨v,vr,e1,h⟩:=h;subst e1;cases r with
 |cons r rr =>
  rw[hs];refine assignInOrder_cons (br (h1 pins s σ H _ _ _ I r h) λ_ s1 ⟨σ1,H1,I1,q1⟩=>?_);exact h2 pins s1 σ1 H1 _ _ Q I1 rr q1
def M9 (K:PySem.W.Frag)(n:Nat)(t:Dh):TG:=λv σ H Q=>∃a xs,v=.ref a/\tU K H a xs/\xs.length=n/\t xs σ H Q
theorem Ei {es:List Expr}{k:Nat}{t:Dh}{n:Nat}(hc:X.calm=true)(h:Dl X es t)
  (hn:(UB es X.env).length=n:=by rfl) (Ia:(UB es X.env).findIdx? (·.1)=none:=by rfl):PG X (.Tuple es k pos) (M9 X.K n t):=by
 intro pins s σ H v u Q I r hw;obtain⟨a,xs,e1,hq,hl,hw⟩:=hw;subst e1;cases r;obtain⟨its,rv,ht,hz⟩:=I.tuple hq;refine assign_Tuple_tuple (I.ok.hd hc) ht (by simp[hn,<- hl,rv.length]) Ia λh' hx=>?_
 have I1:Inv X pins σ H {s with heap:=h'}:=I.kept (t':=s.toks) λb o e=>hx b o (S5 (SD e)) e
 exact h pins _ σ H xs _ Q I1 (by simpa using rv) hw
def M_ (to ti:TE)(t:FQ):TG:=λv σ H Q=>to σ H λo H1=>ti σ H1 λi H2=>t o i v H2 λH3=>Q σ H3
theorem sg {o i:Expr}{to ti:TE}{t:FQ}(ho:PE X o to)(hi:PE X i ti)(hs:JO X t)
  (ha:∀v,assign (.Subscript o i pos) X.env v=(do
   let ov <- holding [v] (eval o X.env)
   let iv <- holding [v,ov] (eval i X.env)
   VL pos
   holding [v,ov,iv] (setItem ov iv v)
   release [v,ov,iv] []):=by intro _;rfl):PG X (.Subscript o i pos) (M_ to ti t):=by
 intro pins s σ H v u Q I r h;rw[ha];refine Sf (T_ (br (ho pins s σ H _ I h) λov s1 ⟨x,H1,I1,r1,q1⟩=>?_));refine Sf (T_ (br (hi pins s1 σ H1 _ I1 q1) λiv s2 ⟨y,H2,I2,r2,q2⟩=>?_));refine Sf (UK (Sf (T_ (br (hs pins s2 σ H2 x y v ov iv u _ I2 r1 r2 r q2) λ_ s3 ⟨H3,I3,q3⟩=>?_))));exact wpAny_release ⟨σ,H3,I3,q3⟩
def GK (te:TE)(g:TG):TS:=λD σ H=>te σ H λx H1=>g x σ H1 D.nx
theorem og {tg e:Expr}{te:TE}{g:TG}(he:PE X e te)(hg:PG X tg g)(hs:swapsWithSole [tg] e pos.line X.env=pure false:=by rfl)(hw:swappedStores [tg] e X.env=pure none:=by rfl)
  (h1:(UB [tg] X.env).map (·.2)=[assign tg X.env]:=by rfl):PS X (.Assign [tg] e pos) (GK te g):=by
 intro pins s σ H D I h;refine wpAny_Assign_stores (br (he pins s σ H _ I h) λv s1 ⟨x,H1,I1,r1,q1⟩=>?_) hs hw;rw[h1];exact br (hg pins s1 σ H1 x v _ I1 r1 q1) λ_ s2 q=>q
theorem r9 {i:Nat}{x:Str}{e:Expr}{te:TE}{pos':Pos}(hN:X.N.Nodup)(hi:X.N[i]?=some x)(hx:Loc X.env.scope x)(he:PE X e te)(hs:UU e (some (.Name x pos')) pos.line X.env=pure false:=by rfl)(hf:X.fn x=true\/X.env.scope.names.lookup x=some .local:=by first|exact .inl rfl|exact .inr rfl|assumption):
  PS X (.Assign [.Name x pos'] e pos) (GK te (C5 i)):=by
 intro pins s σ H D I h;refine wpAny_Assign_Name (br (he pins s σ H _ I h) λv s1 ⟨y,H1,I1,r1,q1⟩=>?_) hs;exact o_ I1 hN hi hx r1 (λs2 I2=>⟨_,H1,I2,q1⟩) hf
end
section
variable {X:Cx}{pos:Pos}
def DK (c:TT)(tb:TS):TS:=λD σ H=>∃W:Nat->St->Hp->Prop,(∃m,W m σ H)/\∀m σ H,W m σ H ->
 c σ H λb H1=>if b=true then ∃N:St->Hp->Prop,(∀σ' H',N σ' H'->∃m',m'<m/\W m' σ' H')/\tb {D with nx:=N,ct:=N,bk:=D.nx} σ H1 else D.nx σ H1
theorem xU {c:Expr}{body:List Stmt}{tc:TT}{tb:TS}(hp:PassesOwn (model X.prog X.w) X.A X.env X.xe)(hc:PT X c tc)(hb:oS X body tb):PS X (.While c body [] pos) (DK tc tb):=by
 intro pins s σ H D I h;obtain⟨W,⟨m0,w0⟩,turn⟩:=h;refine wpAny_While (codeAny_whileLoop (λn s'=>∃σ' H',Inv X pins σ' H' s'/\W n σ' H') ?_ m0 ⟨σ,H,I,w0⟩);rintro n s1 ⟨σ1,H1,I1,w1⟩;refine UI hp (br (hc pins s1 σ1 H1 _ I1 (turn n σ1 H1 w1)) λb s2 ⟨H2,I2,q2⟩=>?_);cases b with
 |true =>
  obtain⟨N,hN,q2⟩:=q2;rw[if_pos rfl];refine UI hp (br (hb pins s2 σ1 H2 _ I2 q2) λf s3 q3=>?_);cases f with
  |next =>
   obtain⟨σ3,H3,I3,n3⟩:=q3;obtain⟨m',hm,w3⟩:=hN σ3 H3 n3;exact⟨m',hm,σ3,H3,I3,w3⟩
  |cont =>
   obtain⟨σ3,H3,I3,n3⟩:=q3;obtain⟨m',hm,w3⟩:=hN σ3 H3 n3;exact⟨m',hm,σ3,H3,I3,w3⟩
  |brk=>exact q3
  |ret v=>exact q3
 |false =>
  rw[if_neg T4];exact V9 ⟨σ1,H2,I2,q2⟩
end
structure It where
 go:Nat->Hp->Prop
 Gr:Nat->Hp->V->Hp->Prop
 stop:Nat->Hp->Prop
def fx (X:Cx)(pins:List (Addr×Obj))(H:Hp)(b:Addr):Prop :=
 H b=none/\b≠X.env.locals/\b∉X.fs/\(b∈X.ex\/X.s₀.heap.objs.size<=b)/\(∀x c,X.env.cells.lookup x=some c->c≠b)/\∀p∈X.pn++pins,p.1≠b
theorem Inv.vZ {X:Cx}{pins:List (Addr×Obj)}{σ:St}{H H':Hp}{s:Si}{b:Addr}(I:Inv X pins σ H s)(hb:s.heap.objs.size<=b)(hn:H' b=none):fx X pins H' b:=by
 refine⟨hn,WW (Td I.lt hb),I.LB hb,.inr (Ts I.sz hb),λx c e z=>?_,λp hp z=>?_⟩
 ·obtain⟨v,q⟩:=I.cell x c e;exact absurd (Td q.lt (by rw[z];exact hb)) (Vp _)
 ·exact absurd (Td (SD (I.pin p hp).1) (by rw[z];exact hb)) (Vp _)
structure Turn (P:So)(w:SI)(K:PySem.W.Frag)(tg:Expr)(J:It)(fp:List Addr)(it:Addr)(tn:Nat->Heap->Prop):Prop where
 mem:it∈fp
 obj:∀i h,tn i h->∀b∈fp,∃o,h.get? b=some o/\∀v,o.data≠.cell v
 keep:∀i h h',tn i h->(∀b∈fp,∀o,h.get? b=some o->h'.get? b=some o)->tn i h'
 item:∀(X:Cx),X.prog=P->X.w=w->X.K=K->X.calm=true->∀(i:Nat) (pins:List (Addr×Obj)) (s:Si) (σ:St) (H:Hp) (E:Sh->Si->Prop),Inv X pins σ H s->(∀b∈fp,fx X pins H b)->tn i s.heap->J.go i H ->
  S6 (model P w) X.A (VB (.ref it)) (λr s1=>∃u,r=some u /\
   S6 (model P w) X.A (V_ tg (.ref it) u) (λ_ s2=>∃x H',Inv X pins σ H' s2/\RelV x u/\J.Gr i H x H'/\tn (i+1) s2.heap/\∀b∈fp,H' b=none) E s1) E s
 done:∀(X:Cx),X.prog=P->X.w=w->X.K=K->X.calm=true->∀(i:Nat) (pins:List (Addr×Obj)) (s:Si) (σ:St) (H:Hp) (E:Sh->Si->Prop),Inv X pins σ H s->(∀b∈fp,fx X pins H b)->tn i s.heap->J.stop i H ->
  S6 (model P w) X.A (VB (.ref it)) (λr s1=>r=none/\Inv X pins σ H s1) E s
 self:∀(A:TF) (i:Nat) (s:Si) (Q:Sh->Si->Prop) (E:Sh->Si->Prop),tn i s.heap->Q (.ref it) s->S6 (model P w) A (WI (.ref it)) Q E s
abbrev TI:=St->Hp->(It->Hp->Prop)->Prop
def Kx (X:Cx)(pins:List (Addr×Obj))(σ:St)(tg:Expr)(R:It->Hp->Prop)(CS:Sh)(s2:Si):Prop :=
 ∃(it:Addr) (fp:List Addr) (tn:Nat->Heap->Prop) (J:It) (H':Hp),CS=.ref it/\Inv X pins σ H' s2/\Turn X.prog X.w X.K tg J fp it tn/\tn 0 s2.heap/\(∀b∈fp,fx X pins H' b)/\R J H'
def PI (X:Cx)(tg iter:Expr)(wi:TI):Prop :=
 ∀(pins:List (Addr×Obj)) (s:Si) (σ:St) (H:Hp) (R:It->Hp->Prop),Inv X pins σ H s->wi σ H R ->
  S6 (model X.prog X.w) X.A (eval iter X.env) (λv s1=>S6 (model X.prog X.w) X.A (WI v) (Kx X pins σ tg R) X.xe s1) X.xe s
theorem zj {M:Model}{A:TF}{E:Sh->Si->Prop}{s:Si}{tg:Expr}{it:Addr}{u:Sh}{o:Obj}{n:String}{vs:Array Sh}{Q:Unit->Si->Prop}(ho:s.heap.get? it=some o)(hc:o.cls=.type n)(hd:o.data=.fields vs)
  (hn:["enumerate","zip","dict_itemiterator","dict_reverseitemiterator","odict_iterator","itertools.zip_longest","itertools.pairwise"].contains n=false) (hQ:Q () s):S6 M A (V_ tg (.ref it) u) Q E s:=by
 unfold V_;cases tg <;> first
  |exact Sm hQ
  | (cases u <;> first
    |exact Sm hQ
    | (refine Sf (wpAny_load ho ?_)
       rw[hc,hd];show S6 M A (if (["enumerate","zip","dict_itemiterator","dict_reverseitemiterator","odict_iterator","itertools.zip_longest","itertools.pairwise"].contains n&&vs[0]?==some (rawInt _))=true then _ else _) Q E s
       rw[if_neg (by intro h;rw[hn,Bool.false_and]at h;cases h)]
       exact Sm hQ))
def KA (K:PySem.W.Frag)(a:Addr):It :=
 ⟨λi H=>∃xs x,cE K H a xs/\xs[i]?=some x,λi H x H'=>H'=H/\∀xs,cE K H a xs->xs[i]?=some x,λi H=>∃xs,cE K H a xs/\xs.length<=i⟩
def JQ (lo:Int)(n:Nat):It:=⟨λi _=>i<n,λi H x H'=>H'=H/\x=.int (lo+i),λi _=>n<=i⟩
theorem u9 {P:So}{w:SI}{K:PySem.W.Frag}{tg:Expr}(a it:Addr):Turn P w K tg (KA K a) [it] it (λi h=>h.IsListIter it a i) where
 mem:=by simp
 obj:=λi h st b hb=>by
  have e:b=it:=by simpa using hb
  subst e;obtain⟨o,e,c,d⟩:=st;exact⟨o,e,λv z=>by rw[d]at z;cases z⟩
 keep:=λi h h' st k=>st.at λo e=>k it (by simp) o e
 item:=by
  intro X hP hw hK hc i pins s σ H E I hf st hg;subst hP hw hK;obtain⟨xs,x,hq,hx⟩:=hg;obtain⟨its,rv,p,hz⟩:=I.list hq;obtain⟨u,hu,ru⟩:=rv.get hx;obtain⟨f0,f1,f2,f3,f4,f5⟩:=hf it (by simp)
  refine wpAny_pyNext_list_item st p.isList (x:=u) (by simpa using hu) λh' az sb=>?_
  have I1:Inv X pins σ H {s with heap:=h'}:=I.turned (t':=s.toks) (λb o hb e=>(sb.2 b hb).trans e) f0 f1 f3 f4 f5
  obtain⟨o,e,c,d⟩:=id az;exact⟨u,rfl,zj (s:={s with heap:=h'}) e c d (by decide) ⟨x,H,I1,ru,⟨rfl,λys hy=>by rw[I.yF hy hq];exact hx⟩,az,λb hb=>(hf b hb).1⟩⟩
 done:=by
  intro X hP hw hK hc i pins s σ H E I hf st hg;subst hP hw hK;obtain⟨xs,hq,hx⟩:=hg;obtain⟨its,rv,p,hz⟩:=I.list hq;obtain⟨f0,f1,f2,f3,f4,f5⟩:=hf it (by simp)
  have hl:=rv.length;exact wpAny_pyNext_list_end (I.ok.hd hc) st p.isList (by simp;lia) λh' eb=>⟨rfl,I.turned (t':=s.toks) (λb o hb e=>eb b o hb e) f0 f1 f3 f4 f5⟩
 self:=λ_ _ _ _ _ st h=>wpAny_pyIter_listiter st h
theorem rN {P:So}{w:SI}{K:PySem.W.Frag}{tg:Expr}(it:Addr)(lo:Int)(n:Nat):Turn P w K tg (JQ lo n) [it] it (λi h=>Xc h it (lo+(i:Nat)*1) ((n:Int)-(i:Nat)) 1) where
 mem:=by simp
 obj:=λi h st b hb=>by
  have e:b=it:=by simpa using hb
  subst e;exact⟨_,st,λv z=>by
   have z':Xe _=WA v:=z;cases z'⟩
 keep:=λi h h' st k=>k it (by simp) _ st
 item:=by
  intro X hP hw hK hc i pins s σ H E I hf st hg;subst hP hw hK;obtain⟨f0,f1,f2,f3,f4,f5⟩:=hf it (by simp)
  have W:=Walks.range (prog:=X.prog) (w:=X.w) (I.ok.hd hc) it lo 1 n;refine W.item i s _ _ hg st λv h' tk hv az kk=>?_;obtain⟨t,rfl⟩:=hv;have I1:Inv X pins σ H {s with heap:=h',toks:=tk}:=I.turned (λb o hb e=>kk b o (by simpa using hb) e) f0 f1 f3 f4 f5
  refine⟨_,rfl,zj (s:={s with heap:=h',toks:=tk}) (n:="range_iterator") az rfl rfl (by decide) ⟨.int (lo+i),H,I1,⟨t,?_⟩,⟨rfl,rfl⟩,az,λb hb=>(hf b hb).1⟩⟩
  rw[Int.mul_one]
 done:=by
  intro X hP hw hK hc i pins s σ H E I hf st hg;subst hP hw hK;obtain⟨f0,f1,f2,f3,f4,f5⟩:=hf it (by simp)
  exact wpAny_pyNext_range_end (I.ok.hd hc) st (by have:n<=i:=hg;lia) λh' eb=>⟨rfl,I.turned (t':=s.toks) (λb o hb e=>eb b o hb e) f0 f1 f3 f4 f5⟩
 self:=λ_ _ _ _ _ st h=>wpAny_pyIter_rangeiter st h
section
variable {X:Cx}{tg:Expr}
def HV (K:PySem.W.Frag)(tl:TE):TI:=λσ H R=>tl σ H λx H1=>∃a,x=.ref a/\(∃xs,cE K H1 a xs)/\R (KA K a) H1
theorem oj {l:Expr}{tl:TE}(hl:PE X l tl):PI X tg l (HV X.K tl):=by
 intro pins s σ H R I h;refine br (hl pins s σ H _ I h) λv s1 ⟨x,H1,I1,r1,q1⟩=>?_;obtain⟨a,e,⟨xs,hq⟩,q⟩:=q1;subst e;cases r1;obtain⟨its,rv,p,hz⟩:=I1.list hq;refine WN p.isList ?_;refine⟨s1.heap.objs.size,[s1.heap.objs.size],_,_,H1,rfl,I1.kept (t':=s1.toks) λb o e=>Sl _ e,u9 a _,⟨_,Tf _ rfl,rfl,rfl⟩,λb hb=>?_,q⟩;have e:b=s1.heap.objs.size:=by simpa using hb
 subst e;exact I1.vZ (Sj _) (I1.bG.fresh (Sj _))
theorem pJ {pins:List (Addr×Obj)}{σ:St}{H:Hp}{s:Si}{R:It->Hp->Prop}{E:Sh->Si->Prop}{lo hi:Int}{t u v:Tok}{tk:Nat}(I:Inv X pins σ H s)(h1:-(2 ^ 62)<=lo)(h2:lo<2 ^ 62)(h3:-(2 ^ 62)<=hi)(h4:hi<2 ^ 62)
  (q:R (JQ lo (hi-lo).toNat) H):S6 (model X.prog X.w) X.A (WI (.ref s.heap.objs.size)) (Kx X pins σ tg R) E {s with heap:=s.heap.push {cls:=.type "range",data:=.fields #[.int lo t,.int hi u,.int 1 v]},toks:=tk}:=by
 refine wpAny_pyIter_range (IsRange.new ..) (small_one h1 h2 h3 h4) ?_;have I1:Inv X pins σ H {s with heap:=s.heap.push {cls:=.type "range",data:=.fields #[.int lo t,.int hi u,.int 1 v]},toks:=tk}:=I.kept λb o e=>Sl _ e
 refine⟨(s.heap.push {cls:=.type "range",data:=.fields #[.int lo t,.int hi u,.int 1 v]}).objs.size,[(s.heap.push {cls:=.type "range",data:=.fields #[.int lo t,.int hi u,.int 1 v]}).objs.size],_,_,H,rfl,
  I1.kept (t':=tk) λb o e=>Sl _ e,rN _ lo (hi-lo).toNat,?_,λb hb=>?_,q⟩
 ·have e1:lo+((0:Nat):Int)*1=lo:=by simp
  have e2:(((hi-lo).toNat:Nat):Int)-((0:Nat):Int)=UE lo hi 1:=by rw[rangeSize_one];split <;> lia
  show Xc _ _ (lo+((0:Nat):Int)*1) ((((hi-lo).toNat:Nat):Int)-((0:Nat):Int)) 1;rw[e1,e2];exact Tf _ rfl
 ·have e:b=(s.heap.push {cls:=.type "range",data:=.fields #[.int lo t,.int hi u,.int 1 v]}).objs.size:=by simpa using hb
  subst e;exact I1.vZ (Sj _) (I1.bG.fresh (Sj _))
def HU (ta:TA):TI:=λσ H R=>ta σ H λvs H1=>∃j:Int,vs=[.int j]/\-(2 ^ 62)<=j/\j<2 ^ 62/\R (JQ 0 j.toNat) H1
def HS (ta:TA):TI:=λσ H R=>ta σ H λvs H1=>∃i j:Int,vs=[.int i,.int j]/\(-(2 ^ 62)<=i/\i<2 ^ 62/\-(2 ^ 62)<=j/\j<2 ^ 62)/\R (JQ i (j-i).toNat) H1
theorem vB {a:Expr} {ta:TA} {p pos:Pos} (hg:Gl X "range") (hm:X.mg "range" = none) (ha:PA X [a] ta) (hs:SX [a] X.env=[(false,eval a X.env)]:=by rfl):PI X tg (.Call (.Name "range" p) [a] [] pos) (HU ta):=by
 intro pins s σ H R I h;refine Call_ (eQ I hg hm Xl (TN (br (ha pos pins s σ H _ I h) λus s1 ⟨vs,H1,I1,r1,q1⟩=>?_) hs rfl));obtain⟨j,e,q1,q2,q⟩:=q1;subst e;cases r1 with
 |cons r rr =>
  cases rr;obtain⟨t,rfl⟩:=r;exact call_range_1 (pJ I1 (by lia) (by lia) q1 q2 (by simpa using q))
theorem mT {a b:Expr} {ta:TA} {p pos:Pos} (hg:Gl X "range") (hm:X.mg "range" = none) (ha:PA X [a,b] ta) (hs:SX [a,b] X.env=[(false,eval a X.env),(false,eval b X.env)]:=by rfl) (lX:SX [b] X.env=[(false,eval b X.env)]:=by rfl) :
  PI X tg (.Call (.Name "range" p) [a,b] [] pos) (HS ta):=by
 intro pins s σ H R I h;refine Call_ (eQ I hg hm Xl (TN (br (ha pos pins s σ H _ I h) λus s1 ⟨vs,H1,I1,r1,q1⟩=>?_) (by rw[hs,lX]) (by rw[lX];rfl)))
 obtain⟨i,j,e,⟨q1,q2,q3,q4⟩,q⟩:=q1;subst e;cases r1 with
 |cons r rr =>
  cases rr with
  |cons r' rr =>
   cases rr;obtain⟨t,rfl⟩:=r;obtain⟨t',rfl⟩:=r';exact call_range_2 (pJ I1 q1 q2 q3 q4 q)
def KR (wi:TI)(g:TG)(tb:TS):TS:=λD σ H=>wi σ H λJ H1=>∃W:Nat->Nat->St->Hp->Prop,(∃m,W 0 m σ H1)/\∀i m σ H,W i m σ H ->
 (J.stop i H/\D.nx σ H)\/(J.go i H/\∃N:St->Hp->Prop,(∀σ' H',N σ' H'->∃m',m'<m/\W (i+1) m' σ' H')/\∀x H',J.Gr i H x H'->g x σ H' λσ2 H2=>tb {D with nx:=N,ct:=N,bk:=D.nx} σ2 H2)
def ku (fp:List Addr)(h:Heap):List (Addr×Obj):=fp.filterMap λb=>(h.get? b).map λo=>(b,o)
theorem eO {fp:List Addr}{h:Heap}{b:Addr}{o:Obj}(hb:b∈fp)(e:h.get? b=some o):(b,o)∈ku fp h:=VE.mpr ⟨b,hb,by rw[e];rfl⟩
theorem vD {fp:List Addr}{h:Heap}{p:Addr×Obj}(hp:p∈ku fp h):p.1∈fp/\h.get? p.1=some p.2:=by
 obtain⟨b,hb,e⟩:=VE.mp hp;cases q:h.get? b with
 |none=>rw[q]at e;cases e
 |some o =>
  rw[q]at e;have e':(b,o)=p:=S8 e;subst e';exact⟨hb,q⟩
theorem Inv.pinned {pins:List (Addr×Obj)}{σ:St}{H:Hp}{s:Si}{fp:List Addr}(I:Inv X pins σ H s)(hf:∀b∈fp,fx X pins H b)(ho:∀b∈fp,∃o,s.heap.get? b=some o/\∀v,o.data≠.cell v):Inv X (pins++ku fp s.heap) σ H s :=
 I.uv λp hp=>(SO.mp hp).elim (λz=>I.pin p (Th _ z)) λz=>by
  obtain⟨hb,e⟩:=vD z;obtain⟨f0,f1,f2,_⟩:=hf p.1 hb;obtain⟨o,e',d⟩:=ho p.1 hb;rw[e]at e';cases e';exact⟨e,f0,f1,f2,d⟩
theorem Inv.gS {pins pl:List (Addr×Obj)}{σ:St}{H:Hp}{s:Si}(I:Inv X (pins++pl) σ H s):Inv X pins σ H s:=I.uv λp hp=>I.pin p (Th _ (T3 _ hp))
theorem xV {iter:Expr}{body:List Stmt}{wi:TI}{g:TG}{tb:TS}{pos:Pos}(hp:PassesOwn (model X.prog X.w) X.A X.env X.xe)(hc:X.calm=true)(hi:PI X tg iter wi)(hg:PG X tg g)(hb:oS X body tb)
  (hs:∀x,TB iter X.env x=pure x:=by intro _;rfl):PS X (.For tg iter body [] pos) (KR wi g tb):=by
 intro pins s σ H D I h;refine wpAny_For (br (hi pins s σ H _ I h) λv s1 h1=>br h1 λCS s2 h2=>?_) hs;obtain⟨it,fp,tn,J,H2,e,I2,T,e_,f2,W,⟨m0,w0⟩,turn⟩:=h2;subst e;have rP:∀{H':Hp},(∀b∈fp,H' b=none)->∀b∈fp,fx X pins H' b:=λhn b hb=>⟨hn b hb,(f2 b hb).2⟩;refine codeAny_forLoop_any (λn s'=>∃i σ' H',Inv X pins σ' H' s'/\tn i s'.heap/\(∀b∈fp,H' b=none)/\W i n σ' H') ?_ m0 ⟨0,σ,H2,I2,e_,λb hb=>(f2 b hb).1,w0⟩;rintro n s3 ⟨i,σ3,H3,I3,j4,Jm,w3⟩;rcases turn i n σ3 H3 w3 with⟨stop,qn⟩|⟨go,N,hN,step⟩
 ·refine UI hp (br (T.done X rfl rfl rfl hc i pins s3 σ3 H3 X.xe I3 (rP Jm) j4 stop) λr s4 ⟨hr,I4⟩=>?_);subst hr;exact V9 ⟨σ3,H3,I4,qn⟩
 ·refine UI hp (br (T.item X rfl rfl rfl hc i pins s3 σ3 H3 X.xe I3 (rP Jm) j4 go) λr s4 ⟨u,hr,h4⟩=>?_);subst hr;refine UI hp (br h4 λ_ s5 ⟨x,H5,I5,r5,y5,DQ,Na⟩=>?_);have ND:=I5.pinned (rP Na) (T.obj _ _ DQ);refine UI hp (br (hg _ s5 σ3 H5 x u _ ND r5 (step x H5 y5)) λ_ s6 ⟨σ6,H6,I6,q6⟩=>?_);refine UI hp (br (hb _ s6 σ6 H6 _ I6 q6) λf s7 q7=>?_);have again:∀{σ7:St} {H7:Hp},Inv X (pins++ku fp s5.heap) σ7 H7 s7->N σ7 H7->∃m,m<n/\∃i σ' H',Inv X pins σ' H' s7/\tn i s7.heap/\(∀b∈fp,H' b=none)/\W i m σ' H':=λ{σ7 H7} I7 n7=>by
   obtain⟨m',hm,w7⟩:=hN σ7 H7 n7;refine⟨m',hm,i+1,σ7,H7,I7.gS,T.keep _ _ _ DQ λb hb o e=>(I7.pin (b,o) (Th _ (Th _ (eO hb e)))).1,λb hb=>?_,w7⟩;obtain⟨o,e,d⟩:=T.obj _ _ DQ b hb;exact(I7.pin (b,o) (Th _ (Th _ (eO hb e)))).2.1
  cases f with
  |next=>obtain⟨σ7,H7,I7,n7⟩:=q7;exact again I7 n7
  |cont=>obtain⟨σ7,H7,I7,n7⟩:=q7;exact again I7 n7
  |brk=>obtain⟨σ7,H7,I7,q7⟩:=q7;exact⟨σ7,H7,I7.gS,q7⟩
  |ret v=>obtain⟨x7,σ7,H7,I7,r7,q7⟩:=q7;exact⟨x7,σ7,H7,I7.gS,r7,q7⟩
end
abbrev R2:=V->V->Hp->VK->Prop
def ip (X:Cx)(f:Sh->Sh->Sem Sh)(r:R2):Prop :=
 ∀(pins:List (Addr×Obj)) (s:Si) (σ:St) (H:Hp) (x y:V) (v u:Sh) (Q:VK),Inv X pins σ H s->RelV x v->RelV y u->r x y H Q ->
  S6 (model X.prog X.w) X.A (f v u) (EP X pins σ Q) X.xe s
def JH (X:Cx)(f:Sh->Sem Sh)(r:V->Hp->VK->Prop):Prop :=
 ∀(pins:List (Addr×Obj)) (s:Si) (σ:St) (H:Hp) (x:V) (v:Sh) (Q:VK),Inv X pins σ H s->RelV x v->r x H Q ->
  S6 (model X.prog X.w) X.A (f v) (EP X pins σ Q) X.xe s
def fQ (X:Cx)(f:Sh)(r:List V->Hp->VK->Prop):Prop :=
 ∀(pins:List (Addr×Obj)) (s:Si) (σ:St) (H:Hp) (xs:List V) (us:List Sh) (Q:VK),Inv X pins σ H s->Vals xs us->r xs H Q ->
  S6 (model X.prog X.w) X.A (call f us) (EP X pins σ Q) X.xe s
def Nt (X:Cx)(r:V->Hp->(Bool->Hp->Prop)->Prop):Prop :=
 ∀(pins:List (Addr×Obj)) (s:Si) (σ:St) (H:Hp) (x:V) (v:Sh) (Q:Bool->Hp->Prop),Inv X pins σ H s->RelV x v->r x H Q ->
  S6 (model X.prog X.w) X.A (truthy v) (TP X pins σ Q) X.xe s
def GB (r:R2)(ta tb:TE):TE:=λσ H Q=>ta σ H λx H1=>tb σ H1 λy H2=>r x y H2 Q
def Ph (r:V->Hp->VK->Prop)(ta:TE):TE:=λσ H Q=>ta σ H λx H1=>r x H1 Q
def rI (C:Int->Int->Prop)(g:Int->Int->V):R2:=λx y H Q=>∃i j,x=.int i/\y=.int j/\C i j/\Q (g i j) H
def AI (g:Int->Int->V):R2:=λx y H Q=>∃i j,x=.int i/\y=.int j/\Q (g i j) H
def rU (g:Int->V):V->Hp->VK->Prop:=λx H Q=>∃i,x=.int i/\Q (g i) H
section
variable {X:Cx}{a b:Expr}{ta tb:TE}{pos:Pos}
theorem FN (ha:PE X a ta)(hb:PE X b tb){pins:List (Addr×Obj)}{s:Si}{σ:St}{H:Hp}{R:V->V->Hp->Prop}(I:Inv X pins σ H s)
  (h:ta σ H λx H1=>tb σ H1 λy H2=>R x y H2) {Q:Sh->Si->Prop} {f:Sh->Sh->Sem Sh}
  (hf:∀v u s2 x y H2,Inv X pins σ H2 s2->RelV x v->RelV y u->R x y H2->S6 (model X.prog X.w) X.A (f v u) Q X.xe s2) :
  S6 (model X.prog X.w) X.A (eval a X.env) (λv s₁=>S6 (model X.prog X.w) X.A (eval b X.env) (λu s₂=>S6 (model X.prog X.w) X.A (f v u) Q X.xe s₂) X.xe s₁) X.xe s:=by
 refine br (ha pins s σ H _ I h) λv s1 ⟨x,H1,I1,r1,q1⟩=>?_;refine br (hb pins s1 σ H1 _ I1 q1) λu s2 ⟨y,H2,I2,r2,q2⟩=>?_;exact hf v u s2 x y H2 I2 r1 r2 q2
theorem cL {op:Operator}{r:R2}(ho:ip X (UJ op) r)(ha:PE X a ta)(hb:PE X b tb):PE X (.BinOp a op b pos) (GB r ta tb):=by
 intro pins s σ H Q I h;exact wpAny_BinOp (FN ha hb I h λv u s2 x y H2 I2 rx ry q=>ho pins s2 σ H2 x y v u Q I2 rx ry q)
theorem CB {op:UnaryOp}{r:V->Hp->VK->Prop}(ho:JH X (unaryOp op) r)(ha:PE X a ta):PE X (.UnaryOp op a pos) (Ph r ta):=by
 intro pins s σ H Q I h;exact UnaryOp_ (br (ha pins s σ H _ I h) λv s1 Mj=>by obtain⟨x,H1,I1,r1,q1⟩:=Mj;exact ho pins s1 σ H1 x v Q I1 r1 q1)
theorem J6 {f:Sh->Sh->Sem Sh}{C:Int->Int->Prop}{g:Int->Int->Int}
  (rule:∀(i j:Int) (t u:Tok) (s:Si) (Q:Sh->Si->Prop) (E:Sh->Si->Prop),C i j->Q (.int (g i j) s.toks) {s with toks:=s.toks+1}->S6 (model X.prog X.w) X.A (f (.int i t) (.int j u)) Q E s) :
  ip X f (rI C λi j=>.int (g i j)):=by
 intro pins s σ H x y v u Q I rx ry h;obtain⟨i,j,rfl,rfl,hc,q⟩:=h;obtain⟨t,rfl⟩:=rx;obtain⟨t',rfl⟩:=ry;exact rule i j t t' s _ _ hc ⟨.int (g i j),H,I.tok _,⟨_,rfl⟩,q⟩
theorem Hd {f:Sh->Sh->Sem Sh}{g:Int->Int->Int}
  (rule:∀(i j:Int) (t u:Tok) (s:Si) (Q:Sh->Si->Prop) (E:Sh->Si->Prop),Q (.int (g i j) s.toks) {s with toks:=s.toks+1}->S6 (model X.prog X.w) X.A (f (.int i t) (.int j u)) Q E s) :
  ip X f (AI λi j=>.int (g i j)):=by
 intro pins s σ H x y v u Q I rx ry h;obtain⟨i,j,rfl,rfl,q⟩:=h;obtain⟨t,rfl⟩:=rx;obtain⟨t',rfl⟩:=ry;exact rule i j t t' s _ _ ⟨.int (g i j),H,I.tok _,⟨_,rfl⟩,q⟩
theorem Er {f:Sh->Sh->Sem Sh}{g:Int->Int->Bool}
  (rule:∀(i j:Int) (t u:Tok) (s:Si) (Q:Sh->Si->Prop) (E:Sh->Si->Prop),Q (.bool (g i j)) s->S6 (model X.prog X.w) X.A (f (.int i t) (.int j u)) Q E s) :
  ip X f (AI λi j=>.bl (g i j)):=by
 intro pins s σ H x y v u Q I rx ry h;obtain⟨i,j,rfl,rfl,q⟩:=h;obtain⟨t,rfl⟩:=rx;obtain⟨t',rfl⟩:=ry;exact rule i j t t' s _ _ ⟨.bl (g i j),H,I,rfl,q⟩
def z9 (i j:Int):Prop:=0<=j/\j<=1000000/\i.natAbs<2 ^ 64
def rp (i j:Int):Prop:=(-(2 ^ 64)<i/\i<2 ^ 64)\/(-(2 ^ 64)<j/\j<2 ^ 64)
theorem rp.ok {i j:Int}(h:rp i j):IntMulOk i j:=by
 rcases h with⟨h1,h2⟩|⟨h1,h2⟩
 ·exact .of_left (intBits_le_64 h1 h2)
 ·exact .of_right (intBits_le_64 h1 h2)
theorem sD:ip X (UJ .Add) (AI λi j=>.int (i+j)):=Hd λ_ _ _ _ _ _ _ q=>add_int q
theorem yi:ip X (UJ .Sub) (AI λi j=>.int (i-j)):=Hd λ_ _ _ _ _ _ _ q=>sub_int q
theorem sC:ip X (UJ .Mult) (rI rp λi j=>.int (i*j)):=J6 λ_ _ _ _ _ _ _ hc q=>mul_int q hc.ok
theorem kL:ip X (UJ .Mod) (rI (λ_ j=>0<j) λi j=>.int (i % j)):=J6 λi j _ _ _ _ _ hc q=>by
 have h1:(0:Int)<j:=hc;exact mod_int' (by lia) (by rw[Int.fmod_eq_emod_of_nonneg i (by lia)];exact q)
theorem om:ip X (UJ .Pow) (rI z9 λi j=>.int (i ^ j.toNat)):=J6 λ_ _ _ _ _ _ _ hc q=>pow_int_small hc.1 hc.2.1 hc.2.2 q
theorem Pc {f:Sh->Sem Sh}{g:Int->Int}
  (rule:∀(i:Int) (t:Tok) (s:Si) (Q:Sh->Si->Prop) (E:Sh->Si->Prop),Q (.int (g i) s.toks) {s with toks:=s.toks+1}->S6 (model X.prog X.w) X.A (f (.int i t)) Q E s) :
  JH X f (rU λi=>.int (g i)):=by
 intro pins s σ H x v Q I rx h;obtain⟨i,rfl,q⟩:=h;obtain⟨t,rfl⟩:=rx;exact rule i t s _ _ ⟨.int (g i),H,I.tok _,⟨_,rfl⟩,q⟩
theorem w_:JH X (unaryOp .USub) (rU λi=>.int (-i)):=Pc λ_ _ _ _ _ q=>neg_int q
end
def K4:V->V->Bool
 |.bX,.bX=>true | .bX,.int _=>true | .int _,.bX=>true | .bX,.bl _=>true | .bl _,.bX=>true | .bX,.str _=>true | .str _,.bX=>true
 |.int _,.int _=>true | .bl _,.bl _=>true | .str _,.str _=>true | .zM _,.zM _=>true
 |.int _,.str _=>true | .str _,.int _=>true | .bl _,.str _=>true | .str _,.bl _=>true
 |_,_=>false
def PC:R2:=λx y H Q=>K4 x y=true/\Q (.bl (!decide (x=y))) H
theorem B6 {i j:Int}:decide (V.int i=V.int j)=(i==j):=by
 rw[Vw];simp
theorem Fw {i j:Bool}:decide (V.bl i=V.bl j)=(i==j):=by
 rw[Vw];simp
theorem B5 {i j:Str}:decide (V.str i=V.str j)=(i==j):=by
 rw[Vw];simp
theorem B7 {i j:Array UInt8}:decide (V.zM i=V.zM j)=(i.toList==j.toList):=by
 rw[Vw];cases i;cases j;simp
section
variable {X:Cx}{a b c:Expr}{ta tb:TE}{pos:Pos}
theorem bA {pins:List (Addr×Obj)}{σ:St}{H:Hp}{s:Si}{Q:VK}{k k':Bool}(I:Inv X pins σ H s)(q:Q (.bl k) H)(e:k=k'):EP X pins σ Q (.bool k') s:=by
 subst e;exact⟨.bl k,H,I,rfl,q⟩
theorem G_:ip X (TQ .NotEq) PC:=by
 intro pins s σ H x y v u Q I rx ry h;obtain⟨hs,q⟩:=h;cases x with
 |bX =>
  cases rx;cases y with
  |bX=>cases ry;exact PySem.EqNone.ne_none_none (bA I q (by simp))
  |bl j=>cases ry;exact PySem.EqNone.ne_none_bool (bA I q (by simp))
  |int j=>obtain⟨t',rfl⟩:=ry;exact PySem.EqNone.ne_none_int (bA I q (by simp))
  |str j=>obtain⟨t',rfl⟩:=ry;exact PySem.EqNone.ne_none_str (bA I q (by simp))
  |_=>exact absurd (show false=true from hs) T4
 |bl i =>
  cases rx;cases y with
  |bX=>cases ry;exact PySem.EqNone.ne_bool_none (bA I q (by simp))
  |bl j=>cases ry;exact ne_bool (bA I q (congrArg not Fw))
  |str j=>obtain⟨t',rfl⟩:=ry;exact PySem.EqMixed.ne_bool_str (bA I q (by simp))
  |_=>exact absurd (show false=true from hs) T4
 |int i =>
  obtain⟨t,rfl⟩:=rx;cases y with
  |bX=>cases ry;exact PySem.EqNone.ne_int_none (bA I q (by simp))
  |int j=>obtain⟨t',rfl⟩:=ry;exact ne_int (bA I q (congrArg not B6))
  |str j=>obtain⟨t',rfl⟩:=ry;exact PySem.EqMixed.ne_int_str (bA I q (by simp))
  |_=>exact absurd (show false=true from hs) T4
 |str i =>
  obtain⟨t,rfl⟩:=rx;cases y with
  |bX=>cases ry;exact PySem.EqNone.ne_str_none (bA I q (by simp))
  |bl j=>cases ry;exact PySem.EqMixed.ne_str_bool (bA I q (by simp))
  |int j=>obtain⟨t',rfl⟩:=ry;exact PySem.EqMixed.ne_str_int (bA I q (by simp))
  |str j=>obtain⟨t',rfl⟩:=ry;exact ne_str (bA I q (congrArg not B5))
  |_=>exact absurd (show false=true from hs) T4
 |zM i =>
  obtain⟨t,rfl⟩:=rx;cases y with
  |zM j=>obtain⟨t',rfl⟩:=ry;exact PySem.W.ne_bytes (bA I q (congrArg not B7))
  |_=>exact absurd (show false=true from hs) T4
 |_=>cases y <;> exact absurd (show false=true from hs) T4
theorem Ha:ip X (TQ .Lt) (AI λi j=>.bl (decide (i<j))):=Er λ_ _ _ _ _ _ _ q=>lt_int q
theorem Hc:ip X (TQ .LtE) (AI λi j=>.bl (decide (i<=j))):=Er λ_ _ _ _ _ _ _ q=>le_int q
theorem CF:ip X (TQ .Gt) (AI λi j=>.bl (decide (j<i))):=Er λ_ _ _ _ _ _ _ q=>gt_int q
theorem Ep:ip X (TQ .Is) (λx y H Q=>y=.bX/\Q (.bl (decide (x=.bX))) H):=by
 intro pins s σ H x y v u Q I rx ry h;obtain⟨rfl,q⟩:=h;cases ry;refine is_none_gen (bA I q ?_);cases x <;> first
  | (cases rx;rfl)
  | (obtain⟨t,rfl⟩:=rx;rfl)
theorem A8:ip X (TQ .IsNot) (λx y H Q=>y=.bX/\Q (.bl (!decide (x=.bX))) H):=by
 intro pins s σ H x y v u Q I rx ry h;obtain⟨rfl,q⟩:=h;cases ry;refine isnot_none_gen (bA I q ?_);cases x <;> first
  | (cases rx;rfl)
  | (obtain⟨t,rfl⟩:=rx;rfl)
theorem yw (b:Expr){op:VG}(h:op≠.In:=by decide)(h2:op≠.NotIn:=by decide):UL op b=false:=by
 have e1:(op==CmpOp.In)=false:=by cases op <;> first|rfl|exact absurd rfl h
 have e2:(op==CmpOp.NotIn)=false:=by cases op <;> first|rfl|exact absurd rfl h2
 cases b <;> simp[UL,e1,e2]
theorem ux {op:VG}{r:R2}(ho:ip X (TQ op) r)(ha:PE X a ta)(hb:PE X b tb)(hm:UL op b=false):PE X (.Compare a [op] [b] pos) (GB r ta tb):=by
 intro pins s σ H Q I h;exact wpAny_Compare1 (FN ha hb I h λv u s2 x y H2 I2 rx ry q=>ho pins s2 σ H2 x y v u Q I2 rx ry q) hm
def Gy (t:TE):TT:=λσ H Q=>t σ H λx H'=>∃k,x=.bl k/\Q k H'
theorem uj {op:VG}{r:R2}(ho:ip X (TQ op) r)(ha:PE X a ta)(hb:PE X b tb)(hm:UL op b=false):PT X (.Compare a [op] [b] pos) (Gy (GB r ta tb)):=by
 intro pins s σ H Q I h;refine wpAny_isTrue_Compare1 (br (ha pins s σ H _ I h) λv s1 ⟨x,H1,I1,r1,q1⟩=>br (hb pins s1 σ H1 _ I1 q1) λu s2 ⟨y,H2,I2,r2,q2⟩ =>
  br (ho pins s2 σ H2 x y v u _ I2 r1 r2 q2) λc s3 ⟨z,H3,I3,r3,k,e,q3⟩=>?_) hm
 subst e;cases r3;exact Uz ⟨H3,I3,q3⟩
def JI (K:PySem.W.Frag)(x:V)(H:Hp)(k:Bool):Prop :=
 match x with
 |.bX=>k=false
 |.bl b=>k=b
 |.int i=>k=(i != 0)
 |.str y=>y.length<=SG/\k=((y.length:Int) != 0)
 |.zM y=>y.size<=SG/\k=((y.size:Int) != 0)
 |.ref p=>(∃xs,cE K H p xs/\k=!xs.isEmpty)\/(∃xs,tU K H p xs/\k=!xs.isEmpty)\/∃kvs,H p=some (.dK kvs)/\k=!kvs.isEmpty
 |_=>False
theorem sS {κ:Type}{kvs:List (κ×V)}{vs:List (κ×Sh)}(r:KV kvs vs):(!vs.isEmpty)=!kvs.isEmpty:=by
 cases r <;> rfl
theorem lq {xs:List V}{its:List Sh}(r:Vals xs its):(!its.toArray.isEmpty)=!xs.isEmpty:=by
 cases r <;> simp
theorem k7:(SG:Nat)<2 ^ 63:=by rw[TH];decide
theorem DG:Nt X (λx H Q=>∃k,JI X.K x H k/\Q k H):=by
 intro pins s σ H x v Q I rx h;obtain⟨k,e,q⟩:=h;have hl:=k7;have hs:SG=16777216:=TH;cases x with
 |bX =>
  cases rx;have e':k=false:=e;subst e';exact truthy_none ⟨H,I,q⟩
 |bl b =>
  cases rx;have e':k=b:=e;subst e';exact Uz ⟨H,I,q⟩
 |int i =>
  obtain⟨t,rfl⟩:=rx;have e':k=(i != 0):=e;subst e';exact PySem.P.truthy_int ⟨H,I,q⟩
 |str y =>
  obtain⟨t,rfl⟩:=rx;obtain⟨hy,e'⟩:y.length<=SG/\k=((y.length:Int) != 0):=e;subst e';exact PySem.P.truthy_str (by lia) ⟨H,I.tok _,q⟩
 |zM y =>
  obtain⟨t,rfl⟩:=rx;obtain⟨hy,e'⟩:y.size<=SG/\k=((y.size:Int) != 0):=e;subst e';exact PySem.W.truthy_bytes (by lia) ⟨H,I.tok _,q⟩
 |ref p =>
  cases rx;have e':(∃xs,cE X.K H p xs/\k=!xs.isEmpty)\/(∃xs,tU X.K H p xs/\k=!xs.isEmpty)\/∃kvs,H p=some (.dK kvs)/\k=!kvs.isEmpty:=e;rcases e' with⟨xs,hx,e'⟩|⟨xs,hx,e'⟩|⟨kvs,hx,e'⟩
  ·subst e';obtain⟨its,r,pl,hz⟩:=I.list hx;have hlen:=r.length;exact wpAny_truthy_list pl.isList (by simp only[SW];lia) ⟨H,I.tok _,by rw[lq r];exact q⟩
  ·subst e';obtain⟨its,r,pl,hz⟩:=I.tuple hx;have hlen:=r.length;exact truthy_tuple pl (by simp only[SW];lia) ⟨H,I.tok _,by rw[lq r];exact q⟩
  ·subst e';obtain⟨hz,hS,vs,r,m⟩:kvs.length<=SG/\(p==Vi)=false/\∃vs,KV kvs vs/\s.heap.DictOf (bP X.prog X.w) p vs:=I.bG p _ hx;have hlen:kvs.length=vs.length:=Paired.length r;exact wpAny_truthy_dict hS m (by lia) ⟨H,I.tok _,by rw[sS r];exact q⟩
 |_=>exact(show False from e).elim
theorem xT (ha:PE X a ta)(he:∀whole,W6 a X.env whole=(do let v <- whole;VL a.pos;holding [v] (truthy v))):
  PT X a (λσ H Q=>ta σ H λx H'=>∃k,JI X.K x H' k/\Q k H'):=by
 intro pins s σ H Q I h;exact isTrue_plain (br (ha pins s σ H _ I h) λv s1 Md=>by obtain⟨x,H1,I1,r1,q1⟩:=Md;exact DG pins s1 σ H1 x v Q I1 r1 q1) (he _)
theorem vals1 {x:V}{us:List Sh}(r:Vals [x] us):∃u,us=[u]/\RelV x u:=by
 cases r with
 |cons r1 r2=>cases r2;exact⟨_,rfl,r1⟩
theorem vals2 {x y:V}{us:List Sh}(r:Vals [x,y] us):∃u w',us=[u,w']/\RelV x u/\RelV y w':=by
 cases r with
 |cons r1 r2 =>
  cases r2 with
  |cons r3 r4=>cases r4;exact⟨_,_,rfl,r1,r3⟩
theorem nB (hc:X.calm=true):fQ X (.builtin "max") (λxs H Q=>∃i j,xs=[.int i,.int j]/\Q (.int (if j>i then j else i)) H):=by
 intro pins s σ H xs us Q I r h;obtain⟨i,j,rfl,q⟩:=h;obtain⟨u,w',rfl,⟨t,rfl⟩,⟨t',rfl⟩⟩:=vals2 r;refine max_two_ints (I.ok.hd hc) λh' tk k=>⟨_,H,I.kept k,?_,q⟩
 by_cases hj:j>i
 ·rw[if_pos hj,if_pos hj];exact⟨_,rfl⟩
 ·rw[if_neg hj,if_neg hj];exact⟨_,rfl⟩
theorem wo (hc:X.calm=true):fQ X (.builtin "min") (λxs H Q=>∃i j,xs=[.int i,.int j]/\Q (.int (if j<i then j else i)) H):=by
 intro pins s σ H xs us Q I r h;obtain⟨i,j,rfl,q⟩:=h;obtain⟨u,w',rfl,⟨t,rfl⟩,⟨t',rfl⟩⟩:=vals2 r;refine min_two_ints (I.ok.hd hc) λh' tk k=>⟨_,H,I.kept k,?_,q⟩
 by_cases hj:j<i
 ·rw[if_pos hj,if_pos hj];exact⟨_,rfl⟩
 ·rw[if_neg hj,if_neg hj];exact⟨_,rfl⟩
theorem iZ:fQ X (.type "int") (λxs H Q=>(∃i,xs=[.int i]/\Q (.int i) H)\/∃k,xs=[.bl k]/\Q (.int (if k then 1 else 0)) H):=by
 intro pins s σ H xs us Q I r h;rcases h with⟨i,rfl,q⟩|⟨k,rfl,q⟩
 ·obtain⟨u,rfl,t,rfl⟩:=vals1 r;exact call_int_int ⟨.int i,H,I,⟨_,rfl⟩,q⟩
 ·obtain⟨u,rfl,r1⟩:=vals1 r;cases r1;exact call_int_bool ⟨.int (if k then 1 else 0),H,I.tok _,⟨_,rfl⟩,q⟩
end
section
end
theorem mG.some_of {v:V}{o:Option Sh}(r:mG (some v) o):∃u,o=some u/\RelV v u:=by
 cases o with
 |none=>exact(show False from r).elim
 |some u=>exact⟨u,rfl,r⟩
section
end
section
end
section
end
section
end
structure cW (k:Nat)(A:TF):Prop where
 hd:A.handled=none
 dp:A.depth+3*k+5<recursionLimit
 un:A.units+16*k+200<Vx
theorem cW.mono {j k:Nat}{A:TF}(r:cW k A)(h:j<=k):cW j A:=⟨r.hd,by have:=r.dp;lia,by have:=r.un;lia⟩
theorem cW.deeper {k:Nat}{A:TF}(r:cW (k+1) A)(env:Env):cW k (A.deeper env) :=
 ⟨r.hd,by have:=r.dp;show A.depth+1+3*k+5<_;lia,by have:=r.un;show A.units+3+16*k+200<_;lia⟩
theorem cW.depth {k:Nat}{A:TF}(r:cW k A):A.depth<recursionLimit:=by have:=r.dp;lia
theorem cW.units {k:Nat}{A:TF}(r:cW k A):A.units+64<Vx:=by have:=r.un;lia
def GC:TA:=λ_ H Q=>Q [] H
def Cv (ta:TE)(tr:TA):TA:=λσ H Q=>ta σ H λx H1=>tr σ H1 λxs H2=>Q (x::xs) H2
section
variable {X:Cx}{e:Expr}{es:List Expr}{te:TE}{t:TA}{pos:Pos}
theorem eM:PA X [] GC:=λ_ _ _ _ H Q I h=>Calls.spliced_nil ⟨[],H,I,.nil,h⟩
theorem b5 (ha:PE X e te)(hr:PA X es t)(hs:SX (e::es) X.env=(false,eval e X.env)::SX es X.env:=by rfl):PA X (e::es) (Cv te t):=by
 intro pos pins s σ H Q I h;rw[hs];show S6 _ _ (spliced ((false,eval e X.env)::UP pos (SX es X.env))) _ _ s;refine Calls.spliced_cons (br (ha pins s σ H _ I h) λu s1 ⟨x,H1,I1,r1,q1⟩=>?_);exact br (hr pos pins s1 σ H1 _ I1 q1) λus s2 ⟨xs,H2,I2,r2,q2⟩=>⟨x::xs,H2,I2,.cons r1 r2,q2⟩
def KJ (t:TA):TE:=λσ H Q=>t σ H λxs H1=>xs.length<=SG/\∀p,H1 p=none->Q (.ref p) (upd H1 p (.tup xs))
def KP (t:TA):TE:=λσ H Q=>t σ H λxs H1=>xs.length<=SG/\∀p,H1 p=none->Q (.ref p) (upd H1 p (.lst xs))
theorem Ej {x1}(h:PA X es t):PE X (.Tuple es x1 pos) (KJ t):=by
 intro pins s σ H Q I hq;refine wpAny_Tuple_spliced (br (h pos pins s σ H _ I hq) λus s1 ⟨xs,H1,I1,r,z,q⟩=>⟨by rw[<- r.length];exact z,?_⟩)
 have hf:H1 s1.heap.objs.size=none:=I1.bG.fresh (Sj _);refine⟨.ref s1.heap.objs.size,upd H1 s1.heap.objs.size (.tup xs),I1.laid (t':=s1.toks) (λb u e=>Sl _ e) (Sj _) ?_,rfl,q _ hf⟩;exact⟨z,us,r,⟨_,Tf _ rfl,rfl,_,rfl⟩⟩
theorem si (h:PA X es t):PE X (.List es pos) (KP t):=by
 intro pins s σ H Q I hq;refine wpAny_List_spliced (br (h pos pins s σ H _ I hq) λus s1 ⟨xs,H1,I1,r,z,q⟩=>⟨by rw[<- r.length];exact z,?_⟩)
 have hf:H1 s1.heap.objs.size=none:=I1.bG.fresh (Sj _);refine⟨.ref s1.heap.objs.size,upd H1 s1.heap.objs.size (.lst xs),I1.laid (t':=s1.toks) (λb u e=>Sl _ e) (Sj _) ?_,rfl,q _ hf⟩;exact⟨z,us,0,r,Tf _ rfl⟩
end
abbrev Sp:=List V->Hp->VK->XK->Prop
abbrev zZ:=List Env->Hp->Si->XK->Sh->Si->Prop
structure Cs (P:So)(w:SI)(K:PySem.W.Frag)(mg:Str->Option Sh)(base:Heap)(A:TF)(outer:List Env)(s:Si)(H:Hp):Prop where
 frames:A.frames=some outer
 mod:Mod K mg base
 bs:∀b o,base.get? b=some o->s.heap.get? b=some o/\H b=none
 Dg:base.objs.size<=s.heap.objs.size
 ly:s.heap.FunFrames base outer
 F9:∀b∈zr outer,H b=none
 bG:gO P w H s.heap
 bare:V8 s.gens
def CE (outer:List Env)(P:So)(w:SI)(H:Hp)(s:Si)(Q:VK)(u:Sh)(s':Si):Prop :=
 ∃v H',s'.os=s.os/\V8 s'.gens/\Un (zr outer) [] H H' s.heap s'.heap/\gO P w H' s'.heap/\RelV v u/\Q v H'
def CR (CX:zZ)(outer:List Env)(P:So)(w:SI)(H:Hp)(s:Si)(Q:VK)(E:XK)(r:Result)(s':Si):Prop :=
 match r with
 |.ok (.ret u)=>CE outer P w H s Q u s'
 |.ok _=>False
 |.error e=>CX outer H s E e s'
structure aF (P:So)(w:SI)(K:PySem.W.Frag)(mg:Str->Option Sh)(base:Heap)(CX:zZ)(k:Nat)(f:Addr)(fd:Tn)(ps:List Str)(sp:Sp):Prop where
 len:∀vs H Q E,sp vs H Q E->vs.length=ps.length
 run:∀(A:TF) (outer:List Env) (s:Si) (H:Hp) (args:Args) (us:List Sh) (vs:List V) (Q:VK) (E:XK),cW k A->Cs P w K mg base A outer s H->BindsTo s fd args (ps.zip us)->Vals vs us->sp vs H Q E ->
  VM (model P w) A (.call (.ref f) args) (CR CX outer P w H s Q E) s
theorem aF.imp {P:So}{w:SI}{K:PySem.W.Frag}{mg:Str->Option Sh}{base:Heap}{CX:zZ}{k:Nat}{f:Addr}{fd:Tn}{ps:List Str}{sp NU:Sp}(F:aF P w K mg base CX k f fd ps sp)
  (h:∀vs H Q E,NU vs H Q E->sp vs H Q E):aF P w K mg base CX k f fd ps NU :=
 ⟨λvs H Q E q=>F.len vs H Q E (h _ _ _ _ q),λA outer s H args us vs Q E hr he hb hv hs=>F.run A outer s H args us vs Q E hr he hb hv (h _ _ _ _ hs)⟩
section
variable {X:Cx}{pins:List (Addr×Obj)}{σ:St}{H:Hp}{s s':Si}
theorem Inv.Nh (I:Inv X pins σ H s):Cs X.prog X.w X.K X.mg X.base X.A X.stack s H :=
 ⟨I.ok.frames,I.ok.mod,I.bs,Ts I.ok.Dg I.sz,I.stack,I.ud,I.bG,I.bare⟩
theorem Inv.after {Q:VK}{u:Sh}(I:Inv X pins σ H s)(h:CE X.stack X.prog X.w H s Q u s'):EP X pins σ Q u s':=by
 obtain⟨v,H',os,bare,un,bG,r,q⟩:=h;obtain⟨hh,g,d,t,Ly⟩:=s';obtain rfl:Ly=s.os:=os;exact⟨v,H',I.call (h':=hh) (g':=g) (d':=d) (t':=t) (ch:=[]) un bG bare (λb z=>absurd z (by simp)),r,q⟩
end
def GJ (sp:Sp)(C8:List V)(E:XK)(t:TA):TE:=λσ H Q=>t σ H λvs H1=>sp (vs++C8) H1 Q E
def Binds (K:PySem.W.Frag)(fd:Tn)(ps:List Str)(ds:List Sh):Prop :=
 ∀(s:Si) (us:List Sh),K.In s.heap->(us++ds).length=ps.length->BindsTo s fd ⟨us,[]⟩ (ps.zip (us++ds))
theorem Binds.all {K:PySem.W.Frag}{fd:Tn}{ps:List Str}(h:∀us:List Sh,us.length=ps.length->bindArgs fd ⟨us,[]⟩=pure (ps.zip us)):Binds K fd ps []:=λs us _ hl=>by
 rw[Uo]at hl ⊢
 exact .of_eq (h us hl)
def Passes (CX:zZ)(X:Cx)(E:XK):Prop:=∀(pins:List (Addr×Obj)) (σ:St) (H:Hp) (s:Si) (e:Sh) (s':Si),Inv X pins σ H s->CX X.stack H s E e s'->X.xe e s'
section
variable {X:Cx}{CX:zZ}{k:Nat}{f:Addr}{fd:Tn}{ps:List Str}{sp:Sp}{C8:List V}{ds:List Sh}{E:XK}{x:Str}{p pos:Pos}{e:Expr}{es:List Expr}{t:TA}
theorem D_ {pins:List (Addr×Obj)}{σ:St}{H:Hp}{s:Si}{Q:VK}{us:List Sh}{vs:List V}(F:aF X.prog X.w X.K X.mg X.base CX k f fd ps sp)(hr:cW k X.A)(hb:Binds X.K fd ps ds)(hd:Vals C8 ds)(hx:Passes CX X E)
  (I:Inv X pins σ H s) (r:Vals vs us) (h:sp (vs++C8) H Q E):S6 (model X.prog X.w) X.A (call (.ref f) us) (EP X pins σ Q) X.xe s:=by
 have r2:Vals (vs++C8) (us++ds):=r.append hd;have hl:(us++ds).length=ps.length:=by rw[<- r2.length];exact F.len _ _ _ _ h
 refine wpAny_call (Vc (F.run X.A X.stack s H ⟨us,[]⟩ (us++ds) (vs++C8) Q E hr I.Nh (hb s us I.F1 hl) r2 h) λr s' hq=>?_);cases r with
 |error e=>exact hx pins σ H s e s' I hq
 |ok fl =>
  cases fl with
  |ret u=>exact I.after hq
  |next=>exact US hq
  |brk=>exact US hq
  |cont=>exact US hq
theorem uy (F:aF X.prog X.w X.K X.mg X.base CX k f fd ps sp)(hr:cW k X.A)(hg:Gl X x)(hm:X.mg x=some (.ref f))(hk:PySem.W.keepIn X.K (.ref f)=true)(hb:Binds X.K fd ps ds)(hd:Vals C8 ds)(hx:Passes CX X E)
  (ha:PA X (e::es) t) (hdb:(x==("__debug__" : Str))=false:=by decide) (he:SX (e::es) X.env=(false,eval e X.env)::SX es X.env:=by rfl) (hpl:(UP pos (SX es X.env)).any (·.1)=false:=by rfl) :
  PE X (.Call (.Name x p) (e::es) [] pos) (GJ sp C8 E t):=by
 intro pins s σ H Q I h;refine U4 (BA I hg hm ?_ hdb);refine PySem.W.callWith_K (h₀:=X.base) I.ok.mod.LR hk (br (ha pos pins s σ H _ I h) λus s1 ⟨vs,H1,I1,r,q⟩=>⟨I1.F1,?_⟩) he hpl;exact D_ F hr hb hd hx I1 r q
end
section
end
structure aK (N P:List Str)(sc:U8):Prop where
 kind:sc.kind=.function
 co:sc.isCoroutine=false
 gen:sc.isGenerator=false
 nd:N.Nodup
 pre:N.take P.length=P
 par:∀x∈P,sc.names.lookup x=some .local\/sc.names.lookup x=some .cell
 Ex:∀y∈sc.names,y.2≠.free
theorem nD {kindOf:Str->Option Vs}{x:Str}:∀{binds:List (Str×Sh)} {m:Str->Option Sh},(∀v,(x,v)∉binds)->bindL kindOf binds m x=m x
 |[],_,_=>rfl
 | (n,v)::r,m,h=>by
  unfold bindL;rw[nD λw hw=>h w (S0 _ hw)]
  split
  ·have:x≠n:=by rintro rfl;exact h v SY
   simp[this]
  ·rfl
theorem nF {kindOf:Str->Option Vs}{x:Str}:∀{binds:List (Str×Sh)} {m:Str->Option Sh},(∀v,(x,v)∉binds)->bindC kindOf binds m x=m x
 |[],_,_=>rfl
 | (n,v)::r,m,h=>by
  unfold bindC;rw[nF λw hw=>h w (S0 _ hw)]
  split
  ·rfl
  ·have:x≠n:=by rintro rfl;exact h v SY
   simp[this]
theorem nE {kindOf:Str->Option Vs}{x:Str}{v:Sh}:∀{P:List Str} {vs:List Sh} {i:Nat} {m:Str->Option Sh},P.Nodup->P[i]?=some x->vs[i]?=some v->kindOf x=some .local ->
  bindL kindOf (P.zip vs) m x=some v
 |[],_,_,_,_,h,_,_=>by simp at h
 |_::_,[],_,_,_,_,h,_=>by simp at h
 |p::P,w::vs,0,m,nd,h1,h2,hk=>by
  simp at h1 h2;subst h1;subst h2;show bindL kindOf ((p,w)::P.zip vs) m p=_;unfold bindL;rw[nD λv hv=>(S4.mp nd).1 (Wf hv).1,if_pos hk];simp
 |p::P,w::vs,i+1,m,nd,h1,h2,hk=>by
  show bindL kindOf ((p,w)::P.zip vs) m x=_;unfold bindL;exact nE (i:=i) (S4.mp nd).2 (by simpa using h1) (by simpa using h2) hk
theorem nG {kindOf:Str->Option Vs}{x:Str}{v:Sh}:∀{P:List Str} {vs:List Sh} {i:Nat} {m:Str->Option Sh},P.Nodup->P[i]?=some x->vs[i]?=some v->kindOf x≠some .local ->
  bindC kindOf (P.zip vs) m x=some v
 |[],_,_,_,_,h,_,_=>by simp at h
 |_::_,[],_,_,_,_,h,_=>by simp at h
 |p::P,w::vs,0,m,nd,h1,h2,hk=>by
  simp at h1 h2;subst h1;subst h2;show bindC kindOf ((p,w)::P.zip vs) m p=_;unfold bindC;rw[nF λv hv=>(S4.mp nd).1 (Wf hv).1,if_neg hk];simp
 |p::P,w::vs,i+1,m,nd,h1,h2,hk=>by
  show bindC kindOf ((p,w)::P.zip vs) m x=_;unfold bindC;exact nG (i:=i) (S4.mp nd).2 (by simpa using h1) (by simpa using h2) hk
def start (N:List Str)(vs:List V):St:=vs.map some++UR (N.length-vs.length) none
def mB (CX:zZ)(P:So)(w:SI)(K:PySem.W.Frag)(mg:Str->Option Sh)(base:Heap)(N:List Str)(qual:Str)(scope:U8)(f:Addr)(cd:Sh)(A:TF)(outer:List Env)(s:Si)(H:Hp)(E:XK):Cx where
 prog:=P
 w:=w
 K:=K
 mg:=mg
 base:=base
 A:=A.deeper (V0 qual scope s.heap.objs.size f cd)
 N:=N
 s₀:=s
 H₀:=H
 env:=V0 qual scope s.heap.objs.size f cd
 outer:=outer
 stack:=V0 qual scope s.heap.objs.size f cd::outer
 ex:=[]
 calm:=true
 fn:=λ_=>true
 pn:=[]
 xe:=λe s'=>S6 (model P w) (A.deeper (V0 qual scope s.heap.objs.size f cd)) (leaving (V0 qual scope s.heap.objs.size f cd) e) (λ_ K5=>CX outer H s E e K5) (λe' K5=>CX outer H s E e' K5) s'
theorem qU {sc:U8}{n:Nat}{x:Str}(h:sc.names.lookup x=some .cell):∃c,(cellsFrom n sc.names []).lookup x=some c:=by
 have q:=PySem.W.cellsFrom_some sc.names n [] (.inl h);exact Option.isSome_iff_exists.mp q
theorem vW {CX:zZ}{P:So}{w:SI}{K:PySem.W.Frag}{mg:Str->Option Sh}{base:Heap}{N ps:List Str}{qual:Str}{scope:U8}{f:Addr}{cd:Sh}{A:TF}{outer:List Env}{s s1:Si}{H:Hp}{E:XK}{us:List Sh}{vs:List V}
  (S:aK N ps scope) (hd:A.handled=none) (e0:Cs P w K mg base A outer s H) (hl:vs.length=ps.length) (r:Vals vs us)
  (x:InCallC s s.heap.objs.size (bindL (V0 qual scope s.heap.objs.size f cd).kindOf (ps.zip us) λ_=>none) (cellsFrom (s.heap.objs.size+1) scope.names []) (bindC (V0 qual scope s.heap.objs.size f cd).kindOf (ps.zip us) λ_=>none) s1) :
  Inv (mB CX P w K mg base N qual scope f cd A outer s H E) [] (start N vs) H s1:=by
 have hpl:ps.length<=N.length:=by have:=congrArg List.length S.pre;rw[SU]at this;lia
 obtain⟨h1,tk,rfl,hk⟩:=x.done;have Hj:∀b:Addr,b∉(mB CX P w K mg base N qual scope f cd A outer s H E).ex:=λb z=>absurd (show b∈([]:List Addr) from z) (by simp)
 refine⟨⟨e0.mod,S.kind,rfl,rfl,Sj _,λy z c h1 h2=>?_,λy hy=>?_,λy c _ h=>?_,λ_=>hd,Around.frames_deeper e0.frames,.inr ⟨rfl,rfl⟩,λb z=>absurd z (Hj b),e0.bs,e0.Dg,λb _ _=>Hj b,λb z=>absurd z (Hj b),e0.ly,e0.F9⟩,
  rfl,e0.bare,Un.kept hk,⟨_,x.toInCall.ns,λi y v h1 h2 h3=>?_⟩,λy c h=>⟨_,x.cell y c h⟩,e0.bG.fresh (Sj _),λy c h=>?_,λp hp=>absurd (show p∈([]:List (Addr×Obj)) from hp) (by simp),e0.bG.kept hk,?_⟩
 ·exact name_of_addr x.apart (PySem.mem_of_lookup h1) (PySem.mem_of_lookup h2)
 ·have hy:scope.names.lookup y=some .cell\/scope.names.lookup y=some .free:=hy;rcases hy with hy|hy
  ·exact qU hy
  ·exact absurd rfl (S.Ex _ (PySem.mem_of_lookup hy))
 ·exact Nat.le_of_lt (x.above y c (PySem.mem_of_lookup h))
 ·have hi:i<vs.length:=by
   unfold start at h2
   by_cases hi:i<vs.length
   ·exact hi
   ·rw[Tr (by simpa using hi)]at h2
    rw[List.getElem?_replicate]at h2
    split at h2 <;> cases h2
  have ha:vs[i]?=some v:=by
   unfold start at h2;rw[T7 (by simpa using hi),Su]at h2
   cases e:vs[i]? with
   |none=>rw[e]at h2;cases h2
   |some a=>rw[e]at h2;cases h2;rfl
  obtain⟨u,hu,rv⟩:=r.get ha;have hp:ps[i]?=some y:=by
   rw[<- S.pre,U1 (by lia)];exact h1
  have Oc:ps.Nodup:=by rw[<- S.pre];exact S.nd.sublist (List.take_sublist _ _)
  refine⟨u,rv,?_⟩;rcases S.par y (TU hp)with k|k
  ·exact .inl ⟨k,nE Oc hp hu k⟩
  ·obtain⟨c,e⟩:=qU (n:=s.heap.objs.size+1) k;refine .inr ⟨.inl k,c,e,?_⟩;have q:=x.cell y c e;rw[nG Oc hp hu (by show scope.names.lookup y≠_;rw[k];decide)]at q
   exact q
 ·exact e0.bG.fresh (Nat.le_of_lt (x.above y c (PySem.mem_of_lookup h)))
 ·unfold start;show _=N.length;rw[S_,Sg,List.length_replicate];lia
theorem Jn {CX:zZ}{P:So}{w:SI}{K:PySem.W.Frag}{mg:Str->Option Sh}{base:Heap}{k:Nat}{f:Addr}{name qual:Str}{params:Arguments}{body:List Stmt}{scope:U8}{dV kV doc pm cD ct oc:Sh}{an od:Option Addr}
  {Eo:Array (Option Sh)} {N ps:List Str} {sp:Sp} (lk:K.lookup f=some ⟨oc,od,.func (PySem.W.fnOf name qual params body scope dV kV doc pm an cD ct),Eo⟩) (gk:PySem.W.codeIn K cD qual=true) (S:aK N ps scope)
  (len:∀vs H Q E,sp vs H Q E->vs.length=ps.length)
  (lx:∀(A:TF) (outer:List Env) (s:Si) (H:Hp) (vs:List V) (Q:VK) (E:XK),cW k (A.deeper (V0 qual scope s.heap.objs.size f cD))->sp vs H Q E ->
   ∃t,oS (mB CX P w K mg base N qual scope f cD A outer s H E) body t/\t {nx:=λ_ H'=>Q .bX H',rt:=Q} (start N vs) H) :
  aF P w K mg base CX (k+1) f (PySem.W.fnOf name qual params body scope dV kV doc pm an cD ct) ps sp:=by
 refine⟨len,λA outer s H args us vs Q E hr e0 hb r qm=>?_⟩;have hl:=len _ _ _ _ qm;have KX:K.In s.heap:=e0.mod.LR.keeps λb o e=>(e0.bs b o e).1;have lim:s.heap.NoLimit:=e0.mod.nolimit.keeps λb o e=>(e0.bs b o e).1;have Jb:∀y∈ps.zip us,scope.names.lookup y.1=some .local\/(scope.names.lookup y.1=some .cell/\((cellsFrom (s.heap.objs.size+1) scope.names []).lookup y.1).isSome=true):=λMb hy=>by
  obtain⟨n,v⟩:=Mb;rcases S.par n (Wf hy).1 with q|q
  ·exact .inl q
  ·exact .inr ⟨q,PySem.W.cellsFrom_some _ _ _ (.inl q)⟩
 refine codeAny_call_function hr.depth (KX _ _ lk) rfl S.co S.gen rfl (PySem.W.codeRec_of KX gk) (hb _ _ _ _ ?_);refine wpAny_newFunctionEnv_cells S.kind Jb λenv he s1 x=>?_;subst he;refine⟨lim.keeps x.toInCall.keep,codeAny_func ?_⟩;obtain⟨t,ht,hq⟩:=lx A outer s H vs Q E (hr.deeper _) qm;have I:Inv (mB CX P w K mg base N qual scope f cD A outer s H E) [] (start N vs) H s1:=vW S hr.hd e0 hl r x;refine VA (ht [] s1 (start N vs) H _ I hq) (λfl s' hs=>?_) λe s' hs=>hs;have fin:∀{σ':St} {H':Hp} {v:V} {u:Sh},Inv (mB CX P w K mg base N qual scope f cD A outer s H E) [] σ' H' s'->RelV v u->Q v H'->CE outer P w H s Q u s' :=
  λ{σ' H' v u} J rv q=>⟨v,H',J.os,J.bare,J.base,J.bG,rv,q⟩
 cases fl with
 |ret u =>
  obtain⟨v,σ',H',J,rv,q⟩:=hs;exact fin J rv q
 |next =>
  obtain⟨σ',H',J,q⟩:=hs;exact fin (v:=V.bX) (u:=Value.none) J rfl q
 |brk =>
  obtain⟨_,_,_,q⟩:=hs;exact US q
 |cont =>
  obtain⟨_,_,_,q⟩:=hs;exact US q
section
variable {X:Cx}{x:Str}{p pos:Pos}{e:Expr}{es:List Expr}{t:TA}{id T:String}{r:List V->Hp->VK->Prop}
def KS (r:List V->Hp->VK->Prop)(t:TA):TE:=λσ H Q=>t σ H λvs H1=>r vs H1 Q
theorem pP (hc:fQ X (.builtin id) r) (hg:Gl X x) (hm:X.mg x=none) (hv:TV x=some (.builtin id)) (ha:PA X (e::es) t) (hn:x≠"__name__" := by decide) (hdb:(x==("__debug__" : Str))=false:=by decide)
  (he:SX (e::es) X.env=(false,eval e X.env)::SX es X.env:=by rfl) (hpl:(UP pos (SX es X.env)).any (·.1)=false:=by rfl):PE X (.Call (.Name x p) (e::es) [] pos) (KS r t):=by
 intro pins s σ H Q I h;refine U4 (eQ I hg hm hv ?_ hn hdb);exact PyProof.Rows.callWith_builtin1 (br (ha pos pins s σ H _ I h) λus s1 Ma=>by obtain⟨vs,H1,I1,r1,q1⟩:=Ma;exact hc pins s1 σ H1 vs us Q I1 r1 q1) he hpl
theorem mV (hc:fQ X (.type T) r) (hg:Gl X x) (hm:X.mg x=none) (hv:TV x=some (.type T)) (ha:PA X (e::es) t) (hn:x≠"__name__" := by decide) (hdb:(x==("__debug__" : Str))=false:=by decide)
  (he:SX (e::es) X.env=(false,eval e X.env)::SX es X.env:=by rfl) (hpl:(UP pos (SX es X.env)).any (·.1)=false:=by rfl):PE X (.Call (.Name x p) (e::es) [] pos) (KS r t):=by
 intro pins s σ H Q I h;refine U4 (eQ I hg hm hv ?_ hn hdb);exact TN (br (ha pos pins s σ H _ I h) λus s1 L_=>by obtain⟨vs,H1,I1,r1,q1⟩:=L_;exact hc pins s1 σ H1 vs us Q I1 r1 q1) he hpl
end
end L2
namespace HT
open PySem PyProof.Rows
def lexLt:List Int->List Int->Bool
 |[],[]=>false
 |[],_::_=>true
 |_::_,[]=>false
 |x::xs,y::ys=>if x=y then lexLt xs ys else decide (x<y)
theorem gC (x y:Int)(xs ys:List Int):lexLt (x::xs) (y::ys)=if x=y then lexLt xs ys else decide (x<y):=rfl
section
open PySem.SeqAt
open PySem.AutoSeq1 (wpAny_loadPart')
open PySem.MeetsSeq PySem.MeetsSeq2 PySem.MeetsSeq3
end
section
def jF (n d:Nat):Option Int->Nat
 |none=>d
 |some v=>if v<0 then (v+(n:Int)).toNat else min v.toNat n
theorem xI (n d:Nat):jF n d none=d:=rfl
theorem gX (n d k:Nat):jF n d (some (k:Int))=min k n:=by
 show (if (k:Int)<0 then ((k:Int)+(n:Int)).toNat else min (k:Int).toNat n)=min k n
 rw[if_neg (by lia),WZ]
end
end HT
namespace L2
open PySem PySem.Spec PyProof.Rows
abbrev TO:=St->Hp->(Option Int->Hp->Prop)->Prop
def PO (X:Cx)(e:Option Expr)(t:TO):Prop :=
 ∀(pins:List (Addr×Obj)) (s:Si) (σ:St) (H:Hp) (Q:Option Int->Hp->Prop),Inv X pins σ H s->t σ H Q ->
  S6 (model X.prog X.w) X.A (evalPart e X.env) (λu s'=>∃o H',Inv X pins σ H' s'/\IsPart u o/\Q o H') X.xe s
def Aw:TO:=λ_ H Q=>Q none H
def Gz (t:TE):TO:=λσ H Q=>t σ H λx H1=>∃i,x=.int i/\Q (some i) H1
theorem intsAre_of {ns:List Int}:∀{us:List Sh},Vals (ns.map V.int) us->V6 us ns:=by
 induction ns with
 |nil=>intro us r;rw[List.map_nil]at r;cases r;exact .nil
 |cons n ns ih =>
  intro us r;rw[Ta]at r;cases r with
  |cons r1 r2 =>
   obtain⟨t,e⟩:=r1;subst e;exact .cons n t (ih r2)
section
variable {X:Cx}{e:Expr}{te:TE}{lo hi:Option Expr}{tl th:TO}{pos p2:Pos}
theorem ur:PO X none Aw:=by
 intro pins s σ H Q I h;rw[evalPart_none];exact Sm ⟨none,H,I,.none,h⟩
theorem uq (h:PE X e te):PO X (some e) (Gz te):=by
 intro pins s σ H Q I hw;rw[evalPart_some];refine br (h pins s σ H _ I hw) λu s1 ⟨x,H1,I1,r1,q1⟩=>?_;obtain⟨i,rfl,q⟩:=q1;obtain⟨t,rfl⟩:=r1;exact⟨some i,H1,I1,.int i t,q⟩
def Nv (X:Cx)(r:V->Option Int->Option Int->Hp->VK->Prop):Prop :=
 ∀(pins:List (Addr×Obj)) (s:Si) (σ:St) (H:Hp) (x:V) (v vl vu:Sh) (lo hi:Option Int) (sl:Addr) (Q:VK),Inv X pins σ H s->RelV x v->s.heap.IsSliceOf sl vl vu .none->IsPart vl lo->IsPart vu hi->r x lo hi H Q ->
  ∃T id,typeLookup (.type T) "__getitem__" = pure (some (.builtin id))/\s.TypeIs v T/\S6 (model X.prog X.w) X.A (getItem v (.ref sl)) (EP X pins σ Q) X.xe s
def Pj (r:V->Option Int->Option Int->Hp->VK->Prop)(te:TE)(tl th:TO):TE:=λσ H Q=>te σ H λx H1=>tl σ H1 λl H2=>th σ H2 λu H3=>r x l u H3 Q
theorem pO {r:V->Option Int->Option Int->Hp->VK->Prop}(hr:Nv X r)(he:PE X e te)(hl:PO X lo tl)(hu:PO X hi th):PE X (.Subscript e (.Slice lo hi none p2) pos) (Pj r te tl th):=by
 intro pins s σ H Q I h;refine Subscript_ (br (he pins s σ H _ I h) λv s1 ⟨x,H1,I1,r1,q1⟩=>?_);refine wpAny_Slice (br (hl pins s1 σ H1 _ I1 q1) λvl s2 ⟨l,H2,I2,pl,q2⟩=>br (hu pins s2 σ H2 _ I2 q2) λvu s3 ⟨u,H3,I3,pu,q3⟩=>?_);rw[evalPart_none];refine Sm ?_;have I4:Inv X pins σ H3 {s3 with heap:=s3.heap.push {cls:=.type "slice",data:=.fields #[vl,vu,.none]}}:=I3.kept (t':=s3.toks) λb ob q=>Sl _ q
 obtain⟨T,id,hT,ht,hg⟩:=hr pins {s3 with heap:=s3.heap.push {cls:=.type "slice",data:=.fields #[vl,vu,.none]}} σ H3 x v vl vu l u s3.heap.objs.size Q I4 r1 (Heap.IsSliceOf.new ..) pl pu q3
 show S6 (model X.prog X.w) X.A (subscriptTail e (.Slice lo hi none p2) v (.ref s3.heap.objs.size)) (EP X pins σ Q) X.xe {s3 with heap:=s3.heap.push {cls:=.type "slice",data:=.fields #[vl,vu,.none]}}
 exact tail_any (ops:=[.ref s3.heap.objs.size,v]) ht hT hg (by with_unfolding_all rfl)
def qT (xs:List V)(lo hi:Option Int):List V:=(xs.drop (HT.jF xs.length 0 lo)).take (HT.jF xs.length xs.length hi-HT.jF xs.length 0 lo)
theorem qS (xs:List V)(lo hi:Option Int):(qT xs lo hi).length<=xs.length:=by
 unfold qT;rw[SU,UW];lia
end
def rA (n:Nat)(i:Int):Option Nat:=if 0<=i then (if i<n then some i.toNat else none) else if -(n:Int)<=i then some (i+n).toNat else none
def mC {α:Type}(xs:List α)(i:Int):Option α:=(rA xs.length i).bind λj=>xs[j]?
theorem uG {n:Nat}{i:Int}{j:Nat}(h:rA n i=some j):seqIndex? i n=some j/\j<n/\-(n:Int)<=i/\i<n:=by
 unfold rA at h
 by_cases h0:0<=i
 ·rw[if_pos h0]at h
  by_cases h1:i<n
  ·rw[if_pos h1]at h;have e:i.toNat=j:=S8 h;exact⟨by rw[seqIndex_of h0 h1,e],by lia,by lia,h1⟩
  ·rw[if_neg h1]at h;cases h
 ·rw[if_neg h0]at h
  by_cases h1:-(n:Int)<=i
  ·rw[if_pos h1]at h;have e:(i+n).toNat=j:=S8 h;exact⟨by rw[seqIndex_neg (by lia) h1,e],by lia,h1,by lia⟩
  ·rw[if_neg h1]at h;cases h
theorem uW {α:Type}{xs:List α}{i:Int}{v:α}(h:mC xs i=some v):∃j,seqIndex? i xs.length=some j/\xs[j]?=some v/\j<xs.length/\-(xs.length:Int)<=i/\i<xs.length:=by
 unfold mC at h;cases e:rA xs.length i with
 |none=>rw[e]at h;cases h
 |some j =>
  rw[e]at h;obtain⟨h1,h2,h3,h4⟩:=uG e;exact⟨j,h1,h,h2,h3,h4⟩
def oN (b:Expr):Prop:=∀o i,subscripted b false o i=operate [o,i] (getItem o i)
def Dn (X:Cx)(r:R2):Prop :=
 ∀(value slice:Expr) (pins:List (Addr×Obj)) (s:Si) (σ:St) (H:Hp) (x y:V) (v u:Sh) (Q:VK),Inv X pins σ H s->RelV x v->RelV y u->r x y H Q ->
  subscripted slice false v u=operate [v,u] (getItem v u)->S6 (model X.prog X.w) X.A (subscriptTail value slice v u) (EP X pins σ Q) X.xe s
def O0 (X:Cx)(id:String)(r:V->List V->Hp->VK->Prop):Prop :=
 ∀(pins:List (Addr×Obj)) (s:Si) (σ:St) (H:Hp) (x:V) (xs:List V) (v:Sh) (us:List Sh) (Q:VK),Inv X pins σ H s->RelV x v->Vals xs us->r x xs H Q ->
  S6 (model X.prog X.w) X.A (call (.builtin id) (v::us)) (EP X pins σ Q) X.xe s
section
variable {X:Cx}{a b:Expr}{ta tb:TE}{pos:Pos}
theorem kz {r:R2}(hr:Dn X r)(ha:PE X a ta)(hb:PE X b tb)(hs:oN b):PE X (.Subscript a b pos) (GB r ta tb):=by
 intro pins s σ H Q I h;exact Subscript_ (FN ha hb I h λv u s2 x y H2 I2 rx ry q=>hr a b pins s2 σ H2 x y v u Q I2 rx ry q (hs _ _))
def GX (K:PySem.W.Frag):R2:=λx y H Q=>∃p xs i v,x=.ref p/\y=.int i/\cE K H p xs/\mC xs i=some v/\Q v H
def GW (K:PySem.W.Frag):R2:=λx y H Q=>∃p xs i v,x=.ref p/\y=.int i/\tU K H p xs/\mC xs i=some v/\Q v H
theorem eR:Dn X (GX X.K):=by
 intro value slice pins s σ H x y v u Q I rx ry h hs;obtain⟨p,xs,i,z,rfl,rfl,hq,he,q⟩:=h;cases rx;obtain⟨t,rfl⟩:=ry;obtain⟨its,r,pl,hz⟩:=I.list hq;obtain⟨j,h1,h2,h3,h4,h5⟩:=uW he;obtain⟨w,ew,z_⟩:=r.get h2;have hl:=r.length;have hn:=k7;have fin:EP X pins σ Q w s:=⟨z,H,I,z_,q⟩
 by_cases h0:0<=i
 ·have hj:i.toNat=j:=by
   rw[seqIndex_of h0 h5]at h1;exact S8 h1
  exact item_listR pl.isList h0 (by lia) (by rw[hj];simpa using ew) fin hs
 ·have hj:(i+(its.toArray.size:Int)).toNat=j:=by
   rw[seqIndex_neg (by lia) h4]at h1
   rw[SW,<- hl];exact S8 h1
  exact subscriptTail_builtinR (x:=w) pl.isList.typeIs WQ.lookup
   (wpAny_getItem_list_neg (Q:=λr s'=>r=w/\EP X pins σ Q r s') pl.isList (by lia) (by rw[SW] <;> lia) (by lia) (by rw[hj];simpa using ew) ⟨rfl,fin⟩) hs
theorem yK:Dn X (GW X.K):=by
 intro value slice pins s σ H x y v u Q I rx ry h hs;obtain⟨p,xs,i,z,rfl,rfl,hq,he,q⟩:=h;cases rx;obtain⟨t,rfl⟩:=ry;obtain⟨its,r,pl,hz⟩:=I.tuple hq;obtain⟨j,h1,h2,h3,h4,h5⟩:=uW he;obtain⟨w,ew,z_⟩:=r.get h2;have hl:=r.length;have hn:=k7;have fin:EP X pins σ Q w s:=⟨z,H,I,z_,q⟩;exact subscriptTail_builtinR (x:=w) pl.typeIs slot_tuple_getitem.lookup
  (getItem_tuple (j:=j) (Q:=λr s'=>r=w/\EP X pins σ Q r s') pl (by lia) (by lia) (by rw[SW,<- hl];exact h1) (by simpa using ew) ⟨rfl,fin⟩) hs
theorem sI (its:List Sh)(n j:Nat)(u:Sh):UQ (·.setIfInBounds j u) {cls:=.type "list",data:=.seq its.toArray n}={cls:=.type "list",data:=.seq (its.set j u).toArray n}:=by
 simp[UQ]
theorem Inv.lst {pins:List (Addr×Obj)}{σ:St}{H:Hp}{s:Si}{p:Addr}{xs:List V}(I:Inv X pins σ H s)(h:H p=some (.lst xs)):
  ∃(its:List Sh) (n:Nat),Vals xs its/\s.heap.get? p=some {cls:=.type "list",data:=.seq its.toArray n}/\xs.length<=SG:=by
 obtain⟨z,its,n,r,e⟩:=I.bG p _ h;exact⟨its,n,r,e,z⟩
theorem Inv.EE {pins:List (Addr×Obj)}{σ:St}{H:Hp}{s:Si}{p:Addr}{xs ys:List V}{its its':List Sh}{n n':Nat}{f:Obj->Obj}(I:Inv X pins σ H s)(h:H p=some (.lst xs))
  (ho:s.heap.get? p=some {cls:=.type "list",data:=.seq its.toArray n}) (hf:f {cls:=.type "list",data:=.seq its.toArray n}={cls:=.type "list",data:=.seq its'.toArray n'}) (r:Vals ys its') (hz:ys.length<=SG) (t:Nat) :
  Inv X pins σ (upd H p (.lst ys)) {s with heap:=s.heap.update p f,toks:=t}:=by
 have e:(s.heap.update p f).get? p=some {cls:=.type "list",data:=.seq its'.toArray n'}:=by
  rw[Heap.get?_update_self f ho (by rw[hf] <;> rfl),hf]
 refine I.write (x:=p) (e:=p) (by rw[h];trivial) (.inl rfl) (λb u hb q=>(Heap.get?_update_other _ _ (T5 hb)).trans q) ⟨_,e⟩ ?_
 exact⟨hz,its',n',r,e⟩
def GV:V->V->V->Hp->(Hp->Prop)->Prop:=λo i v H Q=>∃p xs k j,o=.ref p/\i=.int k/\H p=some (.lst xs)/\rA xs.length k=some j/\Q (upd H p (.lst (xs.set j v)))
theorem set_list:JO X GV:=by
 intro pins s σ H o i v ov iv u Q I ro ri rv h;obtain⟨p,xs,k,j,rfl,rfl,hp,hj,q⟩:=h;cases ro;obtain⟨t,rfl⟩:=ri;obtain⟨its,n,r,ho,hz⟩:=I.lst hp;obtain⟨h1,h2,h3,h4⟩:=uG hj;have hl:=r.length;have hn:=k7;have I':Inv X pins σ (upd H p (.lst (xs.set j v))) {s with heap:=s.heap.update p (UQ (·.setIfInBounds j u))} :=
  I.EE hp ho (sI its n j u) (r.set rv j) (by rw[List.length_set];exact hz) s.toks
 by_cases h0:0<=k
 ·have hk:k.toNat=j:=by
   rw[seqIndex_of h0 h4]at h1;exact S8 h1
  exact PySem.W.ki_setAt ho h0 (by lia) (by rw[SW,<- hl];exact h4) (by rw[hk];exact⟨_,I',q⟩)
 ·have hk:(k+(its.toArray.size:Int)).toNat=j:=by
   rw[seqIndex_neg (by lia) h3]at h1
   rw[SW,<- hl];exact S8 h1
  exact PySem.W.ki_setBack ho (by lia) (by rw[SW,<- hl];exact h3) (by lia) (by rw[hk];exact⟨_,I',q⟩)
theorem nS (lo hi:Option Int)(n:Nat):(UG lo hi none n).1=((HT.jF n 0 lo:Nat):Int)/\(UG lo hi none n).2.1=((HT.jF n n hi:Nat):Int)/\(UG lo hi none n).2.2=1:=by
 refine⟨?_,?_,rfl⟩
 ·cases lo with
  |none=>simp[UG,HT.jF]
  |some i =>
   simp only[UG,HT.jF,Option.getD_none,show (1:Int)>0 by decide,if_true]
   by_cases h:i<0
   ·simp only[h,if_true] <;> lia
   ·simp only[h,if_false] <;> lia
 ·cases hi with
  |none=>simp[UG,HT.jF]
  |some i =>
   simp only[UG,HT.jF,Option.getD_none,show (1:Int)>0 by decide,if_true]
   by_cases h:i<0
   ·simp only[h,if_true] <;> lia
   ·simp only[h,if_false] <;> lia
theorem l4 (its:List Sh)(lo hi:Option Int):slicePick its.toArray lo hi none=((its.drop (HT.jF its.length 0 lo)).take (HT.jF its.length its.length hi-HT.jF its.length 0 lo)).toArray:=by
 obtain⟨h1,h2,h3⟩:=nS lo hi its.toArray.size;unfold slicePick;rw[h1,h2,h3];simp only[sliceRange_one,pick_run,SW] <;> rfl
def K9 (K:PySem.W.Frag):V->Option Int->Option Int->Hp->VK->Prop:=λx lo hi H Q=>∃a xs,x=.ref a/\cE K H a xs/\∀p,H p=none->Q (.ref p) (upd H p (.lst (qT xs lo hi)))
theorem uf:Nv X (K9 X.K):=by
 intro pins s σ H x v vl vu lo hi sl Q I rx hs pl pu h;obtain⟨a,xs,rfl,hx,q⟩:=h;cases rx;obtain⟨its,r,ht,hz⟩:=I.list hx;have hlen:=r.length;refine⟨"list",_,WQ.lookup,ht.isList.typeIs,?_⟩;refine wpAny_getItem_list_slice ht.isList hs pl pu .none (by simp) ?_ (by rw[SW] <;> lia)
 rw[l4,<- hlen];refine⟨.ref s.heap.objs.size,_,I.laid (t':=s.toks) (o:=.lst (qT xs lo hi)) (λb ob q=>Sl _ q) (Sj _) ?_,rfl,q _ (I.bG.fresh (Sj _))⟩;exact⟨Ts (qS xs lo hi) hz,_,0,(r.drop (HT.jF xs.length 0 lo)).take (HT.jF xs.length xs.length hi-HT.jF xs.length 0 lo),Tf _ rfl⟩
theorem ie:fQ X (.builtin "len") (λxs H Q=>∃p ys,xs=[.ref p]/\(cE X.K H p ys\/tU X.K H p ys)/\Q (.int ys.length) H):=by
 intro pins s σ H xs us Q I r h;obtain⟨p,ys,rfl,hq,q⟩:=h;obtain⟨u,rfl,rx⟩:=vals1 r;cases rx;have hn:=k7;rcases hq with hq|hq
 ·obtain⟨its,r',pl,hz⟩:=I.list hq;have hlen:=r'.length;exact Calls.call_len_list pl.isList (by simp only[SW] <;> lia) ⟨.int ys.length,H,I.tok _,⟨s.toks+1,by rw[SW,hlen]⟩,q⟩
 ·obtain⟨its,r',pl,hz⟩:=I.tuple hq;have hlen:=r'.length;exact len_tuple pl (by simp only[SW] <;> lia) ⟨.int ys.length,H,I.tok _,⟨s.toks+1,by rw[SW,hlen]⟩,q⟩
theorem ic:fQ X (.type "list") (λxs H Q=>∃p ys,xs=[.ref p]/\(cE X.K H p ys\/tU X.K H p ys)/\∀l,H l=none->Q (.ref l) (upd H l (.lst ys))):=by
 intro pins s σ H xs us Q I r h;obtain⟨p,ys,rfl,hq,q⟩:=h;obtain⟨u,rfl,rx⟩:=vals1 r;cases rx;have fin:∀(its:List Sh),Vals ys its->ys.length<=SG->∀(h':Heap) (c':Nat),(∀b o',s.heap.get? b=some o'->h'.get? b=some o') ->
   h'.get? s.heap.objs.size=some {cls:=.type "list",dict:=none,data:=.seq its.toArray c',slots:=#[]}->EP X pins σ Q (.ref s.heap.objs.size) {s with heap:=h'}:=λits r' hz h' c' kp e =>
  ⟨.ref s.heap.objs.size,_,I.laid (t':=s.toks) kp (Sj _) (show bV X.prog X.w _ h' _ (.lst ys) from ⟨hz,its,c',r',e⟩),rfl,q _ (I.bG.fresh (Sj _))⟩
 rcases hq with hq|hq
 ·obtain⟨its,r',pl,hz⟩:=I.list hq;have hlen:=r'.length;obtain⟨o,ho,hc,n,hd⟩:=pl.isList;exact call_list_seq p (.inl rfl) ho hc hd (λh' c' kp e=>fin its r' hz h' c' kp e) (by simp only[SW] <;> lia)
 ·obtain⟨its,r',pl,hz⟩:=I.tuple hq;have hlen:=r'.length;obtain⟨o,ho,hc,n,hd⟩:=pl;exact call_list_seq p (.inr rfl) ho hc hd (λh' c' kp e=>fin its r' hz h' c' kp e) (by simp only[SW] <;> lia)
def JY (K:PySem.W.Frag)(T:String)(x:V)(H:Hp):Prop:=match x with
 |.str _=>T="str"
 |.int _=>T="int"
 |.ref p=>(T="list" /\ ∃xs,cE K H p xs)\/(T="tuple" /\ ∃o,K.lookup p=some o/\o.cls=.type "tuple" /\ o.dict=none) \/
   (T="dict" /\ ((∃kvs,H p=some (.dK kvs))\/∃kvs,H p=some (.dT kvs)))\/(T="set" /\ ∃S n,H p=some (.set S n))
 |_=>False
theorem xa {pins:List (Addr×Obj)}{σ:St}{H:Hp}{s:Si}{T:String}{x:V}{v:Sh}(I:Inv X pins σ H s)(r:RelV x v)(ty:JY X.K T x H):
  s.TypeIs v T/\∀a,v=.ref a->∃ob,s.heap.get? a=some ob/\ob.dict=none:=by
 cases x with
 |str z =>
  obtain⟨t,rfl⟩:=r;cases (show T="str" from ty)
  exact⟨typeIs_str s z t,λ_ e=>nomatch e⟩
 |int i =>
  obtain⟨t,rfl⟩:=r;cases (show T="int" from ty)
  exact⟨typeIs_int s i t,λ_ e=>nomatch e⟩
 |ref p =>
  cases r;rcases ty with⟨rfl,xs,hq⟩|⟨rfl,o,hk,hc,hd⟩|⟨rfl,hk⟩|⟨rfl,S,n,hk⟩
  ·obtain⟨its,_,pl,_⟩:=I.list hq;refine⟨pl.isList.typeIs,λa e=>?_⟩;cases e;obtain⟨o,n,e,c,hd,_⟩:=pl;exact⟨o,e,hd⟩
  ·refine⟨⟨o,I.F1 p o hk,hc⟩,λa e=>?_⟩;cases e;exact⟨o,I.F1 _ o hk,hd⟩
  ·have z:∃o,s.heap.get? p=some o/\o.ExactDict:=by
    rcases hk with⟨kvs,hk⟩|⟨kvs,hk⟩
    ·obtain⟨_,_,_,_,o,_,_,e,ex,_⟩:=I.bG p _ hk;exact⟨o,e,ex⟩
    ·obtain⟨_,_,_,_,o,_,_,e,ex,_⟩:=I.bG p _ hk;exact⟨o,e,ex⟩
   obtain⟨o,e,ex⟩:=z;refine⟨⟨o,e,ex.1⟩,λa e2=>?_⟩;cases e2;exact⟨o,e,ex.2.1⟩
  ·obtain⟨o,_,_,_,e,ex,_⟩:=I.bG p _ hk;refine⟨⟨o,e,ex.1⟩,λa e2=>?_⟩;cases e2;exact⟨o,e,ex.2.1⟩
 |_=>exact US ty
def KU (K:PySem.W.Frag)(T:String)(r:V->List V->Hp->VK->Prop)(to:TE):TE:=λσ H Q=>to σ H λx H1=>JY K T x H1/\r x [] H1 Q
def Pl (K:PySem.W.Frag)(T:String)(r:V->List V->Hp->VK->Prop)(to:TE)(t:TA):TE:=λσ H Q=>to σ H λx H1=>JY K T x H1/\t σ H1 λxs H2=>r x xs H2 Q
variable {o e:Expr}{es:List Expr}{to:TE}{t:TA}{name:Str}{apos cpos:Pos}{T id:String}{r:V->List V->Hp->VK->Prop}
theorem El (pa:PlainAttrs T) (slot:Slot T name id) (L5:typeOf (.builtin id)=pure (.type "method_descriptor")) (hm:O0 X id r) (ho:PE X o to)
  (fK:Vo o name X.env (eval o X.env)=eval o X.env:=by rfl) (fJ:(apos.endLine==cpos.line)=true:=by rfl):PE X (.Call (.Attribute o name apos) [] [] cpos) (KU X.K T r to):=by
 intro pins s σ H Q I h;refine wpAny_Call_method0_late fK fJ (br (ho pins s σ H _ I h) λv s1 ⟨x,H1,I1,r1,ty,q1⟩=>?_);obtain⟨h1,h2⟩:=xa I1 r1 ty;exact⟨T,id,pa,slot,L5,h1,h2,Calls.callWith_builtin rfl (PySem.evalArgs_none (hm pins s1 σ H1 x [] v [] Q I1 r1 .nil q1))⟩
theorem ye (pa:PlainAttrs T) (slot:Slot T name id) (L5:typeOf (.builtin id)=pure (.type "method_descriptor")) (hm:O0 X id r) (ho:PE X o to) (ha:PA X (e::es) t)
  (fK:Vo o name X.env (eval o X.env)=eval o X.env:=by rfl)
  (sZ:((UP cpos (SX (e::es) X.env)).all (λx=>!x.1)&&(backToKw cpos (W_ [] X.env)).all (λx=>x.1.isSome)
   && decide ((e::es).length+([]:List Wz).length+(if ([]:List Wz).isEmpty then 0 else 1)<30))=true:=by rfl)
  (fJ:(apos.endLine==cpos.line)=true:=by rfl) (hs:SX (e::es) X.env=(false,eval e X.env)::SX es X.env:=by rfl) (gE:(UP cpos (SX es X.env)).any (·.1)=false:=by rfl) :
  PE X (.Call (.Attribute o name apos) (e::es) [] cpos) (Pl X.K T r to t):=by
 intro pins s σ H Q I h;refine wpAny_Call_method_late fK sZ fJ rfl (br (ho pins s σ H _ I h) λv s1 ⟨x,H1,I1,r1,ty,q1⟩=>?_);obtain⟨h1,h2⟩:=xa I1 r1 ty;refine⟨T,id,pa,slot,L5,h1,h2,?_⟩;have hA:=ha cpos pins s1 σ H1 _ I1 q1;rw[hs]at hA ⊢
 refine Calls.callWith_builtin (by show (false || (UP cpos (SX es X.env)).any (·.1))=false;rw[gE] <;> rfl) (Calls.evalArgs_plain ?_)
 exact br hA λus s2 ⟨vs,H2,I2,r2,q2⟩=>hm pins s2 σ H2 x vs v us Q I2 r1 r2 q2
end
def NC (X:Cx)(id:String)(r:V->List V->Hp->VK->Prop):Prop :=
 ∀(pins:List (Addr×Obj)) (s:Si) (σ:St) (H:Hp) (x:V) (xs:List V) (v:Sh) (us:List Sh) (Q:VK),Inv X pins σ H s->RelV x v->Vals xs us->r x xs H Q ->
  S6 (model X.prog X.w) X.A (call (.builtin id) (v::us)) (EP X pins σ Q) X.xe s
theorem Vals.one:∀{x:V} {us:List Sh},Vals [x] us->∃u,us=[u]/\RelV x u
 |_,_,.cons r .nil=>⟨_,rfl,r⟩
theorem Vals.zero:∀{us:List Sh},Vals [] us->us=[]
 |_,.nil=>rfl
theorem Vals.dropLast {xs:List V}{us:List Sh}(h:Vals xs us):Vals xs.dropLast us.dropLast:=by
 induction h with
 |nil=>exact .nil
 |cons r t ih =>
  cases t with
  |nil=>exact .nil
  |cons q t'=>exact .cons r ih
theorem tq {α:Type}(l:List α):l.eraseIdx (l.length-1)=l.dropLast:=by
 induction l with
 |nil=>rfl
 |cons a r ih =>
  cases r with
  |nil=>rfl
  |cons b r =>
   have e:(a::b::r).length-1=((b::r).length-1)+1:=by
    have h1:(a::b::r).length=r.length+2:=rfl;have h2:(b::r).length=r.length+1:=rfl;lia
   rw[e,List.eraseIdx_cons_succ,ih]
   all_goals rfl
section
variable {X:Cx}{pins:List (Addr×Obj)}{σ:St}{H:Hp}{s:Si}{l:Addr}{xs ys:List V}
theorem Inv.EG {its its':List Sh}{n:Nat}{f:Array Sh->Array Sh}{t':Nat}(I:Inv X pins σ H s)(hH:H l=some (.lst xs))
  (e:s.heap.get? l=some {cls:=.type "list",data:=.seq its.toArray n}) (hf:f its.toArray=its'.toArray) (hv:Vals ys its') (hz:ys.length<=SG) :
  Inv X pins σ (upd H l (.lst ys)) {s with heap:=s.heap.update l (UQ f),toks:=t'}:=by
 have q:=PySem.IsL.update e f;rw[hf]at q;refine I.write (x:=l) (e:=l) (by rw[hH];exact trivial) (.inl rfl) (λb' u hb hu=>(Heap.get?_update_other s.heap (UQ f) (T5 hb)).trans hu) ⟨_,q⟩ ?_
 exact⟨hz,its',_,hv,q⟩
theorem Inv.HD {its:List Sh}{t':Nat}(I:Inv X pins σ H s)(hv:Vals ys its)(hz:ys.length<=SG):
  Inv X pins σ (upd H s.heap.objs.size (.lst ys)) {s with heap:=s.heap.push {cls:=.type "list",data:=.seq its.toArray},toks:=t'} :=
 I.laid (λ_ _ q=>Sl _ q) (Sj _) ⟨hz,its,0,hv,Tf _ rfl⟩
theorem Inv.fresh (I:Inv X pins σ H s):H s.heap.objs.size=none:=I.bG.fresh (Sj _)
theorem Inv.vM (I:Inv X pins σ H s)(hH:H l=some (.lst xs)):xs.length<=SG/\∃(its:List Sh) (n:Nat),Vals xs its/\xs.length=its.length/\s.heap.get? l=some {cls:=.type "list",data:=.seq its.toArray n}:=by
 obtain⟨z,its,n,r,e⟩:=I.bG l _ hH;exact⟨z,its,n,r,r.length,e⟩
theorem yv {n:Nat}(h:n<=SG):VU n=false:=by
 unfold VU;exact decide_eq_false (by lia)
end
section
variable {X:Cx}
def ui:V->List V->Hp->VK->Prop:=λx vs H Q=>∃l xs y,x=.ref l/\vs=[y]/\H l=some (.lst xs)/\xs.length<SG/\Q .bX (upd H l (.lst (xs++[y])))
theorem iN:NC X "list.append" ui:=by
 intro pins s σ H x vs v us Q I rx rv h;obtain⟨l,xs,y,rfl,rfl,hH,hz,q⟩:=h;cases rx;obtain⟨u,rfl,ru⟩:=rv.one;obtain⟨z,its,n,r,hl,e⟩:=I.vM hH;refine call_meets F.slot_list_append ⟨_,e,rfl⟩ F.entry_list_append (F.args_list_append_2 _ _) (PySem.list_append l its.toArray n u (by rw[SW];lia)) ⟨e,?_⟩
 refine⟨.bX,_,I.EG (its':=its++[u]) hH e (by simp) (r.append (.cons ru .nil)) ?_,rfl,q⟩
 rw[S_,Vg];lia
def AJ:V->List V->Hp->VK->Prop:=λx vs H Q=>∃l b xs zs,x=.ref l/\vs=[.ref b]/\H l=some (.lst xs)/\H b=some (.lst zs)/\xs.length+zs.length<=SG/\Q .bX (upd H l (.lst (xs++zs)))
theorem vI:NC X "list.extend" AJ:=by
 intro pins s σ H x vs v us Q I rx rv h;obtain⟨l,b,xs,zs,rfl,rfl,hH,hB,hz,q⟩:=h;cases rx;obtain⟨u,rfl,ru⟩:=rv.one;cases ru;obtain⟨z,its,n,r,hl,e⟩:=I.vM hH;obtain⟨z2,qi,n2,r2,Kk,e2⟩:=I.vM hB;have hsz:its.toArray.size+qi.toArray.size<=SG:=by rw[SW,SW];lia
 have Ja:¬ (!its.toArray.isEmpty&&VU (its.toArray.size+qi.toArray.size))=true:=by
  rw[yv hsz,Bool.and_false];exact T4
 refine call_meets F.slot_list_extend ⟨_,e,rfl⟩ F.entry_list_extend (F.args_list_extend_2 _ _)
  (AutoSeq1.list_extend_list_list_0 l its.toArray n b qi.toArray n2 Ja (by rw[SW];lia) (by lia)) ⟨e,e2,?_⟩
 refine⟨.bX,_,I.EG (its':=its++qi) hH e (by simp) (r.append r2) ?_,rfl,q⟩
 rw[S_];lia
def K_:V->List V->Hp->VK->Prop:=λx vs H Q=>∃l xs y,x=.ref l/\vs=[]/\H l=some (.lst xs)/\xs[xs.length-1]?=some y/\Q y (upd H l (.lst xs.dropLast))
theorem EC:NC X "list.pop" K_:=by
 intro pins s σ H x vs v us Q I rx rv h;obtain⟨l,xs,y,rfl,rfl,hH,hy,q⟩:=h;cases rx;have yV:=rv.zero;subst yV;obtain⟨z,its,n,r,hl,e⟩:=I.vM hH;obtain⟨u,hu,ru⟩:=r.get hy;have L0:its.toArray[its.toArray.size-1]?=some u:=by
  show its.toArray[its.length-1]?=some u;rw[<- SK,<- hl];exact hu
 refine call_meets F.slot_list_pop ⟨_,e,rfl⟩ F.entry_list_pop (F.args_list_pop_1 _) (MeetsSeq.list_pop_last l its.toArray n u L0 (by rw[SW];lia)) ⟨e,?_⟩
 refine⟨y,_,I.EG (its':=its.dropLast) hH e ?_ r.dropLast ?_,ru,q⟩
 ·show its.toArray.eraseIdxIfInBounds (its.toArray.size-1)=its.dropLast.toArray;rw[SW,List.eraseIdxIfInBounds_toArray,tq]
 ·rw[List.length_dropLast];lia
def Lc:R2:=λx y H Q=>∃l b xs zs,x=.ref l/\y=.ref b/\H l=some (.lst xs)/\H b=some (.lst zs)/\xs.length+zs.length<=SG/\∀p,H p=none->Q (.ref p) (upd H p (.lst (xs++zs)))
theorem yo:ip X (UJ .Add) Lc:=by
 intro pins s σ H x y v u Q I rx ry h;obtain⟨l,b,xs,zs,rfl,rfl,hH,hB,hz,q⟩:=h;cases rx;cases ry;obtain⟨z,its,n,r,hl,e⟩:=I.vM hH;obtain⟨z2,qi,n2,r2,Kk,e2⟩:=I.vM hB;refine PySem.P.add_list e e2 ?_ (by rw[SW,SW];lia)
 have ea:its.toArray++qi.toArray=(its++qi).toArray:=by simp
 rw[ea];exact⟨.ref _,_,I.HD (t':=s.toks) (r.append r2) (by rw[S_];lia),rfl,q _ I.fresh⟩
end
section
end
section
end
end L2
namespace O5
open PySem PySem.W PySem.Calls PyProof.Rows
theorem ju {P:Params}{h:Heap}:∀(ns:List Int) (vs:List Sh),WellAll P h vs (ns.map WData.int)->V6 vs ns:=by
 intro ns
 induction ns with
 |nil =>
  intro vs w;rw[List.map_nil]at w;cases w;exact .nil
 |cons n ns ih =>
  intro vs w;rw[Ta]at w;cases w with
  |cons a b =>
   cases a;exact .cons _ _ (ih _ b)
theorem vi {l:OpenLaw}{n:Nat}(hn:l.most=some n){P:Params}{h:Heap}{args:List WData}{vals:List Sh}
  (BM:l.row.toRowW.claim.pre args=true) (L3:WellAll P h vals args) :
  ∃a vs ns,vals=[Value.ref a]/\args=[WData.list (ns.map WData.int)]/\h.get? a=some {cls:=.type "list",data:=.seq vs.toArray}/\V6 vs ns/\ns.length<=n:=by
 have Ic:WShape.hasAll [] args [.list .int]=true:=(pre_splitW BM).1;have hc:l.pre.holds [] {args:=args}=true:=(pre_splitW BM).2;obtain⟨d,r,rfl,h1,h2⟩:=hasAllW_cons Ic;obtain rfl:=hasAllW_nil h2;obtain⟨xs,rfl,h3⟩:=hasW_list h1;obtain⟨ns,rfl⟩:=items_int h3;have hlen:ns.length<=n:=by
  unfold OpenLaw.pre at hc;have h4:(WTm.not (.lt (.lit (.int (n:Int))) (.len (.arg 0)))).holds [] {args:=[.list (ns.map .int)]}=true:=by
   have h4:=(holds_andW hc).1;rw[hn]at h4;exact h4
  have h5:=condW_of h4 (w_not (w_lt w_lit (w_len_list (w_arg rfl))));rw[Sg]at h5;refine Nat.le_of_not_lt λq=>?_;have q':(n:Int)<((ns.length:Nat):Int):=by lia
  first
   | (rw[decide_eq_true q']at h5;exact absurd h5 (by decide))
   | (simp at h5;lia)
 cases L3 with
 |cons w1 w2 =>
  cases w2;cases w1 with
  |list ho gF=>exact⟨_,_,ns,rfl,rfl,ho,ju ns _ gF,hlen⟩
theorem vy (l:OpenLaw)(args:List WData):l.row.toRowW.claim.post args (.bool true) args=true :=
 postW_of (r:=l.row.toRowW) (X:=(true==true))
  (show WShape.has [] (.bool true) .bool=true by first|rfl|decide|simp[WShape.has,WShape.arms,WShape.armsAll])
  (show (WTm.eq .res (.lit (.bool true))).value [] {args:=args,res:=some (.bool true),after:=args}=some (.bool (true==true)) from w_eq_bool (w_res rfl) w_lit) rfl
theorem qZ {l:OpenLaw}{n:Nat}{q:So}{loose:List Str}{XP:(Str->Option Sh)->Heap->Prop}{YP:SI->Heap->Prop}{d:DefRec}
  (hn:l.most=some n) (Km:d.params.defaults=[])
  (call:∀(w:SI) (s₀ s₁:Si) (mg mb:Str->Option Sh) (fa:Addr) (o:Obj) (pm cd doc:Sh) (a:Addr) (vs:List Sh) (ns:List Int),
   Ground q loose [] XP w s₀ mg mb s₁.heap->YP w s₁.heap ->
   s₁.heap.get? fa=some o->o.data=.func (docDef d.name d.params d.body d.scope pm cd doc)->s₁.heap.CodeRec cd d.name->mg d.name=some (.ref fa) ->
   s₁.heap.get? a=some {cls:=.type "list",data:=.seq vs.toArray}->V6 vs ns->ns.length<=n->s₁.gens=#[] ->
   VM (model l.prog w) WR (.call (.ref fa) ⟨[.ref a],[]⟩) (λr s'=>r=.ok (.ret (.bool true))/\OldK s₁.heap s'.heap/\s'.os=s₁.os/\V8 s'.gens) s₁) :
  WalkO q loose XP YP l.row.toRowW d [] (λf vs=>PySem.call f vs):=by
 intro w s₀ s₁ mg mb G Y fa o pm cd doc dV kV ho hd gk hD ML hg args vals as BM QA RN L3 Kj;obtain rfl:dV=.none:=Dflts.none hD Km;obtain rfl:kV=.none:=Dflts.noKw hD;obtain⟨a,vs,ns,rfl,rfl,Fd,hints,hlen⟩:=vi hn BM L3;refine enter_call (Vc (call w s₀ s₁ mg mb fa o pm cd doc a vs ns G Y ho (fd_plain hd) gk ML Fd hints hlen hg) λr s' hq=>?_);obtain⟨rfl,h2,h3,h4⟩:=hq;exact⟨.inl ⟨.bool true,.bool true,[],rfl,λ_=>rfl,.bool true,vy l _,λ_=>⟨List.Pairwise.nil,λ_ hm=>(nomatch hm)⟩⟩,h2,h3,h4⟩
section
end
end O5
namespace L2
open PySem PySem.Spec PyProof.Rows
theorem mI:∀{vs:List Sh} {ns:List Int},V6 vs ns->Vals (ns.map V.int) vs
 |_,_,.nil=>.nil
 |_,_,.cons n t h=>.cons ⟨t,rfl⟩ (mI h)
def FT (H:Hp):Prop:=∀b,H b=none\/∃o xs,H b=some (.Ad o (.lst xs))
theorem yH {P:So}{w:SI}{K:PySem.W.Frag}{mg mb:Str->Option Sh}{CX:zZ}{k:Nat}{fa a:Addr}{fd:Tn}{x:Str}{sp:Sp}{s₁:Si}{vs:List Sh}{ns:List Int}
  (KX:K.In s₁.heap) (Kg:s₁.heap.Ns UA mg) (hb:s₁.heap.Ns builtinsNs mb) (QJ:∀x:Str,x≠"__name__" -> mb x=TV x) (MO:s₁.heap.NoLimit) (hg:s₁.gens=#[])
  (ha:s₁.heap.get? a=some {cls:=.type "list",data:=.seq vs.toArray}) (hi:V6 vs ns) (hl:ns.length<=SG) (hr:cW k WR)
  (F:∀base:Heap,K.In base->base.Ns UA mg->aF P w K mg base CX k fa fd [x] sp) (Jh:∀(s:Si) (u:Sh),BindsTo s fd ⟨[u],[]⟩ [(x,u)])
  (qm:∀H:Hp,FT H->cE K H a (ns.map V.int)->sp [.ref a] H (λv _=>v=.bl true) λ_ _ _=>False)
  (M7:∀H e s',CX [] H s₁ (λ_ _ _=>False) e s'->False) :
  VM (model P w) WR (.call (.ref fa) ⟨[.ref a],[]⟩) (λr s'=>r=.ok (.ret (.bool true))/\OldK s₁.heap s'.heap/\s'.os=s₁.os/\V8 s'.gens) s₁:=by
 have rv:=mI hi;have LN:=hi.length;have core:∀H:Hp,FT H->cE K H a (ns.map V.int)->gO P w H s₁.heap->(∀b,H b≠none->b=a)->(H a≠none->K.lookup a=none) ->
   VM (model P w) WR (.call (.ref fa) ⟨[.ref a],[]⟩) (λr s'=>r=.ok (.ret (.bool true))/\OldK s₁.heap s'.heap/\s'.os=s₁.os/\V8 s'.gens) s₁:=by
  intro H hO hS bG hA hK;have uV:∀{b:Addr} {o:Obj},s₁.heap.get? b=some o->H b=none->(oE s₁.heap H).get? b=some o:=λe n=>zg e n;have Hj:∀{b:Addr} {o:Obj} {es:Array DictEntry} {ep:Nat},s₁.heap.get? b=some o->o.data=.dict es ep->H b=none:=λ{b o es ep} e d=>by
   cases q:H b with
   |none=>rfl
   |some u =>
    have e':b=a:=hA b (by rw[q];simp)
    subst e';rw[ha]at e;cases e;have d':Data.seq vs.toArray _=Data.dict es ep:=d;cases d'
  have J7:∀{b:Addr} {m:Str->Option Sh},s₁.heap.Ns b m->(oE s₁.heap H).Ns b m:=λ{b m} ⟨o,es,ep,e,d,r⟩=>⟨o,es,ep,uV e (Hj e d),d,r⟩;have OQ:K.In (oE s₁.heap H):=λb o e=>uV (KX b o e) (by
   cases q:H b with
   |none=>rfl
   |some u =>
    have e':b=a:=hA b (by rw[q];simp)
    subst e';rw[hK (by rw[q];simp)]at e;cases e)
  have hM:Mod K mg (oE s₁.heap H):=⟨OQ,J7 Kg,⟨mb,J7 hb,QJ⟩,let ⟨mc,h1,h2⟩:=MO;⟨mc,J7 h1,h2⟩⟩
  have e0:Cs P w K mg (oE s₁.heap H) WR [] s₁ H:=⟨rfl,hM,λb o e=>Bm e,Nat.le_of_eq (vY _ _),trivial,λb hb=>absurd (show b∈([]:List Addr) from hb) (by simp),bG,.of_eq hg⟩
  refine Vc ((F _ OQ (J7 Kg)).run WR [] s₁ H ⟨[.ref a],[]⟩ [.ref a] [.ref a] _ _ hr e0 (Jh s₁ (.ref a)) (.cons rfl .nil) (qm H hO hS)) λr s' h=>?_;cases r with
  |error e=>exact(M7 H e s' h).elim
  |ok fl =>
   cases fl with
   |next=>exact US h
   |brk=>exact US h
   |cont=>exact US h
   |ret u =>
    obtain⟨v,H',os,bare,un,MD,r',q⟩:=h;have q':v=.bl true:=q;subst q';obtain rfl:u=Value.bool true:=r';refine⟨rfl,OldK.of_keep λb o e=>?_,os,bare⟩;cases q:H b with
    |none=>exact un.keep b o e q (by intro z;exact absurd (show b∈([]:List Addr) from z) (by simp)) (by simp)
    |some u =>
     rcases hO b with z|⟨ob,xs,z⟩
     ·rw[q]at z;cases z
     ·have z2:=un.mq b ob _ z;obtain⟨e1,_⟩:=bG b _ z;obtain⟨e2,_⟩:=MD b _ z2;rw[e]at e1;cases e1;exact e2
 cases hk:K.lookup a with
 |some o =>
  have e:=KX a o hk;rw[ha]at e;cases e;refine core (λ_=>none) (λ_=>.inl rfl) (.inr ⟨_,vs.toArray,_,hk,rfl,rfl,rfl,by rw[SW,LN];exact hl,by simpa using rv⟩) (λb u z=>by have z':(none:Option HO)=some u:=z;cases z') (λb z=>absurd rfl z) λz=>absurd rfl z
 |none =>
  refine core (λb=>if b=a then some (.Ad {cls:=.type "list",data:=.seq vs.toArray} (.lst (ns.map V.int))) else none) (λb=>?_) (.inl (.inr ⟨{cls:=.type "list",data:=.seq vs.toArray},if_pos rfl⟩)) (λb u z=>?_) (λb z=>?_) λ_=>hk
  ·by_cases hb:b=a
   ·exact .inr ⟨_,_,if_pos hb⟩
   ·exact .inl (if_neg hb)
  ·by_cases hb:b=a
   ·have z':=(if_pos hb).symm.trans z;cases z';subst hb;exact⟨ha,by rw[Sg];exact hl,vs,_,rv,ha⟩
   ·have z':=(if_neg hb).symm.trans z;cases z'
  ·by_cases hb:b=a
   ·exact hb
   ·exact absurd (if_neg hb) z
theorem Ar {l:PySem.W.OpenLaw}{n k:Nat}{q:So}{loose:List Str}{XP:(Str->Option Sh)->Heap->Prop}{YP:SI->Heap->Prop}{d:DefRec}{K:Params->PySem.W.Frag}{CX:SI->zZ}{sp:SI->Sp}{x:Str}
  (hn:l.most=some n) (Kh:n<=SG) (Km:d.params.defaults=[]) (hr:cW k WR)
  (hY:∀(w:SI) (h:Heap),YP w h->(K w.params).In h)
  (F:∀(w:SI) (mg:Str->Option Sh) (fa:Addr) (h:Heap),(K w.params).In h->h.Ns UA mg->mg d.name=some (.ref fa) ->
   ∃fd:Tn,(∀(s:Si) (u:Sh),BindsTo s fd ⟨[u],[]⟩ [(x,u)]) /\
    ∀base:Heap,(K w.params).In base->base.Ns UA mg->aF l.prog w (K w.params) mg base (CX w) k fa fd [x] (sp w))
  (qm:∀(w:SI) (H:Hp) (a:Addr) (ns:List Int),ns.length<=n->FT H->cE (K w.params) H a (ns.map V.int)->sp w [.ref a] H (λv _=>v=.bl true) λ_ _ _=>False)
  (M7:∀(w:SI) (H:Hp) (s:Si) (e:Sh) (s':Si),CX w [] H s (λ_ _ _=>False) e s'->False) :
  PySem.W.WalkO q loose XP YP l.row.toRowW d [] (λf vs=>PySem.call f vs):=by
 refine O5.qZ hn Km λw s₀ s₁ mg mb fa o pm cd doc a vs ns G Y ho hd gk ML Fd hints hlen hg=>?_;have KX:=hY w _ Y;obtain⟨fd,hb,hF⟩:=F w mg fa _ KX G.T.g ML;exact yH KX G.T.g G.T.b G.T.builtins G.T.nolimit hg Fd hints (Ts hlen Kh) hr hF hb (λH hO hS=>qm w H a ns hlen hO hS) λH e s'=>M7 w H s₁ e s'
def jL (s:Stmt):Arguments:=match s with
 |.FunctionDef _ a _ _ _ _ _ _ _ _=>a
 |_=>{posonlyargs:=[],args:=[],vararg:=none,kwonlyargs:=[],kw_defaults:=[],kwarg:=none,defaults:=[]}
def dQ (s:Stmt):List Stmt:=match s with
 |.FunctionDef _ _ b _ _ _ _ _ _ _=>b
 |_=>[]
def aw (s:Stmt):U8:=match s with
 |.FunctionDef _ _ _ _ _ _ sc _ _ _=>sc
 |_=>{kind:=.function,names:=[],isGenerator:=false,isCoroutine:=false}
abbrev bB:zZ:=λ_ _ _ _ _ _=>False
abbrev E0:XK:=λ_ _ _=>False
theorem CD {X:Cx}:Passes bB X E0:=λ_ _ _ _ _ _ _ h=>h.elim
structure Ah (K:PySem.W.Frag)(x qual:Str)(st:Stmt)(f:Addr)(fd:Tn):Prop where
 ex:∃(oc:Sh) (od:Option Addr) (kV doc pm:Sh) (an:Option Addr) (cD ct:Sh) (Eo:Array (Option Sh)),
  fd=PySem.W.fnOf x qual (jL st) (dQ st) (aw st) .none kV doc pm an cD ct/\K.lookup f=some ⟨oc,od,.func fd,Eo⟩/\PySem.W.codeIn K cD qual=true
 kp:PySem.W.keepIn K (.ref f)=true
section
variable {P:So}{w:SI}{K:PySem.W.Frag}{mg:Str->Option Sh}{base:Heap}
theorem Ah.ok {x qual:Str}{st:Stmt}{f:Addr}{fd:Tn}{N ps:List Str}{k:Nat}{sp:Sp}(F:Ah K x qual st f fd)(S:aK N ps (aw st))(len:∀vs H Q E,sp vs H Q E->vs.length=ps.length)
  (lx:∀(cD:Sh) (A:TF) (outer:List Env) (s:Si) (H:Hp) (vs:List V) (Q:VK) (E:XK),cW k (A.deeper (V0 qual (aw st) s.heap.objs.size f cD))->sp vs H Q E ->
   ∃t,oS (mB bB P w K mg base N qual (aw st) f cD A outer s H E).CG (dQ st) t/\t {nx:=λ_ H'=>Q .bX H',rt:=Q} (start N vs) H):aF P w K mg base bB (k+1) f fd ps sp:=by
 obtain⟨oc,od,kV,doc,pm,an,cD,ct,Eo,rfl,lk,gk⟩:=F.ex;refine Jn lk gk S len λA outer s H vs Q E hr qm=>?_;obtain⟨t,h,q⟩:=lx cD A outer s H vs Q E hr qm;exact⟨t,h.CG,q⟩
theorem Fq {x qual:Str}{st:Stmt}{f:Addr}{oc:Sh}{od an:Option Addr}{Eo:Array (Option Sh)}{kV doc pm cD ct:Sh}(l:K.lookup f=some ⟨oc,od,.func (PySem.W.fnOf x qual (jL st) (dQ st) (aw st) .none kV doc pm an cD ct),Eo⟩)
  (c:PySem.W.codeIn K cD qual=true) (k:PySem.W.keepIn K (.ref f)=true):Ah K x qual st f (PySem.W.fnOf x qual (jL st) (dQ st) (aw st) .none kV doc pm an cD ct):=⟨⟨oc,od,kV,doc,pm,an,cD,ct,Eo,rfl,l,c⟩,k⟩
end
section
variable {X:Cx}
theorem pv (i:Nat){x:Str}{pos:Pos}(hN:X.N[i]?=some x:=by rfl)(hv:tS X.env.scope x:=by first|exact Or.inl rfl|exact Or.inr (Or.inl rfl)|exact Or.inr (Or.inr rfl))(hd:(x==("__debug__" : Str))=false:=by decide)
  (gk:(x==("__classdict__" : Str))=false:=by decide):PE X (.Name x pos) (Gw i):=cT hN hv hd gk
end
def au (H H':Hp):Prop:=∀b o,H b=some o->H' b=some o
theorem au.refl (H:Hp):au H H:=λ_ _ h=>h
theorem au.trans {H H1 H2:Hp}(a:au H H1)(b:au H1 H2):au H H2:=λc o h=>b c o (a c o h)
theorem au.free {H H':Hp}(e:au H H'){l:Addr}(h:H' l=Option.none):H l=Option.none:=by
 cases q:H l with
 |none=>rfl
 |some o =>
  rw[e l o q]at h;cases h
theorem au.seq {K:PySem.W.Frag}{H H':Hp}{a:Addr}{xs:List V}(e:au H H')(h:cE K H a xs):cE K H' a xs:=by
 rcases h with (h|⟨o,h⟩)|h
 ·exact .inl (.inl (e _ _ h))
 ·exact .inl (.inr ⟨o,e _ _ h⟩)
 ·exact .inr h
section
variable {X:Cx}{a b c:Expr}{ta tb:TE}{pos:Pos}
def nL (i j:Int):Prop:=0<j/\j.natAbs.log2<9000
theorem nL.of {i j:Int}(h0:0<j)(h:j<2 ^ 200):nL i j:=by
 refine⟨h0,?_⟩;have h2:j.natAbs<2 ^ 200:=by lia
 have:=(Nat.log2_lt (n:=j.natAbs) (k:=200) (by lia)).mpr h2
 lia
theorem kM:ip X (UJ .FloorDiv) (rI nL λi j=>.int (i / j)):=J6 λi j _ _ _ _ _ hc q=>by
 have h1:(0:Int)<j:=hc.1;exact floordiv_int (by lia) (by rw[Int.fdiv_eq_ediv_of_nonneg i (by lia)];exact q) (.inl (VQ hc.2))
def FU (X:Cx)(ops:List VG)(rs:List Expr)(t:V->TE):Prop :=
 ∀(pos:Pos) (pins:List (Addr×Obj)) (s:Si) (σ:St) (H:Hp) (x:V) (v:Sh) (Q:VK),Inv X pins σ H s->RelV x v->t x σ H Q ->
  S6 (model X.prog X.w) X.A (compareChain pos v ops (evalEach rs X.env)) (EP X pins σ Q) X.xe s
def rl (X:Cx)(ops:List VG)(rs:List Expr)(t:V->TT):Prop :=
 ∀(pos:Pos) (pins:List (Addr×Obj)) (s:Si) (σ:St) (H:Hp) (x:V) (v:Sh) (Q:Bool->Hp->Prop),Inv X pins σ H s->RelV x v->t x σ H Q ->
  S6 (model X.prog X.w) X.A (testChain pos v ops (evalEach rs X.env)) (TP X pins σ Q) X.xe s
variable {op Es:VG}{ops:List VG}{rs:List Expr}{r:R2}{t:V->TE}{tt:V->TT}
theorem FF (ho:ip X (TQ op) r)(hb:PE X b tb):FU X [op] [b] (λx σ H Q=>tb σ H λy H2=>r x y H2 Q):=by
 intro pos pins s σ H x v Q I rx h;exact chain_last (br (hb pins s σ H _ I h) λu s1 za=>by obtain⟨y,H1,I1,r1,q1⟩:=za;exact ho pins s1 σ H1 x y v u Q I1 rx r1 q1)
theorem Cg (ho:ip X (TQ op) r)(hb:PE X b tb)(hc:FU X (Es::ops) (c::rs) t):
  FU X (op::Es::ops) (b::c::rs) (λx σ H Q=>tb σ H λy H2=>r x y H2 λz H3=>∃k,z=.bl k/\(if k=true then t y σ H3 Q else Q (.bl false) H3)):=by
 intro pos pins s σ H x v Q I rx h;refine chain_link (br (hb pins s σ H _ I h) λu s1 ⟨y,H1,I1,r1,q1⟩=>br (ho pins s1 σ H1 x y v u _ I1 rx r1 q1) λd s3 ⟨z,H3,I3,r3,k,e,q3⟩=>?_);subst e;cases r3;refine Uz ?_;cases k with
 |false=>exact ite_ff ⟨.bl false,H3,I3,rfl,q3⟩
 |true=>exact ite_tt (hc pos pins s3 σ H3 y u Q I3 r1 q3)
theorem Cf (ho:ip X (TQ op) r)(hb:PE X b tb):rl X [op] [b] (λx σ H Q=>tb σ H λy H2=>r x y H2 λz H3=>∃k,z=.bl k/\Q k H3):=by
 intro pos pins s σ H x v Q I rx h;refine test_last (br (hb pins s σ H _ I h) λu s1 ⟨y,H1,I1,r1,q1⟩=>br (ho pins s1 σ H1 x y v u _ I1 rx r1 q1) λd s3 ⟨z,H3,I3,r3,k,e,q3⟩=>?_);subst e;cases r3;exact Uz ⟨H3,I3,q3⟩
theorem zL (ho:ip X (TQ op) r)(hb:PE X b tb)(hc:rl X (Es::ops) (c::rs) tt):
  rl X (op::Es::ops) (b::c::rs) (λx σ H Q=>tb σ H λy H2=>r x y H2 λz H3=>∃k,z=.bl k/\(if k=true then tt y σ H3 Q else Q false H3)):=by
 intro pos pins s σ H x v Q I rx h;refine test_link (br (hb pins s σ H _ I h) λu s1 ⟨y,H1,I1,r1,q1⟩=>br (ho pins s1 σ H1 x y v u _ I1 rx r1 q1) λd s3 ⟨z,H3,I3,r3,k,e,q3⟩=>?_);subst e;cases r3;refine Uz ?_;cases k with
 |false=>exact ite_ff ⟨H3,I3,q3⟩
 |true=>exact ite_tt (hc pos pins s3 σ H3 y u Q I3 r1 q3)
theorem vt {kJ kG:VG}(ha:PE X a ta)(hc:rl X (kJ::kG::ops) (b::c::rs) tt)(hm:lastMarks (kJ::kG::ops) (b::c::rs)=false:=by with_unfolding_all rfl):
  PT X (.Compare a (kJ::kG::ops) (b::c::rs) pos) (λσ H Q=>ta σ H λx H1=>tt x σ H1 Q):=by
 intro pins s σ H Q I h;exact isTrue_chain (br (ha pins s σ H _ I h) λv s1 EZ=>by obtain⟨x,H1,I1,r1,q1⟩:=EZ;exact hc pos pins s1 σ H1 x v Q I1 r1 q1) hm
end
theorem tP:TV "max" = some (.builtin "max"):=by decide +kernel
theorem tO:TV "min" = some (.builtin "min"):=by decide +kernel
theorem zO:TV "int" = some (.type "int"):=by decide +kernel
theorem uU:TV "list" = some (.type "list"):=by decide +kernel
theorem nC:TV "sorted" = some (.builtin "sorted"):=by decide +kernel
theorem FK:TV "len" = some (.builtin "len"):=by decide +kernel
theorem HL {c A B:Prop}[Decidable c](hc:c)(h:A):if decide c=true then A else B:=by
 rw[if_pos (decide_eq_true hc)];exact h
theorem HM {c A B:Prop}[Decidable c](hc:¬ c)(h:B):if decide c=true then A else B:=by
 rw[if_neg (by simp[hc])]
 exact h
theorem LU {c A B:Prop}[Decidable c](h1:c->A)(h2:¬ c->B):if decide c=true then A else B:=by
 by_cases h:c
 ·exact HL h (h1 h)
 ·exact HM h (h2 h)
def Fm (h:Addr)(H H':Hp):Prop:=∀b o,H b=some o->b≠h->H' b=some o
theorem Fm.upd {h:Addr}{H:Hp}{o:HO}:Fm h H (upd H h o):=λb u e n=>by rw[ak n];exact e
theorem au.new {H:Hp}{p:Addr}{o:HO}(n:H p=none):au H (L2.upd H p o):=λb u e=>by rw[ak (b_ e n)];exact e
def Hand (H:Hp)(h:Addr):Prop:=∃x y:Int,H h=some (.lst [.int x,.int y])/\0<=x/\0<=y/\y<2147483647
def xw:Sp:=λvs H Q _=>∃c:Int,vs=[.int c]/\∀p H',H p=none->Hand H' p->au H H'->Q (.ref p) H'
def xu:Sp:=λvs H Q _=>∃(h:Addr) (n:Int),vs=[.ref h,.int n]/\Hand H h/\0<n/\n<2 ^ 200 /\
 ∀(r:Int) (H':Hp),0<=r->r<n->Hand H' h->Fm h H H'->Q (.int r) H'
structure Rv (mg:Str->Option Sh):Prop where
 max:mg "max" = none
 min:mg "min" = none
 int:mg "int" = none
section
end
theorem yb:z9 10 18:=⟨by decide,by decide,by decide⟩
section
theorem jK {a:Int}{b:Int}(h:0<b):0<=a % b/\a % b<b:=⟨Int.emod_nonneg a (by lia),Int.emod_lt_of_pos a h⟩
end
def aC (X:Cx)(scope:U8)(N':List Str)(cl:List (Str×Addr))(C:Addr)(s:Si)(H:Hp)(ex:List Addr):Cx :=
 {X with N:=N',s₀:=s,H₀:=H,env:=compEnvC scope cl C X.env,outer:=X.stack,stack:=X.stack,ex:=ex,fn:=λ_=>false,pn:=[],xe:=λ_ _=>False}
theorem gI {env:Env}:∀(names:List (Str×Vs)) (cs:List (Str×Addr)),(∀x,(x,To)∈names->∃c,env.cells.lookup x=some c) ->
  (∀x c,cs.lookup x=some c->env.cells.lookup x=some c) ->
  ∃cl,(forIn names cs λ(p:Str×Vs) (cs:List (Str×Addr))=>do
   if p.2==.free then do
    let a <- cellOf env p.1
    pure (Wj ((p.1,a)::cs))
   else pure (Wj cs):Sem (List (Str×Addr)))=pure cl /\
   (∀x,((x,To)∈names\/(∃c,cs.lookup x=some c))->∃c,cl.lookup x=some c)/\∀x c,cl.lookup x=some c->env.cells.lookup x=some c
 |[],cs,_,Kn=>⟨cs,rfl,λx h=>h.elim (λz=>nomatch z) id,Kn⟩
 | (n,k)::names,cs,hf,Kn=>by
  by_cases hk:k=.free
  ·subst hk;obtain⟨c,hc⟩:=hf n (SY ..);obtain⟨cl,e,h1,h2⟩:=gI names ((n,c)::cs) (λx hx=>hf x (S0 _ hx)) (λx c' hx=>by
    rw[T6]at hx;cases q:x==n with
    |true=>rw[q]at hx;cases hx;rw[eq_of_beq q];exact hc
    |false=>rw[q]at hx;exact Kn x c' hx)
   refine⟨cl,?_,λx hx=>h1 x ?_,h2⟩
   ·rw[Wg];have ec:cellOf env n=pure c:=by unfold cellOf;rw[hc]
    simp only[beq_self_eq_true,if_true,ec];exact e
   ·rcases hx with hx|⟨c',hx⟩
    ·rcases Sr.mp hx with z|z
     ·cases z;exact .inr ⟨c,by simp⟩
     ·exact .inl z
    ·right
     rw[T6];cases q:x==n with
     |true=>exact⟨c,rfl⟩
     |false=>exact⟨c',hx⟩
  ·obtain⟨cl,e,h1,h2⟩:=gI names cs (λx hx=>hf x (S0 _ hx)) Kn;refine⟨cl,?_,λx hx=>h1 x ?_,h2⟩
   ·rw[Wg];have hb:(k==To)=false:=by simpa using hk
    simp only[hb,WM,if_false];exact e
   ·rcases hx with hx|hx
    ·rcases Sr.mp hx with z|z
     ·cases z;exact absurd rfl hk
     ·exact .inl z
    ·exact .inr hx
theorem gu {env:Env}{scope:U8}(h:∀x,(x,To)∈scope.names->∃c,env.cells.lookup x=some c):
  ∃cl,closureFor scope env=pure cl/\(∀x,(x,To)∈scope.names->∃c,cl.lookup x=some c)/\∀x c,cl.lookup x=some c->env.cells.lookup x=some c:=by
 obtain⟨cl,e,h1,h2⟩:=gI scope.names [] h (λx c z=>by simp at z)
 refine⟨cl,?_,λx hx=>h1 x (.inl hx),h2⟩;unfold closureFor;refine Eq.trans ?_ (congrArg (· >>= pure) e);rfl
structure Links (X:Cx)(scope:U8)(N':List Str)(lk:List (Option Nat)):Prop where
 kind:scope.kind=.function
 sH:∀x∈scope.names,x.2≠.cell
 names:∀x∈scope.names,x.2=.local->scope.names.lookup x.1=some .local
 free:∀x,(x,To)∈scope.names->X.env.kindOf x=some .cell\/X.env.kindOf x=some .free
 len:lk.length=N'.length
 link:∀(i j:Nat),lk[i]?=some (some j)->∃x,N'[i]?=some x/\X.N[j]?=some x/\(x,To)∈scope.names/\scope.names.lookup x=some .free
def gB (outer:List (Str×Vs))(N:List Str)(scope:U8)(N':List Str)(lk:List (Option Nat)):Bool :=
 (scope.kind==.function)&&scope.names.all (λx=>x.2 != .cell&&(x.2 != .local || scope.names.lookup x.1==some .local)&&(x.2 != .free || outer.lookup x.1==some .cell || outer.lookup x.1==some .free)) &&
 lk.length==N'.length&&(SV lk.length).all λi=>match lk[i]? with
  |some (some j)=>match N'[i]? with
   |some x=>N[j]?==some x&&scope.names.contains (x,.free)&&scope.names.lookup x==some .free
   |none=>false
  |_=>true
theorem Links.of {X:Cx}{scope:U8}{N':List Str}{lk:List (Option Nat)}(h:gB X.env.scope.names X.N scope N' lk=true):Links X scope N' lk:=by
 simp only[gB,Tu]at h;obtain⟨⟨⟨h1,h2⟩,h3⟩,h4⟩:=h;rw[Vn]at h2 h4;refine⟨by simpa using h1,λx hx=>?_,λx hx hl=>?_,λx hx=>?_,by simpa using h3,λi j aJ=>?_⟩
 ·have:=h2 x hx;simp only[Tu]at this;simpa using this.1.1
 ·have:=h2 x hx;simp only[Tu]at this;have q:=this.1.2;rw[hl]at q;simpa using q
 ·have:=h2 _ hx;simp only[Tu]at this;have q:=this.2;simp only[Bool.or_eq_true]at q;rcases q with (q|q)|q
  ·simp at q
  ·exact .inl (show X.env.scope.names.lookup x=some .cell by simpa using q)
  ·exact .inr (show X.env.scope.names.lookup x=some .free by simpa using q)
 ·have hi:i<lk.length:=(Sz.mp aJ).1;have q:=h4 i (Tq.mpr hi);rw[aJ]at q;simp only at q;cases e:N'[i]? with
  |none=>rw[e]at q;simp at q
  |some x =>
   rw[e]at q;simp only[Tu]at q;obtain⟨⟨q1,q2⟩,q3⟩:=q;exact⟨x,rfl,by simpa using q1,by simpa using q2,by simpa using q3⟩
def dy (lk:List (Option Nat))(σ:St):St:=lk.map λl=>match l with|some j=>(match σ[j]? with|some v=>v|none=>none)|none=>none
theorem cY {env:Env}:∀{names:List (Str×Vs)} {x:Str},names.lookup x=some .free ->
  (names.map λ(n,k)=>if (k==To&&env.scope.kind==.function&&env.kindOf n==some .cell) then (n,U0) else (n,k)).lookup x=some .cell \/
  (names.map λ(n,k)=>if (k==To&&env.scope.kind==.function&&env.kindOf n==some .cell) then (n,U0) else (n,k)).lookup x=some .free
 |[],_,h=>by simp at h
 | (n,k)::r,x,h=>by
  have ih:=@cY env r x;show List.lookup x ((if (k==To&&env.scope.kind==.function&&env.kindOf n==some .cell)=true then (n,U0) else (n,k))::_)=_ \/
   List.lookup x ((if (k==To&&env.scope.kind==.function&&env.kindOf n==some .cell)=true then (n,U0) else (n,k))::_)=_
  cases hx:x==n with
  |true =>
   simp only[T6,hx]at h;cases h
   by_cases hc:(To==To&&env.scope.kind==.function&&env.kindOf n==some .cell)=true
   ·rw[if_pos hc];left;simp[T6,hx]
   ·rw[if_neg hc];right;simp[T6,hx]
  |false =>
   simp only[T6,hx]at h
   by_cases hc:(k==To&&env.scope.kind==.function&&env.kindOf n==some .cell)=true
   ·rw[if_pos hc];simp only[T6,hx];exact ih h
   ·rw[if_neg hc];simp only[T6,hx];exact ih h
theorem cU {env:Env}:∀{names:List (Str×Vs)} {x:Str} {k:Vs},(k=.cell\/k=.free)->(∀y∈names,y.2≠.cell) ->
  (names.map λ(n,k)=>if (k==To&&env.scope.kind==.function&&env.kindOf n==some .cell) then (n,U0) else (n,k)).lookup x=some k->(x,To)∈names
 |[],_,_,_,_,h=>by simp at h
 | (n,k')::r,x,k,hk,hc,h=>by
  have ih:=@cU env r x k hk (λy hy=>hc y (S0 _ hy));have h':List.lookup x ((if (k'==To&&env.scope.kind==.function&&env.kindOf n==some .cell)=true then (n,U0) else (n,k'))::(r.map λ(n,k)=>if (k==To&&env.scope.kind==.function&&env.kindOf n==some .cell) then (n,U0) else (n,k)))=some k:=h
  have F5:=hc (n,k') (SY ..)
  by_cases BS:(k'==To&&env.scope.kind==.function&&env.kindOf n==some .cell)=true
  ·rw[if_pos BS]at h';simp only[Tu,beq_iff_eq]at BS;cases hx:x==n with
   |true=>rw[eq_of_beq hx,BS.1.1];exact SY ..
   |false=>rw[T6,hx]at h';exact S0 _ (ih h')
  ·rw[if_neg BS]at h';cases hx:x==n with
   |true =>
    rw[T6,hx]at h';have e:k'=k:=by simpa using h'
    subst e;rcases hk with hk|hk
    ·exact absurd hk F5
    ·rw[eq_of_beq hx,hk];exact SY ..
   |false=>rw[T6,hx]at h';exact S0 _ (ih h')
section
variable {X:Cx}{pins:List (Addr×Obj)}{σ:St}{H:Hp}{s:Si}{scope:U8}{N':List Str}{lk:List (Option Nat)}{cl:List (Str×Addr)}{ex:List Addr}
theorem yR {h':Heap}{t':Nat}(I:Inv X pins σ H s)(L:Links X scope N' lk)(hex:∀b∈ex,fx X pins H b)(MF:∀b∈ex,∃o,s.heap.get? b=some o)
  (mm:∀x,(x,To)∈scope.names->∃c,cl.lookup x=some c) (s_:∀x c,cl.lookup x=some c->X.env.cells.lookup x=some c)
  (hn:h'.Ns s.heap.objs.size (λ_=>none)) (hk:∀b o,s.heap.get? b=some o->h'.get? b=some o) :
  Inv (aC X scope N' cl s.heap.objs.size s H ex) [] (dy lk σ) H {s with heap:=h',toks:=t'}:=by
 obtain⟨m,hm,hl⟩:=I.loc;have QX:∀b∈ex,b≠s.heap.objs.size:=λb hb=>by
  obtain⟨o,e⟩:=MF b hb;exact S5 (SD e)
 refine⟨⟨I.ok.mod,L.kind,I.ok.glob,I.ok.blt,Sj _,λx y c h1 h2=>I.ok.inj x y c (s_ _ _ h1) (s_ _ _ h2),λx hx=>?_,λx c z=>(nomatch z),I.ok.hd,I.ok.frames,.inl rfl,
  λb hb=>⟨QX b hb,λx c e=>(hex b hb).2.2.2.2.1 x c (s_ _ _ e)⟩,I.bs,Ts I.ok.Dg I.sz,λb o e z=>?_,λb hb z=>?_,I.stack,I.ud⟩,
  rfl,I.bare,Un.kept hk,⟨_,hn,λi x v h1 h2 h3=>?_⟩,λx c e=>?_,I.bG.fresh (Sj _),λx c e=>I.gm x c (s_ _ _ e),λp hp=>absurd (show p∈([]:List (Addr×Obj)) from hp) (by simp),I.bG.kept hk,?_⟩
 ·have yU:(relabel scope X.env).names.lookup x=some .cell\/(relabel scope X.env).names.lookup x=some .free:=hx;rcases yU with q|q
  ·exact mm x (cU (.inl rfl) L.sH q)
  ·exact mm x (cU (.inr rfl) L.sH q)
 ·obtain⟨f0,f1,f2,f3,_⟩:=hex b z;rcases f3 with q|q
  ·exact I.ok.yx b o e q
  ·have h1:=SD e;have h2:=I.ok.Dg;exact absurd (Td h1 (Ts h2 q)) (Vp _)
 ·obtain⟨f0,f1,f2,f3,_⟩:=hex b hb;rcases Sr.mp (I.rO b z)with q|q
  ·exact f1 q
  ·exact f2 q
 ·have hi:∃j,lk[i]?=some (some j)/\σ[j]?=some (some v):=by
   have zi:(dy lk σ)[i]?=some (some v):=h2;unfold dy at zi;rw[Su]at zi;cases e:lk[i]? with
   |none=>rw[e]at zi;cases zi
   |some l =>
    cases l with
    |none=>rw[e]at zi;cases zi
    |some j =>
     rw[e]at zi;cases e2:σ[j]? with
     |none=>simp[e2]at zi
     |some w' =>
      simp only[Vv,e2,WV]at zi;subst zi;exact⟨j,rfl,e2⟩
  obtain⟨j,hj,hσ⟩:=hi;obtain⟨y,e1,e2,e3,e4⟩:=L.link i j hj;have QW:x=y:=by
   have BV:N'[i]?=some x:=h1;rw[e1]at BV;exact(S8 BV).symm
  subst QW;have L4:tS X.env.scope x:=by
   rcases L.free x e3 with q|q
   ·exact .inr (.inl q)
   ·exact .inr (.inr q)
  obtain⟨u,ru,lu⟩:=hl j x v e2 hσ L4;refine⟨u,ru,.inr ⟨?_,?_⟩⟩
  ·exact cY e4
  ·rcases lu with⟨k,_⟩|⟨_,c,hc,z⟩
   ·rcases L.free x e3 with q|q <;> (rw[k]at q;cases q)
   ·obtain⟨c',oF⟩:=mm x e3;have:=s_ x c' oF;rw[hc]at this;cases this;obtain⟨o,ho,hd⟩:=z;exact⟨c,oF,o,hk _ _ ho,hd⟩
 ·obtain⟨v,o,ho,hd⟩:=I.cell x c (s_ _ _ e);exact⟨v,o,hk _ _ ho,hd⟩
 ·show (dy lk σ).length=N'.length;unfold dy;rw[Sg,L.len]
theorem yS {s':Si}{σ':St}{H':Hp}{pl:List (Addr×Obj)}{C:Addr}{h'':Heap}(I:Inv X pins σ H s)(hex:∀b∈ex,fx X pins H b)
  (J:Inv (aC X scope N' cl s.heap.objs.size s H ex) pl σ' H' s') (hs:Uq s.heap.objs.size s'.heap h''):Inv X pins σ H' {s' with heap:=h''}:=by
 have hC:H' s.heap.objs.size=none:=J.free;have u:=J.base;refine I.JD (ch:=ex) (s':={s' with heap:=h''}) J.os ?_ ?_ J.bare (λb hb=>?_)
 ·have kk:∀b o,b≠s.heap.objs.size->s'.heap.get? b=some o->h''.get? b=some o:=λb o hb e=>(hs.2 b hb).trans e;have ne:∀b o,s.heap.get? b=some o->b≠s.heap.objs.size:=λb o e=>S5 (SD e);refine⟨λb o e n hb hx=>kk b _ (ne b o e) (u.keep b o e n hb hx),λb o e n hb hx=>?_,u.free,λb o e hx=>?_,u.nP,u.mq,u.nQ⟩
  ·obtain⟨sl,q⟩:=u.slot b o e n hb hx;exact⟨sl,kk b _ (ne b o e) q⟩
  ·obtain⟨o',q⟩:=u.there b o e hx;exact⟨o',kk b _ (ne b o e) q⟩
 ·intro b o e;have hb:b≠s.heap.objs.size:=λz=>by rw[z]at e;rw[hC]at e;cases e
  refine(J.bG b o e).ph (λc v hc q=>(hs.2 c ?_).trans q) (λ_ q=>q) λ_ _ q=>q;rcases hc with z|z
  ·rw[z];exact hb
  ·intro z';rw[z']at z;rw[hC]at z;cases z
 ·obtain⟨f0,f1,f2,f3,f4,f5⟩:=hex b hb;exact⟨f3,f1,f4,f5⟩
end
def jW (g:U3)(after:Sem Fin->Sem Fin)(e:Expr)(d:Nat)(it acc:Sh)(env:Env):Sem Fin:=do
 VL g.iter.pos
 match <- VB it with
 |none=>pure (.done .next)
 |some v =>
  V_ g.target it v
  assign g.target env v
  let mut ok:=true
  for c in g.ifs do
   if ok then ok <- W6 c env (eval c env)
  if ok then after (again (.compLoop e d it acc env)) else again (.compLoop e d it acc env)
def ou (e:Expr)(d:Nat)(g':U3)(acc:Sh)(env:Env)(k:Sem Fin):Sem Fin:=do
 let x <- eval g'.iter env
 VL g'.iter.pos
 let x <- TB g'.iter env x
 let _ <- runOwn (.compStart e (d+1) (<- holding [x] (WI x)) acc env) env
 k
def jY (t:Sem Unit)(k:Sem Fin):Sem Fin:=do
 t
 k
def uN (elt:Expr)(acc:Sh)(env:Env):Sem Unit:=do let _ <- call (.builtin "list.append") [acc,<- eval elt env]
def zA (k v:Expr)(acc:Sh)(env:Env):Sem Unit:=do
    let kv <- eval k env
    let vv <- holding [kv] (eval v env)
    match acc with
    |.ref d=>do
     VL {k.pos with endLine:=v.pos.endLine,endCol:=v.pos.endCol}
     holding [kv,vv] (dictSet d kv vv)
    |_=>unsupported "internal:dictcomp"
structure gw (e:Expr)(d:Nat)(g:U3)(acc:Sh)(env:Env)(after:Sem Fin->Sem Fin):Prop where
 turn:∀it,compTurn e d it acc env=jW g after e d it acc env
 cl:(clausesOf e)[d]?=some g
 sync:g.is_async=0
 quiet:∀it,(VT e d it acc env).quiet=true
 under:∀(A:TF) it,A.under (VT e d it acc env)=A
 DF:∀(A:TF) it,A.under (Xo e d it acc env)=A
 Ey:∀it,(VT e d it acc env).isFrame=false
 Hi:∀it,(Xo e d it acc env).isFrame=false
section
variable {elt tg xh cz oA k v:Expr}{ifs me:List Expr}{sc:U8}{pos:Pos}{acc:Sh}{env:Env}
theorem Dd:gw (.ListComp elt [⟨tg,cz,ifs,0⟩] sc pos) 0 ⟨tg,cz,ifs,0⟩ acc env (jY (uN elt acc env)) :=
 ⟨λ_=>rfl,rfl,rfl,λ_=>rfl,λ_ _=>rfl,λ_ _=>rfl,λ_=>rfl,λ_=>rfl⟩
theorem JB:gw (.DictComp k v [⟨tg,cz,ifs,0⟩] sc pos) 0 ⟨tg,cz,ifs,0⟩ acc env (jY (zA k v acc env)) :=
 ⟨λ_=>rfl,rfl,rfl,λ_=>rfl,λ_ _=>rfl,λ_ _=>rfl,λ_=>rfl,λ_=>rfl⟩
theorem FH:gw (.ListComp elt [⟨tg,cz,ifs,0⟩,⟨xh,oA,me,0⟩] sc pos) 0 ⟨tg,cz,ifs,0⟩ acc env (ou (.ListComp elt [⟨tg,cz,ifs,0⟩,⟨xh,oA,me,0⟩] sc pos) 0 ⟨xh,oA,me,0⟩ acc env) :=
 ⟨λ_=>rfl,rfl,rfl,λ_=>rfl,λ_ _=>rfl,λ_ _=>rfl,λ_=>rfl,λ_=>rfl⟩
theorem FG:gw (.ListComp elt [⟨tg,cz,ifs,0⟩,⟨xh,oA,me,0⟩] sc pos) 1 ⟨xh,oA,me,0⟩ acc env (jY (uN elt acc env)) :=
 ⟨λ_=>rfl,rfl,rfl,λ_=>rfl,λ_ _=>rfl,λ_ _=>rfl,λ_=>rfl,λ_=>rfl⟩
end
def Gx:TT:=λ_ H Q=>Q true H
def rD (X:Cx)(ifs:List Expr)(t:TT):Prop :=
 ∀(pins:List (Addr×Obj)) (s:Si) (σ:St) (H:Hp) (Q:Bool->Hp->Prop),Inv X pins σ H s->t σ H Q ->
  S6 (model X.prog X.w) X.A (forIn ifs true λc r=>if r=true then do let ok <- W6 c X.env (eval c X.env);pure (Wj ok) else pure (Wj r)) (TP X pins σ Q) X.xe s
theorem AM {X:Cx}:rD X [] Gx:=λ_ _ _ H _ I h=>wpAny_tests_nil ⟨H,I,h⟩
theorem AL {X:Cx}{c:Expr}{t:TT}(h:PT X c t):rD X [c] t:=λpins s σ H Q I q=>wpAny_tests_one (h pins s σ H Q I q)
abbrev lT:=(St->Hp->Prop)->St->Hp->Prop
def oO (X:Cx)(after:Sem Fin->Sem Fin)(t:lT):Prop :=
 ∀(pins:List (Addr×Obj)) (s:Si) (σ:St) (H:Hp) (N:St->Hp->Prop) (k:Sem Fin) (Q:Fin->Si->Prop) (E:Sh->Si->Prop),Inv X pins σ H s->t N σ H ->
  (∀σ' H' s',Inv X pins σ' H' s'->N σ' H'->S6 (model X.prog X.w) X.A k Q E s')->S6 (model X.prog X.w) X.A (after k) Q E s
theorem dM {X:Cx}(hx:X.xe=λ_ _=>False){α:Type}{t:Sem α}{Q:α->Si->Prop}{E:Sh->Si->Prop}{s:Si}(h:S6 (model X.prog X.w) X.A t Q X.xe s):S6 (model X.prog X.w) X.A t Q E s :=
 VA h (λ_ _ q=>q) λe s q=>by rw[hx]at q;exact q.elim
def fC (J:It)(g:TG)(tt:TT)(ta:lT)(End:St->Hp->Prop):St->Hp->Prop:=λσ H =>
 ∃W:Nat->Nat->St->Hp->Prop,(∃m,W 0 m σ H)/\∀i m σ H,W i m σ H->(J.stop i H/\End σ H) \/
  (J.go i H/\∃N:St->Hp->Prop,(∀σ' H',N σ' H'->∃m',m'<m/\W (i+1) m' σ' H')/\∀x H',J.Gr i H x H'->g x σ H' λσ2 H2=>tt σ2 H2 λb H3=>if b=true then ta N σ2 H3 else N σ2 H3)
section
variable {X:Cx}{e:Expr}{d:Nat}{g:U3}{acc:Sh}{after:Sem Fin->Sem Fin}{tg:TG}{tt:TT}{ta:lT}
theorem wg (hx:X.xe=λ_ _=>False)(hc:X.calm=true)(F:gw e d g acc X.env after)(hg:PG X g.target tg)(ht:rD X g.ifs tt)(ha:oO X after ta)
  {it:Addr} {fp:List Addr} {tn:Nat->Heap->Prop} {J:It} (T:Turn X.prog X.w X.K g.target J fp it tn) {pins:List (Addr×Obj)} {σ:St} {H:Hp} {s:Si} {End:St->Hp->Prop}
  (I:Inv X pins σ H s) (st:tn 0 s.heap) (hf:∀b∈fp,fx X pins H b) (h:fC J tg tt ta End σ H) :
  VM (model X.prog X.w) X.A (.compLoop e d (.ref it) acc X.env) (λr s'=>r=.ok .next/\∃σ' H',Inv X pins σ' H' s'/\End σ' H') s:=by
 obtain⟨W,⟨m0,w0⟩,turn⟩:=h;have rP:∀{H':Hp},(∀b∈fp,H' b=none)->∀b∈fp,fx X pins H' b:=λhn b hb=>⟨hn b hb,(hf b hb).2⟩;refine codeAny_loop (F.quiet _) (λn s'=>∃i σ' H',Inv X pins σ' H' s'/\tn i s'.heap/\(∀b∈fp,H' b=none)/\W i n σ' H') (λn s3 hI=>?_) m0 ⟨0,σ,H,I,st,λb hb=>(hf b hb).1,w0⟩;obtain⟨i,σ3,H3,I3,j4,Jm,w3⟩:=hI;rw[F.under];have Fi:(model X.prog X.w).den (.compLoop e d (.ref it) acc X.env)=(jW g after e d (.ref it) acc X.env).onRaise (λx=>do noteFrame x X.env;theTreesLotGoes x):=by
  rw[<- F.turn];show (if (VT e d (.ref it) acc X.env).isFrame then _ else _)=_
  rw[F.Ey];rfl
 rw[Fi];refine wpAny_noted ?_;unfold jW;rcases turn i n σ3 H3 w3 with⟨stop,qn⟩|⟨go,N,hN,step⟩
 ·refine Sf (UK (Sf (br (T.done X rfl rfl rfl hc i pins s3 σ3 H3 _ I3 (rP Jm) j4 stop) λr s4 ⟨hr,I4⟩=>?_)));subst hr;exact Sm ⟨rfl,σ3,H3,I4,qn⟩
 ·refine Sf (UK (Sf (br (T.item X rfl rfl rfl hc i pins s3 σ3 H3 _ I3 (rP Jm) j4 go) λr s4 ⟨u,hr,h4⟩=>?_)));subst hr;refine Sf (br h4 λ_ s5 ⟨x,H5,I5,r5,y5,DQ,Na⟩=>?_);have ND:=I5.pinned (rP Na) (T.obj _ _ DQ);refine Sf (br (dM hx (hg _ s5 σ3 H5 x u _ ND r5 (step x H5 y5))) λ_ s6 ⟨σ6,H6,I6,q6⟩=>?_);refine Sf (br (dM hx (ht _ s6 σ6 H6 _ I6 q6)) λok s7 ⟨H7,I7,q7⟩=>?_);have zS:∀{σ8:St} {H8:Hp} {s8:Si},Inv X (pins++ku fp s5.heap) σ8 H8 s8->N σ8 H8->∃m,m<n/\∃i σ' H',Inv X pins σ' H' s8/\tn i s8.heap/\(∀b∈fp,H' b=none)/\W i m σ' H':=λ{σ8 H8 s8} I8 n8=>by
   obtain⟨m',hm,w8⟩:=hN σ8 H8 n8;refine⟨m',hm,i+1,σ8,H8,I8.gS,T.keep _ _ _ DQ λb hb o e=>(I8.pin (b,o) (Th _ (Th _ (eO hb e)))).1,λb hb=>?_,w8⟩;obtain⟨o,e,d⟩:=T.obj _ _ DQ b hb;exact(I8.pin (b,o) (Th _ (Th _ (eO hb e)))).2.1
  cases ok with
  |false=>exact Sm ⟨rfl,zS I7 (by simpa using q7)⟩
  |true =>
   exact ha _ s7 σ6 H7 N _ _ _ I7 (by simpa using q7) λσ8 H8 s8 I8 n8=>Sm ⟨rfl,zS I8 n8⟩
theorem lQ (hx:X.xe=λ_ _=>False)(hc:X.calm=true)(F:gw e d g acc X.env after)(hg:PG X g.target tg)(ht:rD X g.ifs tt)(ha:oO X after ta)
  {it:Addr} {fp:List Addr} {tn:Nat->Heap->Prop} {J:It} (T:Turn X.prog X.w X.K g.target J fp it tn) {pins:List (Addr×Obj)} {σ:St} {H:Hp} {s:Si} {End:St->Hp->Prop}
  (I:Inv X pins σ H s) (st:tn 0 s.heap) (hf:∀b∈fp,fx X pins H b) (h:fC J tg tt ta End σ H) :
  VM (model X.prog X.w) X.A (.compStart e d (.ref it) acc X.env) (λr s'=>r=.ok .next/\∃σ' H',Inv X pins σ' H' s'/\End σ' H') s:=by
 have lp:=wg hx hc F hg ht ha T I st hf h;refine Xg ?_;rw[F.DF];have Fi:(model X.prog X.w).den (.compStart e d (.ref it) acc X.env)=(compStart e d (.ref it) acc X.env).onRaise (λx=>do noteFrame x X.env;VL theWindowsPlace):=by
  show (if (Xo e d (.ref it) acc X.env).isFrame then _ else _)=_
  rw[F.Hi];rfl
 rw[Fi];refine wpAny_notedAt ?_;unfold compStart;rw[F.cl];simp only[Option.elim_some,F.sync];show S6 _ _ (ask >>= _) _ _ s;refine Sf (VW (wpAny_ite ?_))
 split
 ·first
   |exact Sf (Sm (Sm (And.intro (F.quiet _) lp)))
   |exact Sm (And.intro (F.quiet _) lp)
 ·have h2:∀(E:Sh->Si->Prop),S6 (model X.prog X.w) X.A (WI (.ref it)) (λKb s'=>(VT e d Kb acc X.env).quiet=true/\VM (model X.prog X.w) X.A (.compLoop e d Kb acc X.env) (λr s'=>r=.ok .next/\∃σ' H',Inv X pins σ' H' s'/\End σ' H') s') E s :=
   λE=>T.self X.A 0 s _ E st ⟨F.quiet _,lp⟩
  first
   |exact Sf (UO (Sf (UK (Sf (VA (h2 _) (λKb s' h'=>Sm h') λ_ _ x=>x)))))
   | (refine Sf (UO ?_);exact Sf (UK (Sf (VA (h2 _) (λKb s' h'=>Sm h') λ_ _ x=>x))))
theorem AZ {g':U3}{wi:TI}(hx:X.xe=λ_ _=>False)(hc:X.calm=true)(F:gw e (d+1) g' acc X.env after)(hi:PI X g'.target g'.iter wi)(hg:PG X g'.target tg)(ht:rD X g'.ifs tt)(ha:oO X after ta)
  (hs:∀x,TB g'.iter X.env x=pure x:=by intro _;rfl) :
  oO X (ou e d g' acc X.env) (λN σ H=>wi σ H λJ H1=>fC J tg tt ta N σ H1):=by
 intro pins s σ H N k Q E I h hk;unfold ou;refine Sf (br (dM hx (hi pins s σ H _ I h)) λx s1 h1=>?_);refine Sf (UK (Sf (wpAny_of_eq (hs x) ?_)));refine Sf (T_ (br (dM hx h1) λCS s2 h2=>?_));obtain⟨it,fp,tn,J,H2,e1,I2,T,e_,f2,hl⟩:=h2;subst e1;refine Sf (wpAny_runOwn (Vc (lQ hx hc F hg ht ha T I2 e_ f2 hl) λr s' hr=>?_));obtain⟨rfl,σ',H',I',q⟩:=hr;exact hk σ' H' s' I' q
theorem kB {elt:Expr}{te:TE}{a:Addr}(hx:X.xe=λ_ _=>False)(he:PE X elt te):
  oO X (jY (uN elt (.ref a) X.env)) (λN σ H=>te σ H λv H1=>∃xs,H1 a=some (.lst xs)/\xs.length<SG/\N σ (upd H1 a (.lst (xs++[v])))):=by
 intro pins s σ H N k Q E I h hk;unfold jY uN;refine Sf (Sf (br (dM hx (he pins s σ H _ I h)) λu s1 ⟨v,H1,I1,r1,xs,hH,hz,q⟩=>?_));refine Sf (br (dM hx <| iN (X:=X) pins s1 σ H1 (.ref a) [v] (.ref a) [u] (λw' H'=>N σ H') I1 rfl (.cons r1 .nil) ⟨a,xs,v,rfl,rfl,hH,hz,q⟩) λ_ s2 ⟨_,H2,I2,_,q2⟩=>?_)
 exact Sm (hk σ H2 s2 I2 q2)
end
section
variable {X:Cx}{e:Expr}
structure lU (X:Cx)(dW:Sem Sh)(o:HO):Prop where
 ok:∀(pins:List (Addr×Obj)) (s:Si) (σ:St) (H:Hp) (Q:Sh->Si->Prop) (E:Sh->Si->Prop),Inv X pins σ H s ->
  (∀a s',s.heap.objs.size<=a->H a=none->(∀b o,s.heap.get? b=some o->s'.heap.get? b=some o)->Inv X pins σ (upd H a o) s'->Q (.ref a) s')->S6 (model X.prog X.w) X.A dW Q E s
theorem kS:lU X (newList []) (.lst []) :=
 ⟨λpins s σ H Q E I h=>Va (h _ _ (Sj _) I.fresh (λb o e=>Sl _ e) (I.HD (its:=[]) (t':=s.toks) .nil (SH _)))⟩
theorem Inv.sameBut {pins:List (Addr×Obj)}{σ:St}{H:Hp}{s:Si}{C:Addr}{h':Heap}(I:Inv X pins σ H s)(f:fx X pins H C)(hs:Uq C s.heap h'):Inv X pins σ H {s with heap:=h'}:=by
 obtain⟨f0,f1,f2,f3,f4,f5⟩:=f;exact I.turned (t':=s.toks) (λb o hb e=>(hs.2 b hb).trans e) f0 f1 f3 f4 f5
end
end L2
namespace ST
open PySem PySem.SetTable
def it:Nat->Nat->Nat
 |0,x=>x
 |n+1,x=>5*it n x+1
theorem sR (a:Nat):∀(b x:Nat),it (a+b) x=it b (it a x)
 |0,x=>rfl
 |b+1,x=>by
  show 5*it (a+b) x+1=5*it b (it a x)+1;rw[sR a b x]
theorem yO:∀j:Nat,∃a b:Nat,∀x,it (2 ^ j) x=(1+4*2 ^ j*a)*x+2 ^ j*(1+2*b)
 |0=>⟨1,0,λx=>by show 5*x+1=_;simp⟩
 |j+1=>by
  obtain⟨a,b,h⟩:=yO j;refine⟨a+2*2 ^ j*a*a,b+2 ^ j*a*(1+2*b),λx=>?_⟩;rw[show 2 ^ (j+1)=2 ^ j+2 ^ j by rw[V3];lia,sR,h,h]
  generalize 2 ^ j=P
  grind
theorem lift:∀(j x t:Nat),∃k,k<2 ^ j/\it k x % 2 ^ j=t % 2 ^ j
 |0,x,t=>⟨0,by decide,by rw[Nat.pow_zero,Nat.mod_one,Nat.mod_one]⟩
 |j+1,x,t=>by
  obtain⟨k,hk,e⟩:=lift j x t;obtain⟨a,b,h⟩:=yO j;have hP:0<2 ^ j:=Ws (by decide)
  rw[V3]
  by_cases q:it k x % (2 ^ j*2)=t % (2 ^ j*2)
  ·exact⟨k,by lia,q⟩
  ·refine⟨k+2 ^ j,by lia,?_⟩
   rw[sR,h];generalize it k x=y at *
   generalize 2 ^ j=P at *
   have e1:((1+4*P*a)*y+P*(1+2*b))=(y+P)+(P*2)*(2*a*y+b):=by grind
   rw[e1,Nat.add_mul_mod_self_left,Xb,Xb];rw[Xb,Xb,e]at q;rw[Nat.add_mod_right,Nat.add_div_right _ hP,e];have u1:y / P % 2<2:=VC _ (by decide)
   have u2:t / P % 2<2:=VC _ (by decide)
   have u3:y / P % 2≠t / P % 2:=λz=>q (by rw[z])
   have u4:(y / P).succ % 2=t / P % 2:=by lia
   rw[u4]
def cP (m:Nat)(p:Probe):Probe:=advance {mask:=m,place:=#[],dummies:=#[],finger:=0,led:=true,moves:=0,plain:=true} p
def KZ (m:Nat)(h:Int):Probe:=probeStart {mask:=m,place:=#[],dummies:=#[],finger:=0,led:=true,moves:=0,plain:=true} h
theorem DP (t:SetTable)(h:Int):probeStart t h=KZ t.mask h:=rfl
def fy (m:Nat)(h:Int):Nat->Probe
 |0=>KZ m h
 |n+1=>cP m (fy m h n)
def cj (m:Nat)(h:Int)(n:Nat):Nat:=(fy m h n).j
def lp (m:Nat)(h:Int):Nat->Nat×Nat
 |0=>(bits h % (m+1),bits h)
 |k+1=>leap m (lp m h k).1 (lp m h k).2
def Gf (m:Nat)(x:Nat×Nat):Probe:={j:=x.1,more:=runEnd m x.1-x.1,i:=x.1,perturb:=x.2,dummy:=none}
theorem DZ (m i:Nat):runEnd m i-i<=9:=by
 unfold runEnd
 split <;> lia
theorem sV (m:Nat)(h:Int)(x:Nat×Nat)(n:Nat)(e:fy m h n=Gf m x):∀d,d<=runEnd m x.1-x.1->fy m h (n+d)={Gf m x with j:=x.1+d,more:=runEnd m x.1-x.1-d}
 |0,_=>by rw[Nat.add_zero,e];rfl
 |d+1,hd=>by
  show cP m (fy m h (n+d))=_;rw[sV m h x n e d (by lia)]
  unfold cP advance;rw[if_pos (by show runEnd m x.1-x.1-d>0;lia)]
  rfl
theorem qX (m:Nat)(h:Int)(x:Nat×Nat)(n:Nat)(e:fy m h n=Gf m x):fy m h (n+(runEnd m x.1-x.1)+1)=Gf m (leap m x.1 x.2):=by
 show cP m (fy m h (n+(runEnd m x.1-x.1)))=_;rw[sV m h x n e _ (Sj _)];unfold cP advance;rw[if_neg (by show ¬ runEnd m x.1-x.1-(runEnd m x.1-x.1)>0;lia)]
 rfl
theorem zP (m:Nat)(h:Int):∀k,∃n,n<=10*k/\fy m h n=Gf m (lp m h k)
 |0=>⟨0,Sj _,rfl⟩
 |k+1=>by
  obtain⟨n,h1,h2⟩:=zP m h k;refine⟨n+(runEnd m (lp m h k).1-(lp m h k).1)+1,?_,qX m h _ n h2⟩;have:=DZ m (lp m h k).1;lia
theorem yD (m:Nat)(h:Int):∀k,(lp m h k).2=bits h / 32 ^ k
 |0=>by rw[Nat.pow_zero,Nat.div_one];rfl
 |k+1=>by
  show (lp m h k).2 / 32=_;rw[yD m h k,Nat.div_div_eq_div_mul,V3]
theorem Ck (h:Int):bits h<2 ^ 64:=by
 unfold bits;have h1:=Int.emod_lt_of_pos h (show (0:Int)<2 ^ 64 by decide)
 have h2:=Int.emod_nonneg h (show (2 ^ 64:Int)≠0 by decide)
 lia
theorem Bx (m:Nat)(h:Int){k:Nat}(hk:13<=k):(lp m h k).2=0:=by
 rw[yD];refine Nat.div_eq_of_lt (Td (Ck h) ?_);have:32 ^ 13<=32 ^ k:=Vr (by decide) hk
 exact Ts (by decide) this
theorem CM {j:Nat}(h:Int):∀d,(lp (2 ^ j-1) h (13+d)).1=it d (lp (2 ^ j-1) h 13).1 % 2 ^ j:=by
 have hP:2 ^ j-1+1=2 ^ j:=by have:0<2 ^ j:=Ws (by decide);lia
 have lt:∀k,(lp (2 ^ j-1) h k).1<2 ^ j:=λk=>by
  cases k with
  |zero=>show bits h % (2 ^ j-1+1)<_;rw[hP];exact VC _ (by lia)
  |succ k=>show (_*5+1+_ / 32) % (2 ^ j-1+1)<_;rw[hP];exact VC _ (by lia)
 intro d
 induction d with
 |zero=>exact(W7 (lt 13)).symm
 |succ d ih =>
  show ((lp (2 ^ j-1) h (13+d)).1*5+1+(lp (2 ^ j-1) h (13+d)).2 / 32) % (2 ^ j-1+1)=(5*it d _+1) % 2 ^ j;rw[hP,Bx _ h (by lia),ih,Nat.zero_div,Nat.add_zero,Nat.mul_comm]
  conv=>rhs;rw[Nat.add_mod,Nat.mul_mod]
  rw[Nat.add_mod,Nat.mul_mod,Nat.mod_mod]
theorem Q_ (j:Nat)(h:Int){t:Nat}(ht:t<2 ^ j):∃n,n<10*turns (2 ^ j-1)/\cj (2 ^ j-1) h n=t:=by
 obtain⟨k,hk,e⟩:=lift j (lp (2 ^ j-1) h 13).1 t;obtain⟨n,h1,h2⟩:=zP (2 ^ j-1) h (13+k);refine⟨n,by unfold turns;lia,?_⟩
 unfold cj;rw[h2];show (lp (2 ^ j-1) h (13+k)).1=t;rw[CM,e,W7 ht]
abbrev g (xs:Array Nat)(i:Nat):Nat:=xs.getD i 0
theorem tj {xs:Array Nat}{i:Nat}(h:i<xs.size):xs[i]?=some (g xs i):=by
 rw[getElem?_pos xs i h,g,SS,getElem?_pos xs i h];rfl
def Dj (xs:Array Nat):Prop:=∀i j,i<j->j<xs.size->g xs i<g xs j
theorem Dj.inj {xs:Array Nat}(r:Dj xs){i j:Nat}(hi:i<xs.size)(hj:j<xs.size)(e:g xs i=g xs j):i=j:=by
 rcases WX i j with h|h|h
 ·have:=r i j h hj;lia
 ·exact h
 ·have:=r j i h hi;lia
theorem lS {xs:Array Nat}{j:Nat}(r:Dj xs):∀(f lo hi:Nat),hi<=xs.size->lo<=hi->hi-lo<=f->(∀k,k<lo->g xs k<j)->(∀k,hi<=k->k<xs.size->j<=g xs k) ->
  below.go xs j f lo hi<=xs.size/\(∀k,k<below.go xs j f lo hi->g xs k<j)/\(∀k,below.go xs j f lo hi<=k->k<xs.size->j<=g xs k)
 |0,lo,hi,h1,h2,h3,h4,h5=>by
  obtain rfl:lo=hi:=by omega
  exact⟨h1,h4,h5⟩
 |f+1,lo,hi,h1,h2,h3,h4,h5=>by
  unfold below.go
  by_cases hl:lo<hi
  ·rw[if_pos hl];dsimp only;have hm:(lo+hi) / 2<xs.size:=by omega
   have e:xs.getD ((lo+hi) / 2) j=g xs ((lo+hi) / 2):=by
    rw[g,SS,SS,getElem?_pos xs _ hm];rfl
   rw[e]
   by_cases hc:g xs ((lo+hi) / 2)<j
   ·rw[if_pos hc];refine lS r f _ _ h1 (by omega) (by omega) (λk hk=>?_) h5
    by_cases MQ:k=(lo+hi) / 2
    ·rw[MQ];exact hc
    ·have:=r k ((lo+hi) / 2) (by omega) hm;omega
   ·rw[if_neg hc];refine lS r f _ _ (by omega) (by omega) (by omega) h4 (λk hk F5=>?_)
    by_cases MQ:k=(lo+hi) / 2
    ·rw[MQ];omega
    ·have:=r ((lo+hi) / 2) k (by omega) F5;omega
  ·rw[if_neg hl];obtain rfl:lo=hi:=by omega
   exact⟨h1,h4,h5⟩
theorem eX {xs:Array Nat}(r:Dj xs)(j:Nat):below xs j<=xs.size/\(∀k,k<below xs j->g xs k<j)/\(∀k,below xs j<=k->k<xs.size->j<=g xs k) :=
 lS r xs.size 0 xs.size (Sj _) (SH _) (Sj _) (λk hk=>by lia) (λk h1 h2=>by lia)
theorem below_at {xs:Array Nat}(r:Dj xs){i:Nat}(hi:i<xs.size):below xs (g xs i)=i:=by
 obtain⟨h1,h2,h3⟩:=eX r (g xs i);rcases WX (below xs (g xs i)) i with h|h|h
 ·have:=h3 (below xs (g xs i)) (Sj _) (by omega)
  have:=r _ _ h hi;omega
 ·exact h
 ·have:=h2 i h;omega
def oP (t:SetTable)(x:Nat):Prop:=∃i,i<t.place.size/\g t.place i=x
theorem mP {t:SetTable}(r:Dj t.place){i:Nat}(hi:i<t.place.size):t.slot (g t.place i)=.live i:=by
 unfold slot;dsimp only;rw[below_at r hi,if_pos (by rw[tj hi];exact beq_self_eq_true _)]
theorem vf {t:SetTable}(r:Dj t.place)(d:t.dummies=#[]){x:Nat}(h:¬ oP t x):t.slot x=.empty:=by
 unfold slot;dsimp only;rw[if_neg ?_,if_neg ?_]
 ·rw[d];unfold has;simp
 ·intro q;have q:=eq_of_beq q;have hl:below t.place x<t.place.size:=by
   rcases TZ (below t.place x) t.place.size with z|z
   ·exact z
   ·rw[Ur z]at q;cases q
  rw[tj hl]at q;exact h ⟨_,hl,S8 q⟩
structure WF (t:SetTable)(hs:List Int):Prop where
 Ga:t.dummies=#[]
 sz:t.place.size=hs.length
 vo:Dj t.place
 OX:∀i,i<t.place.size->g t.place i<=t.mask
 CK:∃j,3<=j/\t.mask=2 ^ j-1
 room:t.place.size<=t.mask
 NX:∀i h,hs[i]?=some h->∃n,cj t.mask h n=g t.place i/\∀k,k<n->oP t (cj t.mask h k)
theorem least {p:Nat->Prop}[DecidablePred p]:∀n,p n->∃m,m<=n/\p m/\∀k,k<m->¬ p k:=by
 intro n
 induction n using Wd with
 |_ n ih =>
  intro hn
  by_cases h:∃k,k<n/\p k
  ·obtain⟨k,hk,hp⟩:=h;obtain⟨m,h1,h2,h3⟩:=ih k hk hp;exact⟨m,by lia,h2,h3⟩
  ·exact⟨n,Sj _,hn,λk hk hp=>h ⟨k,hk,hp⟩⟩
instance (t:SetTable):DecidablePred (oP t):=λx=>decidable_of_iff (∃i,i<t.place.size/\g t.place i=x) Iff.rfl
theorem WF.hole {t:SetTable}{hs:List Int}(w:WF t hs):∃x,x<=t.mask/\¬ oP t x:=by
 refine UX λIY=>?_;have all:∀x,x<=t.mask->oP t x:=λx hx=>UX λq=>IY ⟨x,hx,q⟩;have up:∀x,x<=t.mask->∃i,i<t.place.size/\g t.place i=x/\x<=i:=by
  intro x
  induction x with
  |zero =>
   intro hx;obtain⟨i,h1,h2⟩:=all 0 hx;exact⟨i,h1,h2,SH _⟩
  |succ x ih =>
   intro hx;obtain⟨i,h1,h2,h3⟩:=ih (by lia)
   obtain⟨i',h4,h5⟩:=all (x+1) hx;refine⟨i',h4,h5,?_⟩;rcases TZ i i' with q|q
   ·lia
   ·rcases TZ i' i with q2|q2
    ·have:=w.vo i' i q2 h1;lia
    ·obtain rfl:i=i':=by lia
     lia
 obtain⟨i,h1,h2,h3⟩:=up t.mask (Sj _);have:=w.room;lia
theorem WF.first {t:SetTable}{hs:List Int}(w:WF t hs)(h:Int):∃n,n<10*turns t.mask/\¬ oP t (cj t.mask h n)/\∀k,k<n->oP t (cj t.mask h k):=by
 obtain⟨x,hx,hf⟩:=w.hole;obtain⟨j,_,hj⟩:=w.CK;have yU:x<2 ^ j:=by have:0<2 ^ j:=Ws (by decide);lia
 obtain⟨n,h1,h2⟩:=Q_ j h yU;rw[<- hj]at h1 h2;obtain⟨m,g1,g2,g3⟩:=least (p:=λn=>¬ oP t (cj t.mask h n)) n (by rw[h2];exact hf)
 exact⟨m,by lia,g2,λk hk=>UX λq=>g3 k hk q⟩
theorem iH (m:Nat)(h:Int):∀n,(fy m h n).dummy=none
 |0=>rfl
 |n+1=>by
  show (cP m (fy m h n)).dummy=none;unfold cP advance
  split
  ·exact iH m h n
  ·exact iH m h n
theorem pM {t:SetTable}{hs:List Int}(w:WF t hs)(ha:Nat->Int)(h:Int){N:Nat}(hN:¬ oP t (cj t.mask h N))(hO:∀k,k<N->oP t (cj t.mask h k)):∀(d n f:Nat),n+d=N->d<f ->
  (probe.go t ha h f (fy t.mask h n)=some (.empty (cj t.mask h N) none)/\∀k,n<=k->k<N->∀i,i<t.place.size->g t.place i=cj t.mask h k->ha i≠h) \/
  ∃m i,n<=m/\m<N/\i<t.place.size/\g t.place i=cj t.mask h m/\ha i=h/\probe.go t ha h f (fy t.mask h n)=some (.candidate (cj t.mask h m) i (fy t.mask h (m+1)))/\∀k,n<=k->k<m->∀i,i<t.place.size->g t.place i=cj t.mask h k->ha i≠h
 |0,n,f,e,hf=>by
  obtain rfl:n=N:=by lia
  obtain⟨f,rfl⟩:∃f',f=f'+1:=⟨f-1,by lia⟩
  refine .inl ⟨?_,λk h1 h2=>by lia⟩
  unfold probe.go;rw[show t.slot (fy t.mask h n).j=.empty from vf w.vo w.Ga hN]
  dsimp only;rw[iH];rfl
 |d+1,n,f,e,hf=>by
  obtain⟨f,rfl⟩:∃f',f=f'+1:=⟨f-1,by lia⟩
  obtain⟨i,hi,hg⟩:=hO n (by lia)
  have F3:t.slot (fy t.mask h n).j=.live i:=by
   show t.slot (cj t.mask h n)=.live i;rw[<- hg];exact mP w.vo hi
  by_cases hh:ha i=h
  ·refine .inr ⟨n,i,Sj _,by lia,hi,hg,hh,?_,λk h1 h2=>by lia⟩
   unfold probe.go;rw[F3];dsimp only;rw[if_pos (by rw[hh];exact beq_self_eq_true _)]
   rfl
  ·have st:probe.go t ha h (f+1) (fy t.mask h n)=probe.go t ha h f (fy t.mask h (n+1)):=by
    conv=>lhs;unfold probe.go
    rw[F3];dsimp only;rw[if_neg (by simpa using hh)]
    rfl
   rw[st];have here:∀i',i'<t.place.size->g t.place i'=cj t.mask h n->ha i'≠h:=λi' h1 h2=>by
    rw[w.vo.inj h1 hi (h2.trans hg.symm)];exact hh
   rcases pM w ha h hN hO d (n+1) f (by lia) (by lia)with⟨q1,q2⟩|⟨m,i',q1,q2,q3,q4,q5,q6,q7⟩
   ·refine .inl ⟨q1,λk h1 h2=>?_⟩
    by_cases hk:k=n
    ·subst hk;exact here
    ·exact q2 k (by lia) h2
   ·refine .inr ⟨m,i',by lia,q2,q3,q4,q5,q6,λk h1 h2=>?_⟩
    by_cases hk:k=n
    ·subst hk;exact here
    ·exact q7 k (by lia) h2
theorem lr {α:Type}(xs:Array α)(p:Nat)(x:α):(insertAt xs p x).toList=xs.toList.take p++x::xs.toList.drop p:=by
 unfold insertAt;rw[T8,Ul,Ww,Ww,VI,VI,TM];simp[Ud]
theorem yT {α:Type}{xs:Array α}{p:Nat}{x:α}(h:p<=xs.size):(insertAt xs p x).size=xs.size+1:=by
 rw[<- Sv,lr,S_,SM,SU,UW,Sv];lia
theorem eS {xs:Array Nat}{p x:Nat}(h:p<=xs.size)(k:Nat):g (insertAt xs p x) k=if k<p then g xs k else if k=p then x else g xs (k-1):=by
 have e:∀(ys:Array Nat) (k:Nat),g ys k=(ys.toList[k]?).getD 0:=λys k=>by rw[g,SS,SK]
 rw[e,e,e,lr]
 by_cases h1:k<p
 ·rw[if_pos h1,T7 (by rw[SU,Sv];lia),U1 h1]
 ·rw[if_neg h1,Tr (by rw[SU];lia),SU,Sv,show min p xs.size=p by lia]
  by_cases h2:k=p
  ·rw[if_pos h2,h2,V2];rfl
  ·rw[if_neg h2,show k-p=k-p-1+1 by lia,U9,VF,show p+(k-p-1)=k-1 by lia]
theorem WF.put {t:SetTable}{hs:List Int}(w:WF t hs){h:Int}{N:Nat}(hb:cj t.mask h N<=t.mask)(hN:¬ oP t (cj t.mask h N))(hO:∀k,k<N->oP t (cj t.mask h k))(hr:t.place.size+1<=t.mask):
  WF (t.put (cj t.mask h N)).1 (hs.take (t.put (cj t.mask h N)).2++h::hs.drop (t.put (cj t.mask h N)).2)/\(t.put (cj t.mask h N)).2<=t.place.size:=by
 obtain⟨b1,b2,b3⟩:=eX w.vo (cj t.mask h N);have hp:(t.put (cj t.mask h N)).2=below t.place (cj t.mask h N):=rfl;rw[hp];generalize hx:cj t.mask h N=x at *
 generalize hq:below t.place x=p at *
 have e:(t.put x).1={t with place:=insertAt t.place p x}:=by
  unfold SetTable.put;dsimp only;rw[w.Ga,hq];unfold has;simp
 have ne:∀k,p<=k->k<t.place.size->x<g t.place k:=λk h1 h2=>by
  have:=b3 k h1 h2;rcases TZ x (g t.place k)with q|q
  ·exact q
  ·exact absurd ⟨k,h2,by lia⟩ hN
 have KY:(insertAt t.place p x).size=t.place.size+1:=yT b1;have N8:∀y,oP t y->oP {t with place:=insertAt t.place p x} y:=by
  rintro y ⟨i,h1,h2⟩
  by_cases hi:i<p
  ·exact⟨i,by show i<(insertAt t.place p x).size;lia,by show g (insertAt t.place p x) i=y;rw[eS b1,if_pos hi];exact h2⟩
  ·exact⟨i+1,by show i+1<(insertAt t.place p x).size;lia,by show g (insertAt t.place p x) (i+1)=y;rw[eS b1,if_neg (by lia),if_neg (by lia)];exact h2⟩
 rw[e];refine⟨⟨w.Ga,?_,?_,?_,w.CK,?_,?_⟩,b1⟩
 ·show (insertAt t.place p x).size=_;rw[KY,S_,SM,SU,UW,<- w.sz];lia
 ·intro i j aJ hj;have hj:j<t.place.size+1:=by rw[<- KY];exact hj
  show g (insertAt t.place p x) i<g (insertAt t.place p x) j;rw[eS b1,eS b1]
  by_cases h1:i<p
  ·rw[if_pos h1]
   by_cases h2:j<p
   ·rw[if_pos h2];exact w.vo i j aJ (by lia)
   ·rw[if_neg h2]
    by_cases h3:j=p
    ·rw[if_pos h3];exact b2 i h1
    ·rw[if_neg h3];exact w.vo i (j-1) (by lia) (by lia)
  ·rw[if_neg h1,if_neg (show ¬ j<p by lia)]
   by_cases h3:i=p
   ·rw[if_pos h3,if_neg (show ¬ j=p by lia)];exact ne _ (by lia) (by lia)
   ·rw[if_neg h3,if_neg (show ¬ j=p by lia)];exact w.vo (i-1) (j-1) (by lia) (by lia)
 ·intro i hi;have hi:i<t.place.size+1:=by rw[<- KY];exact hi
  show g (insertAt t.place p x) i<=t.mask;rw[eS b1]
  split
  ·exact w.OX i (by lia)
  ·split
   ·exact hb
   ·exact w.OX _ (by lia)
 ·show (insertAt t.place p x).size<=t.mask;lia
 ·intro i h' d9;show ∃n,cj t.mask h' n=g (insertAt t.place p x) i/\_;have old:∀i h',hs[i]?=some h'->∃n,cj t.mask h' n=g t.place i/\∀k,k<n->oP {t with place:=insertAt t.place p x} (cj t.mask h' k):=λi h' q=>by
   obtain⟨n,h1,h2⟩:=w.NX i h' q;exact⟨n,h1,λk hk=>N8 _ (h2 k hk)⟩
  have hpl:p<=hs.length:=by rw[<- w.sz];exact b1
  by_cases h1:i<p
  ·rw[T7 (by rw[SU];lia),U1 h1]at d9
   rw[eS b1,if_pos h1];exact old i h' d9
  ·rw[Tr (by rw[SU];lia),SU,show min p hs.length=p by lia]at d9
   rw[eS b1,if_neg h1]
   by_cases h2:i=p
   ·rw[h2,V2]at d9;rw[if_pos h2];obtain rfl:h=h':=S8 d9;exact⟨N,hx,λk hk=>N8 _ (hO k hk)⟩
   ·rw[show i-p=i-p-1+1 by lia,U9,VF,show p+(i-p-1)=i-1 by lia]at d9
    rw[if_neg h2];exact old (i-1) h' d9
theorem fU {m i:Nat}(h:i<=m):i<=runEnd m i/\runEnd m i<=m:=by
 unfold runEnd
 split <;> lia
theorem xS (m:Nat)(h:Int):∀n,(fy m h n).j+(fy m h n).more<=m
 |0=>by
  show bits h % (m+1)+(runEnd m (bits h % (m+1))-bits h % (m+1))<=m;have hl:bits h % (m+1)<=m:=Nat.le_of_lt_succ (VC _ (Nat.succ_pos _));have:=fU hl;lia
 |n+1=>by
  have ih:=xS m h n;show (cP m (fy m h n)).j+(cP m (fy m h n)).more<=m;unfold cP advance
  split
  ·show (fy m h n).j+1+((fy m h n).more-1)<=m;lia
  ·show (leap m (fy m h n).i (fy m h n).perturb).1+(runEnd m (leap m (fy m h n).i (fy m h n).perturb).1-(leap m (fy m h n).i (fy m h n).perturb).1)<=m;have hl:(leap m (fy m h n).i (fy m h n).perturb).1<=m:=Nat.le_of_lt_succ (VC _ (Nat.succ_pos _));have:=fU hl;lia
theorem jA (m:Nat)(h:Int)(n:Nat):cj m h n<=m:=by
 have:=xS m h n;unfold cj;lia
abbrev Ow:=Array (Option Nat)
def fc (o:Ow)(j:Nat):Bool:=(o.getD j (some 0)).isNone
theorem ni {m:Nat}{o:Ow}(h:Int):∀(f b n:Nat) (j:Nat),fy m h n=Gf m (lp m h b)->layClean.free m o f (lp m h b).1 (lp m h b).2=some j->∃N,n<=N/\cj m h N=j/\fc o j=true/\∀k,n<=k->k<N->fc o (cj m h k)=false
 |0,b,n,j,_,e=>by cases e
 |f+1,b,n,j,hb,e=>by
  unfold layClean.free at e;have LV:∀d,d<=runEnd m (lp m h b).1-(lp m h b).1->cj m h (n+d)=(lp m h b).1+d:=λd hd=>by
   unfold cj;rw[sV m h _ n hb d hd]
  have hl:(lp m h b).1<=m:=by
   have:=jA m h n;unfold cj at this;rw[hb]at this;exact this
  have hr:=fU hl;cases hf:(SV (runEnd m (lp m h b).1+1-(lp m h b).1)).find? (λk=>(o.getD ((lp m h b).1+k) (some 0)).isNone)with
  |some k =>
   rw[hf]at e;dsimp only at e;obtain⟨h1,h2,h3⟩:=List.find?_range_eq_some.mp hf;have h2:=Tq.mp h2;refine⟨n+k,by lia,?_,?_,λx g1 g2=>?_⟩
   ·rw[LV k (by lia)]
    exact S8 e
   ·rw[<- S8 e];exact h1
   ·have:=h3 (x-n) (by lia)
    rw[show x=n+(x-n) by lia,LV (x-n) (by lia)]
    unfold fc;simpa using this
  |none =>
   rw[hf]at e;dsimp only at e;have h3:=List.find?_range_eq_none.mp hf;obtain⟨N,q1,q2,q3,q4⟩:=ni h f (b+1) (n+(runEnd m (lp m h b).1-(lp m h b).1)+1) j (qX m h _ n hb) e;refine⟨N,by lia,q2,q3,λx g1 g2=>?_⟩
   by_cases hx:n+(runEnd m (lp m h b).1-(lp m h b).1)+1<=x
   ·exact q4 x hx g2
   ·have:=h3 (x-n) (by lia)
    rw[show x=n+(x-n) by lia,LV (x-n) (by lia)]
    unfold fc;simpa using this
theorem nj {m:Nat}{o:Ow}(h:Int):∀(f b:Nat),layClean.free m o f (lp m h b).1 (lp m h b).2=none->∀d,d<f->(lp m h (b+d)).1<=m->fc o (lp m h (b+d)).1=false
 |0,b,_,d,hd,_=>by lia
 |f+1,b,e,d,hd,hl=>by
  unfold layClean.free at e;cases hf:(SV (runEnd m (lp m h b).1+1-(lp m h b).1)).find? (λk=>(o.getD ((lp m h b).1+k) (some 0)).isNone)with
  |some k =>
   rw[hf]at e;cases e
  |none =>
   rw[hf]at e;dsimp only at e;cases d with
   |zero =>
    have:=List.find?_range_eq_none.mp hf 0 (by have:=fU hl;rw[Nat.add_zero]at this;lia)
    unfold fc;simpa using this
   |succ d =>
    have:=nj h f (b+1) e d (by lia) (by rw[show b+1+d=b+(d+1) by lia];exact hl)
    rw[show b+1+d=b+(d+1) by lia]at this
    exact this
theorem EH (j:Nat)(h:Int){t:Nat}(ht:t<2 ^ j):∃k,k<turns (2 ^ j-1)/\(lp (2 ^ j-1) h k).1=t:=by
 obtain⟨k,hk,e⟩:=lift j (lp (2 ^ j-1) h 13).1 t;refine⟨13+k,by unfold turns;lia,?_⟩
 rw[CM,e,W7 ht]
def ow (o:Ow)(j:Nat):Option Nat:=o.getD j none
theorem dq {α:Type}{f f':Nat->Option α}:∀(l:List Nat),(∀k∈l,f' k=f k)->l.filterMap f'=l.filterMap f
 |[],_=>rfl
 |x::l,h=>by
  rw[Tx,Tx,h x SY,dq l λk hk=>h k (S0 _ hk)]
theorem qz {α:Type}{f f':Nat->Option α}(l:List Nat)(h:∀k∈l,f' k=f k):l.filterMap f'=l.filterMap f:=dq l h
theorem qv {α:Type}(f f':Nat->Option α)(j:Nat)(v:α)(h1:f j=none)(h2:f' j=some v)(h3:∀k,k≠j->f' k=f k):∀N,j<N->((SV N).filterMap f').Perm (v::(SV N).filterMap f)
 |0,h=>by lia
 |N+1,h=>by
  rw[We,Wl,Wl]
  by_cases e:j=N
  ·subst e;have e1:(SV j).filterMap f'=(SV j).filterMap f:=by
    exact dq _ λk hk=>h3 k (S5 (Tq.mp hk))
   rw[e1,Tx,h2,Tx,h1,List.filterMap_nil,List.filterMap_nil];show ((SV j).filterMap f++[v]).Perm (v::((SV j).filterMap f++[]));rw[Uo];exact List.perm_append_comm
  ·have ih:=qv f f' j v h1 h2 h3 N (by lia)
   have e2:[N].filterMap f'=[N].filterMap f:=dq _ λk hk=>by
    rw[SF.mp hk];exact h3 N (λz=>e z.symm)
   rw[e2];exact ih.append_right _
theorem qA {α:Type}(f:Nat->Option α):∀N,(∀k,k<N->(f k).isSome=true)->((SV N).filterMap f).length=N
 |0,_=>rfl
 |N+1,h=>by
  rw[We,Wl,S_,qA f N λk hk=>h k (by lia)]
  have:=h N (by lia)
  cases e:f N with
  |none=>rw[e]at this;cases this
  |some x=>rw[Tx,e];rfl
structure Ld (m:Nat)(hs:Array Int)(o:Ow)(k:Nat):Prop where
 sz:o.size=m+1
 Lu:((SV (m+1)).filterMap (ow o)).Perm (SV k)
 way:∀j a,ow o j=some a->a<k/\∃n,cj m (hs.getD a 0) n=j/\∀x,x<n->fc o (cj m (hs.getD a 0) x)=false
theorem kK {o:Ow}{j:Nat}(h:j<o.size):fc o j=true↔ow o j=none:=by
 unfold fc ow;rw[SS,SS,getElem?_pos o j h];show (o[j]).isNone=true↔o[j]=none;exact Xs
theorem Ld.next {j0:Nat}{hs:Array Int}{o:Ow}{k:Nat}(L:Ld (2 ^ j0-1) hs o k)(hk:k<=2 ^ j0-1)(h:Int)(hh:hs.getD k 0=h):
  ∃j,layClean.free (2 ^ j0-1) o (turns (2 ^ j0-1)) (bits h % (2 ^ j0-1+1)) (bits h)=some j/\Ld (2 ^ j0-1) hs (o.setIfInBounds j (some k)) (k+1):=by
 have hP:0<2 ^ j0:=Ws (by decide)
 generalize hm:2 ^ j0-1=m at *
 obtain⟨x,hx,Qr⟩:∃x,x<=m/\ow o x=none:=by
  refine UX λIY=>?_;have:=qA (ow o) (m+1) λx hx=>by
   cases e:ow o x with
   |none=>exact absurd ⟨x,by lia,e⟩ IY
   |some _=>rfl
  rw[L.Lu.length_eq,Tc]at this;lia
 cases hf:layClean.free m o (turns m) (bits h % (m+1)) (bits h)with
 |none =>
  exfalso
  obtain⟨c,hc,he⟩:=EH j0 h (t:=x) (by lia)
  rw[hm]at hc he;have:=nj (m:=m) (o:=o) h (turns m) 0 hf c hc (by rw[UH,he];exact hx)
  rw[UH,he]at this;have q:=(kK (o:=o) (j:=x) (by rw[L.sz];lia)).mpr Qr
  rw[q]at this;cases this
 |some j =>
  refine⟨j,rfl,?_⟩;obtain⟨N,_,q2,q3,q4⟩:=ni (m:=m) (o:=o) h (turns m) 0 0 j rfl hf;have hj:j<=m:=by rw[<- q2];exact jA m h N
  have MS:j<o.size:=by rw[L.sz];lia
  have IX:ow o j=none:=(kK MS).mp q3;have same:∀i,i≠j->ow (o.setIfInBounds j (some k)) i=ow o i:=λi hi=>by
   unfold ow;rw[SS,SS,W3 (λz=>hi z.symm)]
  have here:ow (o.setIfInBounds j (some k)) j=some k:=by
   unfold ow;rw[SS,Wo MS];rfl
  have GP:∀i,fc o i=false->fc (o.setIfInBounds j (some k)) i=false:=λi hi=>by
   unfold fc at *
   rw[SS]at *
   by_cases e:i=j
   ·subst e;rw[Wo MS];rfl
   ·rw[W3 (λz=>e z.symm)];exact hi
  refine⟨by rw[VV];exact L.sz,?_,λi a Kl=>?_⟩
  ·refine(qv (ow o) _ j k IX here same (m+1) (by lia)).trans ?_
   refine(L.Lu.cons k).trans ?_;rw[We];exact(List.perm_append_singleton k _).symm
  ·by_cases e:i=j
   ·subst e;rw[here]at Kl;obtain rfl:=S8 Kl;refine⟨Nat.lt_succ_self _,N,by rw[hh];exact q2,λx hx=>GP _ ?_⟩
    rw[hh];exact q4 x (SH _) hx
   ·rw[same i e]at Kl;obtain⟨g1,n,g2,g3⟩:=L.way i a Kl;exact⟨by lia,n,g2,λx hx=>GP _ (g3 x hx)⟩
theorem lR {j0:Nat}{hs:Array Int}(hk:hs.size<=2 ^ j0-1):∀(l:List Int) (k:Nat) (o:Ow),hs.toList.drop k=l->k+l.length=hs.size->Ld (2 ^ j0-1) hs o k ->
  ∃o',(l.foldl (λ(acc:Option (Ow×Nat)) h=>do
   let (owner,k) <- acc
   let j <- layClean.free (2 ^ j0-1) owner (turns (2 ^ j0-1)) (bits h % (2 ^ j0-1+1)) (bits h)
   pure (owner.setIfInBounds j (some k),k+1)) (some (o,k)))=some (o',hs.size)/\Ld (2 ^ j0-1) hs o' hs.size
 |[],k,o,e,z,L=>by
  obtain rfl:k=hs.size:=z;exact⟨o,rfl,L⟩
 |h::l,k,o,e,z,L=>by
  rw[SM]at z;have fz:k<hs.toList.length:=by rw[Sv];lia
  rw[TJ fz]at e;injection e with e1 e2
  have hh:hs.getD k 0=h:=by
   rw[SS,<- SK,Sk fz,e1];rfl
  obtain⟨j,q1,q2⟩:=L.next (by lia) h hh
  rw[Wh];show ∃o',(l.foldl _ (do
   let j <- layClean.free (2 ^ j0-1) o (turns (2 ^ j0-1)) (bits h % (2 ^ j0-1+1)) (bits h)
   pure (o.setIfInBounds j (some k),k+1)))=_/\_
  rw[q1];exact lR hk l (k+1) _ e2 (by lia) q2
theorem Ld.start (m:Nat)(hs:Array Int):Ld m hs (Array.replicate (m+1) none) 0:=by
 have e:∀j,ow (Array.replicate (m+1) none) j=none:=λj=>by
  unfold ow;rw[SS,Array.getElem?_replicate]
  split <;> rfl
 refine⟨Array.size_replicate,?_,λj a h=>by rw[e]at h;cases h⟩
 rw[dq (f:=λ_=>(none:Option Nat)) _ λk _=>e k];have:∀l:List Nat,l.filterMap (λ_=>(none:Option Nat))=[]:=λl=>by
  induction l with
  |nil=>rfl
  |cons x l ih=>rw[Tx];exact ih
 rw[this];exact .refl _
theorem BB {j0:Nat}{hs:Array Int}(h3:3<=j0)(hk:hs.size<=2 ^ j0-1)(finger moves:Nat)(led plain:Bool):
  ∃t order,laid (2 ^ j0-1) finger moves led plain hs=some (t,order)/\t.mask=2 ^ j0-1/\t.led=led/\t.plain=plain/\t.moves=moves/\order.toList.Perm (SV hs.size)/\WF t (order.toList.map λa=>hs.getD a 0)/\t.place.size=hs.size:=by
 obtain⟨o,e1,L⟩:=lR hk hs.toList 0 _ rfl (by rw[UH,Sv]) (Ld.start _ hs)
 have e2:layClean (2 ^ j0-1) hs=some o:=by
  unfold layClean;rw[<- Array.foldl_toList];exact congrArg (Option.map (·.1)) e1
 generalize hm:2 ^ j0-1=m at *
 have HE:∀(l:List Nat),((l.filterMap λj=>(o.getD j none).map (j,·)).map (·.2))=l.filterMap (ow o):=λl=>by
  rw[List.map_filterMap];refine qz l λj _=>?_;rw[Option.map_map];show ((o.getD j none).map λa=>a)=_;rw[Option.map_id'];rfl
 generalize I_:((SV (m+1)).filterMap λj=>(o.getD j none).map (j,·))=live at *
 have pw:live.Pairwise (λx y=>x.1<y.1):=by
  rw[<- I_,List.pairwise_filterMap];refine List.pairwise_lt_range.imp λ{a b} Jl x hx y hy=>?_;obtain⟨_,_,rfl⟩:=SJ.mp hx;obtain⟨_,_,rfl⟩:=SJ.mp hy;exact Jl
 have mem:∀x∈live,x.1<m+1/\ow o x.1=some x.2:=λx hx=>by
  rw[<- I_]at hx;obtain⟨j,hj,e⟩:=VE.mp hx;obtain⟨a,ha,rfl⟩:=SJ.mp e;exact⟨Tq.mp hj,ha⟩
 have ord:(live.map (·.2)).Perm (SV hs.size):=by
  rw[<- I_,HE];exact L.Lu
 have len:live.length=hs.size:=by
  have:=ord.length_eq;rw[Sg,Tc]at this;exact this
 have gp:∀i (hi:i<live.length),g (live.map (·.1)).toArray i=(live[i]).1:=λi hi=>by
  rw[g,SS,Vh,Su,Sk hi];rfl
 refine⟨{mask:=m,place:=(live.map (·.1)).toArray,dummies:=#[],finger,led,moves,plain},(live.map (·.2)).toArray,?_,rfl,rfl,rfl,rfl,ord,?_,?_⟩
 ·unfold laid;rw[e2,<- I_];rfl
 ·have Lr:(live.map (·.1)).toArray.size=live.length:=by rw[SW,Sg]
  refine⟨rfl,?_,?_,?_,⟨j0,h3,hm.symm⟩,?_,?_⟩
  ·show (live.map (·.1)).toArray.size=_;rw[Lr,Sg,Sg]
  ·intro i j aJ hj;have hj:j<live.length:=by rw[<- Lr];exact hj
   show g (live.map (·.1)).toArray i<g (live.map (·.1)).toArray j;rw[gp i (by lia),gp j hj]
   exact VH.mp pw i j (by lia) hj aJ
  ·intro i hi;have hi:i<live.length:=by rw[<- Lr];exact hi
   show g (live.map (·.1)).toArray i<=m;rw[gp i hi];have:=(mem _ (Uu hi)).1;lia
  ·show (live.map (·.1)).toArray.size<=m;lia
  ·intro i h hi;show ∃n,cj m h n=g (live.map (·.1)).toArray i/\_;rw[Su,Su]at hi;have zf:i<live.length:=by
    rcases TZ i live.length with q|q
    ·exact q
    ·rw[S7 q]at hi;cases hi
   rw[Sk zf]at hi;have hi:hs.getD (live[i]).2 0=h:=S8 hi;obtain⟨_,n,g2,g3⟩:=L.way _ _ (mem _ (Uu zf)).2;rw[hi]at g2 g3;refine⟨n,by rw[gp i zf];exact g2,λk hk=>?_⟩
   have hv:=jA m h k;have Qo:cj m h k<o.size:=by rw[L.sz];lia
   have:=g3 k hk;cases eo:ow o (cj m h k)with
   |none =>
    rw[(kK Qo).mpr eo]at this;cases this
   |some a =>
    have mh:(cj m h k,a)∈live:=by
     rw[<- I_];exact VE.mpr ⟨cj m h k,Tq.mpr (by lia),by show (ow o (cj m h k)).map _=_;rw[eo];rfl⟩
    obtain⟨i',d9,e'⟩:=List.getElem_of_mem mh;exact⟨i',by show i'<(live.map (·.1)).toArray.size;lia,by show g (live.map (·.1)).toArray i'=_;rw[gp i' d9,e']⟩
 ·show (live.map (·.1)).toArray.size=hs.size;rw[SW,Sg];exact len
end ST
namespace TS
open PySem PyProof.Rows
def b6:Bool->Ss->Array Ss->Nat->Nat->Nat->StateT Tb Sem (Option Nat):=sortPriv% PySem.Builtin.gallop
def hJ:Array Ss->Array Ss->StateT Tb Sem (Array Ss):=sortPriv% PySem.Builtin.mergeLo
def hV:Array Ss->Array Ss->StateT Tb Sem (Array Ss):=sortPriv% PySem.Builtin.mergeHi
abbrev b9 (st:Tb)(g:Nat):Tb:=SortSt.mk' (kindOf st) (Te st) (S3 st) g (Vb st)
theorem tf (left:Bool)(key:Ss)(arr:Array Ss)(base n hint:Nat):b6 left key arr base n hint=(do
  let ask:=λ(at_:Nat)=>(do
   let z <- elem' arr (base+at_)
   if left then lt' z key else return (<- lt' key z).map (!·):StateT Tb Sem (Option Bool))
  let mut before:=0
  let mut step:=1
  let mut u:=0
  let mut v:=0
  let some up <- ask hint|return none
  if up then
   let room:=n-hint
   for _ in [0:n] do
    if step >= room then break
    let some on <- ask (hint+step)|return none
    if !on then break
    before:=step
    step:=2*step+1
   u:=hint+before+1
   v:=hint+min step room
  else
   let room:=hint+1
   for _ in [0:n] do
    if step >= room then break
    let some hit <- ask (hint-step)|return none
    if hit then break
    before:=step
    step:=2*step+1
   u:=hint+1-min step room
   v:=hint-before
  for _ in [0:n] do
   if u >= v then break
   let mid:=u+(v-u) / 2
   let some on <- ask mid|return none
   if on then u:=mid+1 else v:=mid
  return some v):=rfl
theorem p0 (p q:Array Ss):hJ p q=(do
  rule "list.sort.merge-lo"
  let all:=p.size+q.size
  let rest:=λ(to:Array Ss) (i j:Nat)=>to++p.extract i p.size++q.extract j q.size
  let tail:=λ(to:Array Ss) (i j:Nat)=>to++q.extract j q.size++p.extract i p.size
  let mut to:Array Ss:=#[<- elem' q 0]
  let mut i:=0
  let mut j:=1
  if j==q.size then return rest to i j
  if i+1==p.size then return tail to i j
  let mut mg:=gallopOf (<- get)
  for _ in [0:all] do
   let mut m:=0
   let mut n:=0
   for _ in [0:all] do
    let some DA <- lt' (<- elem' q j) (<- elem' p i)|return rest to i j
    if DA then
     to:=to.push (<- elem' q j);j:=j+1;n:=n+1;m:=0
     if j==q.size then return rest to i j
     if n >= mg then break
    else
     to:=to.push (<- elem' p i);i:=i+1;m:=m+1;n:=0
     if i+1==p.size then return tail to i j
     if m >= mg then break
   rule "list.sort.gallop"
   mg:=mg+1
   for _ in [0:all] do
    if mg>1 then mg:=mg-1
    modify λst=>b9 st mg
    let some k <- b6 false (<- elem' q j) p i (p.size-i) 0|return rest to i j
    m:=k
    if k>0 then
     to:=to++p.extract i (i+k);i:=i+k
     if i+1==p.size then return tail to i j
     if i==p.size then return rest to i j
    to:=to.push (<- elem' q j);j:=j+1
    if j==q.size then return rest to i j
    let some k <- b6 true (<- elem' p i) q j (q.size-j) 0|return rest to i j
    n:=k
    if k>0 then
     to:=to++q.extract j (j+k);j:=j+k
     if j==q.size then return rest to i j
    to:=to.push (<- elem' p i);i:=i+1
    if i+1==p.size then return tail to i j
    if m<7&&n<7 then break
   mg:=mg+1
   modify λst=>b9 st mg
  unsupported "internal:list.sort.merge-bound"):=rfl
theorem qa (p q:Array Ss):hV p q=(do
  rule "list.sort.merge-hi"
  let all:=p.size+q.size
  let rest:=λ(to:Array Ss) (i j:Nat)=>p.extract 0 i++q.extract 0 j++to.reverse
  let tail:=λ(to:Array Ss) (i j:Nat)=>q.extract 0 j++p.extract 0 i++to.reverse
  let mut i:=p.size-1
  let mut j:=q.size
  let mut to:Array Ss:=#[<- elem' p i]
  if i==0 then return rest to i j
  if j==1 then return tail to i j
  let mut mg:=gallopOf (<- get)
  for _ in [0:all] do
   let mut m:=0
   let mut n:=0
   for _ in [0:all] do
    let some DA <- lt' (<- elem' q (j-1)) (<- elem' p (i-1))|return rest to i j
    if DA then
     i:=i-1;to:=to.push (<- elem' p i);m:=m+1;n:=0
     if i==0 then return rest to i j
     if m >= mg then break
    else
     j:=j-1;to:=to.push (<- elem' q j);n:=n+1;m:=0
     if j==1 then return tail to i j
     if n >= mg then break
   rule "list.sort.gallop"
   mg:=mg+1
   for _ in [0:all] do
    if mg>1 then mg:=mg-1
    modify λst=>b9 st mg
    let some h <- b6 false (<- elem' q (j-1)) p 0 i (i-1)|return rest to i j
    let k:=i-h
    m:=k
    if k>0 then
     to:=to++(p.extract h i).reverse;i:=h
     if i==0 then return rest to i j
    j:=j-1;to:=to.push (<- elem' q j)
    if j==1 then return tail to i j
    let some h <- b6 true (<- elem' p (i-1)) q 0 j (j-1)|return rest to i j
    let k:=j-h
    n:=k
    if k>0 then
     to:=to++(q.extract h j).reverse;j:=h
     if j==1 then return tail to i j
     if j==0 then return rest to i j
    i:=i-1;to:=to.push (<- elem' p i)
    if i==0 then return rest to i j
    if m<7&&n<7 then break
   mg:=mg+1
   modify λst=>b9 st mg
  unsupported "internal:list.sort.merge-bound"):=rfl
theorem qc (i:Nat):mergeAt' i=(do
  let st <- get
  let (some (sa,na,pw),some (sb,nb,_)):=((S3 st)[i]?,(S3 st)[i+1]?)|unsupported "internal:list.sort.pending"
  set (Vj st (((S3 st).setIfInBounds i (sa,na+nb,pw)).eraseIdxIfInBounds (i+1)))
  let some k <- b6 false (<- elem' (Te st) sb) (Te st) sa na 0|return false
  let (sa,na):=(sa+k,na-k)
  if na==0 then return true
  let some nb <- b6 true (<- elem' (Te st) (sa+na-1)) (Te st) sb nb (nb-1)|return false
  if nb==0 then return true
  let x:=(Te st).extract sa sb
  let y:=(Te st).extract sb (sb+nb)
  let got <- if na<=nb then hJ x y else hV x y
  modify λs2=>TY s2 (got.toList.zipIdx.foldl (λa (p,j)=>a.setIfInBounds (sa+j) p) (Te s2))
  return (Vb (<- get)).isNone):=rfl
structure bZ (c:Ss->Ss->Bool):Prop where
 JF:∀x y,c x y=true->c y x=false
 N_:∀x y z,c x z=true->c x y=true\/c y z=true
def le (c:Ss->Ss->Bool)(x y:Ss):Prop:=c y x=false
section
variable {c:Ss->Ss->Bool}
theorem bZ.refl (O:bZ c)(x:Ss):le c x x:=by
 cases h:c x x
 ·exact h
 ·exact O.JF _ _ h
theorem bZ.trans (O:bZ c){x y z:Ss}(h1:le c x y)(h2:le c y z):le c x z:=by
 cases h:c z x
 ·exact h
 ·rcases O.N_ _ y _ h with q|q
  ·exact absurd (q.symm.trans h2) (by simp)
  ·exact absurd (q.symm.trans h1) (by simp)
theorem bZ.of_lt (O:bZ c){x y:Ss}(h:c x y=true):le c x y:=O.JF _ _ h
def el (a:Array Ss)(i:Nat):Ss:=a.getD i (Value.none,Value.none)
theorem ib {a:Array Ss}{i:Nat}(h:i<a.size):a[i]?=some (el a i):=by
 rw[getElem?_pos a i h,el,SS,getElem?_pos a i h];rfl
theorem uO {a:Array Ss}{i:Nat}{x:Ss}(h:a[i]?=some x):el a i=x:=by
 rw[el,SS,h];rfl
theorem dt {a b:Array Ss}{i j:Nat}(h:a[i]?=b[j]?):el a i=el b j:=by
 rw[el,el,SS,SS,h]
def SR (c:Ss->Ss->Bool)(a:Array Ss)(lo hi:Nat):Prop:=∀i j,lo<=i->i<=j->j<hi->le c (el a i) (el a j)
def e9 (prog:So)(w:SI)(A:TF)(E:Sh->Si->Prop)(s:Si)(κ:UZ)(c:Ss->Ss->Bool)(S:Ss->Prop):Prop :=
 ∀(x y:Ss) (st:Tb) (Q:Option Bool->Tb->Prop),S x->S y->kindOf st=κ->Q (some (c x y)) st->wpS (model prog w) A E s (lt' x y) Q st
end
section
variable {prog:So}{w:SI}{A:TF}{E:Sh->Si->Prop}{s:Si}{κ:UZ}{c:Ss->Ss->Bool}{S:Ss->Prop}
theorem aL {a:Array Ss}{i:Nat}{Q:Ss->Tb->Prop}{st:Tb}(h:i<a.size)(q:Q (el a i) st):wpS (model prog w) A E s (elem' a i) Q st:=by
 rw[elem'_eq,ib h];exact SA q
def dv (c:Ss->Ss->Bool)(left:Bool)(key:Ss)(a:Array Ss)(base i:Nat):Bool:=if left=true then c (el a (base+i)) key else !c key (el a (base+i))
theorem Ci (O:bZ c){left:Bool}{key:Ss}{a:Array Ss}{base n i j:Nat}(hs:SR c a base (base+n))(aJ:i<=j)(hj:j<n)(h:dv c left key a base j=true):dv c left key a base i=true:=by
 have hl:=hs (base+i) (base+j) (by lia) (by lia) (by lia)
 unfold dv at *
 cases left with
 |true =>
  rw[if_pos rfl]at *
  rcases O.N_ _ (el a (base+i)) _ h with q|q
  ·exact absurd (q.symm.trans hl) (by simp)
  ·exact q
 |false =>
  rw[if_neg (by simp)]at *
  rw[VO]at *
  exact O.trans hl h
theorem gR (L:e9 prog w A E s κ c S){left:Bool}{key:Ss}{a:Array Ss}{base n i:Nat}{Q:Option Bool->Tb->Prop}{st:Tb}(hk:kindOf st=κ)(hK:S key)(hA:∀i,i<n->S (el a (base+i)))(hn:base+n<=a.size)(hi:i<n)
  (h:Q (some (dv c left key a base i)) st):wpS (model prog w) A E s (do
   let z <- elem' a (base+i)
   if left then lt' z key else return (<- lt' key z).map (!·):StateT Tb Sem (Option Bool)) Q st:=by
 refine Sw (aL (by lia) ?_)
 unfold dv at h;cases left with
 |true =>
  rw[if_pos rfl]at *
  exact L _ _ st Q (hA i hi) hK hk h
 |false =>
  rw[if_neg (by simp)]at *
  exact Sw (L _ _ st _ hK (hA i hi) hk (SA h))
theorem c7 (O:bZ c)(L:e9 prog w A E s κ c S){left:Bool}{key:Ss}{a:Array Ss}{base n hint:Nat}{Q:Option Nat->Tb->Prop}{st:Tb}(hk:kindOf st=κ)(hK:S key)(hA:∀i,i<n->S (el a (base+i)))(hn:base+n<=a.size)
  (hs:SR c a base (base+n)) (hh:hint<n) (h:∀k,k<=n->(∀i,i<k->dv c left key a base i=true)->(∀i,k<=i->i<n->dv c left key a base i=false)->Q (some k) st) :
  wpS (model prog w) A E s (b6 left key a base n hint) Q st:=by
 rw[tf];dsimp only;have up:∀{i j},i<=j->j<n->dv c left key a base j=true->dv c left key a base i=true:=λh1 h2 h3=>Ci O hs h1 h2 h3;refine Sw (gR L hk hK hA hn hh ?_);dsimp only;have dn:∀{i j},i<=j->j<n->dv c left key a base i=false->dv c left key a base j=false:=λ{i j} h1 h2 h3=>by
  cases q:dv c left key a base j
  ·rfl
  ·rw[up h1 h2 q]at h3;exact absurd h3 (by simp)
 cases CZ:dv c left key a base hint with
 |true =>
  rw[if_pos rfl];refine Sw (Uj (TL (I:=λx r az=>az=st/\∃be cP,r=(none,be,cP)/\hint+be<n/\be<cP/\x+1<=cP/\dv c left key a base (hint+be)=true)
   (Q:=λr az=>az=st/\∃be cP,r=(none,be,cP)/\hint+be<n/\be<cP/\dv c left key a base (hint+be)=true/\(n-hint<=cP\/(hint+cP<n/\dv c left key a base (hint+cP)=false))) ?_ ?_ ?_) ?_)
  ·rintro x r az _ hx ⟨rfl,be,cP,rfl,h1,h2,h3,h4⟩;dsimp only
   by_cases hr:cP >= n-hint
   ·rw[if_pos hr];exact SA ⟨rfl,be,cP,rfl,h1,h2,h4,.inl hr⟩
   ·rw[if_neg hr];refine Sw (gR L hk hK hA hn (by omega) ?_)
    dsimp only;cases hb:dv c left key a base (hint+cP)with
    |true =>
     rw[if_neg (by simp)]
     exact SA ⟨rfl,cP,_,rfl,by omega,by omega,by omega,hb⟩
    |false =>
     rw[if_pos (by simp)]
     exact SA ⟨rfl,be,cP,rfl,h1,h2,h4,.inr ⟨by omega,hb⟩⟩
  ·rintro r az ⟨rfl,be,cP,rfl,h1,h2,h3,h4⟩;exact⟨rfl,be,cP,rfl,h1,h2,h4,.inl (by omega)⟩
  ·exact⟨rfl,0,1,rfl,by omega,by omega,by omega,CZ⟩
  rintro r az ⟨e0,be,cP,rfl,h1,h2,h4,h5⟩;rw[e0];dsimp only;have g1:∀i,i<hint+be+1->dv c left key a base i=true:=λi hi=>up (j:=hint+be) (by omega) h1 h4
  have g2:∀i,hint+min cP (n-hint)<=i->i<n->dv c left key a base i=false:=λi hi d9=>by
   rcases h5 with q|⟨q1,q2⟩
   ·omega
   ·exact dn (i:=hint+cP) (by omega) d9 q2
  refine Sw (Uj (TL (I:=λx r az=>az=st/\∃u v,r=(none,u,v)/\u<=v/\v<=n/\v-u<=n-x/\(∀i,i<u->dv c left key a base i=true)/\(∀i,v<=i->i<n->dv c left key a base i=false))
   (Q:=λr az=>az=st/\∃v,r=(none,v,v)/\v<=n/\(∀i,i<v->dv c left key a base i=true)/\(∀i,v<=i->i<n->dv c left key a base i=false)) ?_ ?_ ?_) ?_)
  ·rintro x r az _ hx ⟨rfl,u,v,rfl,h1,h2,h3,h4,h5⟩;dsimp only
   by_cases HZ:u >= v
   ·rw[if_pos HZ];obtain rfl:u=v:=by omega
    exact SA ⟨rfl,u,rfl,h2,h4,h5⟩
   ·rw[if_neg HZ];refine Sw (gR L hk hK hA hn (by omega) ?_)
    dsimp only;cases hb:dv c left key a base (u+(v-u) / 2)with
    |true =>
     rw[if_pos rfl];exact SA ⟨rfl,_,v,rfl,by omega,h2,by omega,λi hi=>up (j:=u+(v-u) / 2) (by omega) (by omega) hb,h5⟩
    |false =>
     rw[if_neg (by simp)]
     exact SA ⟨rfl,u,_,rfl,by omega,by omega,by omega,h4,λi hi d9=>dn (i:=u+(v-u) / 2) (by omega) (by omega) hb⟩
  ·rintro r az ⟨rfl,u,v,rfl,h1,h2,h3,h4,h5⟩;obtain rfl:u=v:=by omega
   exact⟨rfl,u,rfl,h2,h4,h5⟩
  ·exact⟨rfl,_,_,rfl,by omega,by omega,by omega,by assumption,by assumption⟩
  ·rintro r az ⟨rfl,v,rfl,h2,h4,h5⟩;exact SA (h v h2 h4 h5)
 |false =>
  rw[if_neg (by simp)]
  refine Sw (Uj (TL (I:=λx r az=>az=st/\∃be cP,r=(none,be,cP)/\be<=hint/\be<cP/\x+1<=cP/\dv c left key a base (hint-be)=false)
   (Q:=λr az=>az=st/\∃be cP,r=(none,be,cP)/\be<=hint/\be<cP/\dv c left key a base (hint-be)=false/\(hint+1<=cP\/(cP<=hint/\dv c left key a base (hint-cP)=true))) ?_ ?_ ?_) ?_)
  ·rintro x r az _ hx ⟨rfl,be,cP,rfl,h1,h2,h3,h4⟩;dsimp only
   by_cases hr:cP >= hint+1
   ·rw[if_pos hr];exact SA ⟨rfl,be,cP,rfl,h1,h2,h4,.inl hr⟩
   ·rw[if_neg hr];refine Sw (gR L hk hK hA hn (by omega) ?_)
    dsimp only;cases hb:dv c left key a base (hint-cP)with
    |true =>
     rw[if_pos rfl];exact SA ⟨rfl,be,cP,rfl,h1,h2,h4,.inr ⟨by omega,hb⟩⟩
    |false =>
     rw[if_neg (by simp)]
     exact SA ⟨rfl,cP,_,rfl,by omega,by omega,by omega,hb⟩
  ·rintro r az ⟨rfl,be,cP,rfl,h1,h2,h3,h4⟩;exact⟨rfl,be,cP,rfl,h1,h2,h4,.inl (by omega)⟩
  ·exact⟨rfl,0,1,rfl,by omega,by omega,by omega,CZ⟩
  rintro r az ⟨e0,be,cP,rfl,h1,h2,h4,h5⟩;rw[e0];dsimp only;have g1:∀i,i<hint+1-min cP (hint+1)->dv c left key a base i=true:=λi hi=>by
   rcases h5 with q|⟨q1,q2⟩
   ·omega
   ·exact up (j:=hint-cP) (by omega) (by omega) q2
  have g2:∀i,hint-be<=i->i<n->dv c left key a base i=false:=λi hi d9=>dn (i:=hint-be) hi d9 h4;refine Sw (Uj (TL (I:=λx r az=>az=st/\∃u v,r=(none,u,v)/\u<=v/\v<=n/\v-u<=n-x/\(∀i,i<u->dv c left key a base i=true)/\(∀i,v<=i->i<n->dv c left key a base i=false))
   (Q:=λr az=>az=st/\∃v,r=(none,v,v)/\v<=n/\(∀i,i<v->dv c left key a base i=true)/\(∀i,v<=i->i<n->dv c left key a base i=false)) ?_ ?_ ?_) ?_)
  ·rintro x r az _ hx ⟨rfl,u,v,rfl,h1,h2,h3,h4,h5⟩;dsimp only
   by_cases HZ:u >= v
   ·rw[if_pos HZ];obtain rfl:u=v:=by omega
    exact SA ⟨rfl,u,rfl,h2,h4,h5⟩
   ·rw[if_neg HZ];refine Sw (gR L hk hK hA hn (by omega) ?_)
    dsimp only;cases hb:dv c left key a base (u+(v-u) / 2)with
    |true =>
     rw[if_pos rfl];exact SA ⟨rfl,_,v,rfl,by omega,h2,by omega,λi hi=>up (j:=u+(v-u) / 2) (by omega) (by omega) hb,h5⟩
    |false =>
     rw[if_neg (by simp)]
     exact SA ⟨rfl,u,_,rfl,by omega,by omega,by omega,h4,λi hi d9=>dn (i:=u+(v-u) / 2) (by omega) (by omega) hb⟩
  ·rintro r az ⟨rfl,u,v,rfl,h1,h2,h3,h4,h5⟩;obtain rfl:u=v:=by omega
   exact⟨rfl,u,rfl,h2,h4,h5⟩
  ·exact⟨rfl,_,_,rfl,by omega,by omega,by omega,by assumption,by assumption⟩
  ·rintro r az ⟨rfl,v,rfl,h2,h4,h5⟩;exact SA (h v h2 h4 h5)
end
section
variable {c:Ss->Ss->Bool}{p q:Array Ss}{t:List Ss}{i j:Nat}
theorem ub {a:Array Ss}{i:Nat}(h:i<a.size):a.toList.take (i+1)=a.toList.take i++[el a i]:=by
 have e:a.toList[i]?=some (el a i):=by rw[SK];exact ib h
 rw[Xn,e];rfl
theorem uP {a:Array Ss}{i:Nat}(h:i<a.size):a.toList.drop i=el a i::a.toList.drop (i+1):=by
 have hl:i<a.toList.length:=by rw[Sv];exact h
 have e:a.toList[i]=el a i:=by
  have h1:=Sk hl;rw[SK,ib h]at h1;exact(S8 h1).symm
 rw[TJ hl,e]
structure Mg (c:Ss->Ss->Bool)(p q:Array Ss)(t:List Ss)(i j:Nat):Prop where
 hi:i<=p.size
 hj:j<=q.size
 perm:t.Perm (p.toList.take i++q.toList.take j)
 gi:t.Pairwise (le c)
 ap:∀x∈t,∀k,i<=k->k<p.size->le c x (el p k)
 aq:∀x∈t,∀k,j<=k->k<q.size->le c x (el q k)
def Gd (c:Ss->Ss->Bool)(p q:Array Ss)(t:List Ss):Prop:=t.Perm (p.toList++q.toList)/\t.Pairwise (le c)
theorem pq {x:Ss}(h:t.Pairwise (le c))(hx:∀y∈t,le c y x):(t++[x]).Pairwise (le c):=by
 rw[List.pairwise_append];exact⟨h,List.pairwise_singleton _ _,λy hy z hz=>by rw[SF.mp hz];exact hx y hy⟩
theorem Mg.i9 (m:Mg c p q t i j)(hj:j<q.size)(sq:SR c q 0 q.size)(hle:∀k,i<=k->k<p.size->le c (el q j) (el p k)):Mg c p q (t++[el q j]) i (j+1) where
 hi:=m.hi
 hj:=hj
 perm:=by
  rw[ub hj,<- TM];exact m.perm.append_right _
 gi:=pq m.gi λy hy=>m.aq y hy j (Sj _) hj
 ap:=λx hx k h1 h2=>by
  rcases SO.mp hx with h|h
  ·exact m.ap x h k h1 h2
  ·rw[SF.mp h];exact hle k h1 h2
 aq:=λx hx k h1 h2=>by
  rcases SO.mp hx with h|h
  ·exact m.aq x h k (by lia) h2
  ·rw[SF.mp h];exact sq j k (by lia) (by lia) h2
theorem Mg.i_ (m:Mg c p q t i j)(hi:i<p.size)(sp:SR c p 0 p.size)(hle:∀k,j<=k->k<q.size->le c (el p i) (el q k)):Mg c p q (t++[el p i]) (i+1) j where
 hi:=hi
 hj:=m.hj
 perm:=by
  rw[ub hi];refine(m.perm.append_right _).trans ?_;rw[TM,TM];exact Wm _ List.perm_append_comm
 gi:=pq m.gi λy hy=>m.ap y hy i (Sj _) hi
 ap:=λx hx k h1 h2=>by
  rcases SO.mp hx with h|h
  ·exact m.ap x h k (by lia) h2
  ·rw[SF.mp h];exact sp i k (by lia) (by lia) h2
 aq:=λx hx k h1 h2=>by
  rcases SO.mp hx with h|h
  ·exact m.aq x h k h1 h2
  ·rw[SF.mp h];exact hle k h1 h2
theorem fN {a:Array Ss}{i k:Nat}(h:i+k<a.size):(a.toList.drop i).take (k+1)=(a.toList.drop i).take k++[el a (i+k)]:=by
 have e:(a.toList.drop i)[k]?=some (el a (i+k)):=by rw[VF,SK];exact ib h
 rw[Xn,e];rfl
theorem Mg.gU (m:Mg c p q t i j)(sp:SR c p 0 p.size):∀(k:Nat),i+k<=p.size->(∀x,x<k->∀y,j<=y->y<q.size->le c (el p (i+x)) (el q y))->Mg c p q (t++(p.toList.drop i).take k) (i+k) j
 |0,_,_=>by simpa using m
 |k+1,h,hle=>by
  have m':=Mg.gU m sp k (by lia) λx hx=>hle x (by lia)
  rw[fN (by lia),<- TM,<- Nat.add_assoc]
  exact m'.i_ (by lia) sp (hle k (by lia))
theorem Mg.gT (m:Mg c p q t i j)(sq:SR c q 0 q.size):∀(k:Nat),j+k<=q.size->(∀x,x<k->∀y,i<=y->y<p.size->le c (el q (j+x)) (el p y))->Mg c p q (t++(q.toList.drop j).take k) i (j+k)
 |0,_,_=>by simpa using m
 |k+1,h,hle=>by
  have m':=Mg.gT m sq k (by lia) λx hx=>hle x (by lia)
  rw[fN (by lia),<- TM,<- Nat.add_assoc]
  exact m'.i9 (by lia) sq (hle k (by lia))
theorem Mg.full (m:Mg c p q t p.size q.size):Gd c p q t:=by
 refine⟨?_,m.gi⟩;have h:=m.perm;rw[Ud (by rw[Sv];lia),Ud (by rw[Sv];lia)]at h
 exact h
theorem bY (a:Array Ss)(i j:Nat):(a.extract i j).toList=(a.toList.drop i).take (j-i):=by
 rw[Ww,VI]
theorem qN {a:Array Ss}{i j:Nat}(h:a.size<=i):(a.toList.drop i).take (j-i)=[]:=by
 rw[V5 (by rw[Sv];exact h)]
 simp
theorem Mg.done {to:Array Ss}(m:Mg c p q to.toList i j)(sp:SR c p 0 p.size)(sq:SR c q 0 q.size)(h:i=p.size\/j=q.size):Gd c p q (to++p.extract i p.size++q.extract j q.size).toList:=by
 rw[T8,T8,bY,bY];rcases h with rfl|rfl
 ·rw[qN (Sj _),Uo];have m':=m.gT sq (q.size-j) (by have:=m.hj;lia) λx hx y h1 h2=>by lia
  rw[show j+(q.size-j)=q.size by have:=m.hj;lia]at m'
  exact m'.full
 ·rw[qN (a:=q) (Sj _),Uo];have m':=m.gU sp (p.size-i) (by have:=m.hi;lia) λx hx y h1 h2=>by lia
  rw[show i+(p.size-i)=p.size by have:=m.hi;lia]at m'
  exact m'.full
theorem Mg.tail {to:Array Ss}(O:bZ c)(m:Mg c p q to.toList i j)(sp:SR c p 0 p.size)(sq:SR c q 0 q.size)(h:i+1=p.size)(hl:∀y,y<q.size->c (el q y) (el p (p.size-1))=true):Gd c p q (to++q.extract j q.size++p.extract i p.size).toList:=by
 rw[T8,T8,bY,bY];have m':=m.gT sq (q.size-j) (by have:=m.hj;lia) λx hx y h1 h2=>by
  rw[show y=p.size-1 by lia]
  exact O.of_lt (hl _ (by lia))
 rw[show j+(q.size-j)=q.size by have:=m.hj;lia]at m'
 have m2:=m'.gU sp (p.size-i) (by have:=m.hi;lia) λx hx y h1 h2=>by lia
 rw[show i+(p.size-i)=p.size by have:=m.hi;lia]at m2
 exact m2.full
theorem uY (to a:Array Ss)(i k:Nat):(to++a.extract i (i+k)).toList=to.toList++(a.toList.drop i).take k:=by
 rw[T8,bY,show i+k-i=k by lia]
theorem Mg.start (O:bZ c)(sp:SR c p 0 p.size)(sq:SR c q 0 q.size)(hq:0<q.size)(hp:0<p.size)(h:c (el q 0) (el p 0)=true):Mg c p q [el q 0] 0 1:=by
 have m:Mg c p q [] 0 0:=⟨SH _,SH _,(by simp),.nil,(λx hx=>by cases hx),(λx hx=>by cases hx)⟩
 exact m.i9 hq sq λk _ hk=>O.trans (O.of_lt h) (sp 0 k (by lia) (by lia) hk)
end
structure i5 (st az:Tb):Prop where
 kind:kindOf az=kindOf st
 arr:Te az=Te st
 pend:S3 az=S3 st
 fail:Vb az=Vb st
theorem i5.refl (st:Tb):i5 st st:=⟨rfl,rfl,rfl,rfl⟩
theorem i5.C3 {st az:Tb}(e:i5 st az)(g:Nat):i5 st (b9 az g):=⟨e.kind,e.arr,e.pend,e.fail⟩
abbrev RI:=Array Ss×Nat×Nat×Nat×Nat
abbrev RG:=Array Ss×Nat×Nat×Nat×Nat×Nat
abbrev RO:=Array Ss×Nat×Nat×Nat
def LL (p q t:Array Ss)(i j mg m n:Nat):StateT Tb Sem (ForInStep (Option (Array Ss)×RG)):=do
 let z <- elem' p i
 if (i+1+1==p.size)=true then pure (.done (some (t.push z++q.extract j++p.extract (i+1)),t.push z,i+1,j,mg,m,n))
 else if (decide (m<7)&&decide (n<7))=true then pure (.done (none,t.push z,i+1,j,mg,m,n)) else pure (.yield (none,t.push z,i+1,j,mg,m,n))
def LM (p q t:Array Ss)(i j mg m n:Nat):StateT Tb Sem (ForInStep (Option (Array Ss)×RG)):=do
 let y <- elem' q j
 if (j+1==q.size)=true then pure (.done (some (t.push y++p.extract i++q.extract (j+1)),t.push y,i,j+1,mg,m,n))
 else do
  let x <- elem' p i
  let r <- b6 true x q (j+1) (q.size-(j+1)) 0
  match r with
  |some k=>if k>0 then (if (j+1+k==q.size)=true then pure (.done (some (t.push y++q.extract (j+1) (j+1+k)++p.extract i++q.extract (j+1+k)),t.push y++q.extract (j+1) (j+1+k),i,j+1+k,mg,m,k))
    else LL p q (t.push y++q.extract (j+1) (j+1+k)) i (j+1+k) mg m k) else LL p q (t.push y) i (j+1) mg m k
  |_=>pure (.done (some (t.push y++p.extract i++q.extract (j+1)),t.push y,i,j+1,mg,m,n))
def HC (p q t:Array Ss)(i j mg m n:Nat):StateT Tb Sem (ForInStep (Option (Array Ss)×RG)):=do
 modify λst=>b9 st mg
 let y <- elem' q j
 let r <- b6 false y p i (p.size-i) 0
 match r with
 |some k=>if k>0 then (if (i+k+1==p.size)=true then pure (.done (some (t++p.extract i (i+k)++q.extract j++p.extract (i+k)),t++p.extract i (i+k),i+k,j,mg,k,n))
   else if (i+k==p.size)=true then pure (.done (some (t++p.extract i (i+k)++p.extract (i+k)++q.extract j),t++p.extract i (i+k),i+k,j,mg,k,n))
   else LM p q (t++p.extract i (i+k)) (i+k) j mg k n) else LM p q t i j mg k n
 |_=>pure (.done (some (t++p.extract i++q.extract j),t,i,j,mg,m,n))
def P8 (p q:Array Ss)(s:Option (Array Ss)×RG):StateT Tb Sem (ForInStep (Option (Array Ss)×RG)):=if s.2.2.2.2.1>1 then HC p q s.2.1 s.2.2.1 s.2.2.2.1 (s.2.2.2.2.1-1) s.2.2.2.2.2.1 s.2.2.2.2.2.2 else HC p q s.2.1 s.2.2.1 s.2.2.2.1 s.2.2.2.2.1 s.2.2.2.2.2.1 s.2.2.2.2.2.2
def HB (p q:Array Ss)(mg:Nat)(s:Option (Array Ss)×RI):StateT Tb Sem (ForInStep (Option (Array Ss)×RI)):=do
 let y <- elem' q s.2.2.2.1
 if (s.2.2.2.1+1==q.size)=true then pure (.done (some (s.2.1.push y++p.extract s.2.2.1++q.extract (s.2.2.2.1+1)),s.2.1.push y,s.2.2.1,s.2.2.2.1+1,0,s.2.2.2.2.2+1))
 else if s.2.2.2.2.2+1 >= mg then pure (.done (none,s.2.1.push y,s.2.2.1,s.2.2.2.1+1,0,s.2.2.2.2.2+1)) else pure (.yield (none,s.2.1.push y,s.2.2.1,s.2.2.2.1+1,0,s.2.2.2.2.2+1))
def HA (p q:Array Ss)(mg:Nat)(s:Option (Array Ss)×RI):StateT Tb Sem (ForInStep (Option (Array Ss)×RI)):=do
 let x <- elem' p s.2.2.1
 if (s.2.2.1+1+1==p.size)=true then pure (.done (some (s.2.1.push x++q.extract s.2.2.2.1++p.extract (s.2.2.1+1)),s.2.1.push x,s.2.2.1+1,s.2.2.2.1,s.2.2.2.2.1+1,0))
 else if s.2.2.2.2.1+1 >= mg then pure (.done (none,s.2.1.push x,s.2.2.1+1,s.2.2.2.1,s.2.2.2.2.1+1,0)) else pure (.yield (none,s.2.1.push x,s.2.2.1+1,s.2.2.2.1,s.2.2.2.2.1+1,0))
def LK (p q:Array Ss)(mg:Nat)(s:Option (Array Ss)×RI):StateT Tb Sem (ForInStep (Option (Array Ss)×RI)):=do
 let y <- elem' q s.2.2.2.1
 let x <- elem' p s.2.2.1
 let r <- lt' y x
 match r with
 |some DA=>if DA=true then HB p q mg s else HA p q mg s
 |_=>pure (.done (some (s.2.1++p.extract s.2.2.1++q.extract s.2.2.2.1),s.2.1,s.2.2.1,s.2.2.2.1,s.2.2.2.2.1,s.2.2.2.2.2))
def Of (p q:Array Ss)(s:Option (Array Ss)×RO):StateT Tb Sem (ForInStep (Option (Array Ss)×RO)):=do
 let s1 <- forIn [:p.size+q.size] ((none,s.2.1,s.2.2.1,s.2.2.2.1,0,0):Option (Array Ss)×RI) λ_ r=>LK p q s.2.2.2.2 r
 match s1.1 with
 |some r=>pure (.done (some r,s1.2.1,s1.2.2.1,s1.2.2.2.1,s.2.2.2.2))
 |none=>do
  liftM (rule "list.sort.gallop")
  let s2 <- forIn [:p.size+q.size] ((none,s1.2.1,s1.2.2.1,s1.2.2.2.1,s.2.2.2.2+1,s1.2.2.2.2.1,s1.2.2.2.2.2):Option (Array Ss)×RG) λ_ r=>P8 p q r
  match s2.1 with
  |some r=>pure (.done (some r,s2.2.1,s2.2.2.1,s2.2.2.2.1,s2.2.2.2.2.1))
  |none=>do
   modify λst=>b9 st (s2.2.2.2.2.1+1)
   pure (.yield (none,s2.2.1,s2.2.2.1,s2.2.2.2.1,s2.2.2.2.2.1+1))
theorem p_ (p q:Array Ss):hJ p q=(do
  liftM (rule "list.sort.merge-lo")
  let y <- elem' q 0
  if (1==q.size)=true then pure (#[y]++p.extract 0++q.extract 1)
  else if (0+1==p.size)=true then pure (#[y]++q.extract 1++p.extract 0)
  else do
   let st <- get
   let s <- forIn [:p.size+q.size] ((none,#[y],0,1,gallopOf st):Option (Array Ss)×RO) λ_ s=>Of p q s
   match s.1 with
   |some r=>pure r
   |none=>liftM (unsupported "internal:list.sort.merge-bound" : Sem (Array Ss))):=by
 rw[p0];dsimp only;refine congrArg (bind _) (funext λ_=>?_);refine congrArg (bind _) (funext λy=>?_);refine congrArg (ite _ _) (congrArg (ite _ _) ?_);refine congrArg (bind _) (funext λy=>?_);refine congr (congrArg bind (congrArg _ (funext λ_=>funext λs=>?_))) (funext λs=>?_)
 ·refine congr (congrArg bind (congrArg _ (funext λ_=>funext λs=>?_))) (funext λs=>?_)
  ·rfl
  ·cases s.1
   ·refine congrArg (bind _) (funext λ_=>?_);refine congr (congrArg bind (congrArg _ (funext λ_=>funext λs=>?_))) (funext λs=>?_)
    ·rfl
    ·cases s.1 <;> rfl
   ·rfl
 ·cases s.1 <;> rfl
section
variable {prog:So}{w:SI}{A:TF}{E:Sh->Si->Prop}{s:Si}{κ:UZ}{c:Ss->Ss->Bool}{S:Ss->Prop}{p q:Array Ss}
theorem wW {st:Tb}{Q:ForInStep (Option (Array Ss)×RG)->Tb->Prop}{t:Array Ss}{i j mg m n:Nat}(O:bZ c)(sp:SR c p 0 p.size)(sq:SR c q 0 q.size)(hl:∀y,y<q.size->c (el q y) (el p (p.size-1))=true)(m3:Mg c p q t.toList i j)(hi:i+1<p.size)(g3:∀y,j<=y->y<q.size->le c (el p i) (el q y))
  (hd:∀out r,Gd c p q out.toList->Q (.done (some out,r)) st) (hn:∀t' m n,Mg c p q t'.toList (i+1) j->i+1+1<p.size->Q (.done (none,t',i+1,j,mg,m,n)) st/\Q (.yield (none,t',i+1,j,mg,m,n)) st):wpS (model prog w) A E s (LL p q t i j mg m n) Q st:=by
 refine Sw (aL (by lia) ?_)
 have m4:Mg c p q (t.push (el p i)).toList (i+1) j:=by
  rw[Ul];exact m3.i_ (by lia) sp g3
 by_cases e5:(i+1+1==p.size)=true
 ·rw[if_pos e5];exact SA (hd _ _ (m4.tail O sp sq (by simpa using e5) hl))
 rw[if_neg e5];have h5:i+1+1≠p.size:=by simpa using e5
 obtain⟨h6,h7⟩:=hn (t.push (el p i)) m n m4 (by lia)
 split
 ·exact SA h6
 ·exact SA h7
theorem wX {st:Tb}{Q:ForInStep (Option (Array Ss)×RG)->Tb->Prop}{t:Array Ss}{i j mg m n:Nat}(O:bZ c)(L:e9 prog w A E s κ c S)(hk:kindOf st=κ)(Sp:∀i,i<p.size->S (el p i))(Sq:∀i,i<q.size->S (el q i))(sp:SR c p 0 p.size)(sq:SR c q 0 q.size)(hl:∀y,y<q.size->c (el q y) (el p (p.size-1))=true)(m1:Mg c p q t.toList i j)(hi:i+1<p.size)(hj:j<q.size)(g1:∀y,i<=y->y<p.size->le c (el q j) (el p y))
  (hd:∀out r,Gd c p q out.toList->Q (.done (some out,r)) st) (hn:∀t' j' m n,Mg c p q t'.toList (i+1) j'->i+1+1<p.size->j<j'->j'<q.size->Q (.done (none,t',i+1,j',mg,m,n)) st/\Q (.yield (none,t',i+1,j',mg,m,n)) st):wpS (model prog w) A E s (LM p q t i j mg m n) Q st:=by
 refine Sw (aL hj ?_);have m2:Mg c p q (t.push (el q j)).toList i (j+1):=by
  rw[Ul];exact m1.i9 hj sq g1
 by_cases e3:(j+1==q.size)=true
 ·rw[if_pos e3];exact SA (hd _ _ (m2.done sp sq (.inr (by simpa using e3))))
 rw[if_neg e3];have h3:j+1≠q.size:=by simpa using e3
 refine Sw (aL (by lia) (Sw (c7 O L hk (Sp _ (by lia)) (λx hx=>Sq _ (by lia)) (by lia) (λa b h1 h2 h3=>sq a b (by lia) h2 (by lia)) (by lia) λk k1 k2 k3=>?_)))
 have g3:∀y,j+1+k<=y->y<q.size->le c (el p i) (el q y):=λy h1 h2=>by
  have:=k3 (y-(j+1)) (by lia) (by lia)
  unfold dv at this;rw[if_pos rfl,show j+1+(y-(j+1))=y by lia]at this
  exact this
 dsimp only
 by_cases ze:k>0
 ·rw[if_pos ze];have m3:Mg c p q (t.push (el q j)++q.extract (j+1) (j+1+k)).toList i (j+1+k):=by
   rw[uY];exact m2.gT sq k (by lia) λx hx y h1 h2=>O.trans (O.of_lt (show c (el q (j+1+x)) (el p i)=true from k2 x hx)) (sp _ y (by lia) h1 h2)
  by_cases e4:(j+1+k==q.size)=true
  ·rw[if_pos e4];exact SA (hd _ _ (m3.done sp sq (.inr (by simpa using e4))))
  rw[if_neg e4];have h4:j+1+k≠q.size:=by simpa using e4
  exact wW O sp sq hl m3 hi g3 hd λt' m n h1 h2=>hn t' _ m n h1 h2 (by lia) (by lia)
 ·rw[if_neg ze];exact wW O sp sq hl m2 hi (λy h1 h2=>g3 y (by lia) h2) hd λt' m n h1 h2=>hn t' _ m n h1 h2 (by lia) (by lia)
theorem Du {st:Tb}{Q:ForInStep (Option (Array Ss)×RG)->Tb->Prop}{t:Array Ss}{i j mg m n:Nat}(O:bZ c)(L:e9 prog w A E s κ c S)(hk:kindOf st=κ)(Sp:∀i,i<p.size->S (el p i))(Sq:∀i,i<q.size->S (el q i))(sp:SR c p 0 p.size)(sq:SR c q 0 q.size)(hl:∀y,y<q.size->c (el q y) (el p (p.size-1))=true)(m0:Mg c p q t.toList i j)(hi:i+1<p.size)(hj:j<q.size)
  (hd:∀out r,Gd c p q out.toList->Q (.done (some out,r)) (b9 st mg)) (hn:∀t' i' j' m n,Mg c p q t'.toList i' j'->i'+1<p.size->j'<q.size->i+j<i'+j'->Q (.done (none,t',i',j',mg,m,n)) (b9 st mg)/\Q (.yield (none,t',i',j',mg,m,n)) (b9 st mg)):wpS (model prog w) A E s (HC p q t i j mg m n) Q st:=by
 refine Sw (UN (Sw (aL hj (Sw (c7 O L hk (Sq _ hj) (λx hx=>Sp _ (by lia)) (by lia) (λa b h1 h2 h3=>sp a b (by lia) h2 (by lia)) (by lia) λk k1 k2 k3=>?_)))))
 have g0:∀x,x<k->le c (el p (i+x)) (el q j):=λx hx=>by
  have:=k2 x hx;unfold dv at this;rw[if_neg (by simp),VO]at this
  exact this
 have g1:∀y,i+k<=y->y<p.size->le c (el q j) (el p y):=λy h1 h2=>by
  have:=k3 (y-i) (by lia) (by lia)
  unfold dv at this;rw[if_neg (by simp),WL,show i+(y-i)=y by lia]at this
  exact O.of_lt this
 have RY:i+k<p.size:=by
  rcases TZ (i+k) p.size with fz|R4
  ·exact fz
  ·have h1:=g0 (p.size-1-i) (by lia)
   rw[show i+(p.size-1-i)=p.size-1 by lia]at h1
   exact absurd ((hl j hj).symm.trans h1) (by simp)
 dsimp only
 by_cases ze:k>0
 ·rw[if_pos ze];have m1:Mg c p q (t++p.extract i (i+k)).toList (i+k) j:=by
   rw[uY];exact m0.gU sp k (by lia) λx hx y h1 h2=>O.trans (g0 x hx) (sq j y (by lia) h1 h2)
  by_cases e1:(i+k+1==p.size)=true
  ·rw[if_pos e1];exact SA (hd _ _ (m1.tail O sp sq (by simpa using e1) hl))
  rw[if_neg e1];have BV:i+k+1≠p.size:=by simpa using e1
  rw[if_neg (by simp;lia)]
  exact wX O L hk Sp Sq sp sq hl m1 (by lia) hj g1 hd λt' j' m n h1 h2 h3 h4=>hn t' _ j' m n h1 h2 h4 (by lia)
 ·rw[if_neg ze];exact wX O L hk Sp Sq sp sq hl m0 hi hj (λy h1 h2=>g1 y (by lia) h2) hd λt' j' m n h1 h2 h3 h4=>hn t' _ j' m n h1 h2 h4 (by lia)
theorem Dt {st:Tb}{Q:ForInStep (Option (Array Ss)×RI)->Tb->Prop}{t:Array Ss}{i j mg ma na:Nat}(O:bZ c)(L:e9 prog w A E s κ c S)(hk:kindOf st=κ)(Sp:∀i,i<p.size->S (el p i))(Sq:∀i,i<q.size->S (el q i))(sp:SR c p 0 p.size)(sq:SR c q 0 q.size)(hl:∀y,y<q.size->c (el q y) (el p (p.size-1))=true)(m:Mg c p q t.toList i j)(hi:i+1<p.size)(hj:j<q.size)
  (hd:∀out r,Gd c p q out.toList->Q (.done (some out,r)) st) (hn:∀t' i' j' m n,Mg c p q t'.toList i' j'->i'+1<p.size->j'<q.size->i+j<i'+j'->Q (.done (none,t',i',j',m,n)) st/\Q (.yield (none,t',i',j',m,n)) st):wpS (model prog w) A E s (LK p q mg (none,t,i,j,ma,na)) Q st:=by
 unfold LK HB HA;dsimp only;refine Sw (aL hj (Sw (aL (by lia) (Sw (L _ _ st _ (Sq _ hj) (Sp _ (by lia)) hk ?_)))))
 dsimp only;cases hc:c (el q j) (el p i)with
 |true =>
  rw[if_pos rfl];refine Sw (aL hj ?_);have m1:Mg c p q (t.push (el q j)).toList i (j+1):=by
   rw[Ul];exact m.i9 hj sq λk h1 h2=>O.trans (O.of_lt hc) (sp i k (by lia) h1 h2)
  by_cases e3:(j+1==q.size)=true
  ·rw[if_pos e3];exact SA (hd _ _ (m1.done sp sq (.inr (by simpa using e3))))
  rw[if_neg e3];have h3:j+1≠q.size:=by simpa using e3
  obtain⟨h6,h7⟩:=hn _ _ _ 0 (na+1) m1 hi (by lia) (by lia)
  split
  ·exact SA h6
  ·exact SA h7
 |false =>
  rw[if_neg (by simp)]
  refine Sw (aL (by lia) ?_)
  have m1:Mg c p q (t.push (el p i)).toList (i+1) j:=by
   rw[Ul];exact m.i_ (by lia) sp λk h1 h2=>O.trans (show le c (el p i) (el q j) from hc) (sq j k (by lia) h1 h2)
  by_cases e3:(i+1+1==p.size)=true
  ·rw[if_pos e3];exact SA (hd _ _ (m1.tail O sp sq (by simpa using e3) hl))
  rw[if_neg e3];have h3:i+1+1≠p.size:=by simpa using e3
  obtain⟨h6,h7⟩:=hn _ _ _ (ma+1) 0 m1 (by lia) hj (by lia)
  split
  ·exact SA h6
  ·exact SA h7
theorem rG (O:bZ c)(L:e9 prog w A E s κ c S){Q:Array Ss->Tb->Prop}{st:Tb}(hk:kindOf st=κ)(Sp:∀i,i<p.size->S (el p i))(Sq:∀i,i<q.size->S (el q i))(sp:SR c p 0 p.size)(sq:SR c q 0 q.size)
  (hp:0<p.size) (hq:0<q.size) (hf:c (el q 0) (el p 0)=true) (hl:∀y,y<q.size->c (el q y) (el p (p.size-1))=true) (h:∀to az,i5 st az->Gd c p q to.toList->Q to az) :
  wpS (model prog w) A E s (hJ p q) Q st:=by
 rw[p_];refine Sw (Wq (UO ⟨rfl,?_⟩));refine Sw (aL hq ?_);have m0:Mg c p q (#[el q 0]:Array Ss).toList 0 1:=Mg.start O sp sq hq hp hf
 by_cases h1:(1==q.size)=true
 ·rw[if_pos h1];exact SA (h _ st (i5.refl st) (m0.done sp sq (.inr (by simpa using h1))))
 rw[if_neg h1]
 by_cases h2:(0+1==p.size)=true
 ·rw[if_pos h2];exact SA (h _ st (i5.refl st) (m0.tail O sp sq (by simpa using h2) hl))
 rw[if_neg h2];refine Sw (VJ ?_);refine Sw (Uj (TL
  (I:=λx r az=>i5 st az/\∃to i j mg,r=(none,to,i,j,mg)/\Mg c p q to.toList i j/\i+1<p.size/\j<q.size/\x<i+j)
  (Q:=λr az=>i5 st az/\∃out r',r=(some out,r')/\Gd c p q out.toList) ?_ ?_ ?_) ?_)
 ·rintro x r az _ hx ⟨e,to,i,j,mg,rfl,m,hi,hj,hb⟩;unfold Of;dsimp only;refine Sw (Uj (TL
   (I:=λy r az=>i5 st az/\∃to i j m n,r=(none,to,i,j,m,n)/\Mg c p q to.toList i j/\i+1<p.size/\j<q.size/\x+min y 1<i+j)
   (Q:=λr az=>i5 st az/\((∃out r',r=(some out,r')/\Gd c p q out.toList)\/∃to i j m n,r=(none,to,i,j,m,n)/\Mg c p q to.toList i j/\i+1<p.size/\j<q.size/\x+1<i+j)) ?_ ?_ ?_) ?_)
  ·rintro y r e_ _ hy ⟨e2,to,i,j,ma,na,rfl,m,hi,hj,hb⟩;exact Dt O L (e2.kind.trans hk) Sp Sq sp sq hl m hi hj (λout r h=>⟨e2,.inl ⟨_,_,rfl,h⟩⟩) λt' i' j' m n h1 h2 h3 h4=>⟨⟨e2,.inr ⟨_,_,_,_,_,rfl,h1,h2,h3,by lia⟩⟩,⟨e2,_,_,_,_,_,rfl,h1,h2,h3,by lia⟩⟩
  ·rintro r e_ ⟨e2,to,i,j,ma,na,rfl,m,hi,hj,hb⟩;exact⟨e2,.inr ⟨_,_,_,_,_,rfl,m,hi,hj,by lia⟩⟩
  ·exact⟨e,_,_,_,_,_,rfl,m,hi,hj,by lia⟩
  rintro r e_ ⟨e2,⟨out,r',rfl,g⟩|⟨to,i,j,ma,na,rfl,m,hi,hj,hb⟩⟩
  ·exact SA ⟨e2,_,_,rfl,g⟩
  dsimp only;refine Sw (Wq (UO ⟨rfl,?_⟩));refine Sw (Uj (TL
   (I:=λy r az=>i5 st az/\∃to i j mg m n,r=(none,to,i,j,mg,m,n)/\Mg c p q to.toList i j/\i+1<p.size/\j<q.size/\x+1<i+j)
   (Q:=λr az=>i5 st az/\((∃out r',r=(some out,r')/\Gd c p q out.toList)\/∃to i j mg m n,r=(none,to,i,j,mg,m,n)/\Mg c p q to.toList i j/\i+1<p.size/\j<q.size/\x+1<i+j)) ?_ ?_ ?_) ?_)
  ·rintro y r e_ _ hy ⟨e2,to,i,j,mg,ma,na,rfl,m,hi,hj,hb⟩;show wpS (model prog w) A E s (if mg>1 then HC p q to i j (mg-1) ma na else HC p q to i j mg ma na) _ e_
   split <;> exact Du O L (e2.kind.trans hk) Sp Sq sp sq hl m hi hj (λout r h=>⟨e2.C3 _,.inl ⟨_,_,rfl,h⟩⟩) λt' i' j' m n h1 h2 h3 h4=>⟨⟨e2.C3 _,.inr ⟨_,_,_,_,_,_,rfl,h1,h2,h3,by lia⟩⟩,⟨e2.C3 _,_,_,_,_,_,_,rfl,h1,h2,h3,by lia⟩⟩
  ·rintro r e_ ⟨e2,to,i,j,mg,ma,na,rfl,m,hi,hj,hb⟩;exact⟨e2,.inr ⟨_,_,_,_,_,_,rfl,m,hi,hj,hb⟩⟩
  ·exact⟨e2,_,_,_,_,_,_,rfl,m,hi,hj,hb⟩
  rintro r e_ ⟨e2,⟨out,r',rfl,g⟩|⟨to,i,j,mg,ma,na,rfl,m,hi,hj,hb⟩⟩
  ·exact SA ⟨e2,_,_,rfl,g⟩
  dsimp only;refine Sw (UN (SA ⟨e2.C3 _,_,_,_,_,rfl,m,hi,hj,by lia⟩))
 ·rintro r az ⟨e,to,i,j,mg,rfl,m,hi,hj,hb⟩
  exfalso
  rw[show max 0 (p.size+q.size)=p.size+q.size by lia]at hb
  lia
 ·exact⟨i5.refl st,_,_,_,_,rfl,m0,by simp at h2;lia,by simp at h1;lia,by lia⟩
 ·rintro r az ⟨e,out,r',rfl,g⟩;exact SA (h _ az e g)
end
section
variable {c:Ss->Ss->Bool}{p q:Array Ss}{t:List Ss}{i j:Nat}
structure Mh (c:Ss->Ss->Bool)(p q:Array Ss)(t:List Ss)(i j:Nat):Prop where
 hi:i<=p.size
 hj:j<=q.size
 perm:t.Perm (p.toList.drop i++q.toList.drop j)
 gi:t.Pairwise (le c)
 ap:∀x∈t,∀k,k<i->le c (el p k) x
 aq:∀x∈t,∀k,k<j->le c (el q k) x
theorem nv {a:Array Ss}{i:Nat}(h0:0<i)(h:i<=a.size):a.toList.drop (i-1)=el a (i-1)::a.toList.drop i:=by
 rw[uP (by lia),show i-1+1=i by lia]
theorem Mh.i_ (m:Mh c p q t i j)(h0:0<i)(sp:SR c p 0 p.size)(hle:∀k,k<j->le c (el q k) (el p (i-1))):Mh c p q (el p (i-1)::t) (i-1) j where
 hi:=by have:=m.hi;lia
 hj:=m.hj
 perm:=by
  rw[nv h0 m.hi];exact m.perm.cons _
 gi:=Uw.mpr ⟨λx hx=>m.ap x hx _ (by lia),m.gi⟩
 ap:=λx hx k hk=>by
  rcases Sr.mp hx with rfl|h
  ·exact sp k (i-1) (by lia) (by lia) (by have:=m.hi;lia)
  ·exact m.ap x h k (by lia)
 aq:=λx hx k hk=>by
  rcases Sr.mp hx with rfl|h
  ·exact hle k hk
  ·exact m.aq x h k hk
theorem Mh.i9 (m:Mh c p q t i j)(h0:0<j)(sq:SR c q 0 q.size)(hle:∀k,k<i->le c (el p k) (el q (j-1))):Mh c p q (el q (j-1)::t) i (j-1) where
 hi:=m.hi
 hj:=by have:=m.hj;lia
 perm:=by
  rw[nv h0 m.hj];exact(m.perm.cons _).trans VZ.symm
 gi:=Uw.mpr ⟨λx hx=>m.aq x hx _ (by lia),m.gi⟩
 ap:=λx hx k hk=>by
  rcases Sr.mp hx with rfl|h
  ·exact hle k hk
  ·exact m.ap x h k hk
 aq:=λx hx k hk=>by
  rcases Sr.mp hx with rfl|h
  ·exact sq k (j-1) (by lia) (by lia) (by have:=m.hj;lia)
  ·exact m.aq x h k (by lia)
theorem mJ {a:Array Ss}{i k:Nat}(h0:k<i)(h:i<=a.size):(a.toList.drop (i-(k+1))).take (k+1)=el a (i-(k+1))::(a.toList.drop (i-k)).take k:=by
 rw[uP (by lia),show i-(k+1)+1=i-k by lia,List.take_succ_cons]
theorem Mh.xk (m:Mh c p q t i j)(sp:SR c p 0 p.size):∀(k:Nat),k<=i->(∀x,i-k<=x->x<i->∀y,y<j->le c (el q y) (el p x))->Mh c p q ((p.toList.drop (i-k)).take k++t) (i-k) j
 |0,_,_=>by simpa using m
 |k+1,h,hle=>by
  have m':=Mh.xk m sp k (by lia) λx h1 h2=>hle x (by lia) h2
  rw[mJ (by lia) m.hi,List.cons_append]
  exact m'.i_ (by lia) sp λy hy=>hle _ (by lia) (by lia) y hy
theorem Mh.xj (m:Mh c p q t i j)(sq:SR c q 0 q.size):∀(k:Nat),k<=j->(∀x,j-k<=x->x<j->∀y,y<i->le c (el p y) (el q x))->Mh c p q ((q.toList.drop (j-k)).take k++t) i (j-k)
 |0,_,_=>by simpa using m
 |k+1,h,hle=>by
  have m':=Mh.xj m sq k (by lia) λx h1 h2=>hle x (by lia) h2
  rw[mJ (by lia) m.hj,List.cons_append]
  exact m'.i9 (by lia) sq λy hy=>hle _ (by lia) (by lia) y hy
theorem Mh.gU (m:Mh c p q t i j)(sp:SR c p 0 p.size){h:Nat}(hh:h<=i)(hle:∀x,h<=x->x<i->∀y,y<j->le c (el q y) (el p x)):Mh c p q ((p.toList.drop h).take (i-h)++t) h j:=by
 have m':=m.xk sp (i-h) (by lia) λx h1 h2=>hle x (by lia) h2
 rw[show i-(i-h)=h by lia]at m'
 exact m'
theorem Mh.gT (m:Mh c p q t i j)(sq:SR c q 0 q.size){h:Nat}(hh:h<=j)(hle:∀x,h<=x->x<j->∀y,y<i->le c (el p y) (el q x)):Mh c p q ((q.toList.drop h).take (j-h)++t) i h:=by
 have m':=m.xj sq (j-h) (by lia) λx h1 h2=>hle x (by lia) h2
 rw[show j-(j-h)=h by lia]at m'
 exact m'
theorem Mh.full (m:Mh c p q t 0 0):Gd c p q t:=⟨m.perm,m.gi⟩
theorem G9 (a b to:Array Ss)(i j:Nat):(a.extract 0 i++b.extract 0 j++to.reverse).toList=(a.toList.drop 0).take (i-0)++((b.toList.drop 0).take (j-0)++to.toList.reverse):=by
 rw[T8,T8,bY,bY,Array.toList_reverse,TM]
theorem Mh.done {to:Array Ss}(m:Mh c p q to.toList.reverse i j)(sp:SR c p 0 p.size)(sq:SR c q 0 q.size)(h:i=0\/j=0):Gd c p q (p.extract 0 i++q.extract 0 j++to.reverse).toList:=by
 rw[G9];rcases h with rfl|rfl
 ·have m':=m.gT sq (h:=0) (SH _) λx _ _ y hy=>by lia
  exact(m'.gU sp (h:=0) (SH _) λx _ hx=>by lia).full
 ·have m':=m.gT sq (h:=0) (SH _) λx _ hx=>by lia
  exact(m'.gU sp (h:=0) (SH _) λx _ hx y hy=>by lia).full
theorem Mh.tail {to:Array Ss}(O:bZ c)(m:Mh c p q to.toList.reverse i j)(sp:SR c p 0 p.size)(sq:SR c q 0 q.size)(h:j=1)(hf:c (el q 0) (el p 0)=true):Gd c p q (q.extract 0 j++p.extract 0 i++to.reverse).toList:=by
 rw[G9];subst h;have m':=m.gU sp (h:=0) (SH _) λx _ hx y hy=>by
  obtain rfl:y=0:=by lia
  exact O.trans (O.of_lt hf) (sp 0 x (by lia) (by lia) (by have:=m.hi;lia))
 exact(m'.gT sq (h:=0) (SH _) λx _ _ y hy=>by lia).full
theorem gZ (to:Array Ss)(x:Ss):(to.push x).toList.reverse=x::to.toList.reverse:=by
 rw[Ul,Vy];rfl
theorem uX (to a:Array Ss)(h i:Nat):(to++(a.extract h i).reverse).toList.reverse=(a.toList.drop h).take (i-h)++to.toList.reverse:=by
 rw[T8,Vy,Array.toList_reverse,List.reverse_reverse,bY]
theorem Mh.start (sp:SR c p 0 p.size)(O:bZ c)(hp:0<p.size)(hl:∀y,y<q.size->c (el q y) (el p (p.size-1))=true):Mh c p q [el p (p.size-1)] (p.size-1) q.size:=by
 have m:Mh c p q [] p.size q.size:=⟨Sj _,Sj _,by rw[V5 (by simp),V5 (by simp)];exact .refl _,.nil,(λx hx=>by cases hx),(λx hx=>by cases hx)⟩
 exact m.i_ hp sp λk hk=>O.of_lt (hl k hk)
end
abbrev RJ:=Nat×Nat×Array Ss×Nat×Nat
abbrev RH:=Nat×Nat×Array Ss×Nat×Nat×Nat
abbrev RP:=Nat×Nat×Array Ss×Nat
def MX (p q t:Array Ss)(i j mg m n:Nat):StateT Tb Sem (ForInStep (Option (Array Ss)×RH)):=do
 let z <- elem' p (i-1)
 if (i-1==0)=true then pure (.done (some (p.extract 0 (i-1)++q.extract 0 j++(t.push z).reverse),i-1,j,t.push z,mg,m,n))
 else if (decide (m<7)&&decide (n<7))=true then pure (.done (none,i-1,j,t.push z,mg,m,n)) else pure (.yield (none,i-1,j,t.push z,mg,m,n))
def MY (p q t:Array Ss)(i j mg m n:Nat):StateT Tb Sem (ForInStep (Option (Array Ss)×RH)):=do
 let y <- elem' q (j-1)
 if (j-1==1)=true then pure (.done (some (q.extract 0 (j-1)++p.extract 0 i++(t.push y).reverse),i,j-1,t.push y,mg,m,n))
 else do
  let x <- elem' p (i-1)
  let r <- b6 true x q 0 (j-1) (j-1-1)
  match r with
  |some h=>if j-1-h>0 then (if (h==1)=true then pure (.done (some (q.extract 0 h++p.extract 0 i++(t.push y++(q.extract h (j-1)).reverse).reverse),i,h,t.push y++(q.extract h (j-1)).reverse,mg,m,j-1-h))
    else if (h==0)=true then pure (.done (some (p.extract 0 i++q.extract 0 h++(t.push y++(q.extract h (j-1)).reverse).reverse),i,h,t.push y++(q.extract h (j-1)).reverse,mg,m,j-1-h))
    else MX p q (t.push y++(q.extract h (j-1)).reverse) i h mg m (j-1-h)) else MX p q (t.push y) i (j-1) mg m (j-1-h)
  |_=>pure (.done (some (p.extract 0 i++q.extract 0 (j-1)++(t.push y).reverse),i,j-1,t.push y,mg,m,n))
def Jd (p q t:Array Ss)(i j mg m n:Nat):StateT Tb Sem (ForInStep (Option (Array Ss)×RH)):=do
 modify λst=>b9 st mg
 let y <- elem' q (j-1)
 let r <- b6 false y p 0 i (i-1)
 match r with
 |some h=>if i-h>0 then (if (h==0)=true then pure (.done (some (p.extract 0 h++q.extract 0 j++(t++(p.extract h i).reverse).reverse),h,j,t++(p.extract h i).reverse,mg,i-h,n))
   else MY p q (t++(p.extract h i).reverse) h j mg (i-h) n) else MY p q t i j mg (i-h) n
 |_=>pure (.done (some (p.extract 0 i++q.extract 0 j++t.reverse),i,j,t,mg,m,n))
def QC (p q:Array Ss)(s:Option (Array Ss)×RH):StateT Tb Sem (ForInStep (Option (Array Ss)×RH)):=if s.2.2.2.2.1>1 then Jd p q s.2.2.2.1 s.2.1 s.2.2.1 (s.2.2.2.2.1-1) s.2.2.2.2.2.1 s.2.2.2.2.2.2 else Jd p q s.2.2.2.1 s.2.1 s.2.2.1 s.2.2.2.2.1 s.2.2.2.2.2.1 s.2.2.2.2.2.2
def MW (p q t:Array Ss)(mg i j m:Nat):StateT Tb Sem (ForInStep (Option (Array Ss)×RJ)):=do
 let x <- elem' p (i-1)
 if (i-1==0)=true then pure (.done (some (p.extract 0 (i-1)++q.extract 0 j++(t.push x).reverse),i-1,j,t.push x,m+1,0))
 else if m+1 >= mg then pure (.done (none,i-1,j,t.push x,m+1,0)) else pure (.yield (none,i-1,j,t.push x,m+1,0))
def MV (p q t:Array Ss)(mg i j n:Nat):StateT Tb Sem (ForInStep (Option (Array Ss)×RJ)):=do
 let y <- elem' q (j-1)
 if (j-1==1)=true then pure (.done (some (q.extract 0 (j-1)++p.extract 0 i++(t.push y).reverse),i,j-1,t.push y,0,n+1))
 else if n+1 >= mg then pure (.done (none,i,j-1,t.push y,0,n+1)) else pure (.yield (none,i,j-1,t.push y,0,n+1))
def OG (p q t:Array Ss)(mg i j m n:Nat):StateT Tb Sem (ForInStep (Option (Array Ss)×RJ)):=do
 let y <- elem' q (j-1)
 let x <- elem' p (i-1)
 let r <- lt' y x
 match r with
 |some DA=>if DA=true then MW p q t mg i j m else MV p q t mg i j n
 |_=>pure (.done (some (p.extract 0 i++q.extract 0 j++t.reverse),i,j,t,m,n))
def OF (p q:Array Ss)(s:Option (Array Ss)×RP):StateT Tb Sem (ForInStep (Option (Array Ss)×RP)):=do
 let s1 <- forIn [:p.size+q.size] ((none,s.2.1,s.2.2.1,s.2.2.2.1,0,0):Option (Array Ss)×RJ) λ_ r=>OG p q r.2.2.2.1 s.2.2.2.2 r.2.1 r.2.2.1 r.2.2.2.2.1 r.2.2.2.2.2
 match s1.1 with
 |some r=>pure (.done (some r,s1.2.1,s1.2.2.1,s1.2.2.2.1,s.2.2.2.2))
 |none=>do
  liftM (rule "list.sort.gallop")
  let s2 <- forIn [:p.size+q.size] ((none,s1.2.1,s1.2.2.1,s1.2.2.2.1,s.2.2.2.2+1,s1.2.2.2.2.1,s1.2.2.2.2.2):Option (Array Ss)×RH) λ_ r=>QC p q r
  match s2.1 with
  |some r=>pure (.done (some r,s2.2.1,s2.2.2.1,s2.2.2.2.1,s2.2.2.2.2.1))
  |none=>do
   modify λst=>b9 st (s2.2.2.2.2.1+1)
   pure (.yield (none,s2.2.1,s2.2.2.1,s2.2.2.2.1,s2.2.2.2.2.1+1))
theorem qb (p q:Array Ss):hV p q=(do
  liftM (rule "list.sort.merge-hi")
  let y <- elem' p (p.size-1)
  if (p.size-1==0)=true then pure (p.extract 0 (p.size-1)++q.extract 0++#[y].reverse)
  else if (q.size==1)=true then pure (q.extract 0++p.extract 0 (p.size-1)++#[y].reverse)
  else do
   let st <- get
   let s <- forIn [:p.size+q.size] ((none,p.size-1,q.size,#[y],gallopOf st):Option (Array Ss)×RP) λ_ s=>OF p q s
   match s.1 with
   |some r=>pure r
   |none=>liftM (unsupported "internal:list.sort.merge-bound" : Sem (Array Ss))):=by
 rw[qa];dsimp only;refine congrArg (bind _) (funext λ_=>?_);refine congrArg (bind _) (funext λy=>?_);refine congrArg (ite _ _) (congrArg (ite _ _) ?_);refine congrArg (bind _) (funext λy=>?_);refine congr (congrArg bind (congrArg _ (funext λ_=>funext λs=>?_))) (funext λs=>?_)
 ·refine congr (congrArg bind (congrArg _ (funext λ_=>funext λs=>?_))) (funext λs=>?_)
  ·rfl
  ·cases s.1
   ·refine congrArg (bind _) (funext λ_=>?_);refine congr (congrArg bind (congrArg _ (funext λ_=>funext λs=>?_))) (funext λs=>?_)
    ·rfl
    ·cases s.1 <;> rfl
   ·rfl
 ·cases s.1 <;> rfl
section
variable {prog:So}{w:SI}{A:TF}{E:Sh->Si->Prop}{s:Si}{κ:UZ}{c:Ss->Ss->Bool}{S:Ss->Prop}{p q:Array Ss}
theorem wY {st:Tb}{Q:ForInStep (Option (Array Ss)×RH)->Tb->Prop}{t:Array Ss}{i j mg m n:Nat}(sp:SR c p 0 p.size)(sq:SR c q 0 q.size)(m3:Mh c p q t.toList.reverse i j)(hi:0<i)(g3:∀k,k<j->le c (el q k) (el p (i-1)))
  (hd:∀out r,Gd c p q out.toList->Q (.done (some out,r)) st) (hn:∀t' m n,Mh c p q t'.toList.reverse (i-1) j->0<i-1->Q (.done (none,i-1,j,t',mg,m,n)) st/\Q (.yield (none,i-1,j,t',mg,m,n)) st):wpS (model prog w) A E s (MX p q t i j mg m n) Q st:=by
 have d9:=m3.hi;refine Sw (aL (by lia) ?_)
 have m4:Mh c p q (t.push (el p (i-1))).toList.reverse (i-1) j:=by
  rw[gZ];exact m3.i_ hi sp g3
 by_cases e5:(i-1==0)=true
 ·rw[if_pos e5];exact SA (hd _ _ (m4.done sp sq (.inl (by simpa using e5))))
 rw[if_neg e5];have h5:i-1≠0:=by simpa using e5
 obtain⟨h6,h7⟩:=hn (t.push (el p (i-1))) m n m4 (by lia)
 split
 ·exact SA h6
 ·exact SA h7
theorem wZ {st:Tb}{Q:ForInStep (Option (Array Ss)×RH)->Tb->Prop}{t:Array Ss}{i j mg m n:Nat}(O:bZ c)(L:e9 prog w A E s κ c S)(hk:kindOf st=κ)(Sp:∀i,i<p.size->S (el p i))(Sq:∀i,i<q.size->S (el q i))(sp:SR c p 0 p.size)(sq:SR c q 0 q.size)(hf:c (el q 0) (el p 0)=true)(m1:Mh c p q t.toList.reverse i j)(hi:0<i)(hj:1<j)(g1:∀x,x<i->le c (el p x) (el q (j-1)))
  (hd:∀out r,Gd c p q out.toList->Q (.done (some out,r)) st) (hn:∀t' j' m n,Mh c p q t'.toList.reverse (i-1) j'->0<i-1->1<j'->j'<j->Q (.done (none,i-1,j',t',mg,m,n)) st/\Q (.yield (none,i-1,j',t',mg,m,n)) st):wpS (model prog w) A E s (MY p q t i j mg m n) Q st:=by
 have mi:=m1.hi;have mj:=m1.hj;refine Sw (aL (by lia) ?_)
 have m2:Mh c p q (t.push (el q (j-1))).toList.reverse i (j-1):=by
  rw[gZ];exact m1.i9 (by lia) sq g1
 by_cases e3:(j-1==1)=true
 ·rw[if_pos e3];exact SA (hd _ _ (m2.tail O sp sq (by simpa using e3) hf))
 rw[if_neg e3];have h3:j-1≠1:=by simpa using e3
 refine Sw (aL (by lia) (Sw (c7 O L hk (Sp _ (by lia)) (λx hx=>Sq _ (by lia)) (by lia) (λa b h1 h2 h3=>sq a b (by lia) h2 (by lia)) (by lia) λh k1 k2 k3=>?_)))
 have g2:∀x,x<h->c (el q x) (el p (i-1))=true:=λx hx=>by
  have:=k2 x hx;unfold dv at this;rw[if_pos rfl,UH]at this;exact this
 have g4:∀x,h<=x->x<j-1->le c (el p (i-1)) (el q x):=λx h1 h2=>by
  have:=k3 x h1 h2;unfold dv at this;rw[if_pos rfl,UH]at this;exact this
 have hh:0<h:=by
  rcases WK h with z|z
  ·subst z;have h2:=O.trans (sp 0 (i-1) (by lia) (by lia) (by lia)) (g4 0 (Sj _) (by lia))
   exact absurd (hf.symm.trans h2) (by simp)
  ·exact z
 dsimp only
 by_cases ze:j-1-h>0
 ·rw[if_pos ze];have m3:Mh c p q (t.push (el q (j-1))++(q.extract h (j-1)).reverse).toList.reverse i h:=by
   rw[uX];exact m2.gT sq k1 λx h1 h2 y hy=>O.trans (sp y (i-1) (by lia) (by lia) (by lia)) (g4 x h1 h2)
  by_cases e4:(h==1)=true
  ·rw[if_pos e4];exact SA (hd _ _ (m3.tail O sp sq (by simpa using e4) hf))
  rw[if_neg e4];have h4:h≠1:=by simpa using e4
  rw[if_neg (by simp;lia)]
  exact wY sp sq m3 hi (λk hk=>O.of_lt (g2 k hk)) hd λt' m n h1 h2=>hn t' _ m n h1 h2 (by lia) (by lia)
 ·rw[if_neg ze];exact wY sp sq m2 hi (λk hk=>O.of_lt (g2 k (by lia))) hd λt' m n h1 h2=>hn t' _ m n h1 h2 (by lia) (by lia)
theorem Dw {st:Tb}{Q:ForInStep (Option (Array Ss)×RH)->Tb->Prop}{t:Array Ss}{i j mg m n:Nat}(O:bZ c)(L:e9 prog w A E s κ c S)(hk:kindOf st=κ)(Sp:∀i,i<p.size->S (el p i))(Sq:∀i,i<q.size->S (el q i))(sp:SR c p 0 p.size)(sq:SR c q 0 q.size)(hf:c (el q 0) (el p 0)=true)(m0:Mh c p q t.toList.reverse i j)(hi:0<i)(hj:1<j)
  (hd:∀out r,Gd c p q out.toList->Q (.done (some out,r)) (b9 st mg)) (hn:∀t' i' j' m n,Mh c p q t'.toList.reverse i' j'->0<i'->1<j'->i'+j'<i+j->Q (.done (none,i',j',t',mg,m,n)) (b9 st mg)/\Q (.yield (none,i',j',t',mg,m,n)) (b9 st mg)):wpS (model prog w) A E s (Jd p q t i j mg m n) Q st:=by
 have mi:=m0.hi;have mj:=m0.hj;refine Sw (UN (Sw (aL (by lia) (Sw (c7 O L hk (Sq _ (by lia)) (λx hx=>Sp _ (by lia)) (by lia) (λa b h1 h2 h3=>sp a b (by lia) h2 (by lia)) (by lia) λh k1 k2 k3=>?_)))))
 have g0:∀x,x<h->le c (el p x) (el q (j-1)):=λx hx=>by
  have:=k2 x hx;unfold dv at this;rw[if_neg (by simp),VO,UH]at this
  exact this
 have g5:∀x,h<=x->x<i->le c (el q (j-1)) (el p x):=λx h1 h2=>by
  have:=k3 x h1 h2;unfold dv at this;rw[if_neg (by simp),WL,UH]at this
  exact O.of_lt this
 dsimp only
 by_cases ze:i-h>0
 ·rw[if_pos ze];have m1:Mh c p q (t++(p.extract h i).reverse).toList.reverse h j:=by
   rw[uX];exact m0.gU sp k1 λx h1 h2 y hy=>O.trans (sq y (j-1) (by lia) (by lia) (by lia)) (g5 x h1 h2)
  by_cases e1:(h==0)=true
  ·rw[if_pos e1];exact SA (hd _ _ (m1.done sp sq (.inl (by simpa using e1))))
  rw[if_neg e1];have BV:h≠0:=by simpa using e1
  exact wZ O L hk Sp Sq sp sq hf m1 (by lia) hj g0 hd λt' j' m n h1 h2 h3 h4=>hn t' _ j' m n h1 h2 h3 (by lia)
 ·rw[if_neg ze];exact wZ O L hk Sp Sq sp sq hf m0 hi hj (λx hx=>g0 x (by lia)) hd λt' j' m n h1 h2 h3 h4=>hn t' _ j' m n h1 h2 h3 (by lia)
theorem Dv {st:Tb}{Q:ForInStep (Option (Array Ss)×RJ)->Tb->Prop}{t:Array Ss}{i j mg ma na:Nat}(O:bZ c)(L:e9 prog w A E s κ c S)(hk:kindOf st=κ)(Sp:∀i,i<p.size->S (el p i))(Sq:∀i,i<q.size->S (el q i))(sp:SR c p 0 p.size)(sq:SR c q 0 q.size)(hf:c (el q 0) (el p 0)=true)(m:Mh c p q t.toList.reverse i j)(hi:0<i)(hj:1<j)
  (hd:∀out r,Gd c p q out.toList->Q (.done (some out,r)) st) (hn:∀t' i' j' m n,Mh c p q t'.toList.reverse i' j'->0<i'->1<j'->i'+j'<i+j->Q (.done (none,i',j',t',m,n)) st/\Q (.yield (none,i',j',t',m,n)) st):wpS (model prog w) A E s (OG p q t mg i j ma na) Q st:=by
 have d9:=m.hi;have RZ:=m.hj;refine Sw (aL (by lia) (Sw (aL (by lia) (Sw (L _ _ st _ (Sq _ (by lia)) (Sp _ (by lia)) hk ?_)))))
 dsimp only;cases hc:c (el q (j-1)) (el p (i-1))with
 |true =>
  rw[if_pos rfl];refine Sw (aL (by lia) ?_)
  have m1:Mh c p q (t.push (el p (i-1))).toList.reverse (i-1) j:=by
   rw[gZ];exact m.i_ hi sp λk hk=>O.trans (sq k (j-1) (by lia) (by lia) (by lia)) (O.of_lt hc)
  by_cases e3:(i-1==0)=true
  ·rw[if_pos e3];exact SA (hd _ _ (m1.done sp sq (.inl (by simpa using e3))))
  rw[if_neg e3];have h3:i-1≠0:=by simpa using e3
  obtain⟨h6,h7⟩:=hn _ _ _ (ma+1) 0 m1 (by lia) hj (by lia)
  split
  ·exact SA h6
  ·exact SA h7
 |false =>
  rw[if_neg (by simp)]
  refine Sw (aL (by lia) ?_)
  have m1:Mh c p q (t.push (el q (j-1))).toList.reverse i (j-1):=by
   rw[gZ];exact m.i9 (by lia) sq λk hk=>O.trans (sp k (i-1) (by lia) (by lia) (by lia)) (show le c (el p (i-1)) (el q (j-1)) from hc)
  by_cases e3:(j-1==1)=true
  ·rw[if_pos e3];exact SA (hd _ _ (m1.tail O sp sq (by simpa using e3) hf))
  rw[if_neg e3];have h3:j-1≠1:=by simpa using e3
  obtain⟨h6,h7⟩:=hn _ _ _ 0 (na+1) m1 hi (by lia) (by lia)
  split
  ·exact SA h6
  ·exact SA h7
theorem rH (O:bZ c)(L:e9 prog w A E s κ c S){Q:Array Ss->Tb->Prop}{st:Tb}(hk:kindOf st=κ)(Sp:∀i,i<p.size->S (el p i))(Sq:∀i,i<q.size->S (el q i))(sp:SR c p 0 p.size)(sq:SR c q 0 q.size)
  (hp:0<p.size) (hq:0<q.size) (hf:c (el q 0) (el p 0)=true) (hl:∀y,y<q.size->c (el q y) (el p (p.size-1))=true) (h:∀to az,i5 st az->Gd c p q to.toList->Q to az) :
  wpS (model prog w) A E s (hV p q) Q st:=by
 rw[qb];refine Sw (Wq (UO ⟨rfl,?_⟩));refine Sw (aL (by lia) ?_)
 have m0:Mh c p q (#[el p (p.size-1)]:Array Ss).toList.reverse (p.size-1) q.size:=Mh.start sp O hp hl
 by_cases h1:(p.size-1==0)=true
 ·rw[if_pos h1];exact SA (h _ st (i5.refl st) (m0.done sp sq (.inl (by simpa using h1))))
 rw[if_neg h1];have BV:p.size-1≠0:=by simpa using h1
 by_cases h2:(q.size==1)=true
 ·rw[if_pos h2];exact SA (h _ st (i5.refl st) (m0.tail O sp sq (by simpa using h2) hf))
 rw[if_neg h2];have zi:q.size≠1:=by simpa using h2
 refine Sw (VJ ?_);refine Sw (Uj (TL
  (I:=λx r az=>i5 st az/\∃i j to mg,r=(none,i,j,to,mg)/\Mh c p q to.toList.reverse i j/\0<i/\1<j/\i+j+x<p.size+q.size)
  (Q:=λr az=>i5 st az/\∃out r',r=(some out,r')/\Gd c p q out.toList) ?_ ?_ ?_) ?_)
 ·rintro x r az _ hx ⟨e,i,j,to,mg,rfl,m,hi,hj,hb⟩;unfold OF;dsimp only;refine Sw (Uj (TL
   (I:=λy r az=>i5 st az/\∃i j to m n,r=(none,i,j,to,m,n)/\Mh c p q to.toList.reverse i j/\0<i/\1<j/\i+j+x+min y 1<p.size+q.size)
   (Q:=λr az=>i5 st az/\((∃out r',r=(some out,r')/\Gd c p q out.toList)\/∃i j to m n,r=(none,i,j,to,m,n)/\Mh c p q to.toList.reverse i j/\0<i/\1<j/\i+j+x+1<p.size+q.size)) ?_ ?_ ?_) ?_)
  ·rintro y r e_ _ hy ⟨e2,i,j,to,ma,na,rfl,m,hi,hj,hb⟩;exact Dv O L (e2.kind.trans hk) Sp Sq sp sq hf m hi hj (λout r h=>⟨e2,.inl ⟨_,_,rfl,h⟩⟩) λt' i' j' m n h1 h2 h3 h4=>⟨⟨e2,.inr ⟨_,_,_,_,_,rfl,h1,h2,h3,by lia⟩⟩,⟨e2,_,_,_,_,_,rfl,h1,h2,h3,by lia⟩⟩
  ·rintro r e_ ⟨e2,i,j,to,ma,na,rfl,m,hi,hj,hb⟩;exact⟨e2,.inr ⟨_,_,_,_,_,rfl,m,hi,hj,by lia⟩⟩
  ·exact⟨e,_,_,_,_,_,rfl,m,hi,hj,by lia⟩
  rintro r e_ ⟨e2,⟨out,r',rfl,g⟩|⟨i,j,to,ma,na,rfl,m,hi,hj,hb⟩⟩
  ·exact SA ⟨e2,_,_,rfl,g⟩
  dsimp only;refine Sw (Wq (UO ⟨rfl,?_⟩));refine Sw (Uj (TL
   (I:=λy r az=>i5 st az/\∃i j to mg m n,r=(none,i,j,to,mg,m,n)/\Mh c p q to.toList.reverse i j/\0<i/\1<j/\i+j+x+1<p.size+q.size)
   (Q:=λr az=>i5 st az/\((∃out r',r=(some out,r')/\Gd c p q out.toList)\/∃i j to mg m n,r=(none,i,j,to,mg,m,n)/\Mh c p q to.toList.reverse i j/\0<i/\1<j/\i+j+x+1<p.size+q.size)) ?_ ?_ ?_) ?_)
  ·rintro y r e_ _ hy ⟨e2,i,j,to,mg,ma,na,rfl,m,hi,hj,hb⟩;show wpS (model prog w) A E s (if mg>1 then Jd p q to i j (mg-1) ma na else Jd p q to i j mg ma na) _ e_
   split <;> exact Dw O L (e2.kind.trans hk) Sp Sq sp sq hf m hi hj (λout r h=>⟨e2.C3 _,.inl ⟨_,_,rfl,h⟩⟩) λt' i' j' m n h1 h2 h3 h4=>⟨⟨e2.C3 _,.inr ⟨_,_,_,_,_,_,rfl,h1,h2,h3,by lia⟩⟩,⟨e2.C3 _,_,_,_,_,_,_,rfl,h1,h2,h3,by lia⟩⟩
  ·rintro r e_ ⟨e2,i,j,to,mg,ma,na,rfl,m,hi,hj,hb⟩;exact⟨e2,.inr ⟨_,_,_,_,_,_,rfl,m,hi,hj,hb⟩⟩
  ·exact⟨e2,_,_,_,_,_,_,rfl,m,hi,hj,hb⟩
  rintro r e_ ⟨e2,⟨out,r',rfl,g⟩|⟨i,j,to,mg,ma,na,rfl,m,hi,hj,hb⟩⟩
  ·exact SA ⟨e2,_,_,rfl,g⟩
  dsimp only;refine Sw (UN (SA ⟨e2.C3 _,_,_,_,_,rfl,m,hi,hj,by lia⟩))
 ·rintro r az ⟨e,i,j,to,mg,rfl,m,hi,hj,hb⟩
  exfalso
  rw[show max 0 (p.size+q.size)=p.size+q.size by lia]at hb
  lia
 ·exact⟨i5.refl st,_,_,_,_,rfl,m0,by lia,by lia,by lia⟩
 ·rintro r az ⟨e,out,r',rfl,g⟩;exact SA (h _ az e g)
end
section
variable {c:Ss->Ss->Bool}{a b:Array Ss}
structure Rg (a b:Array Ss)(lo hi:Nat):Prop where
 perm:b.Perm a
 out:∀k,(k<lo\/hi<=k)->el b k=el a k
theorem Rg.refl {lo hi:Nat}:Rg a a lo hi:=⟨Xi _,λ_ _=>rfl⟩
theorem Rg.trans {d:Array Ss}{lo hi:Nat}(x:Rg a b lo hi)(y:Rg b d lo hi):Rg a d lo hi:=⟨y.perm.trans x.perm,λk h=>(y.out k h).trans (x.out k h)⟩
theorem Rg.mono {lo hi CN d9:Nat}(x:Rg a b lo hi)(h1:CN<=lo)(h2:hi<=d9):Rg a b CN d9:=⟨x.perm,λk h=>x.out k (by lia)⟩
theorem Rg.size {lo hi:Nat}(x:Rg a b lo hi):b.size=a.size:=x.perm.size_eq
theorem SR.congr {lo hi:Nat}(h:SR c a lo hi)(e:∀k,lo<=k->k<hi->el b k=el a k):SR c b lo hi:=λi j h1 h2 h3=>by
 rw[e i h1 (by lia),e j (by lia) h3]
 exact h i j h1 h2 h3
def NI (c:Ss->Ss->Bool)(a:Array Ss)(lo hi:Nat):Prop:=∀i j,lo<=i->i<=j->j<hi->le c (el a j) (el a i)
theorem bR {i j:Nat}(hj:j<=a.size)(k:Nat):el (mirror a i j ((j-i) / 2)) k=if i<=k/\k<j then el a (i+j-1-k) else el a k:=by
 have e:=getElem?_mirror_all (i:=i) hj k
 by_cases h:i<=k/\k<j
 ·rw[if_pos h]at e ⊢
  exact dt e
 ·rw[if_neg h]at e ⊢
  exact dt e
theorem d7 {i j:Nat}(hj:j<=a.size):Rg a (mirror a i j ((j-i) / 2)) i j:=⟨mirror_perm _ _ _ _,λk h=>by rw[bR hj,if_neg (by lia)]⟩
theorem mZ {i j:Nat}(hj:j<=a.size)(h:NI c a i j):SR c (mirror a i j ((j-i) / 2)) i j:=λx y h1 h2 h3=>by
 rw[bR hj,bR hj,if_pos (by lia),if_pos (by lia)]
 exact h _ _ (by lia) (by lia) (by lia)
theorem iO {lo i j:Nat}(Kj:lo<=i)(hj:j<=a.size)(h:NI c a lo j)(he:∀x y,i<=x->x<j->i<=y->y<j->le c (el a x) (el a y)):NI c (mirror a i j ((j-i) / 2)) lo j:=λx y h1 h2 h3=>by
 rw[bR hj,bR hj]
 by_cases hx:i<=x/\x<j
 ·rw[if_pos hx,if_pos (by lia)]
  exact he _ _ (by lia) (by lia) (by lia) (by lia)
 ·rw[if_neg hx]
  by_cases hy:i<=y/\y<j
  ·rw[if_pos hy];exact h _ _ (by lia) (by lia) (by lia)
  ·rw[if_neg hy];exact h _ _ h1 h2 h3
theorem SR.snoc {lo n:Nat}(O:bZ c)(h:SR c a lo (lo+n))(h1:0<n)(hn:le c (el a (lo+n-1)) (el a (lo+n))):SR c a lo (lo+(n+1)):=λi j h2 h3 h4=>by
 by_cases hj:j<lo+n
 ·exact h i j h2 h3 hj
 ·obtain rfl:j=lo+n:=by lia
  by_cases hi:i<lo+n
  ·exact O.trans (h i (lo+n-1) h2 (by lia) (by lia)) hn
  ·obtain rfl:i=lo+n:=by lia
   exact O.refl _
theorem NI.snoc {lo n:Nat}(O:bZ c)(h:NI c a lo (lo+n))(h1:0<n)(hn:le c (el a (lo+n)) (el a (lo+n-1))):NI c a lo (lo+(n+1)):=λi j h2 h3 h4=>by
 by_cases hj:j<lo+n
 ·exact h i j h2 h3 hj
 ·obtain rfl:j=lo+n:=by lia
  by_cases hi:i<lo+n
  ·exact O.trans hn (h i (lo+n-1) h2 (by lia) (by lia))
  ·obtain rfl:i=lo+n:=by lia
   exact O.refl _
theorem SR.one {lo:Nat}(O:bZ c):SR c a lo (lo+1):=λi j h1 h2 h3=>by
 obtain rfl:i=j:=by lia
 exact O.refl _
end
structure i4 (κ:UZ)(a₀:Array Ss)(st:Tb):Prop where
 kind:kindOf st=κ
 fail:Vb st=none
 perm:(Te st).Perm a₀
section
variable {prog:So}{w:SI}{A:TF}{E:Sh->Si->Prop}{s:Si}{κ:UZ}{c:Ss->Ss->Bool}{a₀:Array Ss}
theorem i4.size {st:Tb}(h:i4 κ a₀ st):(Te st).size=a₀.size:=h.perm.size_eq
theorem i4.mem {st:Tb}(h:i4 κ a₀ st){i:Nat}(hi:i<a₀.size):el (Te st) i∈a₀.toList:=by
 have h1:i<(Te st).size:=by rw[h.size];exact hi
 refine(UT.mp h.perm).mem_iff.mp ?_;have:=ib h1;rw[<- SK]at this;exact TU this
theorem i4.set {st:Tb}{b:Array Ss}{lo hi:Nat}(h:i4 κ a₀ st)(r:Rg (Te st) b lo hi):i4 κ a₀ (TY st b):=⟨h.kind,h.fail,r.perm.trans h.perm⟩
theorem nN (L:e9 prog w A E s κ c (·∈a₀.toList)){st:Tb}{i j:Nat}{Q:Option Bool->Tb->Prop}(h:i4 κ a₀ st)(hi:i<a₀.size)(hj:j<a₀.size)(q:Q (some (c (el (Te st) i) (el (Te st) j))) st):
  wpS (model prog w) A E s (ltAt' i j) Q st:=by
 rw[ltAt'_eq];refine Sw (VJ ?_);exact Sw (aL (by rw[h.size];exact hi) (Sw (aL (by rw[h.size];exact hj) (L _ _ st Q (h.mem hi) (h.mem hj) h.kind q))))
theorem gQ (L:e9 prog w A E s κ c (·∈a₀.toList)){st:Tb}{b:Array Ss}{i j lo hi:Nat}{Q:Option Bool->Tb->Prop}(h:i4 κ a₀ st)(R:Rg (Te st) b lo hi)(hi:i<a₀.size)(hj:j<a₀.size)(q:Q (some (c (el b i) (el b j))) (TY st b)):
  wpS (model prog w) A E s (ltAt' i j) Q (TY st b):=nN L (h.set R) hi hj q
theorem gP {st:Tb}{i j:Nat}{Q:Unit->Tb->Prop}(q:Q () (TY st (mirror (Te st) i j ((j-i) / 2)))):wpS (model prog w) A E s (reverseSlice' i j) Q st:=by
 rw[reverseSlice'_eq];exact UN q
theorem w5 (O:bZ c)(L:e9 prog w A E s κ c (·∈a₀.toList)){st:Tb}{lo d4:Nat}{Q:Option Nat->Tb->Prop}(h0:i4 κ a₀ st)(h1:1<=d4)(hn:lo+d4<=a₀.size)
  (h:∀n b,1<=n->n<=d4->Rg (Te st) b lo (lo+d4)->SR c b lo (lo+n)->Q (some n) (TY st b)):wpS (model prog w) A E s (countRun' lo d4) Q st:=by
 rw[countRun'_eq];dsimp only;refine Sw (Uj (TL (I:=λx r az=>az=st/\∃n,r=(none,n)/\n=x/\SR c (Te st) lo (lo+n))
  (Q:=λr az=>az=st/\∃n,r=(none,n)/\1<=n/\n<=d4/\SR c (Te st) lo (lo+n)/\(n=d4\/(n<d4/\c (el (Te st) (lo+n)) (el (Te st) (lo+n-1))=true))) ?_ ?_ ?_) ?_)
 ·rintro x r az CU hx ⟨rfl,n,rfl,rfl,hs⟩;dsimp only;refine Sw (nN L h0 (by lia) (by lia) ?_)
  dsimp only;cases hc:c (el (Te az) (lo+n)) (el (Te az) (lo+n-1))with
  |true =>
   rw[if_pos rfl];exact SA ⟨rfl,n,rfl,CU,by lia,hs,.inr ⟨by lia,hc⟩⟩
  |false =>
   rw[if_neg (by simp)]
   exact SA ⟨rfl,n+1,rfl,rfl,hs.snoc O CU hc⟩
 ·rintro r az ⟨rfl,n,rfl,hx,hs⟩;exact⟨rfl,n,rfl,by lia,by lia,hs,.inl (by lia)⟩
 ·exact⟨rfl,1,rfl,rfl,SR.one O⟩
 rintro r az ⟨e0,n,rfl,Oz,Kh,hs,hc⟩;rw[e0];dsimp only
 by_cases MH:(n==d4)=true
 ·rw[if_pos MH];exact SA (h n (Te st) Oz Kh Rg.refl hs)
 rw[if_neg MH];have Qu:n≠d4:=by simpa using MH
 have hc:c (el (Te st) (lo+n)) (el (Te st) (lo+n-1))=true:=by
  rcases hc with q|q
  ·lia
  ·exact q.2
 refine(λ(key:∀b,Rg (Te st) b lo (lo+d4)->NI c b lo (lo+(n+1))->wpS (model prog w) A E s ?cont Q (TY st b))=>?main) ?key
 case main =>
  by_cases h2:n>1
  ·rw[if_pos h2];refine Sw (nN L h0 (by lia) (by lia) ?_)
   dsimp only;cases hr:c (el (Te st) lo) (el (Te st) (lo+n-1))with
   |true =>
    rw[if_pos rfl];exact SA (h n (Te st) Oz Kh Rg.refl hs)
   |false =>
    rw[if_neg (by simp)]
    refine Sw (gP ?_);have hz:lo+n<=(Te st).size:=by have:=h0.size;lia
    have R0:Rg (Te st) (mirror (Te st) lo (lo+n) ((lo+n-lo) / 2)) lo (lo+d4):=(d7 hz).mono (Sj _) (by lia)
    have all:∀u v,lo<=u->u<lo+n->lo<=v->v<lo+n->le c (el (Te st) u) (el (Te st) v):=λu v h1 h2 h3 h4 =>
     O.trans (hs u (lo+n-1) h1 (by lia) (by lia)) (O.trans hr (hs lo v (Sj _) h3 h4))
    have N0:NI c (mirror (Te st) lo (lo+n) ((lo+n-lo) / 2)) lo (lo+(n+1)):=by
     refine NI.snoc O (iO (Sj _) hz (λu v h1 h2 h3=>all v u (by lia) (by lia) h1 (by lia)) λu v h1 h2 h3 h4=>all u v h1 h2 h3 h4) (by lia) ?_
     rw[bR hz,bR hz,if_neg (by lia),if_pos (by lia)]
     exact O.trans (O.of_lt hc) (all _ _ (by lia) (by lia) (by lia) (by lia))
    exact key _ R0 N0
  ·rw[if_neg h2];have N0:NI c (Te st) lo (lo+(n+1)):=NI.snoc O (λu v h1 h2 h3=>by
    obtain rfl:u=v:=by lia
    exact O.refl _) (by lia) (O.of_lt hc)
   show wpS _ _ _ _ _ Q (TY st (Te st));exact key _ Rg.refl N0
 case key =>
  intro b0 R0 N0;refine Sw (Wq (UO ⟨rfl,?_⟩));refine Sw (Uj (TL (I:=λx r az=>∃b n jf,az=TY st b/\r=(none,n,jf)/\n=x/\Rg (Te st) b lo (lo+d4)/\NI c b lo (lo+n)/\jf<n/\(∀u v,lo+n-1-jf<=u->u<lo+n->lo+n-1-jf<=v->v<lo+n->le c (el b u) (el b v)))
   (Q:=λr az=>∃b n jf,az=TY st b/\r=(none,n,jf)/\1<=n/\n<=d4/\Rg (Te st) b lo (lo+d4)/\NI c b lo (lo+n)/\jf<n/\(∀u v,lo+n-1-jf<=u->u<lo+n->lo+n-1-jf<=v->v<lo+n->le c (el b u) (el b v))) ?_ ?_ ?_) ?_)
  ·rintro x r az CU hx ⟨b,n',jf,rfl,rfl,rfl,R,N,hq,he⟩;dsimp only;refine Sw (gQ L h0 R (by lia) (by lia) ?_)
   dsimp only;cases mm:c (el b (lo+n')) (el b (lo+n' - 1))with
   |true =>
    rw[if_pos rfl]
    by_cases zc:jf>0
    ·rw[if_pos zc];refine Sw (gP (SA ?_));have hz:lo+n'<=b.size:=by have:=R.size;have:=h0.size;lia
     refine⟨mirror b (lo+n' - (jf+1)) (lo+n') ((lo+n' - (lo+n' - (jf+1))) / 2),n'+1,0,rfl,rfl,rfl,R.trans ((d7 hz).mono (by lia) (by lia)),?_,by lia,?_⟩
     ·refine NI.snoc O (iO (by lia) hz N λu v h1 h2 h3 h4=>he u v (by lia) h2 (by lia) h4) (by lia) ?_
      rw[bR hz,bR hz,if_neg (by lia),if_pos (by lia)]
      exact O.trans (O.of_lt mm) (he _ _ (by lia) (by lia) (by lia) (by lia))
     ·intro u v h1 h2 h3 h4;obtain rfl:u=v:=by lia
      exact O.refl _
    ·rw[if_neg zc];refine SA ⟨b,n'+1,0,rfl,rfl,rfl,R,N.snoc O (by lia) (O.of_lt mm),by lia,?_⟩
     intro u v h1 h2 h3 h4;obtain rfl:u=v:=by lia
     exact O.refl _
   |false =>
    rw[if_neg (by simp)]
    refine Sw (gQ L h0 R (by lia) (by lia) ?_)
    dsimp only;cases s_:c (el b (lo+n' - 1)) (el b (lo+n'))with
    |true =>
     rw[if_pos rfl];exact SA ⟨b,n',jf,rfl,rfl,by lia,by lia,R,N,hq,he⟩
    |false =>
     rw[if_neg (by simp)]
     refine SA ⟨b,n'+1,jf+1,rfl,rfl,rfl,R,N.snoc O (by lia) s_,by lia,?_⟩
     have hl:∀u,lo+n' - 1-jf<=u->u<lo+(n'+1)->le c (el b u) (el b (lo+n'))/\le c (el b (lo+n')) (el b u):=λu h1 h2=>by
      by_cases hu:u<lo+n'
      ·exact⟨O.trans (he u (lo+n' - 1) h1 hu (by lia) (by lia)) mm,O.trans s_ (he (lo+n' - 1) u (by lia) (by lia) h1 hu)⟩
      ·obtain rfl:u=lo+n':=by lia
       exact⟨O.refl _,O.refl _⟩
     intro u v h1 h2 h3 h4;exact O.trans (hl u (by lia) h2).1 (hl v (by lia) h4).2
  ·rintro r az ⟨b,n',jf,rfl,rfl,hx,R,N,hq,he⟩;exact⟨b,n',jf,rfl,rfl,by lia,by lia,R,N,hq,he⟩
  ·refine⟨_,n+1,0,rfl,rfl,rfl,R0,N0,by lia,?_⟩
   intro u v h1 h2 h3 h4;obtain rfl:u=v:=by lia
   exact O.refl _
  rintro r az ⟨b,n',jf,rfl,rfl,Qw,Qv,RB,NB,hq,he⟩;dsimp only
  by_cases zc:jf>0
  ·rw[if_pos zc];refine Sw (gP ?_);have hz:lo+n'<=b.size:=by have:=RB.size;have:=h0.size;lia
   have NB:=iO (c:=c) (i:=lo+n' - (jf+1)) (by lia) hz NB λu v h1 h2 h3 h4=>he u v (by lia) h2 (by lia) h4
   have RB:=RB.trans ((d7 (i:=lo+n' - (jf+1)) hz).mono (by lia) (by lia:lo+n'<=lo+d4))
   show wpS _ _ _ _ _ Q (TY st (mirror b (lo+n' - (jf+1)) (lo+n') ((lo+n' - (lo+n' - (jf+1))) / 2)));generalize mirror b (lo+n' - (jf+1)) (lo+n') ((lo+n' - (lo+n' - (jf+1))) / 2)=b1 at NB RB;refine Sw (gP ?_);have R2:Rg (Te st) (mirror b1 lo (lo+n') ((lo+n' - lo) / 2)) lo (lo+d4):=RB.trans ((d7 (by have:=RB.size;have:=h0.size;lia)).mono (Sj _) (by lia))
   have S2:SR c (mirror b1 lo (lo+n') ((lo+n' - lo) / 2)) lo (lo+n'):=mZ (by have:=RB.size;have:=h0.size;lia) NB
   show wpS _ _ _ _ _ Q (TY st (mirror b1 lo (lo+n') ((lo+n' - lo) / 2)));generalize mirror b1 lo (lo+n') ((lo+n' - lo) / 2)=b2 at R2 S2;refine Sw (Uj (TL (I:=λx r az=>az=TY st b2/\∃m,r=(none,m)/\m=x/\SR c b2 lo (lo+m))
    (Q:=λr az=>az=TY st b2/\∃m,r=(none,m)/\1<=m/\m<=d4/\SR c b2 lo (lo+m)) ?_ ?_ ?_) ?_)
   ·rintro x r az CU hx ⟨rfl,m,rfl,rfl,hs⟩;dsimp only;refine Sw (gQ L h0 R2 (by lia) (by lia) ?_)
    dsimp only;cases hc:c (el b2 (lo+m)) (el b2 (lo+m-1))with
    |true =>
     rw[if_pos rfl];exact SA ⟨rfl,m,rfl,by lia,by lia,hs⟩
    |false =>
     rw[if_neg (by simp)]
     exact SA ⟨rfl,m+1,rfl,rfl,hs.snoc O (by lia) hc⟩
   ·rintro r az ⟨rfl,m,rfl,hx,hs⟩;exact⟨rfl,m,rfl,by lia,by lia,hs⟩
   ·exact⟨rfl,n',rfl,rfl,S2⟩
   rintro r az ⟨rfl,m,rfl,MN,MM,hs⟩;exact SA (h m b2 MN MM R2 hs)
  ·rw[if_neg zc];refine Sw (gP ?_);have R2:Rg (Te st) (mirror b lo (lo+n') ((lo+n' - lo) / 2)) lo (lo+d4):=RB.trans ((d7 (by have:=RB.size;have:=h0.size;lia)).mono (Sj _) (by lia))
   have S2:SR c (mirror b lo (lo+n') ((lo+n' - lo) / 2)) lo (lo+n'):=mZ (by have:=RB.size;have:=h0.size;lia) NB
   show wpS _ _ _ _ _ Q (TY st (mirror b lo (lo+n') ((lo+n' - lo) / 2)));generalize mirror b lo (lo+n') ((lo+n' - lo) / 2)=b2 at R2 S2;refine Sw (Uj (TL (I:=λx r az=>az=TY st b2/\∃m,r=(none,m)/\m=x/\SR c b2 lo (lo+m))
    (Q:=λr az=>az=TY st b2/\∃m,r=(none,m)/\1<=m/\m<=d4/\SR c b2 lo (lo+m)) ?_ ?_ ?_) ?_)
   ·rintro x r az CU hx ⟨rfl,m,rfl,rfl,hs⟩;dsimp only;refine Sw (gQ L h0 R2 (by lia) (by lia) ?_)
    dsimp only;cases hc:c (el b2 (lo+m)) (el b2 (lo+m-1))with
    |true =>
     rw[if_pos rfl];exact SA ⟨rfl,m,rfl,by lia,by lia,hs⟩
    |false =>
     rw[if_neg (by simp)]
     exact SA ⟨rfl,m+1,rfl,rfl,hs.snoc O (by lia) hc⟩
   ·rintro r az ⟨rfl,m,rfl,hx,hs⟩;exact⟨rfl,m,rfl,by lia,by lia,hs⟩
   ·exact⟨rfl,n',rfl,rfl,S2⟩
   rintro r az ⟨rfl,m,rfl,MN,MM,hs⟩;exact SA (h m b2 MN MM R2 hs)
end
section
variable {c:Ss->Ss->Bool}{a:Array Ss}
theorem iX {src d:Nat}(hs:src<a.size)(hd:d<=src)(k:Nat):el (bubble a src d) k=if k=src-d then el a src else if src-d<k/\k<=src then el a (k-1) else el a k:=by
 have e:=getElem?_bubble hs d hd k
 by_cases h1:k=src-d
 ·rw[if_pos h1]at e ⊢
  exact dt e
 ·rw[if_neg h1]at e ⊢
  by_cases h2:src-d<k/\k<=src
  ·rw[if_pos h2]at e ⊢
   exact dt e
  ·rw[if_neg h2]at e ⊢
   exact dt e
theorem wz {lo k l:Nat}(O:bZ c)(hk:lo+k<a.size)(hl:l<=k)(h:SR c a lo (lo+k))(h1:∀i,i<l->le c (el a (lo+i)) (el a (lo+k)))(h2:∀i,l<=i->i<k->le c (el a (lo+k)) (el a (lo+i))):
  SR c (bubble a (lo+k) (lo+k-(lo+l))) lo (lo+(k+1)):=λi j g1 g2 g3=>by
 rw[iX hk (by lia),iX hk (by lia),show lo+k-(lo+k-(lo+l))=lo+l by lia]
 have q1:∀i,lo<=i->i<lo+l->le c (el a i) (el a (lo+k)):=λi x y=>by
  have:=h1 (i-lo) (by lia)
  rwa [show lo+(i-lo)=i by lia]at this
 have q2:∀i,lo+l<=i->i<lo+k->le c (el a (lo+k)) (el a i):=λi x y=>by
  have:=h2 (i-lo) (by lia) (by lia)
  rwa [show lo+(i-lo)=i by lia]at this
 by_cases ei:i=lo+l
 ·rw[if_pos ei]
  by_cases ej:j=lo+l
  ·rw[if_pos ej];exact O.refl _
  ·rw[if_neg ej,if_pos (by lia)]
   exact q2 _ (by lia) (by lia)
 ·rw[if_neg ei]
  by_cases ej:j=lo+l
  ·rw[if_pos ej,if_neg (by lia)]
   exact q1 _ (by lia) (by lia)
  ·rw[if_neg ej]
   by_cases fi:lo+l<i/\i<=lo+k
   ·rw[if_pos fi,if_pos (by lia)]
    exact h _ _ (by lia) (by lia) (by lia)
   ·rw[if_neg fi]
    by_cases fj:lo+l<j/\j<=lo+k
    ·rw[if_pos fj];exact h _ _ (by lia) (by lia) (by lia)
    ·rw[if_neg fj];exact h _ _ (by lia) (by lia) (by lia)
theorem wA {src d:Nat}(hs:src<a.size)(hd:d<=src):Rg a (bubble a src d) (src-d) (src+1):=⟨bubble_perm _ _ _,λk h=>by
 rw[iX hs hd,if_neg (by lia),if_neg (by lia)]⟩
end
section
variable {prog:So}{w:SI}{A:TF}{E:Sh->Si->Prop}{s:Si}{κ:UZ}{c:Ss->Ss->Bool}{a₀:Array Ss}
theorem Dy (O:bZ c)(L:e9 prog w A E s κ c (·∈a₀.toList)){st:Tb}{lo n ok:Nat}{Q:Bool->Tb->Prop}(h0:i4 κ a₀ st)(bG:ok<=n)(h1:1<=n)(hn:lo+n<=a₀.size)(hs:SR c (Te st) lo (lo+ok))
  (h:∀b,Rg (Te st) b lo (lo+n)->SR c b lo (lo+n)->Q true (TY st b)):wpS (model prog w) A E s (binarySort' lo n ok) Q st:=by
 rw[binarySort'_eq];refine Sw (Uj (TL (I:=λk r az=>r=(none,())/\k<=n/\∃b,az=TY st b/\Rg (Te st) b lo (lo+n)/\SR c b lo (lo+k))
  (Q:=λr az=>r=(none,())/\∃b,az=TY st b/\Rg (Te st) b lo (lo+n)/\SR c b lo (lo+n)) ?_ ?_ ?_) ?_)
 ·rintro k r az MR hk ⟨rfl,_,b,rfl,R,vX⟩;dsimp only;have hz:b.size=a₀.size:=R.size.trans h0.size;refine Sw (Uj (TL (I:=λx r az=>az=TY st b/\∃l u,r=(none,l,u)/\l<=u/\u<=k/\u-l<=k-x/\(∀i,i<l->le c (el b (lo+i)) (el b (lo+k)))/\(∀i,u<=i->i<k->le c (el b (lo+k)) (el b (lo+i))))
   (Q:=λr az=>az=TY st b/\∃l,r=(none,l,l)/\l<=k/\(∀i,i<l->le c (el b (lo+i)) (el b (lo+k)))/\(∀i,l<=i->i<k->le c (el b (lo+k)) (el b (lo+i)))) ?_ ?_ ?_) ?_)
  ·rintro x r az _ hx ⟨rfl,l,u,rfl,g1,g2,g3,g4,g5⟩;dsimp only
   by_cases OA:l >= u
   ·rw[if_pos OA];obtain rfl:l=u:=by lia
    exact SA ⟨rfl,l,rfl,g2,g4,g5⟩
   ·rw[if_neg OA];refine Sw (gQ L h0 R (by lia) (by lia) ?_)
    dsimp only;cases hc:c (el b (lo+k)) (el b (lo+(l+u) / 2))with
    |true =>
     rw[if_pos rfl];exact SA ⟨rfl,l,_,rfl,by lia,by lia,by lia,g4,λi h1 h2=>O.trans (O.of_lt hc) (vX _ _ (by lia) (by lia) (by lia))⟩
    |false =>
     rw[if_neg (by simp)]
     exact SA ⟨rfl,_,u,rfl,by lia,by lia,by lia,λi h1=>O.trans (vX _ _ (by lia) (by lia) (by lia)) (show le c (el b (lo+(l+u) / 2)) (el b (lo+k)) from hc),g5⟩
  ·rintro r az ⟨rfl,l,u,rfl,g1,g2,g3,g4,g5⟩;obtain rfl:l=u:=by lia
   exact⟨rfl,l,rfl,g2,g4,g5⟩
  ·exact⟨rfl,0,k,rfl,SH _,Sj _,by lia,λi hi=>by lia,λi h1 h2=>by lia⟩
  rintro r az ⟨rfl,l,rfl,g2,g4,g5⟩;dsimp only;rw[moveDown'_eq];refine Sw (UN (SA ⟨rfl,by lia,_,rfl,R.trans ((wA (a:=b) (by lia) (by lia)).mono (by lia) (by lia)),wz (a:=b) O (by lia) g2 vX g4 g5⟩))
 ·rintro r az ⟨rfl,hx,b,rfl,R,vX⟩;rw[show max (max ok 1) n=n by lia]at vX
  exact⟨rfl,b,rfl,R,vX⟩
 ·refine⟨rfl,by lia,Te st,rfl,Rg.refl,?_⟩
  by_cases h2:ok=0
  ·subst h2;exact SR.one O
  ·rw[show max ok 1=ok by lia]
   exact hs
 ·rintro r az ⟨rfl,b,rfl,R,vX⟩;exact SA (h b R vX)
theorem qt (base:Nat):∀(l:List Ss) (off:Nat) (a:Array Ss),base+off+l.length<=a.size->∀k:Nat,
  ((l.zipIdx off).foldl (λx (z:Ss×Nat)=>x.setIfInBounds (base+z.2) z.1) a)[k]?=if base+off<=k/\k<base+off+l.length then l[k-(base+off)]? else a[k]?
 |[],off,a,_,k=>by
  rw[if_neg (by rw[List.length_nil];lia)]
  rfl
 |x::l,off,a,h,k=>by
  rw[SM]at h;rw[W8,Wh,qt base l (off+1) _ (by rw[VV];lia)]
  by_cases h1:base+(off+1)<=k/\k<base+(off+1)+l.length
  ·rw[if_pos h1,if_pos (by rw[SM];lia),show k-(base+off)=k-(base+(off+1))+1 by lia,U9]
  ·rw[if_neg h1,Array.getElem?_setIfInBounds]
   by_cases h2:base+off=k
   ·subst h2;rw[if_pos rfl,if_pos (by lia),if_pos (by rw[SM];lia),V2]
    rfl
   ·rw[if_neg h2,if_neg (by rw[SM];lia)]
def Ak (a:Array Ss)(base:Nat)(l:List Ss):Array Ss:=l.zipIdx.foldl (λx (z:Ss×Nat)=>x.setIfInBounds (base+z.2) z.1) a
theorem nM {a:Array Ss}{base:Nat}{l:List Ss}(h:base+l.length<=a.size)(k:Nat):(Ak a base l)[k]?=if base<=k/\k<base+l.length then l[k-base]? else a[k]?:=qt base l 0 a h k
theorem wU {a:Array Ss}{base:Nat}{l:List Ss}(h:base+l.length<=a.size):(Ak a base l).toList=a.toList.take base++(l++a.toList.drop (base+l.length)):=by
 apply Ue;intro k;rw[SK,nM h];have hz:a.toList.length=a.size:=Sv
 by_cases h1:base<=k/\k<base+l.length
 ·rw[if_pos h1,Tr (by rw[SU];lia),SU,T7 (by lia)]
  congr 1
  lia
 ·rw[if_neg h1]
  by_cases h2:k<base
  ·rw[T7 (by rw[SU];lia),U1 h2,SK]
  ·rw[Tr (by rw[SU];lia),SU,Tr (by lia),VF,SK]
   congr 1
   lia
theorem DT (a:Array Ss)(base m:Nat):a.toList=a.toList.take base++((a.toList.drop base).take m++a.toList.drop (base+m)):=by
 have h1:=(Ux base a.toList).symm;have h2:=(Ux m (a.toList.drop base)).symm;rw[List.drop_drop]at h2;rw[<- h2];exact h1
theorem Ds {a:Array Ss}{base:Nat}{l:List Ss}(h:base+l.length<=a.size)(hp:l.Perm ((a.toList.drop base).take l.length)):Rg a (Ak a base l) base (base+l.length) where
 perm:=by
  rw[UT,wU h];refine List.Perm.trans ?_ (Wi (DT a base l.length).symm);exact Wm _ (hp.append_right _)
 out:=λk hk=>dt (by rw[nM h,if_neg (by lia)])
end
section
variable {prog:So}{w:SI}{A:TF}{E:Sh->Si->Prop}{s:Si}{κ:UZ}{c:Ss->Ss->Bool}{a₀:Array Ss}
theorem Ao {σ:Type}{M:Model}{Q:PUnit->σ->Prop}{st az:σ}(h:Q ⟨⟩ az):wpS M A E s (set az:StateT σ Sem PUnit) Q st:=by
 unfold wpS;rw[StateT.run_set];exact Sm ⟨rfl,h⟩
theorem tw {a:Array Ss}{lo hi i:Nat}(h:i<hi-lo)(hh:hi<=a.size):el (a.extract lo hi) i=el a (lo+i) :=
 dt (by rw[Array.getElem?_extract,if_pos (by lia)])
theorem lG {a:Array Ss}{lo hi:Nat}(hh:hi<=a.size):(a.extract lo hi).size=hi-lo:=by
 rw[Array.size_extract];lia
theorem uD {a:Array Ss}{lo hi:Nat}(hh:hi<=a.size){z:Ss}(h:z∈(a.extract lo hi).toList):∃u,lo<=u/\u<hi/\z=el a u:=by
 obtain⟨i,d9⟩:=Vu h;rw[SK]at d9;have fz:i<(a.extract lo hi).size:=by
  rcases TZ i (a.extract lo hi).size with q|q
  ·exact q
  ·rw[Ur q]at d9;cases d9
 rw[lG hh]at fz;exact⟨lo+i,by lia,by lia,by rw[<- tw fz hh,uO d9]⟩
theorem rJ (O:bZ c)(L:e9 prog w A E s κ c (·∈a₀.toList)){st:Tb}{i sa na pw sb nb Lq:Nat}{Q:Bool->Tb->Prop}(h0:i4 κ a₀ st)(p1:(S3 st)[i]?=some (sa,na,pw))(p2:(S3 st)[i+1]?=some (sb,nb,Lq))
  (vX:sb=sa+na) (RT:1<=na) (RS:1<=nb) (hz:sb+nb<=a₀.size) (s1:SR c (Te st) sa sb) (s2:SR c (Te st) sb (sb+nb))
  (h:∀az,kindOf az=κ->Vb az=none->S3 az=((S3 st).setIfInBounds i (sa,na+nb,pw)).eraseIdxIfInBounds (i+1)->Rg (Te st) (Te az) sa (sb+nb)->SR c (Te az) sa (sb+nb)->Q true az) :
  wpS (model prog w) A E s (mergeAt' i) Q st:=by
 rw[qc];refine Sw (VJ ?_);rw[p1,p2];dsimp only;refine Sw (Ao ?_);have hsz:=h0.size;have hm:∀{j},j<a₀.size->el (Te st) j∈a₀.toList:=λhj=>h0.mem hj;generalize ha:Te st=a at *
 have vd:kindOf (Vj st (((S3 st).setIfInBounds i (sa,na+nb,pw)).eraseIdxIfInBounds (i+1)))=κ:=h0.kind;have DR:Vb (Vj st (((S3 st).setIfInBounds i (sa,na+nb,pw)).eraseIdxIfInBounds (i+1)))=none:=h0.fail;have DS:Te (Vj st (((S3 st).setIfInBounds i (sa,na+nb,pw)).eraseIdxIfInBounds (i+1)))=a:=ha;have GN:S3 (Vj st (((S3 st).setIfInBounds i (sa,na+nb,pw)).eraseIdxIfInBounds (i+1)))=((S3 st).setIfInBounds i (sa,na+nb,pw)).eraseIdxIfInBounds (i+1):=rfl;generalize hP:((S3 st).setIfInBounds i (sa,na+nb,pw)).eraseIdxIfInBounds (i+1)=P at *
 generalize Vj st P=GO at *
 refine Sw (aL (by lia) ?_)
 refine Sw (c7 O L vd (hm (by lia)) (λx hx=>hm (by lia)) (by lia) (λx y h1 h2 h3=>s1 x y h1 h2 (by lia)) (by lia) λk k1 k2 k3=>?_)
 dsimp only;have g0:∀x,sa<=x->x<sa+k->le c (el a x) (el a sb):=λx h1 h2=>by
  have:=k2 (x-sa) (by lia)
  unfold dv at this;rw[if_neg (by simp),VO,show sa+(x-sa)=x by lia]at this
  exact this
 by_cases e1:(na-k==0)=true
 ·rw[if_pos e1];have e1:na-k=0:=by simpa using e1
  refine SA (h GO vd DR GN (by rw[DS];exact Rg.refl) ?_)
  rw[DS];intro x y h1 h2 h3
  by_cases hx:x<sb
  ·by_cases hy:y<sb
   ·exact s1 x y h1 h2 hy
   ·exact O.trans (g0 x h1 (by lia)) (s2 sb y (Sj _) (by lia) h3)
  ·exact s2 x y (by lia) h2 h3
 rw[if_neg e1];have e1:na-k≠0:=by simpa using e1
 have g1:c (el a sb) (el a (sa+k))=true:=by
  have:=k3 k (Sj _) (by lia)
  unfold dv at this;rw[if_neg (by simp),WL]at this
  exact this
 refine Sw (aL (by lia) ?_)
 refine Sw (c7 O L vd (hm (by lia)) (λx hx=>hm (by lia)) (by lia) (λx y h1 h2 h3=>s2 x y h1 h2 (by lia)) (by lia) λm m1 m2 m3=>?_)
 dsimp only;rw[show sa+k+(na-k)-1=sb-1 by lia]at m2 m3
 have g2:∀x,sb<=x->x<sb+m->c (el a x) (el a (sb-1))=true:=λx h1 h2=>by
  have:=m2 (x-sb) (by lia)
  unfold dv at this;rw[if_pos rfl,show sb+(x-sb)=x by lia]at this
  exact this
 have g3:∀x,sb+m<=x->x<sb+nb->le c (el a (sb-1)) (el a x):=λx h1 h2=>by
  have:=m3 (x-sb) (by lia) (by lia)
  unfold dv at this;rw[if_pos rfl,show sb+(x-sb)=x by lia]at this
  exact this
 by_cases e2:(m==0)=true
 ·exfalso
  have e2:m=0:=by simpa using e2
  have:=O.trans (s1 (sa+k) (sb-1) (by lia) (by lia) (by lia)) (g3 sb (by lia) (by lia))
  exact absurd (g1.symm.trans this) (by simp)
 rw[if_neg e2];have e2:m≠0:=by simpa using e2
 have zx:(a.extract (sa+k) sb).size=sb-(sa+k):=lG (by lia)
 have zy:(a.extract sb (sb+m)).size=m:=by rw[lG (by lia)];lia
 have ex:∀{t},t<sb-(sa+k)->el (a.extract (sa+k) sb) t=el a (sa+k+t):=λht=>tw ht (by lia)
 have ey:∀{t},t<m->el (a.extract sb (sb+m)) t=el a (sb+t):=λht=>tw (by lia) (by lia)
 have fin:∀(out:Array Ss) (e_:Tb),i5 GO e_->Gd c (a.extract (sa+k) sb) (a.extract sb (sb+m)) out.toList ->
   wpS (model prog w) A E s (do
    modify λs2=>TY s2 (out.toList.zipIdx.foldl (λx z=>match z with|(p,j)=>x.setIfInBounds (sa+k+j) p) (Te s2))
    let y <- get
    pure (Vb y).isNone:StateT Tb Sem Bool) Q e_:=by
  rintro out e_ e ⟨gp,gs⟩;refine Sw (UN (Sw (VJ (SA ?_))));show Q (Vb e_).isNone (TY e_ (Ak (Te e_) (sa+k) out.toList));rw[e.fail,DR,e.arr,DS];have zo:out.toList.length=sb-(sa+k)+m:=by
   rw[gp.length_eq,S_,Sv,Sv,zx,zy]
  have hb:sa+k+out.toList.length<=a.size:=by lia
  have xy:(a.toList.drop (sa+k)).take out.toList.length=(a.extract (sa+k) sb).toList++(a.extract sb (sb+m)).toList:=by
   rw[bY,bY,zo,show sb+m-sb=m by lia,List.take_add,List.drop_drop,show sa+k+(sb-(sa+k))=sb by lia]
  have R:Rg a (Ak a (sa+k) out.toList) (sa+k) (sa+k+out.toList.length):=Ds hb (by rw[xy];exact gp)
  refine h _ (e.kind.trans vd) (e.fail.trans DR) (e.pend.trans GN) (R.mono (by lia) (by lia)) ?_
  show SR c (Ak a (sa+k) out.toList) sa (sb+nb);have Ff:∀t,sa+k<=t->t<sb+m->∃z,out.toList[t-(sa+k)]?=some z/\el (Ak a (sa+k) out.toList) t=z/\((∃u,sa+k<=u/\u<sb/\z=el a u)\/∃u,sb<=u/\u<sb+m/\z=el a u):=by
   intro t h1 h2;have hl:t-(sa+k)<out.toList.length:=by lia
   refine⟨out.toList[t-(sa+k)],Sk hl,uO (by rw[nM hb,if_pos (by lia)];exact Sk hl),?_⟩
   have mh:=gp.mem_iff.mp (Uu hl);rcases SO.mp mh with q|q
   ·exact .inl (uD (by lia) q)
   ·exact .inr (uD (by lia) q)
  have OU:∀t,t<sa+k->el (Ak a (sa+k) out.toList) t=el a t:=λt ht=>R.out t (.inl ht);have Ks:∀t,sb+m<=t->el (Ak a (sa+k) out.toList) t=el a t:=λt ht=>R.out t (.inr (by lia))
  intro x y h1 h2 h3
  by_cases hx:x<sa+k
  ·rw[OU x hx]
   by_cases hy:y<sa+k
   ·rw[OU y hy];exact s1 x y h1 h2 (by lia)
   ·by_cases LZ:y<sb+m
    ·obtain⟨z,_,ez,LX⟩:=Ff y (by lia) LZ
     rw[ez];rcases LX with⟨u,u1,u2,rfl⟩|⟨u,u1,u2,rfl⟩
     ·exact s1 x u h1 (by lia) u2
     ·exact O.trans (g0 x h1 hx) (s2 sb u (Sj _) u1 (by lia))
    ·rw[Ks y (by lia)]
     exact O.trans (g0 x h1 hx) (s2 sb y (Sj _) (by lia) h3)
  ·by_cases HY:x<sb+m
   ·obtain⟨z,iz,ez,LX⟩:=Ff x (by lia) HY
    rw[ez]
    by_cases LZ:y<sb+m
    ·obtain⟨z',Qd,Ng,_⟩:=Ff y (by lia) LZ
     rw[Ng]
     by_cases L1:x=y
     ·subst L1;rw[ez]at Ng;rw[Ng];exact O.refl _
     ·obtain⟨q1,q2⟩:=Sz.mp iz;obtain⟨q3,q4⟩:=Sz.mp Qd;have:=VH.mp gs _ _ q1 q3 (by lia)
      rw[q2,q4]at this;exact this
    ·rw[Ks y (by lia)]
     rcases LX with⟨u,u1,u2,rfl⟩|⟨u,u1,u2,rfl⟩
     ·exact O.trans (s1 u (sb-1) (by lia) (by lia) (by lia)) (g3 y (by lia) h3)
     ·exact s2 u y (by lia) (by lia) h3
   ·rw[Ks x (by lia),Ks y (by lia)]
    exact s2 x y (by lia) h2 h3
 have go:∀(out:Array Ss) (e_:Tb),i5 GO e_->Gd c (a.extract (sa+k) sb) (a.extract sb (sb+m)) out.toList->wpS (model prog w) A E s (do
    modify λs2=>TY s2 (out.toList.zipIdx.foldl (λx z=>match z with|(p,j)=>x.setIfInBounds (sa+k+j) p) (Te s2))
    let y <- get
    pure (Vb y).isNone:StateT Tb Sem Bool) Q e_:=fin
 have Ol:0<(a.extract (sa+k) sb).size:=by lia
 have Oj:0<(a.extract sb (sb+m)).size:=by lia
 have Sx:∀t,t<(a.extract (sa+k) sb).size->el (a.extract (sa+k) sb) t∈a₀.toList:=λt ht=>by rw[ex (by lia)];exact hm (by lia)
 have Sy:∀t,t<(a.extract sb (sb+m)).size->el (a.extract sb (sb+m)) t∈a₀.toList:=λt ht=>by rw[ey (by lia)];exact hm (by lia)
 have NT:SR c (a.extract (sa+k) sb) 0 (a.extract (sa+k) sb).size:=λx y h1 h2 h3=>by
  rw[ex (by lia),ex (by lia)]
  exact s1 _ _ (by lia) (by lia) (by lia)
 have NS:SR c (a.extract sb (sb+m)) 0 (a.extract sb (sb+m)).size:=λx y h1 h2 h3=>by
  rw[ey (by lia),ey (by lia)]
  exact s2 _ _ (by lia) (by lia) (by lia)
 have hf:c (el (a.extract sb (sb+m)) 0) (el (a.extract (sa+k) sb) 0)=true:=by
  rw[ex (by lia),ey (by lia)]
  exact g1
 have hl:∀y,y<(a.extract sb (sb+m)).size->c (el (a.extract sb (sb+m)) y) (el (a.extract (sa+k) sb) ((a.extract (sa+k) sb).size-1))=true:=λy hy=>by
  rw[ey (by lia),ex (by lia),show sa+k+((a.extract (sa+k) sb).size-1)=sb-1 by lia]
  exact g2 _ (by lia) (by lia)
 by_cases e3:na-k<=m
 ·rw[if_pos e3];exact Sw (rG O L vd Sx Sy NT NS Ol Oj hf hl go)
 ·rw[if_neg e3];exact Sw (rH O L vd Sx Sy NT NS Ol Oj hf hl go)
end
section
variable {c:Ss->Ss->Bool}{a b:Array Ss}
def Runs (c:Ss->Ss->Bool)(a:Array Ss):List (Nat×Nat×Nat)->Nat->Nat->Prop
 |[],lo,hi=>lo=hi
 |z::r,lo,hi=>z.1=lo/\1<=z.2.1/\SR c a lo (lo+z.2.1)/\Runs c a r (lo+z.2.1) hi
theorem Runs.app:∀{l r:List (Nat×Nat×Nat)} {lo hi:Nat},Runs c a (l++r) lo hi->∃m,Runs c a l lo m/\Runs c a r m hi
 |[],r,lo,hi,h=>⟨lo,rfl,h⟩
 |z::l,r,lo,hi,⟨h1,h2,h3,h4⟩=>by
  obtain⟨m,g1,g2⟩:=Runs.app h4;exact⟨m,⟨h1,h2,h3,g1⟩,g2⟩
theorem Runs.join:∀{l r:List (Nat×Nat×Nat)} {lo m hi:Nat},Runs c a l lo m->Runs c a r m hi->Runs c a (l++r) lo hi
 |[],r,lo,m,hi,h,g=>by
  obtain rfl:lo=m:=h;exact g
 |z::l,r,lo,m,hi,⟨h1,h2,h3,h4⟩,g=>⟨h1,h2,h3,Runs.join h4 g⟩
theorem Runs.len:∀{l:List (Nat×Nat×Nat)} {lo hi:Nat},Runs c a l lo hi->lo+l.length<=hi
 |[],lo,hi,h=>Nat.le_of_eq h
 |z::l,lo,hi,⟨h1,h2,h3,h4⟩=>by
  have:=Runs.len h4;rw[SM];lia
theorem Runs.congr:∀{l:List (Nat×Nat×Nat)} {lo hi:Nat},Runs c a l lo hi->(∀k,lo<=k->k<hi->el b k=el a k)->Runs c b l lo hi
 |[],lo,hi,h,_=>h
 |z::l,lo,hi,⟨h1,h2,h3,h4⟩,e=>by
  have hl:=Runs.len h4;exact⟨h1,h2,h3.congr λk g1 g2=>e k g1 (by lia),Runs.congr h4 λk g1 g2=>e k (by lia) g2⟩
theorem Runs.pow:∀{l l':List (Nat×Nat×Nat)} {lo hi:Nat},Runs c a l lo hi->l'.map (λz=>(z.1,z.2.1))=l.map (λz=>(z.1,z.2.1))->Runs c a l' lo hi
 |[],[],_,_,h,_=>h
 |[],z::l',_,_,_,e=>by cases e
 |z::l,[],_,_,_,e=>by cases e
 |z::l,z'::l',lo,hi,⟨h1,h2,h3,h4⟩,e=>by
  rw[Ta,Ta]at e;injection e with e1 e2
  injection e1 with e3 e4
  exact⟨e3.trans h1,by rw[e4];exact h2,by rw[e4];exact h3,by rw[e4];exact Runs.pow h4 e2⟩
end
section
variable {prog:So}{w:SI}{A:TF}{E:Sh->Si->Prop}{s:Si}{κ:UZ}{c:Ss->Ss->Bool}{a₀:Array Ss}
theorem DU {α:Type}{l:List α}{i:Nat}(h:i+1<l.length):∃l1 x y l2,l=l1++x::y::l2/\l1.length=i:=by
 refine⟨l.take i,l[i],l[i+1],l.drop (i+2),?_,by rw[SU];lia⟩
 rw[<- TJ h,<- TJ (by lia),Ux]
theorem mH (O:bZ c)(L:e9 prog w A E s κ c (·∈a₀.toList)){st:Tb}{i hi:Nat}{Q:Bool->Tb->Prop}(h0:i4 κ a₀ st)(hr:Runs c (Te st) (S3 st).toList 0 hi)(hh:hi<=a₀.size)(OI:i+1<(S3 st).size)
  (h:∀az,i4 κ a₀ az->Rg (Te st) (Te az) 0 hi->Runs c (Te az) (S3 az).toList 0 hi->(S3 az).size+1=(S3 st).size->Q true az) :
  wpS (model prog w) A E s (mergeAt' i) Q st:=by
 obtain⟨l1,⟨sa,na,pw⟩,⟨sb,nb,Lq⟩,l2,el,hl⟩:=DU (l:=(S3 st).toList) (i:=i) (by rw[Sv];exact OI)
 rw[el]at hr;obtain⟨m,r1,r2⟩:=hr.app;obtain⟨x1,x2,x3,y1,y2,y3,r3⟩:=r2;dsimp only at x1 x2 x3 y1 y2 y3 r3;have hlen:=r3.len;have OB:=r1.len;have p1:(S3 st)[i]?=some (sa,na,pw):=by
  rw[<- SK,el,Tr (by lia),hl,V2]
  rfl
 have p2:(S3 st)[i+1]?=some (sb,nb,Lq):=by
  rw[<- SK,el,Tr (by lia),hl,show i+1-i=1 by lia]
  rfl
 subst x1;refine rJ O L h0 p1 p2 y1 x2 y2 (by lia) (by rw[y1];exact x3) (by rw[y1];exact y3) λaz k1 k2 k3 R S=>?_
 have ep:(S3 az).toList=l1++(sa,na+nb,pw)::l2:=by
  rw[k3];have hz:i+1<((S3 st).setIfInBounds i (sa,na+nb,pw)).size:=by rw[VV];exact OI
  have e1:(((S3 st).setIfInBounds i (sa,na+nb,pw)).eraseIdxIfInBounds (i+1)).toList=((S3 st).toList.set i (sa,na+nb,pw)).eraseIdx (i+1):=by
   unfold Array.eraseIdxIfInBounds;rw[dif_pos hz,Array.toList_eraseIdx,Array.toList_setIfInBounds]
  rw[e1,el,<- hl,List.set_append_right _ _ (Sj _),V2,List.set_cons_zero,List.eraseIdx_append_of_length_le (by lia),show l1.length+1-l1.length=1 by lia]
  rfl
 have out:∀k,(k<sa\/sb+nb<=k)->TS.el (Te az) k=TS.el (Te st) k:=R.out;refine h az ⟨k1,k2,R.perm.trans h0.perm⟩ (R.mono (SH _) (by lia)) ?_ ?_
 ·rw[ep];refine Runs.join (r1.congr λk g1 g2=>out k (.inl (by lia))) ⟨rfl,by show 1<=na+nb;lia,?_,?_⟩
  ·show SR c (Te az) sa (sa+(na+nb));rw[show sa+(na+nb)=sb+nb by lia]
   exact S
  ·show Runs c (Te az) l2 (sa+(na+nb)) hi;rw[show sa+(na+nb)=sa+na+nb by lia]
   exact r3.congr λk g1 g2=>out k (.inr (by lia))
 ·have e2:(S3 az).size=l1.length+(l2.length+1):=by rw[<- Sv,ep,S_,SM]
  have e3:(S3 st).size=l1.length+(l2.length+1+1):=by rw[<- Sv,el,S_,SM,SM]
  lia
theorem kX:∀(f n r:Nat),1<=n->1<=minRun' f n r
 |0,n,r,h=>by show 1<=n+r;lia
 |f+1,n,r,h=>by
  rw[minRun'_succ]
  split
  ·lia
  ·exact kX f _ _ (by lia)
theorem AU (p:Array (Nat×Nat×Nat))(i w:Nat):(p.modify i λx=>(x.1,x.2.1,w)).toList.map (λz=>(z.1,z.2.1))=p.toList.map (λz=>(z.1,z.2.1)):=by
 apply Ue;intro k;rw[Su,Su,SK,SK,Array.getElem?_modify]
 split
 ·rw[Option.map_map];rfl
 ·rfl
theorem oV (O:bZ c)(L:e9 prog w A E s κ c (·∈a₀.toList)){st:Tb}{Q:Unit->Tb->Prop}(h0:i4 κ a₀ st)(hp:S3 st=#[])(h2:2<=a₀.size)
  (h:∀az,i4 κ a₀ az->SR c (Te az) 0 a₀.size->Q () az):wpS (model prog w) A E s sortRuns' Q st:=by
 rw[sortRuns'_eq];refine Sw (VJ ?_);dsimp only;rw[h0.size];have Qx:=kX a₀.size a₀.size 0 (by lia)
 generalize minRun' a₀.size a₀.size 0=mr at Qx;refine Sw (Uj (TL (I:=λx r az=>i4 κ a₀ az/\∃lo,r=(none,lo)/\lo<=a₀.size/\(a₀.size<=lo\/x<=lo)/\Runs c (Te az) (S3 az).toList 0 lo)
  (Q:=λr az=>i4 κ a₀ az/\r=(none,a₀.size)/\Runs c (Te az) (S3 az).toList 0 a₀.size) ?_ ?_ ?_) ?_)
 ·rintro x r az _ hx ⟨hS,lo,rfl,Kj,Qz,hr⟩;dsimp only
  by_cases hl:lo >= a₀.size
  ·rw[if_pos hl];obtain rfl:lo=a₀.size:=by lia
   exact SA ⟨hS,rfl,hr⟩
  rw[if_neg hl];refine Sw (w5 O L hS (by lia) (by lia) λn b n1 n2 R Sb=>?_)
  dsimp only;have rC:i4 κ a₀ (TY az b):=hS.set R;have oB:Runs c (Te (TY az b)) (S3 (TY az b)).toList 0 lo:=Runs.congr (b:=b) hr λk q1 q2=>R.out k (.inl q2);refine(λ(key:∀(N:Nat) (stx:Tb),1<=N->lo+N<=a₀.size->Runs c (Te stx) (S3 stx).toList 0 lo->i4 κ a₀ stx->SR c (Te stx) lo (lo+N)->(?G:Nat->Tb->Prop) N stx)=>?main) ?key
  case main =>
   by_cases Oy:n<mr
   ·rw[if_pos Oy];refine Sw (Wq (UO ⟨rfl,?_⟩));refine Sw (Dy O L rC (by lia) (by lia) (by lia) Sb λb' R' Rc=>?_)
    rw[if_neg (by simp)]
    have Ko:1<=min (a₀.size-lo) mr:=by lia
    have M6:lo+min (a₀.size-lo) mr<=a₀.size:=by lia
    have oB:Runs c (Te (TY (TY az b) b')) (S3 (TY (TY az b) b')).toList 0 lo:=Runs.congr (b:=b') oB λk q1 q2=>R'.out k (.inl q2);have rC:i4 κ a₀ (TY (TY az b) b'):=rC.set R';have Di:SR c (Te (TY (TY az b) b')) lo (lo+(min (a₀.size-lo) mr)):=Rc;generalize TY (TY az b) b'=stx at oB rC Di ⊢
    generalize min (a₀.size-lo) mr=N at Ko M6 Di ⊢
    exact key N stx Ko M6 oB rC Di
   ·rw[if_neg Oy];have Di:SR c (Te (TY az b)) lo (lo+n):=Sb;exact key n _ n1 (by lia) oB rC Di
  case key =>
   intro N stx Ko M6 oB rC Di;refine Sw (VJ ?_);have JN:∀(j4:Tb),i4 κ a₀ j4->SR c (Te j4) lo (lo+N)->Runs c (Te j4) (S3 j4).toList 0 lo->i4 κ a₀ (Vj j4 ((S3 j4).push (lo,N,0)))/\∃CN,((none,lo+N):Option Unit×Nat)=(none,CN)/\CN<=a₀.size/\(a₀.size<=CN\/x+1<=CN)/\Runs c (Te j4) ((S3 j4).push (lo,N,0)).toList 0 CN:=λj4 g1 g2 g3 =>
    ⟨⟨g1.kind,g1.fail,g1.perm⟩,_,rfl,by lia,by lia,by rw[Ul];exact g3.join ⟨rfl,Ko,g2,rfl⟩⟩
   cases hb:(S3 stx).back? with
   |none =>
    dsimp only;exact Sw (UN (SA (JN stx rC Di oB)))
   |some z =>
    obtain⟨s1,n1,p1⟩:=z;dsimp only;refine Sw (Uj (TL (I:=λx r az=>r=(none,())/\i4 κ a₀ az/\SR c (Te az) lo (lo+N)/\Runs c (Te az) (S3 az).toList 0 lo)
     (Q:=λr az=>r=(none,())/\i4 κ a₀ az/\SR c (Te az) lo (lo+N)/\Runs c (Te az) (S3 az).toList 0 lo) ?_ ?_ ?_) ?_)
    ·rintro y r j4 _ _ ⟨rfl,g1,g2,g3⟩;refine Sw (VJ ?_)
     by_cases IV:(S3 j4).size>1
     ·rw[if_pos IV];cases hq:(S3 j4)[(S3 j4).size-2]? with
      |none =>
       dsimp only;exact SA ⟨rfl,g1,g2,g3⟩
      |some z =>
       obtain⟨u,v,N6⟩:=z;dsimp only
       split
       ·exact SA ⟨rfl,g1,g2,g3⟩
       ·refine Sw (mH O L g1 g3 (by lia) (by lia) λGL f1 f2 f3 f4=>?_)
        exact SA ⟨rfl,f1,g2.congr λk q1 q2=>f2.out k (.inr q1),f3⟩
     ·rw[if_neg IV];dsimp only;exact SA ⟨rfl,g1,g2,g3⟩
    ·rintro r j4 ⟨rfl,g1,g2,g3⟩;exact⟨rfl,g1,g2,g3⟩
    ·exact⟨rfl,rC,Di,oB⟩
    rintro r j4 ⟨rfl,g1,g2,g3⟩;dsimp only;refine Sw (UN (Sw (UN (SA ?_))));exact JN (Vj j4 _) ⟨g1.kind,g1.fail,g1.perm⟩ g2 (g3.pow (AU _ _ _))
 ·rintro r az ⟨hS,lo,rfl,Kj,Qz,hr⟩;obtain rfl:lo=a₀.size:=by lia
  exact⟨hS,rfl,hr⟩
 ·exact⟨h0,0,rfl,SH _,.inr (Sj _),by rw[hp];rfl⟩
 rintro r az ⟨hS,rfl,hr⟩;dsimp only;refine Sw (Uj (TL (I:=λx r az=>r=(none,())/\i4 κ a₀ az/\Runs c (Te az) (S3 az).toList 0 a₀.size/\((S3 az).size<=1\/(S3 az).size+x<=a₀.size))
  (Q:=λr az=>r=(none,())/\i4 κ a₀ az/\Runs c (Te az) (S3 az).toList 0 a₀.size/\(S3 az).size<=1) ?_ ?_ ?_) ?_)
 ·rintro x r e_ _ hx ⟨rfl,rC,oB,hz⟩;refine Sw (VJ ?_)
  by_cases h1:(S3 e_).size<=1
  ·rw[if_pos h1];exact SA ⟨rfl,rC,oB,h1⟩
  rw[if_neg h1];refine Sw (mH O L rC oB (Sj _) ?_ λj4 QP R3 Qp RL=>?_)
  ·split
   ·split <;> lia
   ·rw[if_neg (by simp)]
    lia
  ·exact SA ⟨rfl,QP,Qp,.inr (by lia)⟩
 ·rintro r e_ ⟨rfl,rC,oB,hz⟩;exact⟨rfl,rC,oB,by lia⟩
 ·refine⟨rfl,hS,hr,.inr ?_⟩;have:=hr.len;rw[Sv]at this;lia
 ·rintro r e_ ⟨rfl,rC,oB,hz⟩;refine SA (h e_ rC ?_)
  match hq:(S3 e_).toList,oB with
  |[],e=>
   have:(0:Nat)=a₀.size:=e;lia
  |[z],e =>
   obtain⟨e1,e2,e3,e4⟩:=e;have e4:0+z.2.1=a₀.size:=e4;rw[e4]at e3;exact e3
  |z::y::l,e =>
   have:(S3 e_).toList.length<=1:=by rw[Sv];exact hz
   rw[hq]at this;simp at this
end
theorem lex_nil {y:List Int}:HT.lexLt [] y=decide (0<y.length):=by cases y <;> rfl
theorem hX {a b:Int}{x y:List Int}:HT.lexLt (a::x) (b::y)=if a=b then HT.lexLt x y else decide (a<b):=rfl
theorem qg:∀{x y:List Int},HT.lexLt x y=true->HT.lexLt y x=false
 |[],[],_=>rfl
 |[],_::_,_=>rfl
 |_::_,[],h=>by cases h
 |a::x,b::y,h=>by
  rw[hX]at h ⊢
  by_cases e:a=b
  ·rw[if_pos e]at h;rw[if_pos e.symm];exact qg h
  ·rw[if_neg e]at h;rw[if_neg λz=>e z.symm];have:=of_decide_eq_true h;exact decide_eq_false (by lia)
theorem uF:∀{x z:List Int} (y:List Int),HT.lexLt x z=true->HT.lexLt x y=true\/HT.lexLt y z=true
 |[],[],_,h=>by cases h
 |[],_::_,[],h=>.inr rfl
 |[],_::_,_::_,h=>.inl rfl
 |_::_,[],_,h=>by cases h
 |a::x,b::z,[],h=>.inr rfl
 |a::x,b::z,d::y,h=>by
  rw[hX]at h ⊢
  rw[hX]
  by_cases e:a=b
  ·subst e;rw[if_pos rfl]at h
   by_cases e2:a=d
   ·subst e2;rw[if_pos rfl,if_pos rfl];exact uF y h
   ·rw[if_neg e2,if_neg λq=>e2 q.symm]
    by_cases e3:a<d
    ·exact .inl (decide_eq_true e3)
    ·exact .inr (decide_eq_true (by lia))
  ·rw[if_neg e]at h;have h:=of_decide_eq_true h
   by_cases e2:a=d
   ·subst e2;rw[if_neg e];exact .inr (decide_eq_true h)
   ·rw[if_neg e2]
    by_cases e3:a<d
    ·exact .inl (decide_eq_true e3)
    ·rw[if_neg (by lia)]
     exact .inr (decide_eq_true (by lia))
def byKey (kf:Sh->List Int)(x y:Ss):Bool:=HT.lexLt (kf x.1) (kf y.1)
theorem A7 (kf:Sh->List Int):bZ (byKey kf):=⟨λ_ _ h=>qg h,λ_ y _ h=>uF (kf y.1) h⟩
section
variable {prog:So}{w:SI}{A:TF}{E:Sh->Si->Prop}{s:Si}
theorem qf {b:Bool}{Q:Bool->Si->Prop}:∀{ns ms:List Int} {us vs:List Sh} (i:Nat),V6 us ns->V6 vs ms->Q (HT.lexLt ns ms) s->PySem.W.KatLex prog w A b (decide (ns.length<ms.length)) Q (us.zip vs) i s
 |[],ms,us,vs,i,hu,hv,q=>by
  cases hu;rw[WY];rw[lex_nil]at q;exact PySem.W.kat_nil q
 |n::ns,[],us,vs,i,hu,hv,q=>by
  cases hv;rw[List.zip_nil_right];exact PySem.W.kat_nil q
 |n::ns,m::ms,us,vs,i,hu,hv,q=>by
  cases hu with
  |cons _ t hu =>
   cases hv with
   |cons _ t' hv =>
    rw[VD];refine PySem.W.kat_cons (wpAny_eqBool_int ?_);rw[hX]at q
    by_cases e:n=m
    ·subst e;rw[if_pos rfl]at q;rw[beq_self_eq_true];have:=qf (b:=b) (Q:=Q) (i+1) hu hv q;rw[show decide ((n::ns).length<(n::ms).length)=decide (ns.length<ms.length) by rw[SM,SM];congr 1;simp]
     exact PySem.W.kat_yes this
    ·rw[if_neg e]at q;rw[show (n==m)=false from beq_eq_false_iff_ne.mpr e]
     refine PySem.W.kat_no ?_;cases b&&i==0 with
     |true=>exact oneLt_int q
     |false=>exact PySem.W.kat_one _ _ (lt_int q)
def mE (h:Heap)(kf:Sh->List Int)(a:Addr)(vs:List Sh):Prop :=
 ∀v∈vs,∃t o xs k,v=.ref t/\t≠a/\h.get? t=some o/\o.cls=.type "tuple" /\ o.data=.seq xs k/\V6 xs.toList (kf v)/\kf v≠[]
theorem vL {kf:Sh->List Int}{a:Addr}{vs:List Sh}{b:Bool}{a₀:Array Ss}(T:mE s.heap kf a vs)(hm:∀z∈a₀.toList,z.1∈vs):e9 prog w A E s (tuples' b) (byKey kf) (·∈a₀.toList):=by
 intro x y st Q hx hy hk q;obtain⟨t,o,xs,n,e1,_,e2,_,e3,e4,_⟩:=T _ (hm _ hx);obtain⟨t',o',JX,n',f1,_,f2,_,f3,f4,_⟩:=T _ (hm _ hy);rw[lt'_eq];refine Sw (VJ ?_);rw[hk,e1,f1];have z1:xs.size=(kf x.1).length:=by rw[<- Sv];exact e4.length
 have z2:JX.size=(kf y.1).length:=by rw[<- Sv];exact f4.length
 refine Sw (Wq (VP (PySem.W.kat_lt e2 e3 f2 f3 ?_)));rw[z1,z2];exact qf 0 e4 f4 ⟨rfl,SA q⟩
theorem jX {kf:Sh->List Int}{a:Addr}{h:Heap}:∀{vs:List Sh},mE h kf a vs->∃fs:List Sh,PySem.W.KatTups h vs fs/\fs.length=vs.length/\∀f∈fs,∃n t,f=Value.int n t
 |[],_=>⟨[],trivial,rfl,λf hf=>by cases hf⟩
 |v::vs,T=>by
  obtain⟨fs,h1,h2,h3⟩:=jX (vs:=vs) λu hu=>T u (S0 _ hu);obtain⟨t,o,xs,k,rfl,_,e2,e3,e4,e5,e6⟩:=T v SY;obtain⟨f,r,ef,n,tk,hn⟩:∃f r,xs.toList=f::r/\∃n tk,f=Value.int n tk:=by
   generalize kf (.ref t)=ks at e5 e6;generalize xs.toList=us at e5;cases e5 with
   |nil=>exact absurd rfl e6
   |cons n tk r=>exact⟨_,_,rfl,_,_,rfl⟩
  have e:xs[0]?=some f:=by rw[<- SK,ef];rfl
  exact⟨f::fs,PySem.W.KatTups.cons e2 e3 e4 e h1,by rw[SM,SM,h2],λg hg=>by
   rcases Sr.mp hg with rfl|hg
   ·exact⟨_,_,hn⟩
   ·exact h3 g hg⟩
theorem vR {kf:Sh->List Int}{a:Addr}{vs:List Sh}{Q:UZ->Si->Prop}(T:mE s.heap kf a vs)(h0:0<vs.length)(q:Q (tuples' true) s):S6 (model prog w) A (keyKind' vs.toArray) Q E s:=by
 obtain⟨fs,h1,h2,h3⟩:=jX T;refine PySem.W.kat_kind (T:=.type "int") h1 (by lia) (λv hv=>?_) (by decide) q
 obtain⟨n,t,rfl⟩:=h3 v hv;exact .now
theorem xE {α:Type}{R:α->α->Prop}:∀{l:List α},l.length<2->l.Pairwise R
 |[],_=>.nil
 |[x],_=>List.pairwise_singleton _ _
 |_::_::_,h=>by
  rw[SM,SM]at h;lia
theorem sJ {a:Addr} {vs:List Sh} {n:Nat} {κ:UZ} {c:Sh->Sh->Bool} {P:PySem.Fin->Si->Prop} (ho:s.heap.get? a=some (UD "list" vs.toArray n)) (hz:vs.length<=1000000) (O:bZ λx y=>c x.1 y.1)
  (T:∀s':Si,(∀t o,t≠a->s.heap.get? t=some o->s'.heap.get? t=some o)->(2<=vs.length->∀(Q:UZ->Si->Prop),Q κ s'->S6 (model prog w) A (keyKind' vs.toArray) Q E s')/\e9 prog w A E s' κ (λx y=>c x.1 y.1) (·∈(vs.toArray.zip vs.toArray).toList))
  (h:∀out:List Sh,out.Perm vs->out.Pairwise (λx y=>c y x=false)->P (.done (.ret .none)) {s with heap:=sortedHeap s.heap a vs out.toArray}) :
  S6 (model prog w) A (Vq.«list.sort» ⟨[.ref a],[]⟩) P E s:=by
 have la:a<s.heap.objs.size:=SD ho;obtain⟨ep,hc⟩:∃ep,(s.heap.update a (UQ λ_=>#[])).get? a=some (UD "list" #[] ep):=⟨_,get?_update_seq ho (λ_=>#[])⟩;have old:∀t o,t≠a->s.heap.get? t=some o->(((s.heap.update a (UQ λ_=>#[])).push (UD "tuple" vs.toArray 0)).push (UD "list" #[] 0)).get? t=some o:=λt o ht e =>
  Sl _ (Sl _ (by rw[Heap.get?_update_ne _ _ _ _ ht];exact e))
 have oF:(((s.heap.update a (UQ λ_=>#[])).push (UD "tuple" vs.toArray 0)).push (UD "list" #[] 0)).get? a=some (UD "list" #[] ep):=Sl _ (Sl _ hc);have big:∀m:Nat,m<=vs.length->m<=SG:=λm hm=>by rw[TH];lia
 have zz:vs.toArray.size=vs.length:=by simp
 rw[list_sort_plain];refine Sf (listItems_at ho rfl ?_);refine Sf (listUpdate_at ho rfl ?_ (big _ (Nat.le_of_eq zz)) (SH _));refine Sf (seqEpoch_at hc rfl ?_);refine Sf (wpAny_newTuple ?_ (big _ (Sj _)));refine Sf (wpAny_newList ?_ (SH _));refine T_ ?_;show S6 (model prog w) A _ P E {s with heap:=((s.heap.update a (UQ λ_=>#[])).push (UD "tuple" vs.toArray 0)).push (UD "list" #[] 0)}
 dsimp only;have done:∀az:Tb,(Te az).Perm (vs.toArray.zip vs.toArray)->(Te az).toList.Pairwise (le λx y=>c x.1 y.1)->P (.done (.ret .none)) {s with heap:=sortedHeap s.heap a vs ((Te az).map (·.2))}:=λaz hp hs=>by
  have h1:∀z∈(Te az).toList,z.1=z.2:=λz hz=>by
   have:=(UT.mp hp).mem_iff.mp hz;rw[W9]at this;obtain⟨i,hi⟩:=Vu this;rw[List.getElem?_zip_eq_some]at hi;exact S8 (hi.1.symm.trans hi.2)
  have e2:(Te az).map (·.2)=((Te az).toList.map (·.2)).toArray:=by
   apply Array.toList_inj.mp;rw[Array.toList_map]
  rw[e2];refine h _ ?_ ?_
  ·have:=(UT.mp hp).map (λz:Ss=>z.2);rw[W9]at this;refine this.trans (Wi ?_);exact List.map_snd_zip (by simp)
  ·rw[UM];refine hs.imp_of_mem λ{x y} hx hy hl=>?_;rw[<- h1 x hx,<- h1 y hy];exact hl
 by_cases h2:vs.toArray.size<2
 ·rw[if_pos h2,if_pos h2];refine Sf (Sm ?_);rw[StateT.run_pure];refine Sf (Sm ?_);dsimp only;refine Sf (seqEpoch_at oF rfl ?_);refine Sf (listUpdate_at oF rfl ?_ (SH _) (by rw[Xr,Xq];exact Ts (big _ (by lia)) (Nat.le_succ _)))
  simp only[bne_self_eq_false,WM,if_false];refine Sm (done (SortSt.mk' general' (vs.toArray.zip vs.toArray) #[] 7 none) (Xi _) ?_);refine xE ?_;show (vs.toArray.zip vs.toArray).toList.length<2;rw[Sv,Xq];lia
 ·rw[if_neg h2,if_neg h2];obtain⟨hK,L⟩:=T {s with heap:=((s.heap.update a (UQ λ_=>#[])).push (UD "tuple" vs.toArray 0)).push (UD "list" #[] 0)} old
  refine Sf (hK (by lia) _ ?_)
  have zp:(vs.toArray.zip vs.toArray).size=vs.length:=by rw[Xq];lia
  refine Sf (VA (oV (Q:=λ_ az=>(Te az).Perm (vs.toArray.zip vs.toArray)/\Vb az=none/\SR (λx y=>c x.1 y.1) (Te az) 0 vs.length) O L
   (st:=SortSt.mk' κ (vs.toArray.zip vs.toArray) #[] 7 none) ⟨rfl,rfl,Xi _⟩ rfl (by lia) λaz g1 g2=>⟨g1.perm,g1.fail,by rw[zp]at g2;exact g2⟩) ?_ λ_ _ e=>e)
  rintro⟨⟨⟩,az⟩ s' ⟨rfl,hp,hf,hs⟩;dsimp only;have zs:(Te az).size=vs.length:=hp.size_eq.trans zp;refine Sf (seqEpoch_at oF rfl ?_);refine Sf (listUpdate_at oF rfl ?_ (SH _) (by rw[Xr,zs];exact Ts (big _ (Sj _)) (Nat.le_succ _)))
  rw[hf];simp only[bne_self_eq_false,WM,if_false];refine Sm (done az hp ?_);rw[VH];intro i j hi hj aJ;rw[Sv]at hi hj;have:=hs i j (SH _) (by lia) (by lia)
  have ei:el (Te az) i=(Te az).toList[i]:=uO (by rw[<- SK];exact Sk _)
  have ej:el (Te az) j=(Te az).toList[j]:=uO (by rw[<- SK];exact Sk _)
  rw[ei,ej]at this;exact this
theorem k6 {a:Addr} {vs:List Sh} {n:Nat} {kf:Sh->List Int} {P:PySem.Fin->Si->Prop} (ho:s.heap.get? a=some (UD "list" vs.toArray n)) (hz:vs.length<=1000000) (T:mE s.heap kf a vs)
  (h:∀out:List Sh,out.Perm vs->out.Pairwise (λx y=>HT.lexLt (kf y) (kf x)=false)->P (.done (.ret .none)) {s with heap:=sortedHeap s.heap a vs out.toArray}) :
  S6 (model prog w) A (Vq.«list.sort» ⟨[.ref a],[]⟩) P E s:=by
 refine sJ (κ:=tuples' true) (c:=λx y=>HT.lexLt (kf x) (kf y)) ho hz (A7 kf) (λs' kp=>?_) h;have T':mE s'.heap kf a vs:=λv hv=>by
  obtain⟨t,o,xs,k,e1,e2,e3,r⟩:=T v hv;exact⟨t,o,xs,k,e1,e2,kp t o e2 e3,r⟩
 exact⟨λh2 Q q=>vR T' (by lia) q,vL T' λz hz=>by
  rw[W9]at hz;exact(Wf hz).1⟩
end
end TS
namespace ST
open PySem PyProof.Rows
section
variable {prog:So}{w:SI}{A:TF}{E:Sh->Si->Prop}{s:Si}
abbrev TK (prog:So)(w:SI):=VX (intKind prog w)
abbrev kH (prog:So)(w:SI)(k:List Int):Int:=(TK prog w).hash k
abbrev ent (prog:So)(w:SI)(x:Addr×List Int):Int×Sh:=(kH prog w x.2,.ref x.1)
structure cy (prog:So)(w:SI)(o:Obj)(ts:List (Addr×List Int))(es:Array (Int×Sh))(ep:Nat)(t:SetTable):Prop where
 ex:o.ExactSet
 dat:o.data=.set es ep t
 Fv:es.toList=ts.map (ent prog w)
 wf:WF t (ts.map λx=>kH prog w x.2)
 K6:t.place.size*5<t.mask*3
 CK:t.mask<=8191
 led:t.led=!w.params.followText "set-order"
 FZ:t.plain=true
 LC:(ts.map (·.2)).Nodup
def Co (prog:So)(w:SI)(h:Heap)(ts:List (Addr×List Int)):Prop:=∀x∈ts,(TK prog w).is h x.2 x.1
theorem cy.fits {o:Obj}{ts:List (Addr×List Int)}{es:Array (Int×Sh)}{ep:Nat}{t:SetTable}(S:cy prog w o ts es ep t):t.fits es.size=true:=by
 have h1:=S.wf.sz;have h2:es.size=ts.length:=by rw[<- Sv,S.Fv,Sg]
 rw[Sg]at h1;unfold SetTable.fits SetTable.fill;rw[S.wf.Ga,h2,h1];have:=S.K6;simp;lia
theorem cy.size {o:Obj}{ts:List (Addr×List Int)}{es:Array (Int×Sh)}{ep:Nat}{t:SetTable}(S:cy prog w o ts es ep t):es.size=ts.length/\t.place.size=ts.length:=by
 have h1:=S.wf.sz;rw[Sg]at h1;exact⟨by rw[<- Sv,S.Fv,Sg],h1⟩
theorem wj (d:Nat)(n:Int)(tk:Tok):ofAClassStatement d (.int n tk)=pure false:=by
 cases d <;> rfl
theorem oX {k:List Int}{b:Addr}{Q:Bool->Si->Prop}(hk:(TK prog w).is s.heap k b)(q:Q false s):S6 (model prog w) A (ofAClassStatement 8 (.ref b)) Q E s:=by
 obtain⟨o,items,n,ho,hc,hd,hi⟩:=hk;have hT:s.TypeIs (.ref b) "tuple" := ⟨o,ho,hc⟩;unfold ofAClassStatement;refine Sf (wpAny_typeOf hT ?_);dsimp only;rw[if_pos (by rfl)]
 refine Sf (Sm ?_);rw[if_neg (by simp)]
 refine Sf (UC ho hd ?_);dsimp only;rw[<- Array.forIn_toList];refine Sf (W5 _ (λrest r s'=>r=(none,())/\s'=s/\∀v∈rest,∃n tk,v=Value.int n tk) _ ?_ ?_ _ _ ⟨rfl,rfl,?_⟩)
 ·rintro v rest r s' ⟨rfl,rfl,gF⟩;obtain⟨n,tk,rfl⟩:=gF v SY;rw[wj];refine Sf (Sm ?_);rw[if_neg (by simp)]
  exact Sm ⟨rfl,rfl,λu hu=>gF u (S0 _ hu)⟩
 ·rintro r s' ⟨rfl,rfl,_⟩;exact Sm q
 ·generalize items.toList=vs at hi
  induction hi with
  |nil=>intro v hv;cases hv
  | @cons k v ks vs h1 h2 ih =>
   intro u hu;rcases Sr.mp hu with rfl|hu
   ·obtain⟨t,rfl⟩:=WS h1;exact⟨_,_,rfl⟩
   ·exact ih u hu
theorem Al {k:List Int}{b:Addr}(hk:(TK prog w).is s.heap k b)(l:List (Addr×List Int)){Q:Bool->Si->Prop}(T:Co prog w s.heap l)(q:Q false s):S6 (model prog w) A (searchCouldBeSeen (.ref b) (l.map λx=>Value.ref x.1)) Q E s:=by
 unfold searchCouldBeSeen;refine Sf (W5 _ (λrest r s'=>r=(none,())/\s'=s/\∀v∈rest,∃x∈l,v=Value.ref x.1) _ ?_ ?_ _ _ ⟨rfl,rfl,?_⟩)
 ·rintro v rest r s' ⟨rfl,rfl,gF⟩;obtain⟨x,hx,rfl⟩:=gF v SY;have C0:∀v∈rest,∃x∈l,v=Value.ref x.1:=λu hu=>gF u (S0 _ hu);dsimp only
  split
  ·exact Sm ⟨rfl,rfl,C0⟩
  ·refine Sf ((TK prog w).quiet hk ?_);rw[if_neg (by simp)]
   refine Sf ((TK prog w).quiet (T x hx) ?_);rw[if_neg (by simp)]
   refine Sf (oX hk ?_);rw[if_neg (by simp)]
   refine Sf (oX (T x hx) ?_);rw[if_neg (by simp)]
   exact Sm ⟨rfl,rfl,C0⟩
 ·rintro r s' ⟨rfl,rfl,_⟩;exact Sm q
 ·intro v hv;obtain⟨x,hx,rfl⟩:=Tj.mp hv;exact⟨x,hx,rfl⟩
end
end ST
namespace L2
open PySem PySem.Spec PyProof.Rows
inductive D where
 |bX|bl (b:Bool)|int (i:Int)|str (x:Str)|obj (a:Addr)
 |tup (ds:List D)|lst (ds:List D)
 |dT (ks:List (List Key)) (ds:List D)|dK (ks:List Key) (ds:List D)
 |sT (ts:List (List Int))
def DY (P:So)(w:SI)(a:Addr)(ts:List (Addr×List Int))(h:Heap):Prop:=∃o es ep t,h.get? a=some o/\ST.cy P w o ts es ep t
abbrev Cq (P:So)(w:SI)(a:Addr)(ts:List (Addr×List Int)):HO:=.ext (DY P w a ts)
def Cp (P:So)(w:SI)(H:Hp)(a:Addr)(ts:List (List Int)):Prop :=
 ∃cQ:List (Addr×List Int),H a=some (Cq P w a cQ)/\(∀x∈cQ,H x.1=some (.tup (x.2.map V.int)))/\(cQ.map (·.2)).Perm ts
section
variable (P:So)(w:SI)(W:Addr->Prop)(H:Hp)
mutual
def ay:D->V->Prop
 |.bX,v=>v=.bX
 |.bl b,v=>v=.bl b
 |.int i,v=>v=.int i
 |.str x,v=>v=.str x
 |.obj a,v=>v=.ref a
 |.tup ds,v=>∃a vs,v=.ref a/\H a=some (.tup vs)/\ah ds vs
 |.lst ds,v=>∃a vs,v=.ref a/\H a=some (.lst vs)/\¬ W a/\ah ds vs
 |.dT ks ds,v=>∃a vs,v=.ref a/\H a=some (.dT (ks.zip vs))/\ks.length=vs.length/\¬ W a/\ah ds vs
 |.dK ks ds,v=>∃a vs,v=.ref a/\H a=some (.dK (ks.zip vs))/\ks.length=vs.length/\¬ W a/\ah ds vs
 |.sT ts,v=>∃a,v=.ref a/\Cp P w H a ts/\¬ W a
def ah:List D->List V->Prop
 |[],vs=>vs=[]
 |d::ds,vs=>∃v r,vs=v::r/\ay d v/\ah ds r
end
end
mutual
def D.flat:D->Bool
 |.tup ds=>D.cw ds
 |.lst _=>false
 |.dT _ _=>false
 |.dK _ _=>false
 |.sT _=>false
 |_=>true
def D.cw:List D->Bool
 |[]=>true
 |d::ds=>D.flat d&&D.cw ds
end
structure Kp (W:Addr->Prop)(H H':Hp):Prop where
 out:∀b o,H b=some o->¬ W b->H' b=some o
 tup:∀b xs,H b=some (.tup xs)->H' b=some (.tup xs)
theorem Kp.refl {W:Addr->Prop}{H:Hp}:Kp W H H:=⟨λ_ _ e _=>e,λ_ _ e=>e⟩
theorem Kp.trans {W:Addr->Prop}{H H1 H2:Hp}(a:Kp W H H1)(b:Kp W H1 H2):Kp W H H2:=⟨λc o e n=>b.out c o (a.out c o e n) n,λc xs e=>b.tup c xs (a.tup c xs e)⟩
theorem au.kp {W:Addr->Prop}{H H':Hp}(h:au H H'):Kp W H H':=⟨λb o e _=>h b o e,λb xs e=>h b _ e⟩
theorem Kp.mono {W W':Addr->Prop}{H H':Hp}(h:Kp W H H')(s:∀a,W a->W' a):Kp W' H H':=⟨λb o e n=>h.out b o e λz=>n (s b z),h.tup⟩
section
variable {P:So}{w:SI}{W W':Addr->Prop}{H H':Hp}
mutual
theorem ay.keep (k:Kp W H H'):∀{d:D} {v:V},ay P w W H d v->ay P w W H' d v
 |.bX,_,h=>h
 |.bl _,_,h=>h
 |.int _,_,h=>h
 |.str _,_,h=>h
 |.obj _,_,h=>h
 |.tup ds,_,⟨a,vs,e,t,r⟩=>⟨a,vs,e,k.tup a vs t,ah.keep k r⟩
 |.lst ds,_,⟨a,vs,e,t,n,r⟩=>⟨a,vs,e,k.out a _ t n,n,ah.keep k r⟩
 |.dT ks ds,_,⟨a,vs,e,t,l,n,r⟩=>⟨a,vs,e,k.out a _ t n,l,n,ah.keep k r⟩
 |.dK ks ds,_,⟨a,vs,e,t,l,n,r⟩=>⟨a,vs,e,k.out a _ t n,l,n,ah.keep k r⟩
 |.sT ts,_,⟨a,e,⟨cQ,t,r,z⟩,n⟩=>⟨a,e,⟨cQ,k.out a _ t n,λx hx=>k.tup _ _ (r x hx),z⟩,n⟩
theorem ah.keep (k:Kp W H H'):∀{ds:List D} {vs:List V},ah P w W H ds vs->ah P w W H' ds vs
 |[],_,h=>h
 |d::ds,_,⟨v,r,e,h1,h2⟩=>⟨v,r,e,ay.keep k h1,ah.keep k h2⟩
end
mutual
theorem ay.aU (s:∀a,W' a->W a):∀{d:D} {v:V},ay P w W H d v->ay P w W' H d v
 |.bX,_,h=>h
 |.bl _,_,h=>h
 |.int _,_,h=>h
 |.str _,_,h=>h
 |.obj _,_,h=>h
 |.tup ds,_,⟨a,vs,e,t,r⟩=>⟨a,vs,e,t,ah.aU s r⟩
 |.lst ds,_,⟨a,vs,e,t,n,r⟩=>⟨a,vs,e,t,λz=>n (s a z),ah.aU s r⟩
 |.dT ks ds,_,⟨a,vs,e,t,l,n,r⟩=>⟨a,vs,e,t,l,λz=>n (s a z),ah.aU s r⟩
 |.dK ks ds,_,⟨a,vs,e,t,l,n,r⟩=>⟨a,vs,e,t,l,λz=>n (s a z),ah.aU s r⟩
 |.sT ts,_,⟨a,e,t,n⟩=>⟨a,e,t,λz=>n (s a z)⟩
theorem ah.aU (s:∀a,W' a->W a):∀{ds:List D} {vs:List V},ah P w W H ds vs->ah P w W' H ds vs
 |[],_,h=>h
 |d::ds,_,⟨v,r,e,h1,h2⟩=>⟨v,r,e,ay.aU s h1,ah.aU s h2⟩
end
mutual
theorem ay.flat:∀{d:D} {v:V},d.flat=true->ay P w W H d v->ay P w W' H d v
 |.bX,_,_,h=>h
 |.bl _,_,_,h=>h
 |.int _,_,_,h=>h
 |.str _,_,_,h=>h
 |.obj _,_,_,h=>h
 |.tup ds,_,f,⟨a,vs,e,t,r⟩=>⟨a,vs,e,t,ah.flat (by simpa[D.flat] using f) r⟩
 |.lst ds,_,f,_=>by simp[D.flat]at f
 |.dT ks ds,_,f,_=>by simp[D.flat]at f
 |.dK ks ds,_,f,_=>by simp[D.flat]at f
 |.sT ts,_,f,_=>by simp[D.flat]at f
theorem ah.flat:∀{ds:List D} {vs:List V},D.cw ds=true->ah P w W H ds vs->ah P w W' H ds vs
 |[],_,_,h=>h
 |d::ds,_,f,⟨v,r,e,h1,h2⟩=>by
  have f':(d.flat&&D.cw ds)=true:=f;rw[Tu]at f';exact⟨v,r,e,ay.flat f'.1 h1,ah.flat f'.2 h2⟩
end
theorem ay.same (s:au H H'){d:D}{v:V}(h:ay P w W H d v):ay P w W H' d v:=h.keep s.kp
theorem ah.same (s:au H H'){ds:List D}{vs:List V}(h:ah P w W H ds vs):ah P w W H' ds vs:=h.keep s.kp
theorem ah.length:∀{ds:List D} {vs:List V},ah P w W H ds vs->vs.length=ds.length
 |[],_,h=>by rw[show _=[] from h];rfl
 |d::ds,_,⟨v,r,e,h1,h2⟩=>by rw[e,SM,SM,ah.length h2]
theorem ah.get:∀{ds:List D} {vs:List V} {i:Nat} {d:D},ah P w W H ds vs->ds[i]?=some d->∃v,vs[i]?=some v/\ay P w W H d v
 |[],_,_,_,_,e=>by simp at e
 |d::ds,_,0,_,⟨v,r,e,h1,h2⟩,e'=>by simp at e';subst e' e;exact⟨v,by simp,h1⟩
 |d::ds,_,i+1,_,⟨v,r,e,h1,h2⟩,e'=>by
  subst e;obtain⟨u,e1,e2⟩:=ah.get (i:=i) h2 (by simpa using e')
  exact⟨u,by simpa using e1,e2⟩
theorem ah.append:∀{ds ds':List D} {vs vs':List V},ah P w W H ds vs->ah P w W H ds' vs'->ah P w W H (ds++ds') (vs++vs')
 |[],_,_,_,h,h'=>by rw[show _=[] from h];exact h'
 |d::ds,_,_,_,⟨v,r,e,h1,h2⟩,h'=>by subst e;exact⟨v,_,rfl,h1,ah.append h2 h'⟩
theorem ah.one {d:D}{v:V}(h:ay P w W H d v):ah P w W H [d] [v]:=⟨v,[],rfl,h,rfl⟩
theorem ah.take:∀{ds:List D} {vs:List V} (n:Nat),ah P w W H ds vs->ah P w W H (ds.take n) (vs.take n)
 |[],_,n,h=>by rw[show _=[] from h];simp[ah]
 |d::ds,_,0,_=>by simp[ah]
 |d::ds,_,n+1,⟨v,r,e,h1,h2⟩=>by subst e;exact⟨v,_,rfl,h1,ah.take n h2⟩
theorem ah.drop:∀{ds:List D} {vs:List V} (n:Nat),ah P w W H ds vs->ah P w W H (ds.drop n) (vs.drop n)
 |[],_,n,h=>by rw[show _=[] from h];simp[ah]
 |d::ds,_,0,h=>h
 |d::ds,_,n+1,⟨v,r,e,h1,h2⟩=>by subst e;exact ah.drop n h2
end
open PySem.SeqAt
abbrev Dm (W:Addr->Prop)(H:Hp):Prop:=∀a,W a->H a≠none
theorem Dm.same {W:Addr->Prop}{H H':Hp}(d:Dm W H)(s:au H H'):Dm W H':=λa h e=>d a h (s.free e)
abbrev Rp (X:Cx)(W:Addr->Prop)(H:Hp)(d:D)(v:V):Prop:=ay X.prog X.w W H d v
abbrev ir (X:Cx)(W:Addr->Prop)(H:Hp)(ds:List D)(vs:List V):Prop:=ah X.prog X.w W H ds vs
def NZ (X:Cx)(f:D->Option D):V->Hp->VK->Prop:=λx H Q=>∃W d1 d,Dm W H/\Rp X W H d1 x/\f d1=some d/\∀v H',au H H'->Rp X W H' d v->Q v H'
def NY (X:Cx)(f:D->D->Option D):R2:=λx y H Q=>∃W d1 d2 d,Dm W H/\Rp X W H d1 x/\Rp X W H d2 y/\f d1 d2=some d/\∀v H',au H H'->Rp X W H' d v->Q v H'
def PD (X:Cx)(f:List D->Option D):List V->Hp->VK->Prop:=λxs H Q=>∃W ds d,Dm W H/\ir X W H ds xs/\f ds=some d/\∀v H',au H H'->Rp X W H' d v->Q v H'
abbrev bD (X:Cx)(f:Sh->Sh->Sem Sh)(g:D->D->Option D):Prop:=ip X f (NY X g)
abbrev cB (X:Cx)(f:Sh)(g:List D->Option D):Prop:=fQ X f (PD X g)
section
variable {X:Cx}{W:Addr->Prop}{H:Hp}
theorem uC {p:Addr}(d:Dm W H)(n:H p=none):¬ W p:=λz=>d p z n
theorem Rp.iP {p:Addr}{vs:List V}{ds:List D}(d:Dm W H)(n:H p=none)(r:ir X W H ds vs):Rp X W (upd H p (.lst vs)) (.lst ds) (.ref p) :=
 ⟨p,vs,rfl,ar,uC d n,r.same (au.new n)⟩
theorem Rp.xc {p:Addr}{vs:List V}{ds:List D}(n:H p=none)(r:ir X W H ds vs):Rp X W (upd H p (.tup vs)) (.tup ds) (.ref p) :=
 ⟨p,vs,rfl,ar,r.same (au.new n)⟩
theorem ir.nil:ir X W H [] []:=rfl
theorem ir.cons {d:D}{ds:List D}{v:V}{vs:List V}(h:Rp X W H d v)(r:ir X W H ds vs):ir X W H (d::ds) (v::vs):=⟨v,vs,rfl,h,r⟩
end
def D.EV:D->Option Int
 |.int i=>some i
 |_=>none
def D.EU:D->Option (List D)
 |.lst a=>some a
 |_=>none
def D.HN:D->Option (List D)
 |.tup a=>some a
 |_=>none
def D.Ab:D->Bool
 |.bX=>true
 |_=>false
theorem D.h8 {d:D}{i:Int}(h:d.EV=some i):d=.int i:=by cases d <;> first|(cases h;rfl)|cases h
theorem D.ll {d:D}{i:List D}(h:d.EU=some i):d=.lst i:=by cases d <;> first|(cases h;rfl)|cases h
theorem D.yQ {d:D}{i:List D}(h:d.HN=some i):d=.tup i:=by cases d <;> first|(cases h;rfl)|cases h
theorem D.qj {d:D}(h:d.Ab=true):d=.bX:=by cases d <;> first|rfl|cases h
theorem D.BE {d:D}:d=.bX↔d.Ab=true:=⟨λe=>by rw[e];rfl,D.qj⟩
def md (f:Int->Int->Option D)(a b:D):Option D:=match a.EV,b.EV with
 |some i,some j=>f i j
 |_,_=>none
theorem iT {f:Int->Int->Option D}{a b d:D}(h:md f a b=some d):∃i j,a=.int i/\b=.int j/\f i j=some d:=by
 unfold md at h;cases ha:a.EV with
 |none=>rw[ha]at h;cases h
 |some i =>
  cases hb:b.EV with
  |none=>rw[ha,hb]at h;cases h
  |some j=>rw[ha,hb]at h;exact⟨i,j,D.h8 ha,D.h8 hb,h⟩
def EF (f:D->D->Option D)(g:List D->List D->Option D)(a b:D):Option D:=match a.EU,b.EU with
 |some i,some j=>g i j
 |_,_=>f a b
theorem vN {f:D->D->Option D}{g:List D->List D->Option D}{a b d:D}(h:EF f g a b=some d):(∃i j,a=.lst i/\b=.lst j/\g i j=some d)\/f a b=some d:=by
 unfold EF at h;cases ha:a.EU with
 |none=>rw[ha]at h;exact .inr h
 |some i =>
  cases hb:b.EU with
  |none=>rw[ha,hb]at h;exact .inr h
  |some j=>rw[ha,hb]at h;exact .inl ⟨i,j,D.ll ha,D.ll hb,h⟩
def zK:D->D->Option D:=EF (md λi j=>some (.int (i+j))) λa b=>if a.length+b.length<=SG then some (.lst (a++b)) else none
def Ni:D->D->Option D:=md λi j=>some (.int (i-j))
instance (i j:Int):Decidable (rp i j):=by unfold rp;infer_instance
instance (i j:Int):Decidable (z9 i j):=by unfold z9;infer_instance
def Jv:D->D->Option D:=md λi j=>if rp i j then some (.int (i*j)) else none
def Jw:D->D->Option D:=md λi j=>if 0<j then some (.int (i % j)) else none
def Nn:D->D->Option D:=md λi j=>if 0<j/\j<2 ^ 200 then some (.int (i / j)) else none
def Nj:D->Option D
 |.int i=>some (.int (-i))
 |_=>none
section
variable {X:Cx}
theorem eT {c:Prop}[Decidable c]{α:Type}{a b:α}(h:(if c then some a else none)=some b):c/\b=a:=by
 by_cases hc:c
 ·rw[if_pos hc]at h;cases h;exact⟨hc,rfl⟩
 ·rw[if_neg hc]at h;cases h
theorem yn {f:Sh->Sh->Sem Sh}{C:Int->Int->Prop}{g:Int->Int->V}{h:Int->Int->D}{F:Int->Int->Option D}(ho:ip X f (rI C g))(hF:∀i j d,F i j=some d->C i j/\d=h i j)
  (hg:∀(W:Addr->Prop) (H:Hp) i j,Rp X W H (h i j) (g i j)):bD X f (md F):=by
 intro pins s σ H x y v u Q I rx ry hh;obtain⟨W,d1,d2,d,hd,r1,r2,e,q⟩:=hh;obtain⟨i,j,rfl,rfl,e⟩:=iT e;obtain⟨c,rfl⟩:=hF _ _ _ e;cases r1;cases r2;exact ho pins s σ H _ _ v u Q I rx ry ⟨i,j,rfl,rfl,c,q _ _ (au.refl _) (hg W H i j)⟩
theorem ym {f:Sh->Sh->Sem Sh}{g:Int->Int->V}{h:Int->Int->D}(ho:ip X f (AI g))
  (hg:∀(W:Addr->Prop) (H:Hp) i j,Rp X W H (h i j) (g i j)):bD X f (md λi j=>some (h i j)):=by
 intro pins s σ H x y v u Q I rx ry hh;obtain⟨W,d1,d2,d,hd,r1,r2,e,q⟩:=hh;obtain⟨i,j,rfl,rfl,e⟩:=iT e;cases e;cases r1;cases r2;exact ho pins s σ H _ _ v u Q I rx ry ⟨i,j,rfl,rfl,q _ _ (au.refl _) (hg W H i j)⟩
theorem bh:bD X (UJ .Sub) Ni:=ym (h:=λi j=>.int (i-j)) yi λ_ _ _ _=>rfl
theorem A9:bD X (UJ .Mult) Jv:=yn (h:=λi j=>.int (i*j)) sC (λ_ _ _ e=>eT e) λ_ _ _ _=>rfl
theorem A_:bD X (UJ .Mod) Jw:=yn (h:=λi j=>.int (i % j)) kL (λ_ _ _ e=>eT e) λ_ _ _ _=>rfl
theorem Bc:bD X (UJ .FloorDiv) Nn:=yn (h:=λi j=>.int (i / j)) kM (λ_ _ _ e=>let ⟨c,e⟩:=eT e;⟨nL.of c.1 c.2,e⟩) λ_ _ _ _=>rfl
theorem jB:JH X (unaryOp .USub) (NZ X Nj):=by
 intro pins s σ H x v Q I rx h;obtain⟨W,d1,d,hd,r1,e,q⟩:=h;cases d1 with
 |int i=>cases e;cases r1;exact w_ pins s σ H _ v Q I rx ⟨i,rfl,q _ _ (au.refl _) rfl⟩
 |_=>cases e
end
def Cd (p:Int->Int->Bool):D->D->Option D:=md λi j=>some (.bl (p i j))
abbrev Q8:D->D->Option D:=Cd λi j=>decide (i<j)
abbrev Q9:D->D->Option D:=Cd λi j=>decide (i<=j)
abbrev mz:D->D->Option D:=Cd λi j=>decide (j<i)
section
variable {X:Cx}
theorem oq {p:Int->Int->Bool}{f:Sh->Sh->Sem Sh}(ho:ip X f (AI λi j=>.bl (p i j))):bD X f (Cd p):=ym (h:=λi j=>.bl (p i j)) ho λ_ _ _ _=>rfl
theorem gA:bD X (TQ .Lt) Q8:=oq Ha
theorem kP:bD X (TQ .LtE) Q9:=oq Hc
theorem kQ:bD X (TQ .Gt) mz:=oq CF
end
mutual
def D.pd:D->PyData
 |.bX=>.none
 |.bl b=>.bool b
 |.int i=>.int i
 |.str x=>.str x
 |.tup ds=>.tuple (D.sj ds)
 |.lst ds=>.list (D.sj ds)
 |_=>.dict []
def D.sj:List D->List PyData
 |[]=>[]
 |d::ds=>d.pd::D.sj ds
end
abbrev D.AB (d:D):Bool:=shaped d.pd
mutual
theorem fF {X:Cx}{pins:List (Addr×Obj)}{σ:St}{H:Hp}{s:Si}(I:Inv X pins σ H s){W:Addr->Prop}:∀{d:D} {v:V} {u:Sh},Rp X W H d v->RelV v u->d.pd.canLay0=true->∃as,Reads s.heap u d.pd as
 |.bX,_,_,h,r,_=>by cases h;cases r;exact⟨_,.none⟩
 |.bl b,_,_,h,r,_=>by cases h;cases r;exact⟨_,.bool b⟩
 |.int i,_,_,h,r,_=>by cases h;obtain⟨t,rfl⟩:=r;exact⟨_,.int i t⟩
 |.str x,_,_,h,r,_=>by cases h;obtain⟨t,rfl⟩:=r;exact⟨_,.str x t⟩
 |.tup ds,_,_,h,r,c=>by
  obtain⟨a,vs,rfl,e,q⟩:=h;cases r;obtain⟨its,rv,⟨o,ho,hc,n,hd⟩,hz⟩:=I.tuple (tU.of e);obtain⟨as,ha⟩:=fG I q rv (by simpa[D.pd,Uv] using c)
  exact⟨_,.tuple ho hc hd (by simpa using ha)⟩
 |.lst ds,_,_,h,r,c=>by
  obtain⟨a,vs,rfl,e,_,q⟩:=h;cases r;obtain⟨z,its,n,rv,e'⟩:=I.bG a _ e;obtain⟨as,ha⟩:=fG I q rv (by simpa[D.pd,Uv] using c)
  exact⟨_,.list e' rfl rfl (by simpa using ha)⟩
 |.obj _,_,_,_,_,c=>by simp[D.pd,Uv]at c
 |.dT _ _,_,_,_,_,c=>by simp[D.pd,Uv]at c
 |.dK _ _,_,_,_,_,c=>by simp[D.pd,Uv]at c
 |.sT _,_,_,_,_,c=>by simp[D.pd,Uv]at c
theorem fG {X:Cx}{pins:List (Addr×Obj)}{σ:St}{H:Hp}{s:Si}(I:Inv X pins σ H s){W:Addr->Prop}:∀{ds:List D} {vs:List V} {us:List Sh},ir X W H ds vs->Vals vs us->Vd (D.sj ds)=true->∃as,ReadsAll s.heap us (D.sj ds) as
 |[],_,_,h,r,_=>by
  rw[show _=[] from h]at r
  cases r;exact⟨_,.nil⟩
 |d::ds,_,_,⟨v,vr,e,h1,h2⟩,r,c=>by
  subst e;have c':(d.pd.canLay0&&Vd (D.sj ds))=true:=c;rw[Tu]at c';cases r with
  |cons r1 r2 =>
   obtain⟨as,ha⟩:=fF I h1 r1 c'.1;obtain⟨bs,hb⟩:=fG I h2 r2 c'.2;exact⟨_,.cons ha hb⟩
end
def Fz (a b:D):Option D:=if a.AB=true/\b.AB=true then some (.bl (Um a.pd b.pd)) else none
def Ju (a b:D):Option D:=if a.AB=true/\b.AB=true then some (.bl (!Um a.pd b.pd)) else none
section
variable {X:Cx}
theorem cC (hu:X.A.units+64<Vx):bD X (TQ .Eq) Fz:=by
 intro pins s σ H x y v u Q I rx ry h;obtain⟨W,d1,d2,d,hd,r1,r2,e,q⟩:=h;obtain⟨⟨s1,s2⟩,rfl⟩:=eT e;obtain⟨as,ra⟩:=fF I r1 rx (VY s1);obtain⟨bs,rb⟩:=fF I r2 ry (VY s2);exact compareEq_shaped ra rb s1 s2 hu ⟨.bl _,H,I,rfl,q _ _ (au.refl _) rfl⟩
theorem iL (hu:X.A.units+64<Vx):bD X (TQ .NotEq) Ju:=by
 intro pins s σ H x y v u Q I rx ry h;obtain⟨W,d1,d2,d,hd,r1,r2,e,q⟩:=h;obtain⟨⟨s1,s2⟩,rfl⟩:=eT e;obtain⟨as,ra⟩:=fF I r1 rx (VY s1);obtain⟨bs,rb⟩:=fF I r2 ry (VY s2);exact compareNe_shaped ra rb s1 s2 hu ⟨.bl _,H,I,rfl,q _ _ (au.refl _) rfl⟩
def Nk (a b:D):Option D:=match b.Ab with
 |true=>some (.bl a.Ab)
 |false=>none
def Js (a b:D):Option D:=match b.Ab with
 |true=>some (.bl (!a.Ab))
 |false=>none
theorem Rp.Bo {W:Addr->Prop}{H:Hp}{d:D}{v:V}(h:Rp X W H d v):v=.bX↔d=.bX:=by
 cases d with
 |bX=>cases h;simp
 |bl b=>cases h;simp
 |int i=>cases h;simp
 |str x=>cases h;simp
 |obj a=>cases h;simp
 |tup ds=>obtain⟨a,vs,rfl,_⟩:=h;simp
 |lst ds=>obtain⟨a,vs,rfl,_⟩:=h;simp
 |dT ks ds=>obtain⟨a,vs,rfl,_⟩:=h;simp
 |dK ks ds=>obtain⟨a,vs,rfl,_⟩:=h;simp
 |sT ts=>obtain⟨a,rfl,_⟩:=h;simp
theorem qk {b d e:D}(h:(match b.Ab with|true=>some d|false=>none)=some e):b=.bX/\e=d:=by
 cases q:b.Ab with
 |true=>rw[q]at h;cases h;exact⟨D.qj q,rfl⟩
 |false=>rw[q]at h;cases h
theorem Rp.uB {W:Addr->Prop}{H:Hp}{d:D}{v:V}(h:Rp X W H d v):decide (v=.bX)=d.Ab:=by
 have q:=h.Bo.trans D.BE;cases e:d.Ab with
 |true=>exact decide_eq_true (q.mpr e)
 |false=>exact decide_eq_false λz=>by rw[q.mp z]at e;cases e
theorem Ba:bD X (TQ .Is) Nk:=by
 intro pins s σ H x y v u Q I rx ry h;obtain⟨W,d1,d2,d,hd,r1,r2,e,q⟩:=h;obtain⟨rfl,rfl⟩:=qk e;cases r2;exact Ep pins s σ H _ _ v u Q I rx ry ⟨rfl,q _ _ (au.refl _) (congrArg V.bl r1.uB)⟩
theorem yj:bD X (TQ .IsNot) Js:=by
 intro pins s σ H x y v u Q I rx ry h;obtain⟨W,d1,d2,d,hd,r1,r2,e,q⟩:=h;obtain⟨rfl,rfl⟩:=qk e;cases r2;exact A8 pins s σ H _ _ v u Q I rx ry ⟨rfl,q _ _ (au.refl _) (congrArg (λb=>V.bl (!b)) r1.uB)⟩
end
section
variable {X:Cx}
def tH (a b:D):Option D:=match b.EV with
 |some i=>match a.EU with
  |some ds=>mC ds i
  |none=>match a.HN with
   |some ds=>mC ds i
   |none=>none
 |none=>none
theorem zI {a b d:D}(h:tH a b=some d):∃ds i,(a=.lst ds\/a=.tup ds)/\b=.int i/\mC ds i=some d:=by
 unfold tH at h;cases hb:b.EV with
 |none=>rw[hb]at h;cases h
 |some i =>
  rw[hb]at h;cases ha:a.EU with
  |some ds=>rw[ha]at h;exact⟨ds,i,.inl (D.ll ha),D.h8 hb,h⟩
  |none =>
   rw[ha]at h;cases ht:a.HN with
   |some ds=>rw[ht]at h;exact⟨ds,i,.inr (D.yQ ht),D.h8 hb,h⟩
   |none=>rw[ht]at h;cases h
theorem ir.mC {W:Addr->Prop}{H:Hp}{ds:List D}{vs:List V}{i:Int}{d:D}(h:ir X W H ds vs)(e:L2.mC ds i=some d):∃v,L2.mC vs i=some v/\Rp X W H d v:=by
 unfold L2.mC at *
 rw[h.length];cases q:rA ds.length i with
 |none=>rw[q]at e;cases e
 |some j =>
  rw[q]at e;exact ah.get h e
theorem ES:Dn X (NY X tH):=by
 intro value slice pins s σ H x y v u Q I rx ry h hs;obtain⟨W,d1,d2,d,hd,r1,r2,e,q⟩:=h;obtain⟨ds,i,h,rfl,e⟩:=zI e;cases r2;rcases h with rfl|rfl
 ·obtain⟨p,vs,rfl,h1,n1,q1⟩:=r1;obtain⟨z,hz,rz⟩:=ir.mC (X:=X) q1 e;exact eR value slice pins s σ H _ _ v u Q I rx ry ⟨p,vs,i,z,rfl,rfl,cE.of h1,hz,q _ _ (au.refl _) rz⟩ hs
 ·obtain⟨p,vs,rfl,h1,q1⟩:=r1;obtain⟨z,hz,rz⟩:=ir.mC (X:=X) q1 e;exact yK value slice pins s σ H _ _ v u Q I rx ry ⟨p,vs,i,z,rfl,rfl,tU.of h1,hz,q _ _ (au.refl _) rz⟩ hs
def cutD (xs:List D)(lo hi:Option Int):List D:=(xs.drop (HT.jF xs.length 0 lo)).take (HT.jF xs.length xs.length hi-HT.jF xs.length 0 lo)
def Kt:D->Option Int->Option Int->Option D
 |.lst ds,lo,hi=>some (.lst (cutD ds lo hi))
 |_,_,_=>none
def Jz:List D->Option D
 |[.lst ds]=>some (.int ds.length)
 |[.tup ds]=>some (.int ds.length)
 |_=>none
theorem wu:cB X (.builtin "len") Jz:=by
 intro pins s σ H xs us Q I r h;obtain⟨W,ds,d,hd,r1,e,q⟩:=h
 match ds,e with
 |[.lst es],e =>
  cases e;obtain⟨v,r',rfl,⟨p,vs,rfl,h1,n1,q1⟩,hr⟩:=r1;cases hr;refine ie pins s σ H _ us Q I r ⟨p,vs,rfl,.inl (cE.of h1),?_⟩;rw[q1.length];exact q _ _ (au.refl _) rfl
 |[.tup es],e =>
  cases e;obtain⟨v,r',rfl,⟨p,vs,rfl,h1,q1⟩,hr⟩:=r1;cases hr;refine ie pins s σ H _ us Q I r ⟨p,vs,rfl,.inr (tU.of h1),?_⟩;rw[q1.length];exact q _ _ (au.refl _) rfl
def dList:List D->Option D
 |[.lst ds]=>some (.lst ds)
 |[.tup ds]=>some (.lst ds)
 |_=>none
def Jy:List D->Option D
 |[.int i,.int j]=>some (.int (if j>i then j else i))
 |_=>none
def Jx:List D->Option D
 |[.int i,.int j]=>some (.int (if j<i then j else i))
 |_=>none
theorem q_ {W:Addr->Prop}{H:Hp}{a b:D}{xs:List V}(h:ir X W H [a,b] xs):∃x y,xs=[x,y]/\Rp X W H a x/\Rp X W H b y:=by
 obtain⟨x,r,rfl,hx,y,r',rfl,hy,hr⟩:=h;cases hr;exact⟨x,y,rfl,hx,hy⟩
theorem ik {W:Addr->Prop}{H:Hp}{a:D}{xs:List V}(h:ir X W H [a] xs):∃x,xs=[x]/\Rp X W H a x:=by
 obtain⟨x,r,rfl,hx,hr⟩:=h;cases hr;exact⟨x,rfl,hx⟩
theorem tN (hc:X.calm=true):cB X (.builtin "max") Jy:=by
 intro pins s σ H xs us Q I r h;obtain⟨W,ds,d,hd,r1,e,q⟩:=h
 match ds,e with
 |[.int i,.int j],e =>
  cases e;obtain⟨x,y,rfl,hx,hy⟩:=q_ r1;cases hx;cases hy;exact nB hc pins s σ H _ us Q I r ⟨i,j,rfl,q _ _ (au.refl _) rfl⟩
theorem gJ (hc:X.calm=true):cB X (.builtin "min") Jx:=by
 intro pins s σ H xs us Q I r h;obtain⟨W,ds,d,hd,r1,e,q⟩:=h
 match ds,e with
 |[.int i,.int j],e =>
  cases e;obtain⟨x,y,rfl,hx,hy⟩:=q_ r1;cases hx;cases hy;exact wo hc pins s σ H _ us Q I r ⟨i,j,rfl,q _ _ (au.refl _) rfl⟩
def Nm:List D->Option D
 |[.int i]=>some (.int i)
 |[.bl k]=>some (.int (if k then 1 else 0))
 |_=>none
theorem wx:cB X (.type "int") Nm:=by
 intro pins s σ H xs us Q I r h;obtain⟨W,ds,d,hd,r1,e,q⟩:=h
 match ds,e with
 |[.int i],e =>
  cases e;obtain⟨x,rfl,hx⟩:=ik r1;cases hx;exact iZ pins s σ H _ us Q I r (.inl ⟨i,rfl,q _ _ (au.refl _) rfl⟩)
 |[.bl k],e =>
  cases e;obtain⟨x,rfl,hx⟩:=ik r1;cases hx;exact iZ pins s σ H _ us Q I r (.inr ⟨k,rfl,q _ _ (au.refl _) rfl⟩)
end
abbrev zV:=List (Option D)
abbrev JK:=zV->(D->Prop)->Prop
abbrev rg:=zV->(List D->Prop)->Prop
def tZ (P:So)(w:SI)(W:Addr->Prop)(H:Hp)(σ:St)(ρ:zV):Prop:=∀(i:Nat) (d:D),ρ[i]?=some (some d)->∃v,σ[i]?=some (some v)/\ay P w W H d v
theorem tZ.keep {P:So}{w:SI}{W:Addr->Prop}{H H':Hp}{σ:St}{ρ:zV}(e:tZ P w W H σ ρ)(k:Kp W H H'):tZ P w W H' σ ρ:=λi d h=>by
 obtain⟨v,h1,h2⟩:=e i d h;exact⟨v,h1,h2.keep k⟩
theorem tZ.same {P:So}{w:SI}{W:Addr->Prop}{H H':Hp}{σ:St}{ρ:zV}(e:tZ P w W H σ ρ)(s:au H H'):tZ P w W H' σ ρ:=e.keep s.kp
theorem PE.pre {X:Cx}{e:Expr}{t t':TE}(h:PE X e t)(k:∀σ H Q,t' σ H Q->t σ H Q):PE X e t':=λpins s σ H Q I q=>h pins s σ H Q I (k σ H Q q)
theorem PT.pre {X:Cx}{e:Expr}{t t':TT}(h:PT X e t)(k:∀σ H Q,t' σ H Q->t σ H Q):PT X e t':=λpins s σ H Q I q=>h pins s σ H Q I (k σ H Q q)
theorem PA.pre {X:Cx}{es:List Expr}{t t':TA}(h:PA X es t)(k:∀σ H Q,t' σ H Q->t σ H Q):PA X es t':=λpos pins s σ H Q I q=>h pos pins s σ H Q I (k σ H Q q)
structure JJ (P:So)(w:SI)(W:Addr->Prop)(σ:St)(H:Hp)(ρ:zV):Prop where
 dm:Dm W H
 env:tZ P w W H σ ρ
abbrev SE (X:Cx):(Addr->Prop)->St->Hp->zV->Prop:=JJ X.prog X.w
theorem JJ.same {P:So}{w:SI}{W:Addr->Prop}{σ:St}{H H':Hp}{ρ:zV}(e:JJ P w W σ H ρ)(s:au H H'):JJ P w W σ H' ρ:=⟨e.dm.same s,e.env.same s⟩
def tD (X:Cx)(φ:JK):TE:=λσ H Q=>∃W ρ,SE X W σ H ρ/\φ ρ λd=>∀v H',au H H'->Rp X W H' d v->Q v H'
def GF (X:Cx)(φ:rg):TA:=λσ H Q=>∃W ρ,SE X W σ H ρ/\φ ρ λds=>∀vs H',au H H'->ir X W H' ds vs->Q vs H'
structure PV (X:Cx)(e:Expr)(φ:JK):Prop where
 mono:∀ρ R R',(∀d,R d->R' d)->φ ρ R->φ ρ R'
 pe:PE X e (tD X φ)
structure JM (X:Cx)(es:List Expr)(φ:rg):Prop where
 mono:∀ρ R R',(∀d,R d->R' d)->φ ρ R->φ ρ R'
 pa:PA X es (GF X φ)
section
variable {X:Cx}{a e:Expr}{es:List Expr}{φ:JK}{φs:rg}{pos:Pos}{W:Addr->Prop}{σ:St}{H:Hp}{ρ:zV}
theorem tD.of (h:PV X e φ)(se:SE X W σ H ρ){R:D->Prop}{Q:VK}(hr:φ ρ R)(k:∀d v H',R d->au H H'->Rp X W H' d v->Q v H'):tD X φ σ H Q :=
 ⟨W,ρ,se,h.mono ρ _ _ (λd hd v H' s r=>k d v H' hd s r) hr⟩
theorem GF.of (h:JM X es φs)(se:SE X W σ H ρ){R:List D->Prop}{Q:List V->Hp->Prop}(hr:φs ρ R)(k:∀ds vs H',R ds->au H H'->ir X W H' ds vs->Q vs H'):GF X φs σ H Q :=
 ⟨W,ρ,se,h.mono ρ _ _ (λd hd v H' s r=>k d v H' hd s r) hr⟩
def Nd (i:Nat):JK:=λρ R=>∃d,ρ[i]?=some (some d)/\R d
theorem Ee {i:Nat}{x:Str}(hN:X.N[i]?=some x:=by rfl)(hv:tS X.env.scope x:=by first|exact .inl rfl|exact .inr (.inl rfl)|exact .inr (.inr rfl))(hd:(x==("__debug__" : Str))=false:=by decide)(gk:(x==("__classdict__" : Str))=false:=by decide):
  PV X (.Name x pos) (Nd i):=⟨λρ R R' k Mi=> by obtain⟨d,e,h⟩ := Mi;exact⟨d,e,k d h⟩,(cT hN hv hd gk).pre λσ H Q Mf=> by
 obtain⟨W,ρ,se,d,e,q⟩ := Mf;obtain⟨v,h1,h2⟩:=se.env i d e;exact⟨v,h1,q v H (au.refl _) h2⟩⟩
theorem PW.pre {t t':TT}(h:PW X e t)(k:∀σ H Q,t' σ H Q->t σ H Q):PW X e t':=λw pins s σ H Q I q=>h w pins s σ H Q I (k σ H Q q)
def Nf:rg:=λ_ R=>R []
def Jo (φ:JK)(φs:rg):rg:=λρ R=>φ ρ λd=>φs ρ λds=>R (d::ds)
theorem AK:JM X [] Nf:=⟨λρ R R' k h=>k _ h,eM.pre λσ H Q Me=> by obtain⟨W,ρ,se,q⟩ := Me;exact q [] H (au.refl _) rfl⟩
theorem xQ (ha:PV X a φ)(hr:JM X es φs)(hs:SX (a::es) X.env=(false,eval a X.env)::SX es X.env:=by rfl):JM X (a::es) (Jo φ φs) :=
 ⟨λρ R R' k h=>ha.mono ρ _ _ (λd q=>hr.mono ρ _ _ (λds q2=>k _ q2) q) h,(b5 ha.pe hr.pa hs).pre λσ H Q ⟨W,ρ,se,h⟩ =>
  tD.of ha se h λd1 v1 H1 h1 s1 r1=>GF.of hr (se.same s1) h1 λds vs H2 q s2 r2=>q (v1::vs) H2 (s1.trans s2) (.cons (r1.same s2) r2)⟩
end
abbrev FD:=List D->(D->Prop)->Prop
def du (F:FD):Prop:=∀ds R R',(∀d,R d->R' d)->F ds R->F ds R'
section
end
section
variable {X:Cx}{e:Expr}{pos:Pos}{σ:St}{H:Hp}
theorem FU.pre {ops:List VG}{rs:List Expr}{t t':V->TE}(h:FU X ops rs t)(k:∀x σ H Q,t' x σ H Q->t x σ H Q):FU X ops rs t':=λpos pins s σ H x v Q I r q=>h pos pins s σ H x v Q I r (k x σ H Q q)
theorem rl.pre {ops:List VG}{rs:List Expr}{t t':V->TT}(h:rl X ops rs t)(k:∀x σ H Q,t' x σ H Q->t x σ H Q):rl X ops rs t':=λpos pins s σ H x v Q I r q=>h pos pins s σ H x v Q I r (k x σ H Q q)
theorem PO.pre {e:Option Expr}{t t':TO}(h:PO X e t)(k:∀σ H Q,t' σ H Q->t σ H Q):PO X e t':=λpins s σ H Q I q=>h pins s σ H Q I (k σ H Q q)
end
abbrev NF:D->Prop:=λd=>d.flat=true
section
abbrev NL:D->Prop:=λd=>match d with | .lst ds=>D.cw ds=true|d=>d.flat=true
end
section
variable {P:So}{w:SI}{W W':Addr->Prop}{H:Hp}
mutual
theorem ay.grow (s:∀a,W' a->W a\/H a=none):∀{d:D} {v:V},ay P w W H d v->ay P w W' H d v
 |.bX,_,h=>h
 |.bl _,_,h=>h
 |.int _,_,h=>h
 |.str _,_,h=>h
 |.obj _,_,h=>h
 |.tup ds,_,⟨a,vs,e,t,r⟩=>⟨a,vs,e,t,ah.grow s r⟩
 |.lst ds,_,⟨a,vs,e,t,n,r⟩=>⟨a,vs,e,t,λz=>(s a z).elim n λq=>(by rw[t]at q;cases q),ah.grow s r⟩
 |.dT ks ds,_,⟨a,vs,e,t,l,n,r⟩=>⟨a,vs,e,t,l,λz=>(s a z).elim n λq=>(by rw[t]at q;cases q),ah.grow s r⟩
 |.dK ks ds,_,⟨a,vs,e,t,l,n,r⟩=>⟨a,vs,e,t,l,λz=>(s a z).elim n λq=>(by rw[t]at q;cases q),ah.grow s r⟩
 |.sT ts,_,⟨a,e,⟨cQ,t,r,z⟩,n⟩=>⟨a,e,⟨cQ,t,r,z⟩,λz=>(s a z).elim n λq=>(by rw[t]at q;cases q)⟩
theorem ah.grow (s:∀a,W' a->W a\/H a=none):∀{ds:List D} {vs:List V},ah P w W H ds vs->ah P w W' H ds vs
 |[],_,h=>h
 |d::ds,_,⟨v,r,e,h1,h2⟩=>⟨v,r,e,ay.grow s h1,ah.grow s h2⟩
end
end
def Rf (X:Cx)(W:Addr->Prop)(J:It)(ds:List D)(H0:Hp):Prop:=∀(i:Nat) (H:Hp),Kp W H0 H ->
 (∀d,ds[i]?=some d->J.go i H/\∀x H1,J.Gr i H x H1->au H H1/\Rp X W H1 d x)/\(ds.length<=i->J.stop i H)
def tY (X:Cx)(W:Addr->Prop)(J:It)(ds:List D)(H0:Hp):Prop:=∀W':Addr->Prop,(∀b,W' b->W b\/H0 b=none)->Rf X W' J ds H0
abbrev FR:=zV->(List D->Prop)->Prop
structure OZ (X:Cx)(tg iter:Expr)(ι:FR):Prop where
 mono:∀ρ R R',(∀d,R d->R' d)->ι ρ R->ι ρ R'
 pi:PI X tg iter λσ H R=>∃W ρ,SE X W σ H ρ/\ι ρ λds=>∀J H',au H H'->tY X W J ds H'->R J H'
section
variable {X:Cx}{tg e:Expr}
theorem PI.pre {iter:Expr}{t t':TI}(h:PI X tg iter t)(k:∀σ H R,t' σ H R->t σ H R):PI X tg iter t':=λpins s σ H R I q=>h pins s σ H R I (k σ H R q)
theorem lj {W:Addr->Prop}{H:Hp}{p:Addr}{vs:List V}{ds:List D}(h1:H p=some (.lst vs))(n1:¬ W p)(q1:ir X W H ds vs):tY X W (KA X.K p) ds H:=λW' hW i H' k=>by
 have h2:=k.out p _ h1 λz=>(hW p z).elim n1 λq=>by rw[h1]at q;cases q
 replace q1:=ah.grow hW q1;constructor
 ·intro d hd;obtain⟨v,hv,rv⟩:=ah.get q1 hd;refine⟨⟨vs,v,cE.of h2,hv⟩,λx H1 y=>?_⟩;obtain⟨rfl,y⟩:=y;have e:=y vs (cE.of h2);rw[hv]at e;cases e;exact⟨au.refl _,rv.keep k⟩
 ·intro hl;exact⟨vs,cE.of h2,by rw[q1.length];exact hl⟩
def l6 (lo:Int)(n:Nat):List D:=(SV n).map λ(k:Nat)=>D.int (lo+(k:Int))
theorem iS {W:Addr->Prop}{H:Hp}{lo:Int}{n:Nat}:tY X W (JQ lo n) (l6 lo n) H:=λ_ _ i H' k=>by
 constructor
 ·intro d hd;unfold l6 at hd;rw[Su]at hd;have hi:i<n:=by
   by_cases h:i<n
   ·exact h
   ·rw[S7 (by simpa using h)]at hd;cases hd
  rw[Up hi]at hd;cases hd;refine⟨hi,λx H1 y=>?_⟩;obtain⟨rfl,rfl⟩:=y;exact⟨au.refl _,rfl⟩
 ·intro hl;unfold l6 at hl;rw[Sg,Tc]at hl;exact hl
end
section
variable {X:Cx}{tg:Expr}{va:List Expr}
theorem PG.pre {t t':TG}(h:PG X tg t)(k:∀v σ H Q,t' v σ H Q->t v σ H Q):PG X tg t':=λpins s σ H v u Q I r q=>h pins s σ H v u Q I r (k v σ H Q q)
theorem Dl.pre {t t':Dh}(h:Dl X va t)(k:∀v σ H Q,t' v σ H Q->t v σ H Q):Dl X va t':=λpins s σ H v u Q I r q=>h pins s σ H v u Q I r (k v σ H Q q)
end
theorem k9 {H:Hp}{a:Addr}{o o':HO}(h:H a=some o)(ht:∀xs,o≠.tup xs):Kp (·=a) H (upd H a o') :=
 ⟨λb u e n=>by rw[ak n];exact e,λb xs e=>by rw[ak (CI e h (λz=>ht xs z.symm))];exact e⟩
section
end
section
end
section
end
section
variable {σ:St}{β:a7}{own:Nat->List Addr}
def aP (own:Nat->List Addr)(i:Nat)(as:List Addr):Nat->List Addr:=λj=>if j=i then as else own j
theorem bL {own:Nat->List Addr}{i j:Nat}{a:Addr}(h:a∈aP own i [] j):a∈own j/\j≠i:=by
 unfold aP at h
 by_cases e:j=i
 ·rw[if_pos e]at h;cases h
 ·rw[if_neg e]at h;exact⟨h,e⟩
theorem bc {α:Type}{β:List α}{i j:Nat}{x:α}(h:i≠j):(β.set i x)[j]?=β[j]?:=by rw[Vf,if_neg h]
theorem bj {α:Type}{β:List α}{i:Nat}{x y:α}(h:(β.set i x)[i]?=some y):y=x/\i<β.length:=by
 rw[Vf,if_pos rfl]at h
 by_cases hi:i<β.length
 ·rw[if_pos hi]at h;cases h;exact⟨rfl,hi⟩
 ·rw[if_neg hi]at h;cases h
theorem get_set {α:Type}{σ:List α}{i:Nat}{x:α}(h:i<σ.length):(σ.set i x)[i]?=some x:=by rw[Vf,if_pos rfl,if_pos h]
end
structure Sn (Z:Hp×(Addr->Prop))(H:Hp)(W:Addr->Prop):Prop where
 w:∀b,W b->Z.2 b\/Z.1 b=none
 k:Kp (λb=>Z.2 b\/Z.1 b=none) Z.1 H
 d:∀b,Z.1 b≠none->H b≠none
theorem Sn.refl {H:Hp}{W:Addr->Prop}:Sn (H,W) H W:=⟨λ_ z=>.inl z,Kp.refl,λ_ z=>z⟩
theorem Sn.same {Z:Hp×(Addr->Prop)}{H H':Hp}{W:Addr->Prop}(n:Sn Z H W)(s:au H H'):Sn Z H' W:=⟨n.w,n.k.trans s.kp,λb z e=>n.d b z (s.free e)⟩
theorem Sn.free {Z:Hp×(Addr->Prop)}{H:Hp}{W:Addr->Prop}(n:Sn Z H W){a:Addr}(h:H a=none):Z.1 a=none:=by
 cases q:Z.1 a with
 |none=>rfl
 |some o=>exact absurd h (n.d a (by rw[q];intro z;cases z))
theorem Sn.upd {Z:Hp×(Addr->Prop)}{H:Hp}{W:Addr->Prop}(n:Sn Z H W){a:Addr}{o o':HO}(h:H a=some o)(ht:∀xs,o≠.tup xs)(wa:W a):Sn Z (L2.upd H a o') W :=
 ⟨n.w,n.k.trans ((k9 h ht).mono λb z=>by rw[z];exact n.w a wa),λb z e=>by
  by_cases hb:b=a
  ·subst hb;rw[ar]at e;cases e
  ·rw[ak hb]at e;exact n.d b z e⟩
theorem Sn.trans {Z:Hp×(Addr->Prop)}{H1 H:Hp}{W1 W:Addr->Prop}(n1:Sn Z H1 W1)(n:Sn (H1,W1) H W):Sn Z H W:=by
 have big:∀b,W1 b\/H1 b=none->Z.2 b\/Z.1 b=none:=λb z=>z.elim (n1.w b) λq=>.inr (n1.free q);exact⟨λb z=>big b (n.w b z),n1.k.trans (n.k.mono big),λb z=>n.d b (n1.d b z)⟩
section
variable {X:Cx}{st:Stmt}{rest:List Stmt}{σ:St}{H:Hp}
theorem PS.pre {t t':TS}(h:PS X st t)(k:∀D σ H,t' D σ H->t D σ H):PS X st t':=λpins s σ H D I q=>h pins s σ H D I (k D σ H q)
theorem oS.pre {t t':TS}(h:oS X rest t)(k:∀D σ H,t' D σ H->t D σ H):oS X rest t':=λpins s σ H D I q=>h pins s σ H D I (k D σ H q)
end
section
variable {b:Expr}{H:Hp}
theorem held {P:So}{w:SI}{W W2:Addr->Prop}{H2:Hp}{d:D}{v:V}(r:ay P w W H d v)(n:Sn (H,W) H2 W2):ay P w W2 H2 d v :=
 ay.aU n.w (ay.keep n.k (ay.grow (λb z=>z) r))
end
theorem Sn.kp {Z:Hp×(Addr->Prop)}{H H':Hp}{W:Addr->Prop}(n:Sn Z H W)(k:Kp W H H')(dn:∀c,H c≠none->H' c≠none):Sn Z H' W:=⟨n.w,n.k.trans (k.mono n.w),λb z=>dn b (n.d b z)⟩
section
end
section
end
end L2
namespace Rh
open PySem PySem.Spec PyProof.Rows
section
open PySem.SeqAt
open PySem.AutoSeq1 (wpAny_loadPart')
open PySem.MeetsSeq PySem.MeetsSeq2 PySem.MeetsSeq3
end
section
end
section
open PySem.SeqAt
open PySem.AutoSeq1 (wpAny_loadPart')
open PySem.MeetsSeq PySem.MeetsSeq2 PySem.MeetsSeq3
end
section
end
end Rh
namespace L2
open PySem PySem.Spec PySem.SeqAt PyProof.Rows
def cZ:List D->Option (List Int)
 |[]=>some []
 |.int i::ds=>(cZ ds).map (i::·)
 |_::_=>none
theorem ql:∀{ds:List D} {ns:List Int},cZ ds=some ns->ds=ns.map D.int
 |[],_,h=>by cases h;rfl
 |.int i::ds,_,h=>by
  obtain⟨ns,h1,rfl⟩:=SJ.mp h;rw[Ta,<- ql h1]
 |.bX::_,_,h=>by cases h
 |.bl _::_,_,h=>by cases h
 |.str _::_,_,h=>by cases h
 |.obj _::_,_,h=>by cases h
 |.tup _::_,_,h=>by cases h
 |.lst _::_,_,h=>by cases h
 |.dT _ _::_,_,h=>by cases h
 |.dK _ _::_,_,h=>by cases h
 |.sT _::_,_,h=>by cases h
theorem m_:∀(ns:List Int),cZ (ns.map D.int)=some ns
 |[]=>rfl
 |n::ns=>by rw[Ta];show (cZ (ns.map D.int)).map _=_;rw[m_ ns];rfl
theorem cb {P:So}{w:SI}{W:Addr->Prop}{H:Hp}:∀{ns:List Int} {vs:List V},ah P w W H (ns.map D.int) vs->vs=ns.map V.int
 |[],_,h=>h
 |n::ns,_,⟨v,r,e,h1,h2⟩=>by rw[e,cb h2,show v=V.int n from h1];rfl
theorem m9 {P:So}{w:SI}{W:Addr->Prop}{H:Hp}:∀(ns:List Int),ah P w W H (ns.map D.int) (ns.map V.int)
 |[]=>rfl
 |n::ns=>⟨_,_,rfl,rfl,m9 ns⟩
section
end
end L2
namespace TS
open PySem PyProof.Rows
section
variable {prog:So}{w:SI}{A:TF}{E:Sh->Si->Prop}{s:Si}
theorem rR {x:Sh}{vs:List Sh}{kf:Sh->List Int}{Q:Sh->Si->Prop}(hz:vs.length<=1000000)
  (col:∀(B:TF) (R:List Sh->Si->Prop),B.units<=A.units+1->(∀(h':Heap) (tk:Nat),(∀b o,s.heap.get? b=some o->h'.get? b=some o)->s.heap.objs.size<=h'.objs.size->R vs {s with heap:=h',toks:=tk})->S6 (model prog w) B (collect x) R E s)
  (T:mE s.heap kf s.heap.objs.size vs)
  (h:∀(out:List Sh) (l:Addr) (h':Heap) (tk:Nat) (n:Nat),out.Perm vs->out.Pairwise (λx y=>HT.lexLt (kf y) (kf x)=false)->s.heap.objs.size<=l->(∀b o,s.heap.get? b=some o->h'.get? b=some o)->h'.get? l=some (UD "list" out.toArray n)->Q (.ref l) {s with heap:=h',toks:=tk}) :
  S6 (model prog w) A (call (.builtin "sorted") [x]) Q E s:=by
 refine Xv kind_sorted plain_sorted entry_sorted (args_sorted1 _) ?_;unfold Vq.«sorted»
 refine Sf (m:=checkCount "sorted" 1 1 _) (Sm ?_);refine Sf (col A.in1 _ (Sj _) λh' tk kp P9=>?_);have nl:vs.length<=SG:=by rw[TH];lia
 refine Sf (wpAny_newList ?_ nl);have hl:(h'.push (UD "list" vs.toArray 0)).get? h'.objs.size=some (UD "list" vs.toArray 0):=Tf _ rfl;have T':mE (h'.push (UD "list" vs.toArray 0)) kf h'.objs.size vs:=λv hv=>by
  obtain⟨t,o,xs,k,e1,_,e3,r⟩:=T v hv;exact⟨t,o,xs,k,e1,S5 (SD (kp _ _ e3)),Sl _ (kp _ _ e3),r⟩
 refine Sf (T_ (Ut slot_list_sort ⟨_,hl,rfl⟩ entry_list_sort (k6 (s:={s with heap:=h'.push (UD "list" vs.toArray 0),toks:=tk}) hl hz T' λout hp hs=>⟨_,rfl,?_⟩) (args_list_sort _)))
 obtain⟨n,hn⟩:=sortedHeap_at (out:=out.toArray) hl;refine Sm ⟨_,rfl,h out h'.objs.size _ tk n hp hs P9 (λb o e=>?_) hn⟩;have hb:=SD (kp _ _ e);rw[sortedHeap_old (S5 hb) (by rw[size_push'];exact Ve hb)]
 exact Sl _ (kp _ _ e)
end
end TS
namespace L2
open PySem PySem.Spec PyProof.Rows
def sN (H:Hp):Sh->List Int
 |.ref t=>match H t with
  |some (.tup xs)=>xs.filterMap fun
   |.int i=>some i
   |_=>none
  |_=>[]
 |_=>[]
theorem qw:∀ns:List Int,((ns.map V.int).filterMap fun
   |.int i=>some i
   |_=>none)=ns
 |[]=>rfl
 |n::ns=>by
  rw[Ta,Tx];dsimp only;rw[qw ns]
theorem k_ {H:Hp}{t:Addr}{ns:List Int}(h:H t=some (.tup (ns.map V.int))):sN H (.ref t)=ns:=by
 unfold sN;dsimp only;rw[h];exact qw ns
def C4 (H:Hp):Sh->Addr×List Int
 |.ref t=>(t,sN H (.ref t))
 |_=>(0,[])
abbrev wB (H:Hp)(ts:List (Addr×List Int)):Prop:=∀t∈ts,H t.1=some (.tup (t.2.map V.int))/\t.2≠[]
abbrev o8 (t:Addr×List Int):V:=.ref t.1
theorem iw:∀{ts:List (Addr×List Int)} {us:List Sh},Vals (ts.map o8) us->us=ts.map λt=>Value.ref t.1
 |[],_,.nil=>rfl
 |t::ts,_,.cons r q=>by
  rw[Ta,<- iw q];cases r;rfl
theorem iG:∀(ts:List (Addr×List Int)),Vals (ts.map o8) (ts.map λt=>Value.ref t.1)
 |[]=>.nil
 |t::ts=>.cons rfl (iG ts)
theorem mU {H:Hp}{ts:List (Addr×List Int)}(T:wB H ts){out:List Sh}(hp:out.Perm (ts.map λt=>Value.ref t.1)):out=(out.map (C4 H)).map (λt=>Value.ref t.1)/\(out.map (C4 H)).Perm ts:=by
 constructor
 ·rw[Tz];refine(Tw (g:=id) λv hv=>?_).trans (List.map_id _) |>.symm
  obtain⟨t,ht,rfl⟩:=Tj.mp (hp.mem_iff.mp hv);rfl
 ·refine(hp.map (C4 H)).trans (Wi ?_);rw[Tz];refine(Tw (g:=id) λt ht=>?_).trans (List.map_id _);show (t.1,sN H (.ref t.1))=t;rw[k_ (T t ht).1]
theorem t_ {P:So}{w:SI}{H:Hp}{h:Heap}{ts:List (Addr×List Int)}(ok:gO P w H h)(T:wB H ts){a:Addr}(ha:h.objs.size<=a):TS.mE h (sN H) a (ts.map λt=>Value.ref t.1):=λv hv=>by
 obtain⟨t,ht,rfl⟩:=Tj.mp hv;obtain⟨h1,h2⟩:=T t ht;obtain⟨_,its,r,o,ho,hc,n,hd⟩:=(show bV P w H h t.1 (.tup (t.2.map V.int)) from ok _ _ h1)
 exact⟨t.1,o,_,n,rfl,S5 (Td (SD ho) ha),ho,hc,hd,by rw[k_ h1];exact intsAre_of (by simpa using r),by rw[k_ h1];exact h2⟩
section
variable {X:Cx}
theorem oJ:fQ X (.builtin "sorted") (λxs H Q=>∃(p:Addr) (ts:List (Addr×List Int)),xs=[.ref p]/\cE X.K H p (ts.map o8)/\wB H ts/\ts.length<=1000000 /\
  ∀(l:Addr) (cQ:List (Addr×List Int)),H l=none->cQ.Perm ts->cQ.Pairwise (λx y=>HT.lexLt y.2 x.2=false)->Q (.ref l) (upd H l (.lst (cQ.map o8)))):=by
 intro pins s σ H xs us Q I r h;obtain⟨p,ts,rfl,hq,T,hz,q⟩:=h;obtain⟨u,rfl,rx⟩:=vals1 r;cases rx;obtain⟨its,r',pl,hl⟩:=I.list hq;obtain rfl:=iw r';have nl:(ts.map λt=>Value.ref t.1).length<=SG:=by rw[Sg,TH];lia
 refine TS.rR (kf:=sN H) (by rw[Sg];exact hz) (λB R _ hR=>?_) (t_ I.bG T (Sj _)) λout l h' tk n hp hs hle kp ho=>?_
 ·refine collect_list pl.isList (hR _ s.toks (λb o e=>?_) ?_) nl
  ·have hb:=SD e;rw[Heap.get?_update_ne _ _ _ _ (S5 hb)];exact Sl _ e
  ·rw[Heap.size_update,size_push'];exact Nat.le_succ _
 ·obtain⟨e1,e2⟩:=mU T hp;have zl:out.length=ts.length:=by rw[hp.length_eq,Sg]
  refine⟨.ref l,_,I.laid (t':=tk) (o:=.lst ((out.map (C4 H)).map o8)) kp hle ?_,rfl,q l _ (I.bG.fresh hle) e2 ?_⟩
  ·refine⟨by rw[Sg,Sg,zl,TH];lia,out,n,?_,ho⟩
   have:=iG (out.map (C4 H));rw[<- e1]at this;exact this
  ·rw[UM];refine hs.imp_of_mem λ{x y} hx hy hh=>?_;obtain⟨t,ht,rfl⟩:=Tj.mp (hp.mem_iff.mp hx);obtain⟨t',Ql,rfl⟩:=Tj.mp (hp.mem_iff.mp hy);exact hh
end
end L2
namespace ST
open PySem PyProof.Rows
section
variable {prog:So}{w:SI}{A:TF}{E:Sh->Si->Prop}{s:Si}
variable {a b:Addr}{o:Obj}{ts:List (Addr×List Int)}{es:Array (Int×Sh)}{ep:Nat}{t:SetTable}{k:List Int}
theorem cy.at (S:cy prog w o ts es ep t){i:Nat}(hi:i<t.place.size):∃x,ts[i]?=some x/\es[i]?=some (ent prog w x):=by
 have hl:i<ts.length:=by rw[<- S.size.2];exact hi
 exact⟨ts[i],Sk hl,by rw[<- SK,S.Fv,Su,Sk hl];rfl⟩
theorem yu (S:cy prog w o ts es ep t):t.gaveWay=false:=by
 obtain⟨j,hj,e⟩:=S.wf.CK;unfold SetTable.gaveWay;rw[e];obtain⟨i,rfl⟩:∃i,j=i+1:=⟨j-1,by lia⟩
 have:0<2 ^ i:=Ws (by decide)
 rw[V3];have:(2 ^ i*2-1) % 2=1:=by lia
 rw[this];rfl
theorem lZ (ho:s.heap.get? a=some o)(S:cy prog w o ts es ep t)(T:Co prog w s.heap ts)(hk:(TK prog w).is s.heap k b)(hu:A.units<Vx){i3:Bool}{N:Nat}{Q:SetFound->Si->Prop}
  (hN:¬ oP t (cj t.mask (kH prog w k) N)) (hO:∀x,x<N->oP t (cj t.mask (kH prog w k) x)) (R7:N<10*SetTable.turns t.mask)
  (Qf:(∀x∈ts,x.2≠k)->Q (.free (cj t.mask (kH prog w k) N) false) s) (Qt:∀i:Option Nat,(∃x∈ts,x.2=k)->(i3=false->i.isSome=true)->Q (.there i) s) :
  ∀(d n f:Nat) (xp:Option SetTable.Probe),xp.getD (KZ t.mask (kH prog w k))=fy t.mask (kH prog w k) n->n+d=N->d<f ->
   (∀m,m<n->∀i x,i<t.place.size->g t.place i=cj t.mask (kH prog w k) m->ts[i]?=some x->x.2≠k) ->
   S6 (model prog w) A (setSearchFrom a (.ref b) (kH prog w k) i3 f xp) Q E s:=by
 intro d
 induction d using Wd with
 |_ d ih =>
  intro n f xp Ia mf Km Ji;obtain⟨f,rfl⟩:∃f',f=f'+1:=⟨f-1,by lia⟩
  unfold setSearchFrom;refine Sf (Uk ho S.dat S.fits ?_);dsimp only;rw[yu S,if_neg (by simp)]
  rw[DP,Ia];generalize Ot:SetTable.probe t _ (kH prog w k) (fy t.mask (kH prog w k) n)=pr;have hash:∀i x,i<t.place.size->ts[i]?=some x->(es[i]?.map (·.1)).getD 0=kH prog w x.2:=λi x hi hx=>by
   obtain⟨y,h1,h2⟩:=S.at hi;rw[hx]at h1;obtain rfl:=S8 h1;rw[h2];rfl
  rcases pM S.wf (λi=>(es[i]?.map (·.1)).getD 0) (kH prog w k) hN hO d n (10*SetTable.turns t.mask) mf (by lia)with⟨q1,q2⟩|⟨m,i,q1,q2,q3,q4,q5,q6,q7⟩
  ·have e:pr=some (.empty (cj t.mask (kH prog w k) N) none):=Ot.symm.trans q1;rw[e];dsimp only;refine Sm (Qf λx hx BJ=>?_);obtain⟨i,hi⟩:=Vu hx;have zf:i<t.place.size:=by
    rw[S.size.2];exact(Sz.mp hi).1
   obtain⟨n',g1,g2⟩:=S.wf.NX i (kH prog w x.2) (by rw[Su,hi];rfl)
   rw[BJ]at g1 g2;have BP:n'<N:=by
    rcases TZ n' N with z|z
    ·exact z
    ·rcases TZ N n' with z2|z2
     ·exact absurd (g2 N z2) hN
     ·obtain rfl:N=n':=by lia
      exact absurd ⟨i,zf,g1.symm⟩ hN
   rcases TZ n' n with z|z
   ·exact Ji n' z i x zf g1.symm hi BJ
   ·exact q2 n' z BP i zf g1.symm (by rw[hash i x zf hi,BJ])
  ·have e:pr=some (.candidate (cj t.mask (kH prog w k) m) i (fy t.mask (kH prog w k) (m+1))):=Ot.symm.trans q6;rw[e];dsimp only;obtain⟨x,CU,HY⟩:=S.at q3;have HX:x∈ts:=TU CU;have CV:t.slot (cj t.mask (kH prog w k) m)=.live i:=by rw[<- q4];exact mP S.wf.vo q3
   refine(λ(key:?G)=>?main) ?key
   case main =>
    cases hl:t.led with
    |true =>
     rw[if_neg (by simp)]
     exact key
    |false =>
     rw[if_pos (by simp)]
     have L6:(es.filter (·.1==kH prog w k)).toList.map (·.2)=(ts.filter λx=>kH prog w x.2==kH prog w k).map λx=>Value.ref x.1:=by
      rw[Array.toList_filter,S.Fv,List.filter_map,Tz];rfl
     rw[L6];refine Sf (Al hk _ (λy hy=>T y (Ua.mp hy).1) ?_);rw[if_neg (by simp)]
     exact key
   case key =>
    rw[HY];dsimp only;refine Sf (T_ ((TK prog w).eqBool hu (T x HX) hk ?_));refine Sf (Uk ho S.dat S.fits ?_);dsimp only;have BK:t.sameMemory t.moves t.mask=some true:=by
     unfold SetTable.sameMemory;rw[if_pos (beq_self_eq_true _)]
    by_cases BJ:x.2=k
    ·rw[decide_eq_true BJ];cases i3 with
     |true =>
      rw[if_pos (by rfl)]
      exact Sm (Qt none ⟨x,HX,BJ⟩ (λz=>by cases z))
     |false =>
      rw[if_neg (by simp),BK]
      dsimp only;rw[if_pos rfl,CV];dsimp only;rw[HY];dsimp only;refine Sf (wpAny_isSame_ref_self ?_);rw[if_pos rfl];refine Sf (Sm ?_);exact Sm (Qt (some i) ⟨x,HX,BJ⟩ (λ_=>rfl))
    ·rw[decide_eq_false BJ,if_neg (by simp),BK]
     dsimp only;rw[if_pos rfl,CV];dsimp only;rw[HY];dsimp only;refine Sf (wpAny_isSame_ref_self ?_);rw[if_pos rfl];refine Sf (Sm ?_);dsimp only;rw[if_neg (by simp)]
     refine ih (N-(m+1)) (by lia) (m+1) f _ rfl (by lia) (by lia) λm' RV i' x' h1 h2 h3=>?_
     rcases TZ m' n with z|z
     ·exact Ji m' z i' x' h1 h2 h3
     ·by_cases e2:m'=m
      ·subst e2;obtain rfl:=S.wf.vo.inj h1 q3 (h2.trans q4.symm);rw[CU]at h3;obtain rfl:=S8 h3;exact BJ
      ·intro z2;exact q7 m' z (by lia) i' h1 h2 (by rw[hash i' x' h1 h3,z2])
end
theorem rd (n:Nat):∀(f j:Nat),n<2 ^ (j+f)->∃j',j<=j'/\SetTable.sizeAbove.go n f (2 ^ j)=2 ^ j'/\n<2 ^ j'/\(j'=j\/2 ^ (j' - 1)<=n)
 |0,j,h=>⟨j,Sj _,rfl,h,.inl rfl⟩
 |f+1,j,h=>by
  unfold SetTable.sizeAbove.go
  by_cases hc:2 ^ j<=n
  ·rw[if_pos hc,<- V3];obtain⟨j',h1,h2,h3,h4⟩:=rd n f (j+1) (by rw[show j+1+f=j+(f+1) by lia];exact h)
   refine⟨j',by lia,h2,h3,.inr ?_⟩
   rcases h4 with rfl|h4
   ·exact hc
   ·exact h4
  ·rw[if_neg hc];exact⟨j,Sj _,rfl,by lia,.inl rfl⟩
theorem zU {n:Nat}(h:n<=4000):∃j,3<=j/\SetTable.sizeAbove n=2 ^ j/\n<2 ^ j/\2 ^ j<=8192:=by
 obtain⟨j,h1,h2,h3,h4⟩:=rd n 64 3 (Nat.lt_of_le_of_lt h (by decide))
 refine⟨j,h1,h2,h3,?_⟩;rcases h4 with rfl|h4
 ·decide
 ·have:j-1<12:=by
   rcases TZ (j-1) 12 with z|z
   ·exact z
   ·have:2 ^ 12<=2 ^ (j-1):=Vr (by decide) z
    lia
  have:2 ^ j<=2 ^ 12:=Vr (by decide) (by lia)
  lia
theorem BU (d:Nat)(n:Int)(tk:Tok):hashByValue d (.int n tk)=pure true:=by
 cases d <;> rfl
section
variable {prog:So}{w:SI}{A:TF}{E:Sh->Si->Prop}{s:Si}
variable {a b:Addr}{o:Obj}{ts:List (Addr×List Int)}{es:Array (Int×Sh)}{ep:Nat}{t:SetTable}{k:List Int}
theorem Dx {Q:Bool->Si->Prop}(hk:(TK prog w).is s.heap k b)(q:Q true s):S6 (model prog w) A (hashByValue 8 (.ref b)) Q E s:=by
 obtain⟨o,items,n,ho,hc,hd,hi⟩:=hk;have hT:s.TypeIs (.ref b) "tuple" := ⟨o,ho,hc⟩;unfold hashByValue;refine Sf (wpAny_specialOf hT F.slot_tuple_hash.lookup ?_);dsimp only;refine Sf (UC ho hd ?_);dsimp only[Option.getD_some];rw[<- Array.forIn_toList];refine Sf (W5 _ (λrest r s'=>r=(none,())/\s'=s/\∀v∈rest,∃n tk,v=Value.int n tk) _ ?_ ?_ _ _ ⟨rfl,rfl,?_⟩)
 ·rintro v rest r s' ⟨rfl,rfl,gF⟩;obtain⟨n,tk,rfl⟩:=gF v SY;rw[BU];refine Sf (Sm ?_);rw[if_neg (by simp)]
  exact Sm ⟨rfl,rfl,λu hu=>gF u (S0 _ hu)⟩
 ·rintro r s' ⟨rfl,rfl,_⟩;exact Sm q
 ·generalize items.toList=vs at hi
  induction hi with
  |nil=>intro v hv;cases hv
  | @cons k v ks vs h1 h2 ih =>
   intro u hu;rcases Sr.mp hu with rfl|hu
   ·obtain⟨t,rfl⟩:=WS h1;exact⟨_,_,rfl⟩
   ·exact ih u hu
theorem u7 (ho:s.heap.get? a=some o)(S:cy prog w o ts es ep t)(T:Co prog w s.heap ts)(hk:(TK prog w).is s.heap k b)(hu:A.units<Vx){i3:Bool}{Q:SetFound->Si->Prop}
  (Qf:∀N,(∀x∈ts,x.2≠k)->¬ oP t (cj t.mask (kH prog w k) N)->(∀x,x<N->oP t (cj t.mask (kH prog w k) x))->Q (.free (cj t.mask (kH prog w k) N) false) s)
  (Qt:∀i:Option Nat,(∃x∈ts,x.2=k)->(i3=false->i.isSome=true)->Q (.there i) s) :
  S6 (model prog w) A (setSearch a (.ref b) (kH prog w k) i3) Q E s:=by
 obtain⟨N,h1,h2,h3⟩:=S.wf.first (kH prog w k)
 have hm:=S.CK;unfold setSearch;exact lZ ho S T hk hu h2 h3 h1 (λq=>Qf N q h2 h3) Qt N 0 100000 none rfl (UH N) (by unfold SetTable.turns at h1;lia) λm hm=>by lia
theorem uJ {h:Heap}(ho:h.get? a=some o)(hd:o.data=.set es ep t)(dP:Array (Int×Sh))(t':SetTable):(h.update a (WJ dP t')).get? a=some {o with data:=.set dP (ep+1) t'}:=by
 have e:=Heap.get?_update_self (WJ dP t') ho (by rw[putSet_of dP t' hd];rfl)
 rw[e,putSet_of dP t' hd]
theorem yd {α:Type}(l:List α)(p:Nat)(x:α):(l.take p++x::l.drop p).Perm (x::l):=by
 refine VZ.trans (List.Perm.cons x ?_);rw[Ux]
theorem wV (ho:s.heap.get? a=some o)(hx:o.ExactSet)(hd:o.data=.set es ep t)(he:es.toList=ts.map (ent prog w))(hw:WF t (ts.map λx=>kH prog w x.2))(RU:0<ts.length)(hn:ts.length<=1000)
  (MP:t.led=!w.params.followText "set-order") (hpl:t.plain=true) (mf:(ts.map (·.2)).Nodup) {Q:Unit->Si->Prop}
  (q:∀(cQ:List (Addr×List Int)) (dP:Array (Int×Sh)) (t':SetTable),cQ.Perm ts->cy prog w {o with data:=.set dP (ep+1) t'} cQ dP (ep+1) t'->Q () {s with heap:=s.heap.update a (WJ dP t')}) :
  S6 (model prog w) A (setRelay a (SetTable.grown ts.length)) Q E s:=by
 have hz:es.size=ts.length:=by rw[<- Sv,he,Sg]
 have hp:t.place.size=ts.length:=by have:=hw.sz;rw[Sg]at this;exact this
 have hf:t.fits es.size=true:=by
  unfold SetTable.fits SetTable.fill;rw[hw.Ga,hz,hp];have:=hw.room;simp;lia
 unfold setRelay;refine Sf (Uk ho hd hf ?_);dsimp only;have hg:SetTable.grown ts.length=ts.length*4:=by unfold SetTable.grown;rw[if_neg (by lia)]
 rw[hg];obtain⟨j,j3,ja,jb,jc⟩:=zU (n:=ts.length*4) (by lia)
 rw[ja,if_neg (by rw[TH];lia)]
 have hs:(es.map (·.1)).size=ts.length:=by rw[Xr,hz]
 obtain⟨t',order,e1,e2,e3,e4,e5,e6,e7,e8⟩:=BB (hs:=es.map (·.1)) j3 (by lia) t.finger (t.movedTo (2 ^ j-1)) t.led t.plain
 rw[hs]at e6 e8;have er:t.relaid (es.map (·.1)) (ts.length*4)=some (t',order):=by
  unfold SetTable.relaid;rw[ja];exact e1
 rw[er];have gd:∀i,i<ts.length->es[i]?=some (ent prog w (ts.getD i (0,[]))):=λi hi=>by
  rw[<- SK,he,Su,Sk hi,SN,Sk hi];rfl
 have ml:(order.filterMap (es[·]?)).toList=(order.toList.map λi=>ts.getD i (0,[])).map (ent prog w):=by
  rw[Array.toList_filterMap,Tz];have:∀l:List Nat,(∀i∈l,i<ts.length)->l.filterMap (es[·]?)=l.map (ent prog w ∘ λi=>ts.getD i (0,[])):=λl=>by
   induction l with
   |nil=>intro _;rfl
   |cons i l ih =>
    intro h;rw[Tx,gd i (h i SY),Ta,ih λy hy=>h y (S0 _ hy)];rfl
  exact this _ λi hi=>Tq.mp (e6.mem_iff.mp hi)
 have zb:(order.toList.map λi=>ts.getD i (0,[])).Perm ts:=by
  refine(e6.map _).trans (Wi ?_);apply Ue;intro i;rw[Su]
  by_cases hi:i<ts.length
  ·rw[Up hi,Sk hi];show some (ts.getD i (0,[]))=_;rw[SN,Sk hi];rfl
  ·rw[S7 (by rw[Tc];lia),S7 (by lia)]
   rfl
 have hsz:(order.filterMap (es[·]?)).size=es.size:=by
  rw[<- Sv,ml,Sg,zb.length_eq,hz]
 refine Sf ?_;show S6 _ _ (if (order.filterMap (es[·]?)).size != es.size then _ else _) _ _ _
 rw[hsz,if_neg (by simp)]
 refine Sm ?_;dsimp only;refine wpAny_storeSet_of ho hd (q _ _ t' zb ⟨hx,rfl,ml,?_,?_,by lia,e3.trans MP,e4.trans hpl,?_⟩) (by rw[hsz,hz,TH];lia)
 ·rw[Tz];have:(order.toList.map λi=>(es.map (·.1)).getD i 0)=order.toList.map ((λx=>kH prog w x.2) ∘ λi=>ts.getD i (0,[])):=by
   refine Tw λi hi=>?_;have hi:=Tq.mp (e6.mem_iff.mp hi);rw[SS,Array.getElem?_map,gd i hi];rfl
  rw[<- this];exact e7
 ·rw[e8,e2];lia
 ·exact((zb.map (·.2)).nodup_iff).mpr mf
theorem w6 (ho:s.heap.get? a=some o)(S:cy prog w o ts es ep t)(T:Co prog w s.heap ts)(hk:(TK prog w).is s.heap k b)(hu:A.units<Vx)(hn:ts.length<1000)(f:Nat){Q:Bool->Si->Prop}
  (q:∀(h':Heap) (o':Obj) (cQ:List (Addr×List Int)) (dP:Array (Int×Sh)) (oH:Nat) (t':SetTable) (added:Bool),Uq a s.heap h'->h'.get? a=some o'->cy prog w o' cQ dP oH t' ->
   ((∃x∈ts,x.2=k)->cQ=ts)->((∀x∈ts,x.2≠k)->cQ.Perm ((b,k)::ts))->Q added {s with heap:=h'}) :
  S6 (model prog w) A (setAddHashedIn a (.ref b) (kH prog w k) (f+1)) Q E s:=by
 unfold setAddHashedIn;refine Sf (Uk ho S.dat S.fits ?_);dsimp only;rw[if_neg (by simp[byScan,Value.scannable])]
 refine Sf (u7 ho S T hk hu (λN g1 g2 g3=>?_) λi g1 g2=>?_)
 ·dsimp only;refine Sf (Uk ho S.dat S.fits ?_);dsimp only;have hr:t.place.size+1<=t.mask:=by
   have:=S.K6;obtain⟨j,hj,e⟩:=S.wf.CK;have:2 ^ 3<=2 ^ j:=Vr (by decide) hj
   lia
  obtain⟨W,hp⟩:=S.wf.put (jA _ _ _) g2 g3 hr;have pe:(t.put (cj t.mask (kH prog w k) N)).1.plain=t.plain/\(t.put (cj t.mask (kH prog w k) N)).1.led=t.led/\(t.put (cj t.mask (kH prog w k) N)).1.mask=t.mask:=⟨rfl,rfl,rfl⟩;have pf:(t.put (cj t.mask (kH prog w k) N)).1.dummies=#[]:=W.Ga;generalize (t.put (cj t.mask (kH prog w k) N)).1=t1 at *
  generalize (t.put (cj t.mask (kH prog w k) N)).2=p at *
  obtain⟨Lw,N4,PN⟩:=pe;rw[Lw,S.FZ,if_pos rfl];refine Sf (Dx hk ?_);rw[if_pos rfl];have hz:=S.size;have Fu:(SetTable.insertAt es p (kH prog w k,Value.ref b)).toList=(ts.take p++(b,k)::ts.drop p).map (ent prog w):=by
   rw[lr,S.Fv,S9,Ta,VS,WH]
  have W1:WF t1 ((ts.take p++(b,k)::ts.drop p).map λx=>kH prog w x.2):=by
   rw[S9,Ta,VS,WH];exact W
  have pm:(ts.take p++(b,k)::ts.drop p).Perm ((b,k)::ts):=yd ts p (b,k);have jt:(ts.take p++(b,k)::ts.drop p).length=ts.length+1:=pm.length_eq;have yz:((ts.take p++(b,k)::ts.drop p).map (·.2)).Nodup:=by
   refine((pm.map (·.2)).nodup_iff).mpr ?_;rw[Ta,S4];exact⟨λhm=>by
    obtain⟨x,hx,e⟩:=Tj.mp hm;exact g1 x hx e,S.LC⟩
  have FX:(SetTable.insertAt es p (kH prog w k,Value.ref b)).size=ts.length+1:=by rw[<- Sv,Fu,Sg,jt]
  have RE:t1.place.size=ts.length+1:=by have:=W1.sz;rw[Sg,jt]at this;exact this
  refine Sf (wpAny_storeSet_of ho S.dat ?_ (by rw[FX,TH];lia))
  have IW:=uJ ho S.dat (SetTable.insertAt es p (kH prog w k,Value.ref b)) t1;have GQ:Uq a s.heap (s.heap.update a (WJ (SetTable.insertAt es p (kH prog w k,Value.ref b)) t1)):=WD _ _ _;have fin:∀(h':Heap) (o':Obj) (cQ:List (Addr×List Int)) (dP:Array (Int×Sh)) (oH:Nat) (t':SetTable),Uq a s.heap h'->h'.get? a=some o'->cy prog w o' cQ dP oH t'->cQ.Perm (ts.take p++(b,k)::ts.drop p)->Q true {s with heap:=h'} :=
   λh' o' cQ dP oH t' q1 q2 q3 q4=>q h' o' cQ dP oH t' true q1 q2 q3 (λBL=>by obtain⟨x,hx,e⟩:=BL;exact absurd e (g1 x hx)) λ_=>q4.trans pm
  by_cases qo:t1.tooFull=true
  ·rw[qo,if_pos (by rfl)]
   have Je:SetTable.grown (es.size+1)=SetTable.grown (ts.take p++(b,k)::ts.drop p).length:=by rw[jt,hz.1]
   rw[Je];refine Sf (wV (s:={s with heap:=s.heap.update a (WJ (SetTable.insertAt es p (kH prog w k,Value.ref b)) t1)}) IW S.ex rfl Fu W1 (by lia) (by lia) (N4.trans S.led) (Lw.trans S.FZ) yz λcQ dP t' r1 r2=>Sm ?_)
   have MG:=uJ IW rfl dP t';exact fin _ _ cQ dP _ t' (GQ.trans (WD _ _ _)) MG r2 r1
  ·rw[if_neg (by simpa using qo)]
   refine Sm (fin _ _ _ _ _ _ GQ IW ⟨S.ex,rfl,Fu,W1,?_,by rw[PN];exact S.CK,N4.trans S.led,Lw.trans S.FZ,yz⟩ (.refl _))
   unfold SetTable.tooFull SetTable.fill at qo;rw[pf]at qo;simp at qo;lia
 ·dsimp only;exact Sm (q s.heap o ts es ep t false (Heap.SameBut.refl _ _) ho S (λ_=>rfl) λg=>absurd g1 λyW=>by obtain⟨x,hx,e⟩:=yW;exact g x hx e)
theorem Dz (ho:s.heap.get? a=some o)(S:cy prog w o ts es ep t)(T:Co prog w s.heap ts)(hk:(TK prog w).is s.heap k b)(hu:A.units<Vx)(hn:ts.length<1000){Q:Bool->Si->Prop}
  (q:∀(h':Heap) (o':Obj) (cQ:List (Addr×List Int)) (dP:Array (Int×Sh)) (oH:Nat) (t':SetTable) (added:Bool) (tk:Nat),s.toks<=tk->Uq a s.heap h'->h'.get? a=some o'->cy prog w o' cQ dP oH t' ->
   ((∃x∈ts,x.2=k)->cQ=ts)->((∀x∈ts,x.2≠k)->cQ.Perm ((b,k)::ts))->Q added {s with heap:=h',toks:=tk}) :
  S6 (model prog w) A (setAdd a (.ref b)) Q E s:=by
 unfold setAdd;refine T_ ?_;refine Sf ((TK prog w).pyHash hu hk ?_);unfold setAddHashed;refine T_ ?_;exact w6 (s:={s with toks:=s.toks+(TK prog w).draws k}) ho S T hk hu hn 99999 λh' o' cQ dP oH t' added r1 r2 r3 r4 r5=>q h' o' cQ dP oH t' added _ (Vl _ _) r1 r2 r3 r4 r5
end
theorem lP {α:Type}:∀{l:List α} {i:Nat} (h:i<l.length),(l[i]::l.eraseIdx i).Perm l
 |[],_,h=>absurd h (Xh _)
 |x::l,0,_=>.refl _
 |x::l,i+1,h=>by
  have h':i<l.length:=by rw[SM]at h;lia
  show (l[i]::x::l.eraseIdx i).Perm (x::l);exact(List.Perm.swap _ _ _).trans ((lP h').cons x)
theorem uw {α:Type}(next:Nat->Nat):∀(f k:Nat) (left:List α) (out:Array α),f=left.length->(pickOrder.go next f k left out).toList.Perm (out.toList++left)
 |0,k,left,out,e=>by
  obtain rfl:left=[]:=List.length_eq_zero_iff.mp e.symm;unfold pickOrder.go;rw[Uo]
 |f+1,k,left,out,e=>by
  unfold pickOrder.go;have hi:next k % left.length<left.length:=VC _ (by lia)
  rw[Sk hi];dsimp only;refine(uw next f (k+1) _ _ (by rw[List.length_eraseIdx_of_lt hi];lia)).trans ?_
  rw[Ul,TM];exact Wm _ (lP hi)
theorem vz {α:Type}(next:Nat->Nat)(xs:Array α):(pickOrder next xs).toList.Perm xs.toList:=by
 have:=uw next xs.size 0 xs.toList #[] (by rw[Sv])
 exact this
theorem bC:Slot "set_iterator" "__next__" "set_iterator.__next__" :=
 .of (owner:="set_iterator") (n:="__next__") (by rw[typeLookup_type,builtinLookup_eq_fast];kernel_rfl) (by decide +kernel) (by decide +kernel) (by decide +kernel)
  (by first|exact .inl (by decide +kernel)|exact .inr (by decide +kernel)) (by rw[Xk];kernel_rfl)
theorem gj:Slot "set_iterator" "__iter__" "set_iterator.__iter__" :=
 .of (owner:="set_iterator") (n:="__iter__") (by rw[typeLookup_type,builtinLookup_eq_fast];kernel_rfl) (by decide +kernel) (by decide +kernel) (by decide +kernel)
  (by first|exact .inl (by decide +kernel)|exact .inr (by decide +kernel)) (by rw[Xk];kernel_rfl)
theorem fM:entryFor table "set_iterator.__next__" = some Vq.«set_iterator.__next__»:=entryFor_of_tree (by kernel_rfl)
theorem lI:entryFor table "set_iterator.__iter__" = some Vq.«dict_keyiterator.__iter__» :=
 entryFor_alias (id':="dict_keyiterator.__iter__") (by kernel_rfl) rfl (by decide +kernel) (by kernel_rfl)
theorem lJ:entryFor table "set.__iter__" = some Vq.«frozenset.__iter__» :=
 entryFor_alias (id':="frozenset.__iter__") (by kernel_rfl) rfl (by decide +kernel) (by kernel_rfl)
theorem gv (a:Sh):argsOk "set_iterator.__next__" ⟨[a],[]⟩:=by unfold argsOk;kernel_rfl
theorem mD (a:Sh):argsOk "set_iterator.__iter__" ⟨[a],[]⟩:=by unfold argsOk;kernel_rfl
section
variable {prog:So}{w:SI}{A:TF}{E:Sh->Si->Prop}{s:Si}
variable {a:Addr}{o:Obj}{ts:List (Addr×List Int)}{es:Array (Int×Sh)}{ep:Nat}{t:SetTable}
abbrev zN (w:SI):Bool:=w.params.followText "set-order"
theorem iu {Q:Bool->Si->Prop}(q:Q (zN w) s):S6 (model prog w) A setsByText Q E s:=by
 unfold setsByText;exact Sf (VW (Sm q))
def bE (w:SI)(a:Addr)(ep:Nat)(es:Array (Int×Sh)):Array (Int×Sh):=if zN w=true then pickOrder (w.params.setOrder a ep) es else es
theorem fR (w:SI)(a:Addr)(ep:Nat)(es:Array (Int×Sh)):(bE w a ep es).toList.Perm es.toList:=by
 unfold bE
 split
 ·exact vz _ _
 ·exact .refl _
theorem vF (S:cy prog w o ts es ep t){Q:Bool->Si->Prop}(ho:s.heap.get? a=some o)(q:Q false s):S6 (model prog w) A (setDrawn a) Q E s:=by
 unfold setDrawn;refine Sf (Uk ho S.dat S.fits ?_);dsimp only;refine Sf (iu (Sm ?_));have:(!zN w&&(!t.plain&&decide (es.size>1)))=false:=by rw[S.FZ];simp
 show Q (!zN w&&(!t.plain&&decide (es.size>1))) s;rw[this];exact q
theorem jR (ho:s.heap.get? a=some o)(S:cy prog w o ts es ep t){sl i:Nat}{Q:Option (Sh×Nat)->Si->Prop}(F3:zN w=false->SetTable.below t.place sl=i)
  (q1:∀e,(bE w a ep es)[i]?=some e->∀DV:Nat,(zN w=false->SetTable.below t.place DV=i+1)->Q (some (e.2,DV)) s) (q2:(bE w a ep es)[i]?=none->Q none s) :
  S6 (model prog w) A (setNext a sl i ep) Q E s:=by
 unfold setNext;refine Sf (Uk ho S.dat S.fits ?_);dsimp only;refine Sf (iu ?_);cases hb:zN w with
 |true =>
  rw[if_pos rfl,if_neg (by simp)]
  unfold setWalk;refine Sf (Sf (Uk ho S.dat S.fits ?_));dsimp only;refine Sf (iu ?_);rw[hb,if_pos rfl];refine Sf (VW (Sm (Sm ?_)));have e:bE w a ep es=pickOrder (w.params.setOrder a ep) es:=by unfold bE;rw[hb,if_pos rfl]
  rw[e]at q1 q2;show Q (((pickOrder (w.params.setOrder a ep) es)[i]?).map λe=>(e.2,sl)) s;cases hx:(pickOrder (w.params.setOrder a ep) es)[i]? with
  |none=>exact q2 hx
  |some x=>exact q1 x hx sl (λz=>by rw[hb]at z;cases z)
 |false =>
  rw[if_neg (by simp)]
  have e:bE w a ep es=es:=by unfold bE;rw[hb,if_neg (by simp)]
  rw[e]at q1 q2;have hd:(!t.plain&&decide (es.size>1))=false:=by rw[S.FZ];rfl
  show S6 _ _ (if (!t.plain&&decide (es.size>1))=true then _ else _) _ _ _
  rw[hd,if_neg (by simp)]
  have hl:t.led=true:=by
   rw[S.led];show (!zN w)=true;rw[hb];rfl
  refine Sf ?_;show S6 _ _ (if (!t.led&&!es.isEmpty)=true then _ else _) _ _ _
  rw[hl,if_neg (by simp)]
  refine Sm (Sm ?_);rw[F3 hb];have hz:=S.size
  by_cases hi:i<t.place.size
  ·have h1:es[i]?=some es[i]:=getElem?_pos es i (by omega)
   rw[h1,tj hi];refine q1 _ h1 _ λ_=>?_;obtain⟨b1,b2,b3⟩:=eX S.wf.vo (g t.place i+1);rcases WX (SetTable.below t.place (g t.place i+1)) (i+1)with z|z|z
   ·have:=b3 i (by omega) hi
    omega
   ·exact z
   ·have:=b2 (i+1) z;have:=S.wf.vo i (i+1) (by omega) (by omega)
    omega
  ·have h1:es[i]?=none:=Ur (by omega)
   rw[h1];exact q2 h1
end
section
variable {prog:So}{w:SI}{A:TF}{E:Sh->Si->Prop}{s:Si}
variable {a b it:Addr}{o:Obj}{ts:List (Addr×List Int)}{es:Array (Int×Sh)}{ep:Nat}{t:SetTable}
def nV (sl i:Nat)(a:Addr)(n ep:Nat):Obj:={cls:=.type "set_iterator",dict:=none,data:=.fields #[.int sl 0,.int i 0,.ref a,.int n 0,.int ep 0],slots:=#[]}
theorem j6 {sl i n:Nat} (h:s.heap.get? it=some (nV sl i a n ep)):s.TypeIs (.ref it) "set_iterator" := ⟨_,h,rfl⟩
def Gg (prog:So)(w:SI)(it a:Addr)(ts:List (Addr×List Int))(es:Array (Int×Sh))(ep:Nat)(i:Nat)(h:Heap):Prop :=
 ∃sl o t,h.get? it=some (nV sl i a es.size ep)/\h.get? a=some o/\cy prog w o ts es ep t/\(zN w=false->SetTable.below t.place sl=i)
theorem xD (BO:a≠it){i:Nat}{e:Int×Sh}{Q:Option Sh->Si->Prop}(st:Gg prog w it a ts es ep i s.heap)(he:(bE w a ep es)[i]?=some e)
  (q:∀h',Gg prog w it a ts es ep (i+1) h'->Uq it s.heap h'->Q (some e.2) {s with heap:=h'}):S6 (model prog w) A (VB (.ref it)) Q E s:=by
 obtain⟨sl,o,t,hi,ho,S,hb⟩:=st;have hT:=j6 hi;unfold VB;refine Sf (VP (U7 (name:=WU "__next__") hT bC (Ut bC hT fM ?_ (gv _))));unfold Vq.«set_iterator.__next__»
 refine Sf (Sm ?_);refine Sf (wpAny_fieldsOf hi rfl ?_);dsimp only;refine Sf (WB ho S.dat S.fits ?_);rw[if_neg (by simp)]
 refine Sf (jR (i:=i) ho S (λz=>by simpa using hb z) (λe' Jg DV Ib=>?_) λhn=>?_)
 ·rw[he]at Jg;obtain rfl:=S8 Jg;dsimp only;refine Sf (Uh hi (by simp) λh1 g1 GQ=>?_)
  refine Sf (Uh (s:={s with heap:=h1}) g1 (by simp) λh2 g2 NW=>?_)
  refine Sm ⟨_,rfl,Sm (q h2 ⟨DV,o,t,?_,?_,S,Ib⟩ (GQ.trans NW))⟩
  ·rw[g2];rfl
  ·rw[(GQ.trans NW).2 a BO];exact ho
 ·rw[he]at hn;cases hn
theorem Az (hh:A.handled=none)(BO:a≠it){i:Nat}{Q:Option Sh->Si->Prop}(st:Gg prog w it a ts es ep i s.heap)(he:(bE w a ep es)[i]?=none)
  (q:∀h',Heap.ExtBut it s.heap h'->Q none {s with heap:=h'}):S6 (model prog w) A (VB (.ref it)) Q E s:=by
 obtain⟨sl,o,t,hi,ho,S,hb⟩:=st;have hT:=j6 hi;unfold VB;refine Sf (VP (U7 (name:=WU "__next__") hT bC (Ut bC hT fM ?_ (gv _))));unfold Vq.«set_iterator.__next__»
 refine Sf (Sm ?_);refine Sf (wpAny_fieldsOf hi rfl ?_);dsimp only;refine Sf (WB ho S.dat S.fits ?_);rw[if_neg (by simp)]
 refine Sf (jR (i:=i) ho S (λz=>by simpa using hb z) (λe' Jg DV Ib=>?_) λhn=>?_)
 ·rw[he]at Jg;cases Jg
 ·dsimp only;refine Sf (wpAny_setField hi rfl (by simp) ?_)
  refine Sf ?_;simp only[newExc,newTuple];refine Sf (Va ?_ (by size_fits))
  refine Sf (m:=firstArgMember _ _) (wpAny_of_eq (a:=Value.none) (by first|rfl|(simp only[firstArgMember];rfl)) ?_)
  refine Va ?_ (by size_fits)
  simp only[raiseNew];refine Sf (wpAny_handled ?_);rw[show A.in1.handled=none from hh]
  refine Sf (Sm (wpAny_throw ?_));refine Sf (W4 (T:="StopIteration") (b:=true) ⟨_,Tf _ rfl,rfl⟩ isSubtype_stop ?_);exact Sm (q _ (((WD ..).extBut.push _).push _))
theorem xC {i:Nat}{Q:Sh->Si->Prop}(st:Gg prog w it a ts es ep i s.heap)(q:Q (.ref it) s):S6 (model prog w) A (WI (.ref it)) Q E s:=by
 obtain⟨sl,o,t,hi,ho,S,hb⟩:=st;have hT:=j6 hi;refine wpAny_pyIter_slot hT gj (Ut gj hT lI ?_ (mD _));show S6 _ _ (ret (.ref it)) _ _ s;exact Sm ⟨_,rfl,"set_iterator",_,hT,bC.lookup,q⟩
theorem vg (hh:A.handled=none)(BO:a≠it):Walks prog w A it [it,a] [it] es.size (λi v=>∃e,(bE w a ep es)[i]?=some e/\v=e.2) (Gg prog w it a ts es ep) where
 sub:=λb hb=>by rw[SF.mp hb];exact SY
 frame:=λi h h' ⟨sl,o,t,h1,h2,h3⟩ hk=>⟨sl,o,t,hk it SY _ h1,hk a (S0 _ SY) _ h2,h3⟩
 item:=λi s Q E hi st hQ=>by
  have hz:(bE w a ep es).size=es.size:=by
   have:=(fR w a ep es).length_eq;rw[Sv,Sv]at this;exact this
  have he:(bE w a ep es)[i]?=some (bE w a ep es)[i]:=getElem?_pos _ i (by lia)
  exact xD BO st he λh' az sb=>hQ _ h' s.toks ⟨_,he,rfl⟩ az λb o hb e=>sb.extBut b o (λz=>hb (by rw[z];exact SF.mpr rfl)) e
 done:=λs Q E st hQ=>by
  have hz:(bE w a ep es).size=es.size:=by
   have:=(fR w a ep es).length_eq;rw[Sv,Sv]at this;exact this
  exact Az hh BO st (Ur (by lia)) λh' eb=>hQ h' s.toks λb o hb e=>eb b o (λz=>hb (by rw[z];exact SF.mpr rfl)) e
 self:=λi s Q E st hQ=>xC st hQ
theorem j7 (ho:s.heap.get? a=some o) (S:cy prog w o ts es ep t):s.TypeIs (.ref a) "set" := ⟨o,ho,S.ex.1⟩
theorem Am (ho:s.heap.get? a=some o)(S:cy prog w o ts es ep t){Q:Sh->Si->Prop}(q:Q (.ref s.heap.objs.size) {s with heap:=s.heap.push (nV 0 0 a es.size ep)}):
  S6 (model prog w) A (WI (.ref a)) Q E s:=by
 have hT:=j7 ho S;refine wpAny_pyIter_slot hT F.slot_set_iter (Ut F.slot_set_iter hT lJ ?_ (F.args_set_iter_1 _));unfold Vq.«frozenset.__iter__» Builtin.Frozenset.slot0 Builtin.Frozenset.sizeOf;refine Sf (Sf (Sm (Sm ?_)));refine Sf (Sf (WB ho S.dat S.fits (Sm ?_)));refine Sf (vF S ho ?_);rw[if_neg (by simp)]
 refine Sf (Sm ?_);refine Sf (wpAny_setEpoch_of ho S.dat S.fits ?_);unfold newFields;refine Sf (Va (Sm ⟨_,rfl,"set_iterator",_,⟨_,Tf _ rfl,rfl⟩,bC.lookup,?_⟩) (by size_fits))
 exact q
theorem An (ho:s.heap.get? a=some o)(S:cy prog w o ts es ep t){Q:Bool->Si->Prop}(q:Q false s):S6 (model prog w) A (Xj (.ref a)) Q E s:=by
 have hT:=j7 ho S;unfold Xj;refine Sf (wpAny_specialOf hT PySem.F.slot_set_len.lookup ?_);generalize OE:("set.__len__" : String)=Qi
 wp_delta
 rw[show splitId Qi=some ("set","__len__") from by subst OE;decide +kernel]
 subst OE;refine Sf (W4 (T:="set") (b:=true) hT (by rw[Xk];kernel_rfl) ?_)
 refine wpAny_ite_split (λJl=>absurd Jl (by decide)) (λ_=>?_)
 refine wpAny_ite_split (λ_=>?_) (λJl=>absurd (by decide +kernel) Jl)
 refine Sf (wpAny_typeOf hT ?_);exact Sm q
theorem AE (prog:So)(w:SI)(a:Addr)(o:Obj)(ts:List (Addr×List Int))(es:Array (Int×Sh))(ep:Nat)(t:SetTable)(S:cy prog w o ts es ep t):
  PySem.W.KdlSrc prog w "set" a a es.size (λi v=>∃e,(bE w a ep es)[i]?=some e/\v=e.2) (λh=>h.get? a=some o) where
 type:=λs ho=>j7 ho S
 there:=λh ho=>⟨SD ho,SD ho⟩
 keep:=λh h' ho hk=>hk a (.inl rfl) _ ho
 notList:=by decide
 notTuple:=by decide
 hint:=λA E s Q ho q=>An ho S q
 iter:=λA s hh ho=>⟨nV 0 0 a es.size ep,Gg prog w s.heap.objs.size a ts es ep,λE Q q=>Am ho S q,vg hh (S5 (SD ho)),
  0,o,t,Tf _ rfl,Sl _ ho,S,λ_=>by
   obtain⟨b1,b2,b3⟩:=eX S.wf.vo 0;rcases WK (SetTable.below t.place 0)with z|z
   ·exact z
   ·have:=b2 0 z;lia⟩
theorem pN {α β:Type}{f:α->β}:∀{ts:List α} {l:List β},l.Perm (ts.map f)->∃us:List α,us.Perm ts/\l=us.map f
 |[],l,h=>⟨[],.refl _,List.perm_nil.mp h⟩
 |x::ts,l,h=>by
  obtain⟨l1,l2,rfl⟩:=List.append_of_mem (h.mem_iff.mpr (show f x∈(x::ts).map f from SY))
  have h':(l1++l2).Perm (ts.map f):=(VZ.symm.trans h).cons_inv;obtain⟨us,h1,h2⟩:=pN h';obtain⟨u1,u2,rfl,e1,e2⟩:=List.map_eq_append_iff.mp h2.symm;refine⟨u1++x::u2,VZ.trans (h1.cons x),?_⟩;rw[S9,Ta,e1,e2]
end
section
variable {prog:So}{w:SI}{A:TF}{E:Sh->Si->Prop}{s:Si}
variable {o:Obj}{ts:List (Addr×List Int)}{es:Array (Int×Sh)}{ep:Nat}{t:SetTable}
def kT (w:SI):Obj:={cls:=.type "set",dict:=none,data:=.set #[] 0 (.fresh 0 0 (!zN w))}
theorem Bq (prog:So)(w:SI):cy prog w (kT w) [] #[] 0 (.fresh 0 0 (!zN w)) where
 ex:=⟨rfl,rfl,rfl⟩
 dat:=rfl
 Fv:=rfl
 wf:=⟨rfl,rfl,λi j _ hj=>absurd hj (Xh _),λi hi=>absurd hi (Xh _),⟨3,Sj _,rfl⟩,SH _,λi h hi=>by simp at hi⟩
 K6:=by show 0*5<7*3;decide
 CK:=by show 7<=8191;decide
 led:=rfl
 FZ:=rfl
 LC:=Tv
theorem yC {xs:List Sh} {R:Sh->Si->Prop} (hc:checkBuiltinCall "set.__new__" ⟨.type "set" :: xs,[]⟩=pure ()) (hx:xs=[]\/∃v,xs=[v]) (q:R (.ref s.heap.objs.size) {s with heap:=s.heap.push (kT w)}) :
  VM (model prog w) A (.call (.builtin "set.__new__") ⟨.type "set" :: xs,[]⟩) (wants R E) s:=by
 refine Xg ?_;show S6 _ A.in1 (checkBuiltinCall "set.__new__" ⟨.type "set" :: xs,[]⟩ >>= λ_=>again (.builtin "set.__new__" ⟨.type "set" :: xs,[]⟩)) _ _ s;refine Sf (wpAny_of_eq hc (Sm ⟨plainId_quiet F.plain_set_new _,Wa F.entry_set_new ?_⟩));rw[Wx F.plain_set_new _];unfold Vq.«set.__new__» Builtin.Frozenset.newClass;have Pp:=sub_set_self;obtain⟨hp,gs,dr,tk,os⟩:=s;rcases hx with rfl|⟨v,rfl⟩
 all_goals
  dsimp only
  wp_walk
  refine VW (Sm ?_);dsimp only;simp only[newObj];exact Sf (wpAny_alloc (Sm (Sm q)))
theorem vO {I:Addr}{fp wr:List Addr}{G:Array GenState->Array GenState->Prop}{vs:List (Addr×List Int)}{St:Nat->Si->Prop}{R:Result->Si->Prop}(hu:A.in1.units<Vx)
  {n:Nat} {P:Nat->Sh->Prop} (W:WalksS prog w A.in1 I fp wr G n P St) (MI:n=vs.length) (QQ:∀(i:Nat) (v:Sh),P i v->∃x,vs[i]?=some x/\v=.ref x.1) (sa:Addr) (Oq:sa∉fp) (hn:vs.length<1000) (hv:∀x∈vs,x.1∉wr/\x.1≠sa) :
  ∀(d i:Nat) (s:Si) (o:Obj) (ts:List (Addr×List Int)) (es:Array (Int×Sh)) (ep:Nat) (t:SetTable),vs.length-i=d->i<=vs.length->St i s->Co prog w s.heap vs->s.heap.get? sa=some o->cy prog w o ts es ep t ->
   (∀x∈ts,x∈vs.take i)->(∀x∈vs.take i,∃y∈ts,y.2=x.2)->ts.length<=i ->
   (∀s' o' cQ dP oH t',Moved (sa::wr) G s s'->s'.heap.get? sa=some o'->cy prog w o' cQ dP oH t'->(∀x∈cQ,x∈vs)->(∀x∈vs,∃y∈cQ,y.2=x.2)->R (.ok (.ret .none)) s') ->
   VM (model prog w) A (.builtin "set.update.loop" ⟨[.ref sa,.ref I],[]⟩) R s:=by
 subst MI;have uI:sa∉wr:=λz=>Oq (W.sub _ z);have up:∀x∈wr,x∈sa::wr:=λx hx=>S0 _ hx;intro d
 induction d with
 |zero =>
  intro i s o ts es ep t hd hi st T ho S k1 k2 k3 hR;obtain rfl:i=vs.length:=by lia
  refine Wa F.entry_set_update_loop ?_;rw[Wx F.plain_set_update_loop _];show S6 _ A.in1 (VB (.ref I) >>= _) _ _ s;refine Sf (W.done s _ _ st λs' mv=>?_);rw[Ui]at k1 k2;exact Sm (hR s' o ts es ep t (mv.mono up) (mv.heap sa _ uI ho) S k1 k2)
 |succ d ih =>
  intro i s o ts es ep t hd hi st T ho S k1 k2 k3 hR;have lt:i<vs.length:=by lia
  refine Wa F.entry_set_update_loop ?_;rw[Wx F.plain_set_update_loop _];show S6 _ A.in1 (VB (.ref I) >>= _) _ _ s;refine Sf (W.item i s _ _ lt st λv s1 hP GO mv=>?_);obtain⟨x,hx,rfl⟩:=QQ i v hP;have HX:x∈vs:=TU hx;have T1:Co prog w s1.heap vs:=λy hy=>by
   obtain⟨oy,its,n,g1,g2⟩:=T y hy;exact⟨oy,its,n,mv.heap _ _ (hv y hy).1 g1,g2⟩
  have IW:=mv.heap sa _ uI ho;refine Sf (T_ (Dz IW S (λy hy=>T1 y (Vt (k1 y hy))) (T1 x HX) hu (by lia) λh' o' cQ dP oH t' added tk r0 r1 r2 r3 r4 r5=>?_))
  have Pe:vs.take (i+1)=vs.take i++[x]:=by rw[Xn,hx];rfl
  have keep:∀c oc,c≠sa->s1.heap.get? c=some oc->h'.get? c=some oc:=λc oc hc e=>by rw[r1.2 c hc];exact e
  have step:(∀y∈cQ,y∈vs.take (i+1))/\(∀y∈vs.take (i+1),∃z∈cQ,z.2=y.2)/\cQ.length<=i+1:=by
   rw[Pe]
   by_cases BQ:∃y∈ts,y.2=x.2
   ·rw[r4 BQ];refine⟨λy hy=>T3 _ (k1 y hy),λy hy=>?_,by lia⟩
    rcases SO.mp hy with z|z
    ·exact k2 y z
    ·rw[SF.mp z];exact BQ
   ·have pm:=r5 λy hy e=>BQ ⟨y,hy,e⟩;refine⟨λy hy=>?_,λy hy=>?_,by rw[pm.length_eq,SM];lia⟩
    ·rcases Sr.mp (pm.mem_iff.mp hy)with rfl|z
     ·exact Th _ (SF.mpr rfl)
     ·exact T3 _ (k1 y z)
    ·rcases SO.mp hy with z|z
     ·obtain⟨u,hu,e⟩:=k2 y z;exact⟨u,pm.mem_iff.mpr (S0 _ hu),e⟩
     ·rw[SF.mp z];exact⟨x,pm.mem_iff.mpr SY,rfl⟩
  have P6:Moved (sa::wr) G s {s1 with heap:=h',toks:=tk} :=
   (mv.mono up).then_heap r0 λc oc hc e=>keep c oc (λz=>hc (by rw[z];exact SY)) e
  refine Sm ⟨plainId_quiet F.plain_set_update_loop _,ih (i+1) _ o' cQ dP oH t' (by lia) lt (W.frame _ s1 _ _ GO r0 λc hc oc e=>keep c oc (λz=>Oq (by rw[<- z];exact hc)) e) (λy hy=>?_) r2 r3 step.1 step.2.1 step.2.2 λs' o2 Pd Q0 Q1 t2 m1 m2 m3 m4 m5=>hR s' o2 Pd Q0 Q1 t2 (Moved.trans W.gtrans P6 m1) m2 m3 m4 m5⟩
  obtain⟨oy,its,n,g1,g2⟩:=T1 y hy;exact⟨oy,its,n,keep _ _ (hv y hy).2 g1,g2⟩
end
section
variable {prog:So}{w:SI}{A:TF}{E:Sh->Si->Prop}{s:Si}
theorem wm {l:Addr}{vs:List (Addr×List Int)}{Q:Sh->Si->Prop}(hh:A.handled=none)(hu:A.units+16<Vx)(hl:s.heap.IsList l (vs.map λx=>Value.ref x.1).toArray)(hn:vs.length<1000)(T:Co prog w s.heap vs)
  (q:∀(h':Heap) (tk:Nat) (o':Obj) (ts:List (Addr×List Int)) (es:Array (Int×Sh)) (ep:Nat) (t:SetTable),(∀c oc,s.heap.get? c=some oc->h'.get? c=some oc)->h'.get? s.heap.objs.size=some o'->cy prog w o' ts es ep t ->
   (∀x∈ts,x∈vs)->(∀x∈vs,∃y∈ts,y.2=x.2)->Q (.ref s.heap.objs.size) {s with heap:=h',toks:=tk}) :
  S6 (model prog w) A (call (.type "set") [.ref l]) Q E s:=by
 obtain⟨cx,Rz,P7⟩:=F.called_set.mro;have Oe:=F.called_set.made;have Po:=F.called_set.sub;refine wpAny_call (Xg ?_);show S6 _ _ (callAny (.type "set") _) _ _ _;refine Sm ⟨Code.quiet_builtin _ (by decide +kernel),Wa F.entry_type_call ?_⟩
 rw[Around.under_plain (weight_type_call_type "set" [.ref l] []) rfl];have t1:=F.called_set.notType;have t2:=F.called_set.canCreate;have t3:=F.typeCall_set_1 (.ref l)
 repeat (any_goals (first|assumption|wp_step))
 have ls:l<s.heap.objs.size:=by obtain⟨ol,MC,_⟩:=hl;exact SD MC
 refine Vc (yC (w:=w) (E:=E) (xs:=[.ref l]) (R:=λob sx=>ob=.ref s.heap.objs.size/\sx={s with heap:=s.heap.push (kT w)}) (F.newCall_set_1 _) (.inr ⟨_,rfl⟩) ⟨rfl,rfl⟩) λr sx hr=>?_
 cases r with
 |error e=>exact hr
 |ok fl =>
  cases fl with
  |ret ob =>
   obtain⟨rfl,rfl⟩:=hr;have hS:(s.heap.push (kT w)).get? s.heap.objs.size=some (kT w):=Tf _ rfl;have hT:Shared.TypeIs {s with heap:=s.heap.push (kT w)} (.ref s.heap.objs.size) "set" := ⟨_,hS,rfl⟩
   have i1:=F.called_set.init.lookup;have i2:=F.called_set.init.bind (.ref s.heap.objs.size)
   repeat (any_goals (first|assumption|wp_step))
   refine Vc (codeAny_call_builtin (R:=wants (λr s2=>r=.none/\Q (.ref s.heap.objs.size) s2) E) F.called_set.init.plain F.entry_set_init (check_set_init_1 hT ?_)) λr2 s2 oB=>?_
   ·obtain⟨ol,MC,F7,nl,OL⟩:=hl;obtain⟨c1,c2,c3,c4⟩:=ol;simp only at F7 OL;subst F7 OL;have MB:(s.heap.push (kT w)).get? l=some {cls:=.type "list",dict:=c2,data:=.seq (vs.map λx=>Value.ref x.1).toArray nl,slots:=c4}:=Sl _ MC;have u1:=F.sub_list_set;have u2:=F.sub_list_frozenset;have u3:(Value.type "list" == Value.type "dict")=false:=by decide
    have F4:(s.heap.push (kT w)).IsList l (vs.map λx=>Value.ref x.1).toArray:=⟨_,MB,rfl,nl,rfl⟩;unfold Vq.«set.__init__» noKeywords Builtin.Frozenset.updateFrom;generalize QR:WI=PI
    wp_walk
    subst QR;refine WN F4 ?_;refine Sf (wpAny_runValue ?_);have Qj:A.in1.in1.in1.handled=none:=by simp[hh]
    have uu:A.in1.in1.in1.units<Vx:=by
     have e1:∀B:TF,B.in1.units=B.units+1:=λB=>rfl;rw[e1,e1,e1];lia
    have nI:l≠(s.heap.push (kT w)).objs.size:=by rw[Wv];exact S5 (Ve ls)
    have hf:s.heap.objs.size∉[(s.heap.push (kT w)).objs.size,l]:=by
     rw[Wv];simp only[Sr,Tt,or_false,not_or];exact⟨S5 (Nat.lt_succ_self _),WW ls⟩
    have old:∀x∈vs,x.1<s.heap.objs.size:=λx hx=>by
     obtain⟨oy,its,n,g1,g2⟩:=T x hx;exact SD g1
    refine vO (vs:=vs) uu ((Walks.list Qj _ l nI _).toS) (by simp) (λi v hv=>?_) s.heap.objs.size hf hn (λx hx=>?_) vs.length 0 _ (kT w) [] #[] 0 _ (by lia) (SH _) ⟨⟨_,Tf _ rfl,rfl,rfl⟩,F4.push _⟩ (λx hx=>?_) (Sl _ hS) (Bq prog w) (λx hx=>by cases hx) (λx hx=>by simp at hx) (SH _) λs' o' cQ dP oH t' m1 m2 m3 m4 m5=>?_
    ·have hv:(vs.map λx=>Value.ref x.1).toArray[i]?=some v:=hv;rw[Vh,Su]at hv;obtain⟨x,e1,e2⟩:=SJ.mp hv;exact⟨x,e1,e2.symm⟩
    ·have:=old x hx;refine⟨λz=>?_,S5 this⟩;have z:=SF.mp z;rw[Wv]at z;exact absurd z (S5 (Ve this))
    ·obtain⟨oy,its,n,g1,g2⟩:=T x hx;exact⟨oy,its,n,Sl _ (Sl _ g1),g2⟩
    ·obtain⟨h',g',d',Pf,Ly⟩:=s';have eg:g'=s.gens:=m1.gens;have ed:d'=s.drawn:=m1.drawn;have eo:Ly=s.os:=m1.os;subst eg ed eo;refine Sm (Sm ⟨rfl,q h' Pf o' cQ dP oH t' (λc oc e=>?_) m2 m3 m4 m5⟩);have hc:=SD e;refine m1.heap c oc (λz=>?_) (Sl _ (Sl _ e));rcases Sr.mp z with z|z
     ·exact absurd z (S5 hc)
     ·have z:=SF.mp z;rw[Wv]at z;exact absurd z (S5 (Ve hc))
   ·cases r2 with
    |error e=>exact oB
    |ok QU =>
     cases QU with
     |ret r =>
      obtain⟨rfl,hq⟩:=oB
      repeat (any_goals (first|assumption|wp_step))
     |_=>exact oB.elim
  |_=>exact hr.elim
end
end ST
namespace TS
open PySem PyProof.Rows
section
variable {prog:So}{w:SI}{A:TF}{E:Sh->Si->Prop}{s:Si}
theorem rQ {x:Sh}{vs:List Sh}{kf:Sh->List Int}{Q:Sh->Si->Prop}(hz:vs.length<=1000000)
  (col:∀(R:List Sh->Si->Prop),(∀(h':Heap) (tk:Nat),(∀b o,s.heap.get? b=some o->h'.get? b=some o)->R vs {s with heap:=h',toks:=tk})->S6 (model prog w) A.in1 (collect x) R E s)
  (T:mE s.heap kf s.heap.objs.size vs)
  (h:∀(out:List Sh) (h1 h':Heap) (tk:Nat) (n:Nat),out.Perm vs->out.Pairwise (λx y=>HT.lexLt (kf y) (kf x)=false)->(∀b o,s.heap.get? b=some o->h1.get? b=some o)->(∀b o,h1.get? b=some o->h'.get? b=some o)->h'.get? h1.objs.size=some (UD "list" out.toArray n)->Q (.ref h1.objs.size) {s with heap:=h',toks:=tk}) :
  S6 (model prog w) A (call (.builtin "sorted") [x]) Q E s:=by
 refine Xv kind_sorted plain_sorted entry_sorted (args_sorted1 _) ?_;unfold Vq.«sorted»
 refine Sf (m:=checkCount "sorted" 1 1 _) (Sm ?_);refine Sf (col _ λh' tk kp=>?_);have nl:vs.length<=SG:=by rw[TH];lia
 refine Sf (wpAny_newList ?_ nl);have hl:(h'.push (UD "list" vs.toArray 0)).get? h'.objs.size=some (UD "list" vs.toArray 0):=Tf _ rfl;have T':mE (h'.push (UD "list" vs.toArray 0)) kf h'.objs.size vs:=λv hv=>by
  obtain⟨t,o,xs,k,e1,_,e3,r⟩:=T v hv;exact⟨t,o,xs,k,e1,S5 (SD (kp _ _ e3)),Sl _ (kp _ _ e3),r⟩
 refine Sf (T_ (Ut slot_list_sort ⟨_,hl,rfl⟩ entry_list_sort (k6 (s:={s with heap:=h'.push (UD "list" vs.toArray 0),toks:=tk}) hl hz T' λout hp hs=>⟨_,rfl,?_⟩) (args_list_sort _)))
 obtain⟨n,hn⟩:=sortedHeap_at (out:=out.toArray) hl;refine Sm ⟨_,rfl,h out h' _ tk n hp hs kp (λb o e=>?_) hn⟩;have hb:=SD e;rw[sortedHeap_old (S5 hb) (by rw[size_push'];exact Ve hb)]
 exact Sl _ e
end
end TS
namespace ST
open PySem PyProof.Rows
section
variable {prog:So}{w:SI}{s:Si}
theorem oW {a:Addr}{o:Obj}{ts:List (Addr×List Int)}{es:Array (Int×Sh)}{ep:Nat}{t:SetTable}(ho:s.heap.get? a=some o)(S:cy prog w o ts es ep t)(hn:ts.length<=1000):
  ∃us:List (Addr×List Int),us.Perm ts/\∀(A:TF) (E:Sh->Si->Prop) (R:List Sh->Si->Prop),A.handled=none->(∀(h':Heap) (tk:Nat),(∀b o,s.heap.get? b=some o->h'.get? b=some o)->R (us.map λx=>Value.ref x.1) {s with heap:=h',toks:=tk}) ->
  S6 (model prog w) A (collect (.ref a)) R E s:=by
 have hw:=fR w a ep es;rw[S.Fv]at hw;obtain⟨us,h1,h2⟩:=pN hw;refine⟨us,h1,λA E R hh q=>?_⟩;refine PySem.W.kdu_collect (AE prog w a o ts es ep t S) hh ho (by rw[S.size.1,TH];lia) λh' tk acc hk Jk=>?_
 have e:acc.toList=us.map λx=>Value.ref x.1:=by
  have hz:(bE w a ep es).size=es.size:=by
   have:=(fR w a ep es).length_eq;rw[Sv,Sv]at this;exact this
  have e2:us.map (λx=>Value.ref x.1)=(bE w a ep es).toList.map (·.2):=by
   rw[h2,Tz];rfl
  rw[e2];apply Ue;intro i;rw[Su,SK,SK]
  by_cases hi:i<acc.size
  ·obtain⟨x,g1,g2⟩:=Jk.2 i acc[i] (getElem?_pos acc i hi);rw[getElem?_pos acc i hi,g1,g2];rfl
  ·have:=Jk.1;rw[Ur (by lia),Ur (by lia)]
   rfl
 rw[e];exact q h' tk hk
end
end ST
namespace L2
open PySem PySem.Spec PySem.SeqAt PyProof.Rows HT
theorem gD:∀{a b:List Int},lexLt a b=false->lexLt b a=false->a=b
 |[],[],_,_=>rfl
 |[],_::_,h,_=>by cases h
 |_::_,[],_,h=>by cases h
 |x::xs,y::ys,h1,h2=>by
  rw[gC]at h1 h2
  by_cases e:x=y
  ·subst e;rw[if_pos rfl]at h1 h2;rw[gD h1 h2]
  ·rw[if_neg e]at h1;rw[if_neg (λz=>e z.symm)]at h2;have:=of_decide_eq_false h1;have:=of_decide_eq_false h2;omega
theorem k8:∀{a b:List Int},lexLt a b=true->lexLt b a=false
 |[],[],h=>by cases h
 |[],_::_,_=>rfl
 |_::_,[],h=>by cases h
 |x::xs,y::ys,h=>by
  rw[gC]at h ⊢
  by_cases e:x=y
  ·subst e;rw[if_pos rfl]at h ⊢
   exact k8 h
  ·rw[if_neg e]at h;rw[if_neg (λz=>e z.symm)];have:=of_decide_eq_true h;exact decide_eq_false (by lia)
theorem jh:∀{a b c:List Int},lexLt a b=true->lexLt b c=true->lexLt a c=true
 |[],[],_,h,_=>by cases h
 |[],_::_,[],_,h=>by cases h
 |[],_::_,_::_,_,_=>rfl
 |_::_,[],_,h,_=>by cases h
 |x::xs,y::ys,[],_,h=>by cases h
 |x::xs,y::ys,z::zs,h1,h2=>by
  rw[gC]at h1 h2 ⊢
  by_cases e:x=y
  ·subst e;rw[if_pos rfl]at h1
   by_cases e2:x=z
   ·subst e2;rw[if_pos rfl]at h2 ⊢
    exact jh h1 h2
   ·rw[if_neg e2]at h2 ⊢
    exact h2
  ·rw[if_neg e]at h1;have q1:=of_decide_eq_true h1
   by_cases e2:y=z
   ·subst e2;rw[if_neg e];exact h1
   ·rw[if_neg e2]at h2;have q2:=of_decide_eq_true h2;rw[if_neg (by omega)]
    exact decide_eq_true (by omega)
def sU (k:List Int):List (List Int)->List (List Int)
 |[]=>[k]
 |x::xs=>if lexLt x k=true then x::sU k xs else k::x::xs
def gi:List (List Int)->List (List Int)
 |[]=>[]
 |k::ks=>sU k (gi ks)
theorem iU (k:List Int):∀xs,(sU k xs).Perm (k::xs)
 |[]=>.refl _
 |x::xs=>by
  unfold sU
  split
  ·exact((iU k xs).cons x).trans (List.Perm.swap _ _ _)
  ·exact .refl _
theorem dZ:∀ks,(gi ks).Perm ks
 |[]=>.refl _
 |k::ks=>(iU k (gi ks)).trans ((dZ ks).cons k)
abbrev tT (ks:List (List Int)):Prop:=ks.Pairwise λx y=>HT.lexLt y x=false
theorem le_trans' {a b c:List Int}(h1:lexLt b a=false)(h2:lexLt c b=false):lexLt c a=false:=by
 cases h:lexLt c a with
 |false=>rfl
 |true =>
  cases hb:lexLt a b with
  |true=>rw[jh h hb]at h2;cases h2
  |false =>
   have:=gD hb h1;subst this;rw[h]at h2;cases h2
theorem nc (k:List Int):∀xs,tT xs->tT (sU k xs)
 |[],_=>by simp[sU]
 |x::xs,h=>by
  obtain⟨h1,h2⟩:=Uw.mp h;unfold sU
  split
  ·rename_i hx
   refine Uw.mpr ⟨λy hy=>?_,nc k xs h2⟩;rcases Sr.mp ((iU k xs).mem_iff.mp hy)with rfl|hy
   ·exact k8 hx
   ·exact h1 y hy
  ·rename_i hx
   have yU:lexLt x k=false:=by cases q:lexLt x k <;> simp_all
   refine Uw.mpr ⟨λy hy=>?_,h⟩;rcases Sr.mp hy with rfl|hy
   ·exact yU
   ·exact le_trans' yU (h1 y hy)
theorem j5:∀ks,tT (gi ks)
 |[]=>.nil
 |k::ks=>nc k _ (j5 ks)
theorem i6:∀{a b:List (List Int)},a.Perm b->tT a->tT b->a=b
 |[],b,p,_,_=>by rw[List.nil_perm.mp p]
 |x::a,[],p,_,_=>by have:=p.length_eq;simp at this
 |x::a,y::b,p,ha,hb=>by
  obtain⟨a1,a2⟩:=Uw.mp ha;obtain⟨b1,b2⟩:=Uw.mp hb;have L1:x=y:=by
   rcases Sr.mp (p.mem_iff.mp (SY (a:=x) (l:=a)))with h|h
   ·exact h
   ·rcases Sr.mp (p.mem_iff.mpr (SY (a:=y) (l:=b)))with h' | h'
    ·exact h'.symm
    ·exact gD (b1 x h) (a1 y h')
  subst L1;rw[i6 (List.perm_cons x |>.mp p) a2 b2]
theorem xr {a b:List (List Int)}(p:a.Perm b)(h:tT a):a=gi b:=i6 (p.trans (dZ b).symm) h (j5 b)
def my:List (List Int)->List (List Int)
 |[]=>[]
 |k::ks=>if k∈my ks then my ks else k::my ks
theorem fO:∀l:List (List Int),(my l).Nodup/\∀x,x∈my l↔x∈l
 |[]=>⟨Tv,λ_=>Iff.rfl⟩
 |k::ks=>by
  obtain⟨h1,h2⟩:=fO ks;unfold my
  split
  ·rename_i h
   refine⟨h1,λx=>?_⟩;rw[h2 x,Sr];exact⟨.inr,λz=>z.elim (λe=>by rw[e];exact(h2 k).mp h) id⟩
  ·rename_i h
   refine⟨S4.mpr ⟨h,h1⟩,λx=>?_⟩;rw[Sr,Sr,h2 x]
theorem uQ:∀l:List (List Int),(my l).length<=l.length
 |[]=>Sj _
 |k::ks=>by
  have:=uQ ks;unfold my
  split
  ·exact Nat.le_succ_of_le this
  ·simpa using this
abbrev kD (k:List Int):D:=.tup (k.map D.int)
def dN:List D->Option (List (List Int))
 |[]=>some []
 |.tup a::ds=>match cZ a,dN ds with
  |some k,some ks=>if k=[] then none else some (k::ks)
  |_,_=>none
 |_::_=>none
theorem lb:∀{ds:List D} {ks:List (List Int)},dN ds=some ks->ds=ks.map kD/\∀k∈ks,k≠[]
 |[],_,h=>by cases h;exact⟨rfl,λ_ z=>nomatch z⟩
 |.tup a::ds,ks,h=>by
  have h':(match cZ a,dN ds with|some k,some ks=>if k=[] then none else some (k::ks)|_,_=>none)=some ks:=h
  cases ea:cZ a with
  |none=>rw[ea]at h';cases h'
  |some k =>
   cases eb:dN ds with
   |none=>rw[ea,eb]at h';cases h'
   |some kr =>
    rw[ea,eb]at h'
    by_cases hk:k=[]
    ·simp[hk]at h'
    ·simp only[hk,if_false,WV]at h';subst h';obtain⟨h1,h2⟩:=lb eb;rw[Ta,<- h1,ql ea];refine⟨rfl,λx hx=>?_⟩;rcases Sr.mp hx with rfl|hx
     ·exact hk
     ·exact h2 x hx
 |.bX::_,_,h=>by cases h
 |.bl _::_,_,h=>by cases h
 |.str _::_,_,h=>by cases h
 |.obj _::_,_,h=>by cases h
 |.int _::_,_,h=>by cases h
 |.lst _::_,_,h=>by cases h
 |.dT _ _::_,_,h=>by cases h
 |.dK _ _::_,_,h=>by cases h
 |.sT _::_,_,h=>by cases h
theorem iR:∀{ks:List (List Int)},(∀k∈ks,k≠[])->dN (ks.map kD)=some ks
 |[],_=>rfl
 |k::ks,h=>by
  show (match cZ (k.map D.int),dN (ks.map kD)with|some k,some ks=>if k=[] then none else some (k::ks)|_,_=>none)=_
  rw[m_,iR λx hx=>h x (S0 _ hx)];simp[h k (SY ..)]
section
variable {P:So}{w:SI}{W:Addr->Prop}{H:Hp}
theorem iQ:∀{ks:List (List Int)} {vs:List V},(∀k∈ks,k≠[])->ah P w W H (ks.map kD) vs->∃ts:List (Addr×List Int),vs=ts.map o8/\wB H ts/\ts.map (·.2)=ks
 |[],_,_,h=>⟨[],h,(λ_ z=>nomatch z),rfl⟩
 |k::ks,_,hk,⟨v,r,e,⟨a,us,e1,e2,e3⟩,h2⟩=>by
  obtain⟨ts,q1,q2,q3⟩:=iQ (λx hx=>hk x (S0 _ hx)) h2;refine⟨(a,k)::ts,by rw[e,e1,q1];rfl,λt ht=>?_,by rw[Ta,q3]⟩
  rcases Sr.mp ht with rfl|ht
  ·rw[cb e3]at e2;exact⟨e2,hk k (SY ..)⟩
  ·exact q2 t ht
theorem fW:∀{ts:List (Addr×List Int)},(∀t∈ts,H t.1=some (.tup (t.2.map V.int)))->ah P w W H ((ts.map (·.2)).map kD) (ts.map o8)
 |[],_=>rfl
 |t::ts,h=>⟨_,_,rfl,⟨t.1,_,rfl,h t (SY ..),m9 t.2⟩,fW λx hx=>h x (S0 _ hx)⟩
def oI:List D->Option D
 |[.lst ds]=>match dN ds with
  |some ks=>if ks.length<=1000000 then some (.lst ((gi ks).map kD)) else none
  |none=>none
 |[.sT ts]=>if ts.length<=1000/\(∀k∈ts,k≠[]) then some (.lst ((gi ts).map kD)) else none
 |_=>none
theorem yP:∀{ns:List Int} {its:List Sh},Vals (ns.map V.int) its->ItemsAre (intKind P w) ns its
 |[],_,.nil=>.nil
 |n::ns,_,.cons r t=>by
  obtain⟨tk,rfl⟩:=r;exact .cons (by show Xa n (.int n tk)=true;simp[Xa]) (yP t)
theorem DI {h:Heap}{ts:List (Addr×List Int)}(ok:gO P w H h)(T:∀t∈ts,H t.1=some (.tup (t.2.map V.int))):ST.Co P w h ts:=λt ht=>by
 obtain⟨_,its,r,o,ho,hc,n,hd⟩:=(show bV P w H h t.1 (.tup (t.2.map V.int)) from ok _ _ (T t ht))
 refine⟨o,its.toArray,n,ho,hc,hd,?_⟩;exact yP r
def C_:List D->Option D
 |[.lst ds]=>match dN ds with
  |some ks=>if ks.length<1000 then some (.sT (my ks)) else none
  |none=>none
 |_=>none
end
section
end
theorem wq {X:Cx} (hc:X.calm=true) (hu:X.A.units+16<Vx):cB X (.type "set") C_:=by
 intro pins s σ H xs us Q I r h;obtain⟨W,ds,d,hd,r1,e,q⟩:=h
 match ds,e with
 |[.lst es],e =>
  have e':(match dN es with|some ks=>if ks.length<1000 then some (D.sT (my ks)) else none|none=>none)=some d:=e
  cases ek:dN es with
  |none=>rw[ek]at e';cases e'
  |some ks =>
   rw[ek]at e';obtain⟨hl,rfl⟩:=eT e';obtain⟨rfl,hk⟩:=lb ek;obtain⟨x,rfl,p,vs,rfl,hp,n1,q1⟩:=ik r1;obtain⟨ts,rfl,T,rfl⟩:=iQ hk q1;obtain⟨u,rfl,rx⟩:=vals1 r;cases rx;obtain⟨its,r',pl,hz⟩:=I.list (cE.of hp);obtain rfl:=iw r';refine ST.wm (w:=X.w) (I.ok.hd hc) hu pl.isList (by simpa using hl) (DI I.bG λt ht=>(T t ht).1) λh' tk o' cQ es ep t kp ho S m1 m2=>?_
   have Fg:H s.heap.objs.size=none:=I.bG.fresh (Sj _);have nd:=fO (ts.map (·.2));refine⟨.ref s.heap.objs.size,_,I.laid (t':=tk) (o:=Cq X.prog X.w s.heap.objs.size cQ) kp (Sj _) ?_,rfl,q _ _ (au.new Fg) ⟨_,rfl,⟨cQ,ar,λx hx=>?_,?_⟩,uC hd Fg⟩⟩
   ·refine⟨⟨o',es,ep,t,ho,S⟩,⟨o',ho⟩,λh1 h2 za k=>by obtain⟨o1,e1,Q3,t1,g1,g2⟩:=za;exact⟨o1,e1,Q3,t1,k _ g1,g2⟩⟩
   ·exact(au.new Fg) _ _ (T x (m1 x hx)).1
   ·refine(List.perm_ext_iff_of_nodup S.LC nd.1).mpr λk=>?_;rw[nd.2 k,Tj,Tj];constructor
    ·rintro⟨x,hx,rfl⟩;exact⟨x,m1 x hx,rfl⟩
    ·rintro⟨x,hx,rfl⟩;obtain⟨y,hy,e⟩:=m2 x hx;exact⟨y,hy,e⟩
def fe (ns:List Int):Prop:=∃x y:Int,ns=[x,y]/\0<=x/\0<=y/\y<2147483647
theorem Hand.ok {H:Hp}{h:Addr}(d:Hand H h):∃ns,H h=some (.lst (ns.map V.int))/\fe ns:=by
 obtain⟨x,y,e,h1,h2,h3⟩:=d;exact⟨[x,y],e,x,y,rfl,h1,h2,h3⟩
theorem fe.hand {H:Hp}{h:Addr}{ns:List Int}(e:H h=some (.lst (ns.map V.int)))(o:fe ns):Hand H h:=by
 obtain⟨x,y,rfl,h1,h2,h3⟩:=o;exact⟨x,y,e,h1,h2,h3⟩
def bu:FD:=λds R=>∃n:Int,ds=[.int n]/\0<n/\n<2 ^ 200/\∀r:Int,0<=r->r<n->R (.int r)
theorem bu.mono:du bu:=λds R R' k ⟨n,e,h1,h2,q⟩=>⟨n,e,h1,h2,λr a b=>k _ (q r a b)⟩
section
end
section
variable {X:Cx}{W:Addr->Prop}{H:Hp}
theorem vH {p:Addr}{vs:List V}{ds:List D}(n:H p=none)(f:NL (.lst ds))(r:ir X W H ds vs):Rp X (λa=>H a≠none) (upd H p (.lst vs)) (.lst ds) (.ref p) :=
 ⟨p,vs,rfl,ar,λz=>z n,ah.flat f (r.same (au.new n))⟩
def Lb (X:Cx)(f:D->D->Option D):R2:=λx y H Q=>∃W d1 d2 d,Dm W H/\Rp X W H d1 x/\Rp X W H d2 y/\f d1 d2=some d/\∀v H',au H H'->Rp X W H' d v->(NL d->Rp X (λa=>H a≠none) H' d v)->Q v H'
def La (X:Cx)(f:List D->Option D):List V->Hp->VK->Prop:=λxs H Q=>∃W ds d,Dm W H/\ir X W H ds xs/\f ds=some d/\∀v H',au H H'->Rp X W H' d v->(NL d->Rp X (λa=>H a≠none) H' d v)->Q v H'
def GZ (X:Cx)(f:D->Option Int->Option Int->Option D):V->Option Int->Option Int->Hp->VK->Prop:=λx lo hi H Q=>∃W d1 d,Dm W H/\Rp X W H d1 x/\f d1 lo hi=some d/\∀v H',au H H'->Rp X W H' d v->(NL d->Rp X (λa=>H a≠none) H' d v)->Q v H'
abbrev NA (X:Cx)(f:Sh->Sh->Sem Sh)(g:D->D->Option D):Prop:=ip X f (Lb X g)
abbrev t6 (X:Cx)(f:Sh)(g:List D->Option D):Prop:=fQ X f (La X g)
theorem aA:NA X (UJ .Add) zK:=by
 intro pins s σ H x y v u Q I rx ry h;obtain⟨W,d1,d2,d,hd,r1,r2,e,q⟩:=h;rcases vN e with⟨a,b,rfl,rfl,e⟩|e
 ·obtain⟨hl,rfl⟩:=eT e;obtain⟨p,vs,rfl,h1,n1,q1⟩:=r1;obtain⟨p',vs',rfl,h2,n2,q2⟩:=r2;exact yo pins s σ H _ _ v u Q I rx ry ⟨p,p',vs,vs',rfl,rfl,h1,h2,by rw[q1.length,q2.length];exact hl,λl sY=>q _ _ (au.new sY) (Rp.iP hd sY (q1.append q2)) λf=>vH sY f (q1.append q2)⟩
 ·obtain⟨i,j,rfl,rfl,e⟩:=iT e;cases e;cases r1;cases r2;exact sD pins s σ H _ _ v u Q I rx ry ⟨i,j,rfl,rfl,q _ _ (au.refl _) rfl λ_=>rfl⟩
theorem Ay:Nv X (GZ X Kt):=by
 intro pins s σ H x v vl vu lo hi sl Q I rx hs pl pu h;obtain⟨W,d1,d,hd,r1,e,q⟩:=h;cases d1 with
 |lst ds =>
  cases e;obtain⟨p,vs,rfl,h1,n1,q1⟩:=r1;have rr:ir X W H (cutD ds lo hi) (qT vs lo hi):=by
   unfold qT cutD;rw[q1.length];exact(ah.drop _ q1).take _
  exact uf pins s σ H _ v vl vu lo hi sl Q I rx hs pl pu ⟨p,vs,rfl,cE.of h1,λl hl=>q _ _ (au.new hl) (Rp.iP hd hl rr) λf=>vH hl f rr⟩
 |_=>cases e
theorem qW:t6 X (.type "list") dList:=by
 intro pins s σ H xs us Q I r h;obtain⟨W,ds,d,hd,r1,e,q⟩:=h
 match ds,e with
 |[.lst es],e =>
  cases e;obtain⟨v,r',rfl,⟨p,vs,rfl,h1,n1,q1⟩,hr⟩:=r1;cases hr;exact ic pins s σ H _ us Q I r ⟨p,vs,rfl,.inl (cE.of h1),λl hl=>q _ _ (au.new hl) (Rp.iP hd hl q1) λf=>vH hl f q1⟩
 |[.tup es],e =>
  cases e;obtain⟨v,r',rfl,⟨p,vs,rfl,h1,q1⟩,hr⟩:=r1;cases hr;exact ic pins s σ H _ us Q I r ⟨p,vs,rfl,.inr (tU.of h1),λl hl=>q _ _ (au.new hl) (Rp.iP hd hl q1) λf=>vH hl f q1⟩
theorem oM:t6 X (.builtin "sorted") (λds=>match ds with | [.lst ds]=>oI [.lst ds]|_=>none):=by
 intro pins s σ H xs us Q I r h;obtain⟨W,ds,d,hd,r1,e,q⟩:=h
 match ds,e with
 |[.lst es],e =>
  have e':(match dN es with|some ks=>if ks.length<=1000000 then some (D.lst ((gi ks).map kD)) else none|none=>none)=some d:=e
  cases ek:dN es with
  |none=>rw[ek]at e';cases e'
  |some ks =>
   rw[ek]at e';obtain⟨hl,rfl⟩:=eT e';obtain⟨rfl,hk⟩:=lb ek;obtain⟨x,rfl,p,vs,rfl,hp,n1,q1⟩:=ik r1;obtain⟨ts,rfl,T,rfl⟩:=iQ hk q1;refine oJ pins s σ H _ us Q I r ⟨p,ts,rfl,cE.of hp,T,by simpa using hl,λl cQ sY Ov Qq=>?_⟩
   have eq:cQ.map (·.2)=gi (ts.map (·.2)):=xr (Ov.map _) (UM.mpr Qq);rw[<- eq]at q;have rk:=fW (P:=X.prog) (w:=X.w) (W:=W) (H:=H) (ts:=cQ) λt ht=>(T t (Ov.mem_iff.mp ht)).1;exact q _ _ (au.new sY) (Rp.iP hd sY rk) λf=>vH sY f rk
theorem oK (hc:X.calm=true):t6 X (.builtin "sorted") (λds=>match ds with | [.sT ts]=>oI [.sT ts]|_=>none):=by
 intro pins s σ H xs us Q I r h;obtain⟨W,ds,d,hd,r1,e,q⟩:=h
 match ds,e with
 |[.sT ks],e =>
  obtain⟨⟨hl,hk⟩,rfl⟩:=eT (show (if ks.length<=1000/\(∀k∈ks,k≠[]) then some (D.lst ((gi ks).map kD)) else none)=some d from e)
  obtain⟨x,rfl,p,rfl,⟨ts,hp,T,pm⟩,nW⟩:=ik r1;obtain⟨u,rfl,rx⟩:=vals1 r;cases rx;obtain⟨⟨o,es,ep,t,ho,S⟩,_,_⟩:=(show bV X.prog X.w H s.heap p (Cq X.prog X.w p ts) from I.bG p _ hp)
  have tl:ts.length=ks.length:=by rw[<- pm.length_eq,Sg]
  have T':wB H ts:=λt ht=>⟨T t ht,hk _ (pm.mem_iff.mp (Tj.mpr ⟨t,ht,rfl⟩))⟩;obtain⟨us,yV,col⟩:=ST.oW (s:=s) ho S (by omega)
  have T2:wB H us:=λt ht=>T' t (yV.mem_iff.mp ht);refine TS.rQ (vs:=us.map λx=>Value.ref x.1) (kf:=sN H) (by rw[Sg,yV.length_eq];omega) (λR hR=>col _ _ R (by simp[I.ok.hd hc]) λh' tk kp=>hR h' tk kp) (t_ I.bG T2 (Sj _)) λout h1 h' tk n wL hs k1 kp BN=>?_
  ·obtain⟨e1,e2⟩:=mU T2 wL;have zl:out.length=us.length:=by rw[wL.length_eq,Sg]
   have eq:(out.map (C4 H)).map (·.2)=gi ks:=by
    refine xr ((e2.trans yV).map _ |>.trans pm) ?_
    refine UM.mpr (UM.mpr ?_);refine hs.imp_of_mem λ{x y} hx hy hh=>?_;obtain⟨t,ht,rfl⟩:=Tj.mp (wL.mem_iff.mp hx);obtain⟨t',Ql,rfl⟩:=Tj.mp (wL.mem_iff.mp hy);exact hh
   have I1:Inv X pins σ H {s with heap:=h1,toks:=s.toks}:=I.kept k1
   have Fg:H h1.objs.size=none:=I1.bG.fresh (Sj _);refine⟨.ref h1.objs.size,_,I1.laid (t':=tk) (o:=.lst ((out.map (C4 H)).map o8)) kp (Sj _) ?_,rfl,q _ _ (au.new Fg) ?_ ?_⟩
   ·refine⟨by rw[Sg,Sg,zl,yV.length_eq,TH];omega,out,n,?_,BN⟩
    have:=iG (out.map (C4 H));rw[<- e1]at this;exact this
   ·rw[<- eq];exact Rp.iP hd Fg (fW λt ht=>(T2 t (e2.mem_iff.mp ht)).1)
   ·rw[<- eq];exact λf=>vH (W:=W) Fg f (fW λt ht=>(T2 t (e2.mem_iff.mp ht)).1)
end
section
end
end L2
namespace L2.Q
open PySem PySem.Spec PySem.SeqAt PyProof.Rows
section
variable (P:So)(w:SI)(H:Hp)
mutual
def Own:D->V->List Addr->Prop
 |.tup ds,v,A=>∃a vs,v=.ref a/\H a=some (.tup vs)/\aG ds vs A
 |.lst ds,v,A=>∃a vs A',v=.ref a/\H a=some (.lst vs)/\A=a::A'/\aG ds vs A'
 |.dT ks ds,v,A=>∃a vs A',v=.ref a/\H a=some (.dT (ks.zip vs))/\ks.length=vs.length/\A=a::A'/\aG ds vs A'
 |.dK ks ds,v,A=>∃a vs A',v=.ref a/\H a=some (.dK (ks.zip vs))/\ks.length=vs.length/\A=a::A'/\aG ds vs A'
 |.sT ts,v,A=>∃a,v=.ref a/\Cp P w H a ts/\A=[a]
 |.bX,v,A=>v=.bX/\A=[]
 |.bl b,v,A=>v=.bl b/\A=[]
 |.int i,v,A=>v=.int i/\A=[]
 |.str x,v,A=>v=.str x/\A=[]
 |.obj a,v,A=>v=.ref a/\A=[]
def aG:List D->List V->List Addr->Prop
 |[],vs,A=>vs=[]/\A=[]
 |d::ds,vs,A=>∃v r A1 A2,vs=v::r/\A=A1++A2/\Own d v A1/\aG ds r A2
end
end
section
variable {P:So}{w:SI}{W:Addr->Prop}{H H':Hp}
theorem vh {a:Addr}{ts:List (List Int)}(k:∀b xs,H b=some (.tup xs)->H' b=some (.tup xs))(ha:∀o,H a=some o->H' a=some o)(h:Cp P w H a ts):Cp P w H' a ts :=
 let ⟨cQ,e,r,z⟩:=h;⟨cQ,ha _ e,λx hx=>k _ _ (r x hx),z⟩
mutual
theorem Own.keep (k:∀b xs,H b=some (.tup xs)->H' b=some (.tup xs)):∀{d:D} {v:V} {A:List Addr},(∀c∈A,∀o,H c=some o->H' c=some o)->Own P w H d v A->Own P w H' d v A
 |.tup ds,_,_,ha,⟨a,vs,e,t,r⟩=>⟨a,vs,e,k a vs t,aG.keep k ha r⟩
 |.lst ds,_,_,ha,⟨a,vs,A',e,t,eA,r⟩=>⟨a,vs,A',e,ha a (by rw[eA];simp) _ t,eA,aG.keep k (λc hc=>ha c (by rw[eA];simp[hc])) r⟩
 |.dT ks ds,_,_,ha,⟨a,vs,A',e,t,l,eA,r⟩=>⟨a,vs,A',e,ha a (by rw[eA];simp) _ t,l,eA,aG.keep k (λc hc=>ha c (by rw[eA];simp[hc])) r⟩
 |.dK ks ds,_,_,ha,⟨a,vs,A',e,t,l,eA,r⟩=>⟨a,vs,A',e,ha a (by rw[eA];simp) _ t,l,eA,aG.keep k (λc hc=>ha c (by rw[eA];simp[hc])) r⟩
 |.sT ts,_,_,ha,⟨a,e,r,eA⟩=>⟨a,e,vh k (λo ho=>ha a (by rw[eA];simp) o ho) r,eA⟩
 |.bX,_,_,_,h=>h
 |.bl _,_,_,_,h=>h
 |.int _,_,_,_,h=>h
 |.str _,_,_,_,h=>h
 |.obj _,_,_,_,h=>h
theorem aG.keep (k:∀b xs,H b=some (.tup xs)->H' b=some (.tup xs)):∀{ds:List D} {vs:List V} {A:List Addr},(∀c∈A,∀o,H c=some o->H' c=some o)->aG P w H ds vs A->aG P w H' ds vs A
 |[],_,_,_,h=>h
 |d::ds,_,_,ha,⟨v,r,A1,A2,e,eA,h1,h2⟩=>⟨v,r,A1,A2,e,eA,Own.keep k (λc hc=>ha c (by rw[eA];simp[hc])) h1,aG.keep k (λc hc=>ha c (by rw[eA];simp[hc])) h2⟩
end
mutual
theorem Own.rep:∀{d:D} {v:V} {A:List Addr},(∀c∈A,¬ W c)->Own P w H d v A->ay P w W H d v
 |.tup ds,_,_,ha,⟨a,vs,e,t,r⟩=>⟨a,vs,e,t,aG.rep ha r⟩
 |.lst ds,_,_,ha,⟨a,vs,A',e,t,eA,r⟩=>⟨a,vs,e,t,ha a (by rw[eA];simp),aG.rep (λc hc=>ha c (by rw[eA];simp[hc])) r⟩
 |.dT ks ds,_,_,ha,⟨a,vs,A',e,t,l,eA,r⟩=>⟨a,vs,e,t,l,ha a (by rw[eA];simp),aG.rep (λc hc=>ha c (by rw[eA];simp[hc])) r⟩
 |.dK ks ds,_,_,ha,⟨a,vs,A',e,t,l,eA,r⟩=>⟨a,vs,e,t,l,ha a (by rw[eA];simp),aG.rep (λc hc=>ha c (by rw[eA];simp[hc])) r⟩
 |.sT ts,_,_,ha,⟨a,e,r,eA⟩=>⟨a,e,r,ha a (by rw[eA];simp)⟩
 |.bX,_,_,_,h=>h.1
 |.bl _,_,_,_,h=>h.1
 |.int _,_,_,_,h=>h.1
 |.str _,_,_,_,h=>h.1
 |.obj _,_,_,_,h=>h.1
theorem aG.rep:∀{ds:List D} {vs:List V} {A:List Addr},(∀c∈A,¬ W c)->aG P w H ds vs A->ah P w W H ds vs
 |[],_,_,_,h=>h.1
 |d::ds,_,_,ha,⟨v,r,A1,A2,e,eA,h1,h2⟩=>⟨v,r,e,Own.rep (λc hc=>ha c (by rw[eA];simp[hc])) h1,aG.rep (λc hc=>ha c (by rw[eA];simp[hc])) h2⟩
end
mutual
theorem Own.lY:∀{d:D} {v:V} {A:List Addr},Own P w H d v A->∀c∈A,H c≠none/\∀xs,H c≠some (.tup xs)
 |.tup ds,_,_,⟨a,vs,e,t,r⟩,c,hc=>aG.lY r c hc
 |.lst ds,_,_,⟨a,vs,A',e,t,eA,r⟩,c,hc=>by
  rw[eA]at hc;rcases Sr.mp hc with rfl|hc
  ·rw[t];exact⟨λz=>(nomatch z),λxs z=>by cases z⟩
  ·exact aG.lY r c hc
 |.dT ks ds,_,_,⟨a,vs,A',e,t,l,eA,r⟩,c,hc=>by
  rw[eA]at hc;rcases Sr.mp hc with rfl|hc
  ·rw[t];exact⟨λz=>(nomatch z),λxs z=>by cases z⟩
  ·exact aG.lY r c hc
 |.dK ks ds,_,_,⟨a,vs,A',e,t,l,eA,r⟩,c,hc=>by
  rw[eA]at hc;rcases Sr.mp hc with rfl|hc
  ·rw[t];exact⟨λz=>(nomatch z),λxs z=>by cases z⟩
  ·exact aG.lY r c hc
 |.sT ts,_,_,⟨a,e,⟨cQ,t,r,z⟩,eA⟩,c,hc=>by
  rw[eA]at hc;rw[SF.mp hc,t];exact⟨λz=>(nomatch z),λxs z=>by cases z⟩
 |.bX,_,_,h,c,hc=>by rw[h.2]at hc;cases hc
 |.bl _,_,_,h,c,hc=>by rw[h.2]at hc;cases hc
 |.int _,_,_,h,c,hc=>by rw[h.2]at hc;cases hc
 |.str _,_,_,h,c,hc=>by rw[h.2]at hc;cases hc
 |.obj _,_,_,h,c,hc=>by rw[h.2]at hc;cases hc
theorem aG.lY:∀{ds:List D} {vs:List V} {A:List Addr},aG P w H ds vs A->∀c∈A,H c≠none/\∀xs,H c≠some (.tup xs)
 |[],_,_,h,c,hc=>by rw[h.2]at hc;cases hc
 |d::ds,_,_,⟨v,r,A1,A2,e,eA,h1,h2⟩,c,hc=>by
  rw[eA]at hc;rcases SO.mp hc with hc|hc
  ·exact Own.lY h1 c hc
  ·exact aG.lY h2 c hc
end
mutual
theorem dj:∀{d:D} {v:V},d.flat=true->ay P w W H d v->Own P w H d v []
 |.tup ds,_,f,⟨a,vs,e,t,r⟩=>⟨a,vs,e,t,fY (by simpa[D.flat] using f) r⟩
 |.lst ds,_,f,_=>by simp[D.flat]at f
 |.dT ks ds,_,f,_=>by simp[D.flat]at f
 |.dK ks ds,_,f,_=>by simp[D.flat]at f
 |.sT ts,_,f,_=>by simp[D.flat]at f
 |.bX,_,_,h=>⟨h,rfl⟩
 |.bl _,_,_,h=>⟨h,rfl⟩
 |.int _,_,_,h=>⟨h,rfl⟩
 |.str _,_,_,h=>⟨h,rfl⟩
 |.obj _,_,_,h=>⟨h,rfl⟩
theorem fY:∀{ds:List D} {vs:List V},D.cw ds=true->ah P w W H ds vs->aG P w H ds vs []
 |[],_,_,h=>⟨h,rfl⟩
 |d::ds,_,f,⟨v,r,e,h1,h2⟩=>by
  have f':(d.flat&&D.cw ds)=true:=f;rw[Tu]at f';exact⟨v,r,[],[],e,rfl,dj f'.1 h1,fY f'.2 h2⟩
end
theorem aG.length:∀{ds:List D} {vs:List V} {A:List Addr},aG P w H ds vs A->vs.length=ds.length
 |[],_,_,h=>by rw[h.1];rfl
 |d::ds,_,_,⟨v,r,A1,A2,e,eA,h1,h2⟩=>by rw[e,SM,SM,aG.length h2]
theorem aG.append:∀{ds ds':List D} {vs vs':List V} {A A':List Addr},aG P w H ds vs A->aG P w H ds' vs' A'->aG P w H (ds++ds') (vs++vs') (A++A')
 |[],_,_,_,_,_,h,h'=>by rw[h.1,h.2];exact h'
 |d::ds,_,_,_,_,_,⟨v,r,A1,A2,e,eA,h1,h2⟩,h'=>by
  subst e eA;exact⟨v,_,A1,_,rfl,by rw[TM],h1,aG.append h2 h'⟩
theorem aG.one {d:D}{v:V}{A:List Addr}(h:Own P w H d v A):aG P w H [d] [v] A:=⟨v,[],A,[],rfl,by simp,h,rfl,rfl⟩
theorem aG.split:∀{ds:List D} {vs:List V} {A:List Addr} {i:Nat} {d:D},aG P w H ds vs A->ds[i]?=some d->∃v A1 A2 A3,vs[i]?=some v/\A=A1++(A2++A3)/\aG P w H (ds.take i) (vs.take i) A1/\Own P w H d v A2/\aG P w H (ds.drop (i+1)) (vs.drop (i+1)) A3
 |[],_,_,_,_,_,e=>by simp at e
 |d::ds,_,_,0,_,⟨v,r,A1,A2,e,eA,h1,h2⟩,e'=>by
  simp at e';subst e' e eA;exact⟨v,[],A1,A2,by simp,by simp,⟨rfl,rfl⟩,h1,by simpa using h2⟩
 |d::ds,_,_,i+1,_,⟨v,r,A1,A2,e,eA,h1,h2⟩,e'=>by
  subst e eA;obtain⟨u,B1,B2,B3,g1,g2,g3,g4,g5⟩:=aG.split (i:=i) h2 (by simpa using e')
  exact⟨u,A1++B1,B2,B3,by simpa using g1,by rw[g2];simp[TM],by simpa using ⟨v,_,A1,B1,rfl,rfl,h1,g3⟩,g4,by simpa using g5⟩
end
inductive Kd where
 |own|eh|old|bor
inductive B where
 |val (y:Bool) (d:D)|own (d:D)|hand (ok:List Int->Prop)|shl (y:Bool) (d:D)
abbrev a7:=List (Option B)
structure Cfg where
 H0:Hp
 IO:Addr->Prop
 /-- is the result to be He own -/
 ro:Bool
 /-- what else LH data keeps off -/
 U:Addr->Prop:=λ_=>False
abbrev Wn (own:Nat->List Addr):Addr->Prop:=λa=>∃i,a∈own i
def av (C:Cfg)(W:Addr->Prop):Kd->Addr->Prop
 |.own,a=>W a\/C.H0 a≠none
 |.eh,a=>W a\/C.H0 a≠none
 |.old,a=>W a
 |.bor,_=>False
def f_ (C:Cfg)(W:Addr->Prop)(k:Kd)(a:Addr):Prop:=av C W k a\/C.U a
abbrev yk (y:Bool):Kd:=match y with|true=>.eh|false=>.old
def Pu:D->HO->List V->Prop
 |.lst _,o,vs=>o=.lst vs
 |.dT ks _,o,vs=>o=.dT (ks.zip vs)/\ks.length=vs.length
 |.dK ks _,o,vs=>o=.dK (ks.zip vs)/\ks.length=vs.length
 |_,_,_=>False
def Pw:D->List D
 |.lst ds=>ds
 |.dT _ ds=>ds
 |.dK _ ds=>ds
 |_=>[]
def Gh (P:So)(w:SI)(W:Addr->Prop)(H:Hp)(d:D)(v:V)(A:List Addr):Prop:=∃a o vs,v=.ref a/\A=[a]/\H a=some o/\Pu d o vs/\ah P w W H (Pw d) vs
theorem Gh.map {P:So}{w:SI}{W W':Addr->Prop}{H H':Hp}{d:D}{v:V}{A:List Addr}(h:Gh P w W H d v A)(ha:∀c∈A,∀o,H c=some o->H' c=some o)(hr:∀ds vs,ah P w W H ds vs->ah P w W' H' ds vs):Gh P w W' H' d v A :=
 let ⟨a,o,vs,e1,e2,e3,e4,r⟩:=h;⟨a,o,vs,e1,e2,ha a (by rw[e2];simp) o e3,e4,hr _ _ r⟩
theorem Gh.rep {P:So}{w:SI}{W W':Addr->Prop}{H:Hp}{d:D}{v:V}{A:List Addr}(h:Gh P w W H d v A)(ha:∀c∈A,¬ W' c)(hs:∀ds vs,ah P w W H ds vs->ah P w W' H ds vs):ay P w W' H d v:=by
 obtain⟨a,o,vs,rfl,rfl,e,sh,r⟩:=h;have na:=ha a (by simp)
 replace r:=hs _ _ r;cases d with
 |lst ds=>cases sh;exact⟨a,vs,rfl,e,na,r⟩
 |dT ks ds=>obtain⟨rfl,l⟩:=sh;exact⟨a,vs,rfl,e,l,na,r⟩
 |dK ks ds=>obtain⟨rfl,l⟩:=sh;exact⟨a,vs,rfl,e,l,na,r⟩
 |_=>exact sh.elim
structure bS (P:So)(w:SI)(C:Cfg)(σ:St)(H:Hp)(β:a7)(own:Nat->List Addr):Prop where
 len:β.length=σ.length
 val:∀(i:Nat) (y:Bool) (d:D),β[i]?=some (some (.val y d))->∃v,σ[i]?=some (some v)/\ay P w (f_ C (Wn own) (yk y)) H d v
 ow:∀(i:Nat) (d:D),β[i]?=some (some (.own d))->∃v,σ[i]?=some (some v)/\Own P w H d v (own i)/\∀c∈own i,C.H0 c=none
 mf:∀(i:Nat) (ok:List Int->Prop),β[i]?=some (some (.hand ok))->∃a ns,σ[i]?=some (some (.ref a))/\H a=some (.lst (ns.map V.int))/\ok ns/\own i=[a]/\((∀b,¬ C.IO b)\/C.IO a)
 dm:∀(i:Nat) (a:Addr),a∈own i->H a≠none/\(∀xs,H a≠some (.tup xs))/\(C.H0 a=none\/C.IO a)/\¬ C.U a
 lK:∀(i j:Nat) (a:Addr),a∈own i->a∈own j->i=j
 l_:∀i,(own i).Nodup
 kp:Kp C.IO C.H0 H
 gK:∀a,C.H0 a≠none->H a≠none
 shl:∀(i:Nat) (y:Bool) (d:D),β[i]?=some (some (.shl y d))->∃v,σ[i]?=some (some v)/\Gh P w (f_ C (Wn own) (yk y)) H d v (own i)/\∀c∈own i,C.H0 c=none
abbrev SQ (X:Cx):=bS X.prog X.w
section
variable {P:So}{w:SI}{C:Cfg}{σ:St}{H H':Hp}{β:a7}{own:Nat->List Addr}{W W':Addr->Prop}
theorem bS.wN (b:bS P w C σ H β own):Dm (Wn own) H:=λa ⟨i,h⟩=>(b.dm i a h).1
theorem bS.zF (b:bS P w C σ H β own)(k:Kd):Dm (av C (Wn own) k) H:=λa h=>by
 cases k with
 |own=>exact h.elim (b.wN a) (b.gK a)
 |eh=>exact h.elim (b.wN a) (b.gK a)
 |old=>exact b.wN a h
 |bor=>exact h.elim
theorem jN (s:∀a,W' a->W a)(k:Kd):∀a,av C W' k a->av C W k a:=λa h=>by
 cases k with
 |own=>exact h.imp (s a) id
 |eh=>exact h.imp (s a) id
 |old=>exact s a h
 |bor=>exact h
theorem ij (s:∀a,W' a->W a)(k:Kd):∀a,f_ C W' k a->f_ C W k a:=λa h=>h.imp (jN s k a) id
theorem bS.keep (b:bS P w C σ H β own)(k:Kp (λa=>H a=none) H H')(kp:Kp C.IO H H')(dn:∀a,H a≠none->H' a≠none):bS P w C σ H' β own:=by
 have ko:∀c o,H c=some o->H' c=some o:=λc o e=>k.out c o e (by rw[e];exact λz=>(nomatch z))
 have same:au H H':=ko;exact⟨b.len,λi y d e=>let ⟨v,h1,h2⟩:=b.val i y d e;⟨v,h1,h2.same same⟩,λi d e=>let ⟨v,h1,h2,h3⟩:=b.ow i d e;⟨v,h1,h2.keep (λ_ _ e=>same _ _ e) (λc _ o e=>same c o e),h3⟩,
  λi ok e=>let ⟨a,ns,h1,h2,h3⟩:=b.mf i ok e;⟨a,ns,h1,same _ _ h2,h3⟩,λi a h=>by
   obtain⟨h1,h2,h3⟩:=b.dm i a h;cases q:H a with
   |none=>exact absurd q h1
   |some o=>rw[same a o q];exact⟨λz=>(nomatch z),λxs z=>h2 xs (by rw[q];exact z),h3⟩,b.lK,b.l_,b.kp.trans kp,λa z=>dn a (b.gK a z),λi y d e=>let ⟨v,h1,h2,h3⟩:=b.shl i y d e;⟨v,h1,h2.map (λc _ o e=>same c o e) (λ_ _ r=>r.same same),h3⟩⟩
theorem bS.same (b:bS P w C σ H β own)(s:au H H'):bS P w C σ H' β own:=b.keep s.kp s.kp λa z e=>z (s.free e)
theorem eC {own:Nat->List Addr}{i:Nat}{a:Addr}(h:Wn (aP own i []) a):Wn own a:=let ⟨j,q⟩:=h;⟨j,(bL q).1⟩
theorem bq {own:Nat->List Addr}{i j:Nat}{A:List Addr}(h:i≠j):aP own i A j=own j:=by unfold aP;rw[if_neg (T5 h)]
theorem os_eq {own:Nat->List Addr}{i:Nat}{A:List Addr}:aP own i A i=A:=by unfold aP;rw[if_pos rfl]
theorem bS.fD {i:Nat}{d:D}{v:V}{y:Bool}(b:bS P w C σ H β own)(r:ay P w (f_ C (Wn own) (yk y)) H d v):bS P w C (σ.set i (some v)) H (β.set i (some (.val y d))) (aP own i []):=by
 have sub:∀y a,f_ C (Wn (aP own i [])) (yk y) a->f_ C (Wn own) (yk y) a:=λy=>ij (λa h=>eC h) _;refine⟨by simp[b.len],λj y' d' e=>?_,λj d' e=>?_,λj ok e=>?_,λj a h=>b.dm j a (bL h).1,λj k a h1 h2=>b.lK j k a (bL h1).1 (bL h2).1,λj=>?_,b.kp,b.gK,λj y' d' e=>?_⟩
 ·by_cases aJ:i=j
  ·subst aJ;obtain⟨e',hl⟩:=bj e;cases e';exact⟨v,get_set (by rw[<- b.len];exact hl),r.aU (sub _)⟩
  ·rw[bc aJ]at e ⊢
   obtain⟨u,h1,h2⟩:=b.val j y' d' e;exact⟨u,h1,h2.aU (sub _)⟩
 ·by_cases aJ:i=j
  ·subst aJ;obtain⟨e',hl⟩:=bj e;cases e'
  ·rw[bc aJ]at e ⊢
   rw[bq aJ];exact b.ow j d' e
 ·by_cases aJ:i=j
  ·subst aJ;obtain⟨e',hl⟩:=bj e;cases e'
  ·rw[bc aJ]at e ⊢
   rw[bq aJ];exact b.mf j ok e
 ·by_cases aJ:i=j
  ·rw[aJ,os_eq];exact Tv
  ·rw[bq aJ];exact b.l_ j
 ·by_cases aJ:i=j
  ·subst aJ;obtain⟨e',hl⟩:=bj e;cases e'
  ·rw[bc aJ]at e ⊢
   rw[bq aJ];obtain⟨u,h1,h2,h3⟩:=b.shl j y' d' e;exact⟨u,h1,h2.map (λ_ _ _ z=>z) (λ_ _ r=>ah.aU (sub _) r),h3⟩
theorem bS.xG {i:Nat}{d:D}{v:V}{A:List Addr}(b:bS P w C σ H β own)(r:Own P w H d v A)(nd:A.Nodup)(nw:∀c∈A,C.H0 c=none/\¬ Wn own c/\C.U c):
  bS P w {C with U:=λ_=>False} (σ.set i (some v)) H (β.set i (some (.own d))) (aP own i A):=by
 have sub:∀y a,f_ {C with U:=λ_=>False} (Wn (aP own i A)) (yk y) a->f_ C (Wn own) (yk y) a:=λy a h=>by
  have q:∀a,Wn (aP own i A) a->Wn own a\/a∈A:=λa BL=>by
   obtain⟨j,q⟩:=BL
   by_cases aJ:i=j
   ·rw[aJ,os_eq]at q;exact .inr q
   ·rw[bq aJ]at q;exact .inl ⟨j,q⟩
  have q':∀a,Wn (aP own i A) a->Wn own a\/C.U a:=λa z=>(q a z).imp id λz=>(nw a z).2.2;rcases h with h|h
  ·cases y with
   |true=>exact h.elim (λz=>(q' a z).imp .inl id) λz=>.inl (.inr z)
   |false=>exact q' a h
  ·exact h.elim
 have mem:∀{j c},c∈aP own i A j->(i=j/\c∈A)\/(i≠j/\c∈own j):=λ{j c} h=>by
  by_cases aJ:i=j
  ·subst aJ;rw[os_eq]at h;exact .inl ⟨rfl,h⟩
  ·rw[bq aJ]at h;exact .inr ⟨aJ,h⟩
 refine⟨by simp[b.len],λj y' d' e=>?_,λj d' e=>?_,λj ok e=>?_,λj a h=>?_,λj k a h1 h2=>?_,λj=>?_,b.kp,b.gK,λj y' d' e=>?_⟩
 ·by_cases aJ:i=j
  ·subst aJ;obtain⟨e',hl⟩:=bj e;cases e'
  ·rw[bc aJ]at e ⊢
   obtain⟨u,h1,h2⟩:=b.val j y' d' e;exact⟨u,h1,h2.aU (sub _)⟩
 ·by_cases aJ:i=j
  ·subst aJ;obtain⟨e',hl⟩:=bj e;cases e';rw[os_eq];exact⟨v,get_set (by rw[<- b.len];exact hl),r,λc hc=>(nw c hc).1⟩
  ·rw[bc aJ]at e ⊢
   rw[bq aJ];exact b.ow j d' e
 ·by_cases aJ:i=j
  ·subst aJ;obtain⟨e',hl⟩:=bj e;cases e'
  ·rw[bc aJ]at e ⊢
   rw[bq aJ];exact b.mf j ok e
 ·rcases mem h with⟨_,h⟩|⟨_,h⟩
  ·exact⟨(r.lY a h).1,(r.lY a h).2,.inl (nw a h).1,λz=>z⟩
  ·exact⟨(b.dm j a h).1,(b.dm j a h).2.1,(b.dm j a h).2.2.1,λz=>z⟩
 ·rcases mem h1 with⟨e1,h1⟩|⟨n1,h1⟩
  ·rcases mem h2 with⟨e2,h2⟩|⟨n2,h2⟩
   ·rw[<- e1,<- e2]
   ·exact absurd ⟨k,h2⟩ (nw a h1).2.1
  ·rcases mem h2 with⟨e2,h2⟩|⟨n2,h2⟩
   ·exact absurd ⟨j,h1⟩ (nw a h2).2.1
   ·exact b.lK j k a h1 h2
 ·by_cases aJ:i=j
  ·rw[<- aJ,os_eq];exact nd
  ·rw[bq aJ];exact b.l_ j
 ·by_cases aJ:i=j
  ·subst aJ;obtain⟨e',hl⟩:=bj e;cases e'
  ·rw[bc aJ]at e ⊢
   rw[bq aJ];obtain⟨u,h1,h2,h3⟩:=b.shl j y' d' e;exact⟨u,h1,h2.map (λ_ _ _ z=>z) (λ_ _ r=>ah.aU (sub _) r),h3⟩
theorem bS.freeze {i:Nat}{d:D}(b:bS P w C σ H β own)(h:β[i]?=some (some (.own d))):bS P w C σ H (β.set i (some (.val true d))) (aP own i []):=by
 obtain⟨v,h1,h2,h3⟩:=b.ow i d h;have e:σ.set i (some v)=σ:=by
  apply Ue;intro j;rw[Vf]
  by_cases aJ:i=j
  ·subst aJ;rw[if_pos rfl,h1];have:i<σ.length:=(Sz.mp h1).1;rw[if_pos this]
  ·rw[if_neg aJ]
 have q:=bS.fD (i:=i) (d:=d) (v:=v) (y:=true) (own:=aP own i []) (C:=C) (P:=P) (w:=w) (σ:=σ) (H:=H) (β:=β.set i none);have b':bS P w C σ H (β.set i none) (aP own i []):=by
  have sub:∀y a,f_ C (Wn (aP own i [])) (yk y) a->f_ C (Wn own) (yk y) a:=λy=>ij (λa h=>eC h) _;refine⟨by simp[b.len],λj y' d' e=>?_,λj d' e=>?_,λj ok e=>?_,λj a h=>b.dm j a (bL h).1,λj k a h1 h2=>b.lK j k a (bL h1).1 (bL h2).1,λj=>?_,b.kp,b.gK,λj y' d' e=>?_⟩
  ·by_cases aJ:i=j
   ·subst aJ;obtain⟨e',hl⟩:=bj e;cases e'
   ·rw[bc aJ]at e;obtain⟨u,h1,h2⟩:=b.val j y' d' e;exact⟨u,h1,h2.aU (sub _)⟩
  ·by_cases aJ:i=j
   ·subst aJ;obtain⟨e',hl⟩:=bj e;cases e'
   ·rw[bc aJ]at e;rw[bq aJ];exact b.ow j d' e
  ·by_cases aJ:i=j
   ·subst aJ;obtain⟨e',hl⟩:=bj e;cases e'
   ·rw[bc aJ]at e;rw[bq aJ];exact b.mf j ok e
  ·by_cases aJ:i=j
   ·rw[aJ,os_eq];exact Tv
   ·rw[bq aJ];exact b.l_ j
  ·by_cases aJ:i=j
   ·subst aJ;obtain⟨e',hl⟩:=bj e;cases e'
   ·rw[bc aJ]at e;rw[bq aJ];obtain⟨u,h1,h2,h3⟩:=b.shl j y' d' e;exact⟨u,h1,h2.map (λ_ _ _ z=>z) (λ_ _ r=>ah.aU (sub _) r),h3⟩
 have q:=bS.fD (i:=i) (d:=d) (v:=v) (y:=true) b' (h2.rep λc hc z=>by
  rcases z with (z|z)|z
  ·obtain⟨j,hj⟩:=z;obtain⟨hj,ne⟩:=bL hj;exact ne (b.lK j i c hj hc)
  ·exact z (h3 c hc)
  ·exact(b.dm i c hc).2.2.2 z)
 rw[e,List.set_set]at q;have eo:aP (aP own i []) i []=aP own i []:=by
  funext j
  by_cases aJ:i=j
  ·rw[<- aJ,os_eq,os_eq]
  ·rw[bq aJ,bq aJ]
 rwa [eo]at q
abbrev Cfg.u (C:Cfg)(U:Addr->Prop):Cfg:={C with U:=U}
theorem bS.oY {U:Addr->Prop}(b:bS P w C σ H β own)(hU:∀a,U a->H a=none):bS P w (C.u U) σ H β own :=
 ⟨b.len,λi y d e=>let ⟨v,h1,h2⟩:=b.val i y d e;⟨v,h1,ay.grow (λa z=>z.elim (λz=>.inl (.inl z)) λz=>.inr (hU a z)) h2⟩,b.ow,b.mf,λi a h=>let ⟨h1,h2,h3,_⟩:=b.dm i a h;⟨h1,h2,h3,λz=>h1 (hU a z)⟩,b.lK,b.l_,b.kp,b.gK,λi y d e=>let ⟨v,h1,h2,h3⟩:=b.shl i y d e;⟨v,h1,h2.map (λ_ _ _ z=>z) (λ_ _ r=>ah.grow (λa z=>z.elim (λz=>.inl (.inl z)) λz=>.inr (hU a z)) r),h3⟩⟩
theorem bS.PY {U:Addr->Prop}(b:bS P w (C.u U) σ H β own):bS P w (C.u λ_=>False) σ H β own :=
 ⟨b.len,λi y d e=>let ⟨v,h1,h2⟩:=b.val i y d e;⟨v,h1,ay.aU (λa z=>z.elim .inl λz=>z.elim) h2⟩,b.ow,b.mf,λi a h=>let ⟨h1,h2,h3,_⟩:=b.dm i a h;⟨h1,h2,h3,λz=>z⟩,b.lK,b.l_,b.kp,b.gK,λi y d e=>let ⟨v,h1,h2,h3⟩:=b.shl i y d e;⟨v,h1,h2.map (λ_ _ _ z=>z) (λ_ _ r=>ah.aU (λa z=>z.elim .inl λz=>z.elim) r),h3⟩⟩
theorem bS.jq {i:Nat}{y:Bool}{d:D}(b:bS P w C σ H β own)(e:β[i]?=some (some (.val y d))):∃v,σ[i]?=some (some v)/\ay P w (av C (Wn own) (yk y)) H d v:=let ⟨v,h1,h2⟩:=b.val i y d e;⟨v,h1,ay.aU (λa z=>.inl z) h2⟩
end
def KV (P:So)(w:SI)(C:Cfg)(Z:Hp×(Addr->Prop))(own:Nat->List Addr)(H:Hp):Kd->D->V->Prop
 |.own,d,v=>∃A,Own P w H d v A/\A.Nodup/\∀c∈A,Z.1 c=none/\¬ Wn own c/\C.H0 c=none
 |.eh,d,v=>ay P w (av C (Wn own) .eh) H d v
 |.old,d,v=>ay P w (av C (Wn own) .old) H d v
 |.bor,d,v=>ay P w (av C (Wn own) .bor) H d v
structure Nz (P:So)(w:SI)(C:Cfg)(σ:St)(H:Hp)(own:Nat->List Addr)(p:Bool)(β':a7)(H':Hp)(aN:Nat->List Addr):Prop where
 sq:bS P w C σ H' β' aN
 sn:Sn (H,Wn own) H' (Wn aN)
 pu:p=true->au H H'/\aN=own
 le:∀a,Wn aN a->Wn own a
abbrev Out (X:Cx):=Nz X.prog X.w
section
variable {X:Cx}{C:Cfg}{σ:St}{H H1 H2 H':Hp}{own aB a9:Nat->List Addr}{p p':Bool}{β β1 β2 β':a7}{Z:Hp×(Addr->Prop)}{d:D}{v:V}{k:Kd}{P:So}{w:SI}
theorem Out.refl (s:SQ X C σ H β own)(p:Bool):Out X C σ H own p β H own:=⟨s,Sn.refl,λ_=>⟨au.refl _,rfl⟩,λ_ z=>z⟩
theorem Out.trans (a:Out X C σ H own p β1 H1 aB)(b:Out X C σ H1 aB p' β2 H2 a9):Out X C σ H own (p&&p') β2 H2 a9:=⟨b.sq,a.sn.trans b.sn,λh=>by
 rw[Tu]at h;obtain⟨s1,e1⟩:=a.pu h.1;obtain⟨s2,e2⟩:=b.pu h.2;exact⟨s1.trans s2,e2.trans e1⟩,λc z=>a.le c (b.le c z)⟩
theorem Out.same (a:Out X C σ H own p β1 H1 aB)(s:au H1 H2):Out X C σ H own p β1 H2 aB:=⟨a.sq.same s,a.sn.same s,λh=>let ⟨s1,e1⟩:=a.pu h;⟨s1.trans s,e1⟩,a.le⟩
theorem Out.wk (a:Out X C σ H own p β1 H1 aB)(h:p'=true->p=true):Out X C σ H own p' β1 H1 aB:=⟨a.sq,a.sn,λz=>a.pu (h z),a.le⟩
theorem KV.rep (h:KV P w C Z own H k d v):ay P w (av C (Wn own) k) H d v:=by
 cases k with
 |own=>obtain⟨A,h1,h2,h3⟩:=h;exact h1.rep λc hc z=>z.elim (h3 c hc).2.1 λz=>z (h3 c hc).2.2
 |_=>exact h
theorem KV.eh (h:KV P w C Z own H .own d v):KV P w C Z own H .eh d v:=KV.rep (k:=.own) h
theorem KV.flat {W:Addr->Prop}(f:d.flat=true)(h:ay P w W H d v):KV P w C Z own H .own d v:=⟨[],dj f h,Tv,λc hc=>(nomatch hc)⟩
abbrev Kd.wk:Kd->Kd
 |.own=>.eh
 |.eh=>.eh
 |.old=>.old
 |.bor=>.bor
abbrev Kd.max:Kd->Kd->Kd
 |.bor,_=>.bor
 |_,.bor=>.bor
 |.old,_=>.old
 |_,.old=>.old
 |_,_=>.eh
theorem cJ {W:Addr->Prop}{a b:Kd}:∀c,av C W (a.max b) c->av C W a c:=λc h=>by
 cases a <;> cases b <;> first|exact h|exact h.elim|exact .inl h
theorem eY {W:Addr->Prop}{a b:Kd}:∀c,av C W (a.max b) c->av C W b c:=λc h=>by
 cases a <;> cases b <;> first|exact h|exact h.elim|exact .inl h
theorem KV.of (h:ay P w (av C (Wn own) k.wk) H d v):KV P w C Z own H k.wk d v:=by
 cases k <;> exact h
theorem KV.GS (h:KV P w C Z own H k d v)(s:au H H'):KV P w C Z own H' k d v:=by
 cases k with
 |own=>obtain⟨A,h1,h2⟩:=h;exact⟨A,h1.keep (λb xs e=>s _ _ e) (λc _ o e=>s c o e),h2⟩
 |eh=>exact ay.same s h
 |old=>exact ay.same s h
 |bor=>exact ay.same s h
theorem KV.held (hk:k≠.bor)(h:KV P w C Z own H k d v)(n:Sn (H,Wn own) H2 (Wn a9)):KV P w C Z a9 H2 k d v:=by
 cases k with
 |own =>
  obtain⟨A,h1,h2,h3⟩:=h;refine⟨A,h1.keep n.k.tup (λc hc o e=>n.k.out c o e λz=>z.elim (h3 c hc).2.1 λz=>(h1.lY c hc).1 z),h2,λc hc=>⟨(h3 c hc).1,λz=>(n.w c z).elim (h3 c hc).2.1 λz=>(h1.lY c hc).1 z,(h3 c hc).2.2⟩⟩
 |eh =>
  have g:ay P w (λa=>av C (Wn own) .eh a\/H a=none) H d v:=ay.grow (λb z=>z) h;exact ay.aU (λb z=>z.elim (λz=>(n.w b z).imp .inl id) λz=>.inl (.inr z)) (ay.keep (n.k.mono λb z=>z.imp .inl id) g)
 |old=>exact held (W:=Wn own) h n
 |bor=>exact absurd rfl hk
theorem KV.Jf (h:KV P w C Z own H k d v)(s:au H H2)(e:a9=own):KV P w C Z a9 H2 k d v:=by rw[e];exact h.GS s
abbrev hold (k:Kd)(p:Bool):Prop:=match k,p with
 |.bor,false=>False
 |_,_=>True
theorem KV.ho (h:KV P w C Z own H k d v)(o:Out X C σ H own p β' H2 a9)(hh:hold k p):KV P w C Z a9 H2 k d v:=by
 cases p with
 |true=>obtain⟨s,e⟩:=o.pu rfl;exact h.Jf s e
 |false=>exact h.held (by rintro rfl;exact hh) o.sn
theorem KV.later (h:KV P w C (H1,Wn aB) own H k d v)(n:Sn Z H1 (Wn aB)):KV P w C Z own H k d v:=by
 cases k with
 |own=>obtain⟨A,h1,h2,h3⟩:=h;exact⟨A,h1,h2,λc hc=>⟨n.free (h3 c hc).1,(h3 c hc).2⟩⟩
 |_=>exact h
end
abbrev aV:=a7->(D->Kd->a7->Prop)->Prop
abbrev aZ:=a7->(Bool->a7->Prop)->Prop
abbrev bM:=a7->(List D->List Kd->a7->Prop)->Prop
def tQ (X:Cx)(C:Cfg)(p:Bool)(φ:aV):TE:=λσ H Q=>∃β own,SQ X C σ H β own/\φ β λd k β'=>∀v H' aN,Out X C σ H own p β' H' aN->KV X.prog X.w C (H,Wn own) aN H' k d v->Q v H'
def jr (X:Cx)(C:Cfg)(p:Bool)(φ:aZ):TT:=λσ H Q=>∃β own,SQ X C σ H β own/\φ β λb β'=>∀H' aN,Out X C σ H own p β' H' aN->Q b H'
def KF (P:So)(w:SI)(C:Cfg)(own:Nat->List Addr)(H:Hp):List Kd->List D->List V->List Addr->Prop
 |[],ds,vs,A=>ds=[]/\vs=[]/\A=[]
 |k::ks,ds,vs,A=>∃d dr v vr A1 A2,ds=d::dr/\vs=v::vr/\A=A1++A2/\(match k with | .own=>Own P w H d v A1|k=>A1=[]/\ay P w (av C (Wn own) k) H d v)/\KF P w C own H ks dr vr A2
def rm (P:So)(w:SI)(C:Cfg)(Z:Hp×(Addr->Prop))(own:Nat->List Addr)(H:Hp)(ks:List Kd)(ds:List D)(vs:List V):Prop :=
 ∃A,KF P w C own H ks ds vs A/\A.Nodup/\∀c∈A,Z.1 c=none/\¬ Wn own c/\C.H0 c=none
def rq (X:Cx)(C:Cfg)(p:Bool)(φ:bM):TA:=λσ H Q=>∃β own,SQ X C σ H β own/\φ β λds ks β'=>∀vs H' aN,Out X C σ H own p β' H' aN->rm X.prog X.w C (H,Wn own) aN H' ks ds vs->Q vs H'
section
variable {C:Cfg}{H H1:Hp}{own aB:Nat->List Addr}{Z:Hp×(Addr->Prop)}{d:D}{v:V}{k:Kd}{P:So}{w:SI}{ks:List Kd}{ds:List D}{vs:List V}
theorem rm.nil:rm P w C Z own H [] [] []:=⟨[],⟨rfl,rfl,rfl⟩,Tv,λc hc=>(nomatch hc)⟩
theorem KF.lY:∀{ks:List Kd} {ds:List D} {vs:List V} {A:List Addr},KF P w C own H ks ds vs A->∀c∈A,H c≠none
 |[],_,_,_,⟨_,_,e⟩,c,hc=>by rw[e]at hc;cases hc
 |k::ks,_,_,_,⟨d,dr,v,vr,A1,A2,rfl,rfl,rfl,h1,h2⟩,c,hc=>by
  rcases SO.mp hc with hc|hc
  ·cases k with
   |own=>exact(Own.lY h1 c hc).1
   |_=>rw[h1.1]at hc;cases hc
  ·exact KF.lY h2 c hc
theorem rm.cons (h1:KV P w C Z aB H1 k d v)(n:Sn (H1,Wn aB) H (Wn own))(BV:KV P w C Z own H k d v)(h2:rm P w C (H1,Wn aB) own H ks ds vs)(n0:Sn Z H1 (Wn aB)):rm P w C Z own H (k::ks) (d::ds) (v::vs):=by
 obtain⟨A2,f2,Bt,q2⟩:=h2;have z2:∀c∈A2,Z.1 c=none/\¬ Wn own c/\C.H0 c=none:=λc hc=>⟨n0.free (q2 c hc).1,(q2 c hc).2⟩;cases k with
 |own =>
  obtain⟨A1,o1,yz,q1⟩:=h1;obtain⟨Se,RF,P1,N1⟩:=(show KV P w C Z own H .own d v from KV.held (k:=.own) (λz=>(nomatch z)) (⟨A1,o1,yz,q1⟩:KV P w C Z aB H1 .own d v) n)
  have Lz:Own P w H d v A1:=o1.keep n.k.tup (λc hc o e=>n.k.out c o e λz=>z.elim (q1 c hc).2.1 λz=>(o1.lY c hc).1 z);refine⟨A1++A2,⟨d,ds,v,vs,A1,A2,rfl,rfl,rfl,Lz,f2⟩,TC.mpr ⟨yz,Bt,λa ha b hb e=>?_⟩,λc hc=>?_⟩
  ·subst e;exact(o1.lY a ha).1 (q2 a hb).1
  ·rcases SO.mp hc with hc|hc
   ·exact⟨(q1 c hc).1,λz=>(n.w c z).elim (q1 c hc).2.1 λz=>(o1.lY c hc).1 z,(q1 c hc).2.2⟩
   ·exact z2 c hc
 |eh=>exact⟨A2,⟨d,ds,v,vs,[],A2,rfl,rfl,rfl,⟨rfl,BV⟩,f2⟩,Bt,z2⟩
 |old=>exact⟨A2,⟨d,ds,v,vs,[],A2,rfl,rfl,rfl,⟨rfl,BV⟩,f2⟩,Bt,z2⟩
 |bor=>exact⟨A2,⟨d,ds,v,vs,[],A2,rfl,rfl,rfl,⟨rfl,BV⟩,f2⟩,Bt,z2⟩
abbrev fu:List Kd->Kd
 |[]=>.eh
 |k::ks=>Kd.max k (fu ks)
theorem KF.gz:∀{ks:List Kd} {ds:List D} {vs:List V} {A:List Addr},KF P w C own H ks ds vs A->(∀c∈A,¬ Wn own c/\C.H0 c=none)->ah P w (av C (Wn own) (fu ks)) H ds vs
 |[],_,_,_,⟨e1,e2,e⟩,_=>by rw[e1,e2];rfl
 |k::ks,_,_,_,⟨d,dr,v,vr,A1,A2,rfl,rfl,rfl,h1,h2⟩,hA=>by
  refine⟨v,vr,rfl,?_,ah.aU eY (KF.gz h2 λc hc=>hA c (Th _ hc))⟩;cases k with
  |own=>exact ay.aU cJ (Own.rep (W:=av C (Wn own) .own) (λc hc z=>z.elim (hA c (T3 _ hc)).1 λz=>z (hA c (T3 _ hc)).2) h1)
  |eh=>exact ay.aU (cJ (a:=.eh)) h1.2
  |old=>exact ay.aU (cJ (a:=.old)) h1.2
  |bor=>exact ay.aU (cJ (a:=.bor)) h1.2
theorem rm.gz (h:rm P w C Z own H ks ds vs):ah P w (av C (Wn own) (fu ks)) H ds vs:=let ⟨A,h1,_,h3⟩:=h;h1.gz λc hc=>(h3 c hc).2
theorem rm.bor (h:rm P w C Z own H ks ds vs):ah P w (λ_=>False) H ds vs:=ah.aU (λ_ z=>z.elim) h.gz
def u5:List Kd->List D->Prop
 |k::ks,d::ds=>(match k with | .own=>True|_=>d.flat=true)/\u5 ks ds
 |_,_=>True
theorem KF.Em:∀{ks:List Kd} {ds:List D} {vs:List V} {A:List Addr},KF P w C own H ks ds vs A->u5 ks ds->aG P w H ds vs A
 |[],_,_,_,⟨e1,e2,e⟩,_=>by rw[e1,e2,e];exact⟨rfl,rfl⟩
 |k::ks,_,_,_,⟨d,dr,v,vr,A1,A2,rfl,rfl,rfl,h1,h2⟩,⟨f1,f2⟩=>by
  refine⟨v,vr,A1,A2,rfl,rfl,?_,KF.Em h2 f2⟩;cases k with
  |own=>exact h1
  |eh=>rw[h1.1];exact dj f1 h1.2
  |old=>rw[h1.1];exact dj f1 h1.2
  |bor=>rw[h1.1];exact dj f1 h1.2
theorem hZ:∀{ks:List Kd},(fu ks).wk=fu ks
 |[]=>rfl
 |k::ks=>by cases k <;> cases h:fu ks <;> simp[fu,Kd.max,h]
def yJ (ks:List Kd)(ds:List D)(K:Kd->Prop):Prop:=match ks.all (λk=>match k with | .own=>true|_=>false)with
 |true=>K .own
 |false=>(u5 ks ds/\K .own)\/K (fu ks)
theorem yJ.mono {ks:List Kd}{ds:List D}{K K':Kd->Prop}(k:∀x,K x->K' x)(h:yJ ks ds K):yJ ks ds K':=by
 unfold yJ at *
 split
 ·next e=>rw[e]at h;exact k _ h
 ·next e=>rw[e]at h;exact h.imp (λz=>⟨z.1,k _ z.2⟩) (k _)
theorem yJ.of {ks:List Kd}{ds:List D}{K:Kd->Prop}(h:yJ ks ds K):(u5 ks ds/\K .own)\/K (fu ks):=by
 unfold yJ at h
 split at h
 ·next e =>
  refine .inl ⟨?_,h⟩
  clear h
  induction ks generalizing ds with
  |nil=>cases ds <;> trivial
  |cons k ks ih =>
   cases ds with
   |nil=>trivial
   |cons d ds =>
    rw[List.all_cons,Tu]at e;refine⟨?_,ih e.2⟩;have e1:=e.1;cases k <;> first|trivial|cases e1
 ·exact h
end
structure PQ (X:Cx)(C:Cfg)(p:Bool)(e:Expr)(φ:aV):Prop where
 mono:∀β R R',(∀d k β,R d k β->R' d k β)->φ β R->φ β R'
 pe:PE X e (tQ X C p φ)
structure rE (X:Cx)(C:Cfg)(p:Bool)(e:Expr)(φ:aZ):Prop where
 mono:∀β R R',(∀d β,R d β->R' d β)->φ β R->φ β R'
 pt:PT X e (jr X C p φ)
structure tX (X:Cx)(C:Cfg)(p:Bool)(e:Expr)(φ:aZ):Prop where
 mono:∀β R R',(∀d β,R d β->R' d β)->φ β R->φ β R'
 pw:PW X e (jr X C p φ)
structure oT (X:Cx)(C:Cfg)(p:Bool)(es:List Expr)(φ:bM):Prop where
 mono:∀β R R',(∀d k β,R d k β->R' d k β)->φ β R->φ β R'
 pa:PA X es (rq X C p φ)
section
variable {X:Cx}{C:Cfg}{a b c e:Expr}{es:List Expr}{φ φa φb:aV}{τ τa τb:aZ}{φs:bM}{pos:Pos}{σ:St}{H H':Hp}{β:a7}{own:Nat->List Addr}{p p':Bool}
theorem tQ.of (h:PQ X C p e φ)(s:SQ X C σ H β own){R:D->Kd->a7->Prop}{Q:VK}(hr:φ β R)(k:∀d kd β' v H' aN,R d kd β'->Out X C σ H own p β' H' aN->KV X.prog X.w C (H,Wn own) aN H' kd d v->Q v H'):tQ X C p φ σ H Q :=
 ⟨β,own,s,h.mono β _ _ (λd kd β' hd v H' aN o r=>k d kd β' v H' aN hd o r) hr⟩
theorem jr.of (h:rE X C p e τ)(s:SQ X C σ H β own){R:Bool->a7->Prop}{Q:Bool->Hp->Prop}(hr:τ β R)(k:∀t β' H' aN,R t β'->Out X C σ H own p β' H' aN->Q t H'):jr X C p τ σ H Q :=
 ⟨β,own,s,h.mono β _ _ (λt β' hd H' aN o=>k t β' H' aN hd o) hr⟩
theorem rq.of (h:oT X C p es φs)(s:SQ X C σ H β own){R:List D->List Kd->a7->Prop}{Q:List V->Hp->Prop}(hr:φs β R)(k:∀ds ks β' vs H' aN,R ds ks β'->Out X C σ H own p β' H' aN->rm X.prog X.w C (H,Wn own) aN H' ks ds vs->Q vs H'):rq X C p φs σ H Q :=
 ⟨β,own,s,h.mono β _ _ (λd kd β' hd v H' aN o r=>k d kd β' v H' aN hd o r) hr⟩
theorem tX.t (h:tX X C p e τ):rE X C p e τ:=⟨h.mono,h.pw.pt⟩
abbrev vk (y:Bool):D->Kd
 |.int _=>.own
 |.bl _=>.own
 |.bX=>.own
 |.str _=>.own
 |_=>yk y
def qB:B->(D->Kd->Prop)->Prop
 |.val y d,K=>K d (vk y d)
 |.own d,K=>K d .bor
 |.hand _,_=>False
 |.shl _ _,_=>False
def Lg (i:Nat):aV:=λβ R=>∃b,β[i]?=some (some b)/\qB b λd k=>R d k β
theorem EI {P:So}{w:SI}{Z:Hp×(Addr->Prop)}{y:Bool}{d:D}{v:V}(h:ay P w (av C (Wn own) (yk y)) H d v):KV P w C Z own H (vk y d) d v:=by
 cases d with
 |int i=>exact KV.flat rfl h
 |bl i=>exact KV.flat rfl h
 |bX=>exact KV.flat rfl h
 |str i=>exact KV.flat rfl h
 |_=>cases y <;> exact h
theorem ab {i:Nat}{x:Str}(hN:X.N[i]?=some x:=by rfl)(hv:tS X.env.scope x:=by first|exact .inl rfl|exact .inr (.inl rfl)|exact .inr (.inr rfl))(hd:(x==("__debug__" : Str))=false:=by decide)(gk:(x==("__classdict__" : Str))=false:=by decide):
  PQ X C true (.Name x pos) (Lg i):=⟨λβ R R' k BL=>by obtain⟨b,e,h⟩:=BL;exact⟨b,e,by cases b <;> first|exact k _ _ _ h|exact h⟩,(cT hN hv hd gk).pre λσ H Q yW=>by
 obtain⟨β,own,s,b,e,q⟩:=yW;cases b with
 |val y d=>obtain⟨v,h1,h2⟩:=s.jq e;exact⟨v,h1,q v H own (Out.refl s _) (EI h2)⟩
 |own d=>obtain⟨v,h1,h2,h3⟩:=s.ow i d e;exact⟨v,h1,q v H own (Out.refl s _) (h2.rep λ_ _ z=>z)⟩
 |hand ok=>exact q.elim
 |shl _ _=>exact q.elim⟩
def Ln (i:Nat):aV:=λβ R=>∃d,β[i]?=some (some (.own d))/\R d .eh (β.set i (some (.val true d)))
theorem ya {i:Nat}{x:Str}(hN:X.N[i]?=some x:=by rfl)(hv:tS X.env.scope x:=by first|exact .inl rfl|exact .inr (.inl rfl)|exact .inr (.inr rfl))(hd:(x==("__debug__" : Str))=false:=by decide)(gk:(x==("__classdict__" : Str))=false:=by decide):
  PQ X C false (.Name x pos) (Ln i):=⟨λβ R R' k Ii=>by obtain⟨b,e,h⟩:=Ii;exact⟨b,e,k _ _ _ h⟩,(cT hN hv hd gk).pre λσ H Q E3=>by
 obtain⟨β,own,s,d,e,q⟩:=E3;have f:=s.freeze e;obtain⟨v,h1,h2⟩:=f.jq (y:=true) (get_set (by rw[s.len];obtain⟨v,h1,_⟩:=s.ow i d e;exact(Sz.mp h1).1))
 exact⟨v,h1,q v H _ ⟨f,⟨λb z=>.inl (eC z),Kp.refl,λ_ z=>z⟩,λz=>(nomatch z),λ_ z=>eC z⟩ h2⟩⟩
def qC (d:D):aV:=λβ R=>R d .own β
theorem ag {i j}:PQ X C true (.Constant (.int i) j pos) (qC (.int i)):=⟨λρ R R' k h=>k _ _ _ h,a6.pre λσ H Q E2=>by obtain⟨β,own,s,q⟩:=E2;exact q _ H own (Out.refl s _) (KV.flat (W:=λ_=>False) rfl rfl)⟩
theorem cX {b j}:PQ X C true (.Constant (.bool b) j pos) (qC (.bl b)):=⟨λρ R R' k h=>k _ _ _ h,CC.pre λσ H Q Mc=>by obtain⟨β,own,s,q⟩:=Mc;exact q _ H own (Out.refl s _) (KV.flat (W:=λ_=>False) rfl rfl)⟩
theorem sf {j}:PQ X C true (.Constant .none j pos) (qC .bX):=⟨λρ R R' k h=>k _ _ _ h,Ek.pre λσ H Q E1=>by obtain⟨β,own,s,q⟩:=E1;exact q _ H own (Out.refl s _) (KV.flat (W:=λ_=>False) rfl rfl)⟩
def xN (X:Cx)(f:D->D->Option D)(N:D->Prop):R2:=λx y H Q=>∃W d1 d2 d,Dm W H/\Rp X W H d1 x/\Rp X W H d2 y/\f d1 d2=some d/\∀v H',au H H'->Rp X W H' d v->(N d->Rp X (λa=>H a≠none) H' d v)->Q v H'
abbrev Ky (X:Cx)(f:Sh->Sh->Sem Sh)(g:D->D->Option D)(N:D->Prop):Prop:=ip X f (xN X g N)
theorem bD.m {f:Sh->Sh->Sem Sh}{g:D->D->Option D}(h:bD X f g):Ky X f g NF:=λpins s σ H x y v u Q I rx ry ⟨W,d1,d2,d,hd,r1,r2,e,q⟩ =>
 h pins s σ H x y v u Q I rx ry ⟨W,d1,d2,d,hd,r1,r2,e,λv H' s r=>q v H' s r λf=>ay.flat f r⟩
def kN (N:D->Prop)(d:D)(k:Kd)(K:Kd->Prop):Prop:=match d with
 |.int _=>K .own
 |.bl _=>K .own
 |.bX=>K .own
 |.str _=>K .own
 |.tup _=>K k
 |_=>(N d/\K .own)\/K k
theorem kN.mono {N:D->Prop}{d:D}{k:Kd}{K K':Kd->Prop}(h:∀x,K x->K' x)(q:kN N d k K):kN N d k K':=by
 cases d <;> first|exact h _ q|exact q.imp (λz=>⟨z.1,h _ z.2⟩) (h _)
theorem hG {P:So}{w:SI}{Z:Hp×(Addr->Prop)}{d:D}{v:V}(hd:Dm (Wn own) H)(h0:∀a,C.H0 a≠none->H a≠none)(hz:∀a,Z.1 a≠none->H a≠none)(f:NL d)(r:ay P w (λa=>H a≠none) H' d v):KV P w C Z own H' .own d v:=by
 have nn:∀{a:Addr},¬ (H a≠none)->H a=none:=λ{a} h=>Ti λz=>h z;have cl:∀{a:Addr},H a=none->Z.1 a=none/\¬ Wn own a/\C.H0 a=none:=λ{a} h=>⟨Ti λz=>hz a z h,λz=>hd a z h,Ti λz=>h0 a z h⟩;cases d with
 |lst ds =>
  obtain⟨a,vs,rfl,e,n,q⟩:=r;exact⟨[a],⟨a,vs,[],rfl,e,rfl,fY f q⟩,by simp,λc hc=>by rw[SF.mp hc];exact cl (nn n)⟩
 |_=>exact KV.flat f r
theorem KV.kN {N:D->Prop}{P:So}{w:SI}{Z:Hp×(Addr->Prop)}{d:D}{v:V}{k:Kd}{K:Kd->Prop}(hk:k.wk=k)(r:ay P w (av C (Wn own) k) H' d v)(ro:N d->KV P w C Z own H' .own d v)(q:kN N d k K):∃k',K k'/\KV P w C Z own H' k' d v:=by
 have rk:KV P w C Z own H' k d v:=by rw[<- hk];exact KV.of (by rw[hk];exact r)
 cases d with
 |int i=>exact⟨_,q,KV.flat rfl r⟩
 |bl i=>exact⟨_,q,KV.flat rfl r⟩
 |bX=>exact⟨_,q,KV.flat rfl r⟩
 |str i=>exact⟨_,q,KV.flat rfl r⟩
 |tup ds=>exact⟨_,q,rk⟩
 |_=>exact q.elim (λz=>⟨_,z.2,ro z.1⟩) λz=>⟨_,z,rk⟩
structure Ag (N:D->Prop):Prop where
 nl:∀d,N d->NL d
theorem aM:Ag NL:=⟨λ_ h=>h⟩
theorem af:Ag NF:=⟨λd h=>by cases d <;> first|exact h|cases h⟩
theorem CJ {a b:Kd}:(a.max b).wk=a.max b:=by cases a <;> cases b <;> rfl
def wH (g:D->D->Option D)(N:D->Prop)(pb:Bool)(φa φb:aV):aV:=λβ R=>φa β λx ka β1=>hold ka pb/\φb β1 λy kb β2=>∃d,g x y=some d/\kN N d (ka.max kb) λk=>R d k β2
variable {g:D->D->Option D}{N:D->Prop}
theorem wH.mono (ha:PQ X C p a φa)(hb:PQ X C p' b φb):∀β R R',(∀d k β,R d k β->R' d k β)->wH g N p' φa φb β R->wH g N p' φa φb β R':=λβ R R' k h =>
 ha.mono β _ _ (λx ka β1 hx=>⟨hx.1,hb.mono β1 _ _ (λy kb β2 sX=>by obtain⟨d,e,q⟩:=sX;exact⟨d,e,q.mono λ_ z=>k _ _ _ z⟩) hx.2⟩) h
theorem rZ (hn:Ag N)(ha:PQ X C p a φa)(hb:PQ X C p' b φb):∀σ H Q,tQ X C (p&&p') (wH g N p' φa φb) σ H Q->GB (xN X g N) (tQ X C p φa) (tQ X C p' φb) σ H Q:=λσ H Q ⟨β,own,s,h⟩ =>
 tQ.of ha s h λd1 k1 β1 v1 H1 aB ⟨hh,h1⟩ o1 r1=>tQ.of hb o1.sq h1 λd2 k2 β2 v2 H2 a9 y_ o2 r2=>by
  obtain⟨d,e,q⟩:=y_;have Ea:=r1.ho o2 hh;refine⟨av C (Wn a9) (k1.max k2),d1,d2,d,o2.sq.zF _,ay.aU cJ Ea.rep,ay.aU eY r2.rep,e,λv H' s3 r3 n3=>?_⟩;have o:=(o1.trans o2).same s3;obtain⟨k,q,r⟩:=KV.kN (Z:=(H,Wn own)) CJ r3 (λn=>hG (H:=H2) o2.sq.wN o2.sq.gK (λa z=>o2.sn.d a (o1.sn.d a z)) (hn.nl _ n) (n3 n)) q;exact q v H' a9 o r
theorem aH {op:Operator}(hn:Ag N)(ho:Ky X (UJ op) g N)(ha:PQ X C p a φa)(hb:PQ X C p' b φb):PQ X C (p&&p') (.BinOp a op b pos) (wH g N p' φa φb):=⟨wH.mono ha hb,(cL ho ha.pe hb.pe).pre (rZ hn ha hb)⟩
theorem kq {op:VG}(hn:Ag N)(ho:Ky X (TQ op) g N)(ha:PQ X C p a φa)(hb:PQ X C p' b φb)(hm:UL op b=false:=by first|exact pV _ (by decide) (by decide)|rfl):PQ X C (p&&p') (.Compare a [op] [b] pos) (wH g N p' φa φb) :=
 ⟨wH.mono ha hb,(ux ho ha.pe hb.pe hm).pre (rZ hn ha hb)⟩
theorem aO (hn:Ag N)(ho:Dn X (xN X g N))(ha:PQ X C p a φa)(hb:PQ X C p' b φb)(hs:oN b:=by exact λ_ _=>rfl):PQ X C (p&&p') (.Subscript a b pos) (wH g N p' φa φb):=⟨wH.mono ha hb,(kz ho ha.pe hb.pe hs).pre (rZ hn ha hb)⟩
def xO (φ:aV):aZ:=λβ R=>φ β λd k β'=>∃b,d=.bl b/\R b β'
theorem aD {op:VG}(hn:Ag N)(ho:Ky X (TQ op) g N)(ha:PQ X C p a φa)(hb:PQ X C p' b φb)(hm:UL op b=false:=by first|exact pV _ (by decide) (by decide)|rfl):rE X C (p&&p') (.Compare a [op] [b] pos) (xO (wH g N p' φa φb)) :=
 ⟨λβ R R' k h=>wH.mono ha hb β _ _ (λd kd β yZ=>by obtain⟨t,e,q⟩:=yZ;exact⟨t,e,k _ _ q⟩) h,(uj ho ha.pe hb.pe hm).pre λσ H Q ⟨β,own,s,h⟩ =>
  tQ.of ha s h λd1 k1 β1 v1 H1 aB ⟨hh,h1⟩ o1 r1=>tQ.of hb o1.sq h1 λd2 k2 β2 v2 H2 a9 E9 o2 r2=>by
   obtain⟨d,e,q⟩:=E9;have Ea:=r1.ho o2 hh;refine⟨av C (Wn a9) (k1.max k2),d1,d2,d,o2.sq.zF _,ay.aU cJ Ea.rep,ay.aU eY r2.rep,e,λv H' s3 r3 n3=>?_⟩;obtain⟨k,⟨t,et,q'⟩,r⟩:=KV.kN (Z:=(H,Wn own)) CJ r3 (λn=>hG (H:=H2) o2.sq.wN o2.sq.gK (λa z=>o2.sn.d a (o1.sn.d a z)) (hn.nl _ n) (n3 n)) q;subst et;cases r3;exact⟨t,rfl,q' H' a9 ((o1.trans o2).same s3)⟩⟩
theorem jI (ha:PQ X C p a φa)(he:∀whole,W6 a X.env whole=(do let v <- whole;VL a.pos;holding [v] (truthy v)):=by intro _;rfl):rE X C p a (xO φa) :=
 ⟨λβ R R' k h=>ha.mono β _ _ (λd kd β' E8=>by obtain⟨b,e,q⟩:=E8;exact⟨b,e,k _ _ q⟩) h,(Ef ha.pe he).pre λσ H Q ⟨β,own,s,h⟩=>tQ.of ha s h λd k β' v H1 aB E6 o1 r1=>by
  obtain⟨b,e,q⟩:=E6;subst e;cases r1.rep;exact⟨b,rfl,q H1 aB o1⟩⟩
def G1 (τ:aZ):aZ:=λβ R=>τ β λb β'=>R (!b) β'
theorem g_ (ha:rE X C p a τ):rE X C p (.UnaryOp .Not a pos) (G1 τ) :=
 ⟨λβ R R' k h=>ha.mono β _ _ (λb β' q=>k _ _ q) h,(Eg ha.pt).pre λσ H Q E5=>by obtain⟨β,own,s,h⟩:=E5;exact jr.of ha s h λb β' H1 aB q o=>q H1 aB o⟩
variable {rest:List Expr}
def G5 (τa τb:aZ):aZ:=λβ R=>τa β λt β1=>if t=true then τb β1 R else R false β1
def Lk (τa τb:aZ):aZ:=λβ R=>τa β λt β1=>if t=true then R true β1 else τb β1 R
theorem kh (ha:rE X C p a τ):tX X C p (.BoolOp .And [a] pos) τ:=⟨ha.mono,pw_and1 ha.pt⟩
theorem jH (ha:rE X C p a τ):tX X C p (.BoolOp .Or [a] pos) τ:=⟨ha.mono,pw_or1 ha.pt⟩
theorem FO {p q:Bool}(z:(p&&q)=true):p=true:=by cases p <;> first|rfl|cases z
theorem Nq {p q:Bool}(z:(p&&q)=true):q=true:=by cases p <;> first|exact z|cases z
theorem oi (ha:rE X C p a τa)(hb:tX X C p' (.BoolOp .And (b::rest) pos) τb):tX X C (p&&p') (.BoolOp .And (a::b::rest) pos) (G5 τa τb) :=
 ⟨λβ R R' k h=>ha.mono β _ _ (λt β1 q=>by
   cases t
   ·exact k _ _ q
   ·exact hb.mono β1 _ _ k q) h,(pw_and ha.pt hb.pw).pre λσ H Q ⟨β,own,s,h⟩=>jr.of ha s h λt β1 H1 aB q o1=>by
  cases t
  ·exact q H1 aB (o1.wk FO)
  ·exact jr.of hb.t o1.sq q λt' β2 H2 a9 q2 o2=>q2 H2 a9 (o1.trans o2)⟩
theorem oh (ha:rE X C p a τa)(hb:tX X C p' (.BoolOp .Or (b::rest) pos) τb):tX X C (p&&p') (.BoolOp .Or (a::b::rest) pos) (Lk τa τb) :=
 ⟨λβ R R' k h=>ha.mono β _ _ (λt β1 q=>by
   cases t
   ·exact hb.mono β1 _ _ k q
   ·exact k _ _ q) h,(pw_or ha.pt hb.pw).pre λσ H Q ⟨β,own,s,h⟩=>jr.of ha s h λt β1 H1 aB q o1=>by
  cases t
  ·exact jr.of hb.t o1.sq q λt' β2 H2 a9 q2 o2=>q2 H2 a9 (o1.trans o2)
  ·exact q H1 aB (o1.wk FO)⟩
theorem HF {P:So}{w:SI}{Z:Hp×(Addr->Prop)}{b:Bool}:KV P w C Z own H .own (.bl b) (.bl b):=KV.flat (W:=λ_=>False) rfl rfl
def PK (g:D->Option D)(φa:aV):aV:=λβ R=>φa β λx _ β1=>∃d,g x=some d/\d.flat=true/\R d .own β1
theorem uo {op:UnaryOp}{g:D->Option D}(ho:JH X (unaryOp op) (NZ X g))(ha:PQ X C p a φa):PQ X C p (.UnaryOp op a pos) (PK g φa) :=
 ⟨λβ R R' k h=>ha.mono β _ _ (λx _ β1 Mp=>by obtain⟨d,e,f,q⟩:=Mp;exact⟨d,e,f,k _ _ _ q⟩) h,(CB ho ha.pe).pre λσ H Q ⟨β,own,s,h⟩ =>
  tQ.of ha s h λd1 k1 β1 v1 H1 aB Mo o1 r1=>by obtain⟨d,e,f,q⟩:=Mo;exact⟨_,d1,d,o1.sq.zF _,r1.rep,e,λv H' s2 r2=>q v H' aB (o1.same s2) (KV.flat f r2)⟩⟩
def Ll:bM:=λβ R=>R [] [] β
def G3 (pr:Bool)(φ:aV)(φs:bM):bM:=λβ R=>φ β λd k β1=>hold k pr/\φs β1 λds ks β2=>R (d::ds) (k::ks) β2
theorem ae:oT X C true [] Ll:=⟨λβ R R' k h=>k _ _ _ h,eM.pre λσ H Q Mn=>by obtain⟨β,own,s,q⟩:=Mn;exact q [] H own (Out.refl s _) rm.nil⟩
theorem aa (ha:PQ X C p a φ)(hr:oT X C p' es φs)(hs:SX (a::es) X.env=(false,eval a X.env)::SX es X.env:=by rfl):oT X C (p&&p') (a::es) (G3 p' φ φs) :=
 ⟨λβ R R' k h=>ha.mono β _ _ (λd kd β1 q=>⟨q.1,hr.mono β1 _ _ (λds ks β2 q2=>k _ _ _ q2) q.2⟩) h,(b5 ha.pe hr.pa hs).pre λσ H Q ⟨β,own,s,h⟩ =>
  tQ.of ha s h λd1 k1 β1 v1 H1 aB Mm o1 r1=>by obtain⟨hh,h1⟩:=Mm;exact rq.of hr o1.sq h1 λds ks β2 vs H2 a9 q o2 r2=>q (v1::vs) H2 a9 (o1.trans o2) (rm.cons r1 o2.sn (r1.ho o2 hh) r2 o1.sn)⟩
def Lh (φs:bM):aV:=λβ R=>φs β λds ks β1=>ds.length<=SG/\yJ ks ds λk=>R (.tup ds) k β1
def Lm (φs:bM):aV:=λβ R=>φs β λds ks β1=>ds.length<=SG/\yJ ks ds λk=>R (.lst ds) k β1
theorem aG.same {P:So}{w:SI}{ds:List D}{vs:List V}{A:List Addr}(s:au H H')(h:aG P w H ds vs A):aG P w H' ds vs A:=h.keep (λb xs e=>s _ _ e) λc _ o e=>s c o e
theorem EJ {P:So}{w:SI}{Z:Hp×(Addr->Prop)}{ks:List Kd}{ds:List D}{vs:List V}{K:Kd->Prop}{q:Addr}(hq:H q=none)(h:rm P w C Z own H ks ds vs)(m:yJ ks ds K):∃k,K k/\KV P w C Z own (upd H q (.tup vs)) k (.tup ds) (.ref q):=by
 rcases m.of with⟨f,k⟩|k
 ·obtain⟨A,h1,h2,h3⟩:=h;exact⟨_,k,A,⟨q,vs,rfl,ar,(h1.Em f).same (au.new hq)⟩,h2,h3⟩
 ·refine⟨_,k,?_⟩;rw[<- hZ];exact KV.of (by rw[hZ];exact⟨q,vs,rfl,ar,h.gz.same (au.new hq)⟩)
theorem EK {P:So}{w:SI}{Z:Hp×(Addr->Prop)}{ks:List Kd}{ds:List D}{vs:List V}{K:Kd->Prop}{q:Addr}(hq:H q=none)(hd:Dm (Wn own) H)(h0:∀a,C.H0 a≠none->H a≠none)(hz:∀a,Z.1 a≠none->H a≠none)(h:rm P w C Z own H ks ds vs)(m:yJ ks ds K):∃k,K k/\KV P w C Z own (upd H q (.lst vs)) k (.lst ds) (.ref q):=by
 rcases m.of with⟨f,k⟩|k
 ·obtain⟨A,h1,h2,h3⟩:=h;refine⟨_,k,q::A,⟨q,vs,A,rfl,ar,rfl,(h1.Em f).same (au.new hq)⟩,S4.mpr ⟨λz=>h1.lY q z hq,h2⟩,λc hc=>?_⟩;rcases Sr.mp hc with rfl|hc
  ·exact⟨Ti λz=>hz c z hq,λz=>hd c z hq,Ti λz=>h0 c z hq⟩
  ·exact h3 c hc
 ·refine⟨_,k,?_⟩;have nq:¬ av C (Wn own) (fu ks) q:=λz=>by
   cases e:fu ks <;> rw[e]at z <;> first|exact z.elim (λz=>hd q z hq) λz=>h0 q z hq|exact hd q z hq|exact z
  rw[<- hZ];exact KV.of (by rw[hZ];exact⟨q,vs,rfl,ar,nq,h.gz.same (au.new hq)⟩)
theorem rm.length {P:So}{w:SI}{Z:Hp×(Addr->Prop)}{ks:List Kd}{ds:List D}{vs:List V}(h:rm P w C Z own H ks ds vs):vs.length=ds.length:=h.gz.length
theorem bW {x1}(h:oT X C p es φs):PQ X C p (.Tuple es x1 pos) (Lh φs) :=
 ⟨λβ R R' k q=>h.mono β _ _ (λds ks β1 Ml=>by obtain⟨l,q⟩:=Ml;exact⟨l,q.mono λ_ z=>k _ _ _ z⟩) q,(Ej h.pa).pre λσ H Q ⟨β,own,s,q⟩=>rq.of h s q λds ks β1 vs H1 aB ⟨l,q1⟩ o1 r1 =>
  ⟨by rw[r1.length];exact l,λq hq=>let ⟨k,q1,r⟩:=EJ hq r1 q1;q1 _ _ aB (o1.same (au.new hq)) r⟩⟩
theorem bF (h:oT X C p es φs):PQ X C p (.List es pos) (Lm φs) :=
 ⟨λβ R R' k q=>h.mono β _ _ (λds ks β1 Mk=>by obtain⟨l,q⟩:=Mk;exact⟨l,q.mono λ_ z=>k _ _ _ z⟩) q,(si h.pa).pre λσ H Q ⟨β,own,s,q⟩=>rq.of h s q λds ks β1 vs H1 aB ⟨l,q1⟩ o1 r1 =>
  ⟨by rw[r1.length];exact l,λq hq=>let ⟨k,q1,r⟩:=EK hq o1.sq.wN o1.sq.gK (λa z=>o1.sn.d a z) r1 q1;q1 _ _ aB (o1.same (au.new hq)) r⟩⟩
end
section
variable {X:Cx}{C:Cfg}{a b c e:Expr}{es:List Expr}{φ φa φb:aV}{φs:bM}{pos:Pos}{σ:St}{H H':Hp}{β:a7}{own:Nat->List Addr}{p:Bool}{g:D->D->Option D}{N:D->Prop}
abbrev nJ:=D->Kd->aV
structure Kw (X:Cx)(C:Cfg)(ops:List VG)(es:List Expr)(φ:nJ):Prop where
 mono:∀x k β R R',(∀d k β,R d k β->R' d k β)->φ x k β R->φ x k β R'
 ch:FU X ops es λx σ H Q=>∃β own d k,SQ X C σ H β own/\Rp X (av C (Wn own) k) H d x/\φ d k β λd' k' β'=>∀v H',au H H'->SQ X C σ H' β' own->KV X.prog X.w C (H,Wn own) own H' k' d' v->Q v H'
 OW:rl X ops es λx σ H Q=>∃β own d k,SQ X C σ H β own/\Rp X (av C (Wn own) k) H d x/\φ d k β λd' k' β'=>∃b,d'=.bl b/\∀H',au H H'->SQ X C σ H' β' own->Q b H'
def Lp (g:D->D->Option D)(φb:aV):nJ:=λx _ β R=>φb β λy _ β1=>∃b,g x y=some (.bl b)/\R (.bl b) .own β1
def Lo (g:D->D->Option D)(φb:aV)(φr:nJ):nJ:=λx _ β R=>φb β λy ky β1=>∃k,g x y=some (.bl k)/\if k=true then φr y ky β1 R else R (.bl false) .own β1
variable {op Es:VG}{ops:List VG}{rs:List Expr}{φr:nJ}
theorem um (ho:bD X (TQ op) g)(hb:PQ X C true b φb):Kw X C [op] [b] (Lp g φb) :=
 ⟨λx k β R R' h q=>hb.mono β _ _ (λy _ β1 za=>by obtain⟨d,e,q⟩:=za;exact⟨d,e,h _ _ _ q⟩) q,
  (FF ho hb.pe).pre λx σ H Q ⟨β,own,d,k,s,r,h⟩=>tQ.of hb s h λd2 k2 β2 v2 H2 a9 yW o2 r2=>by
    obtain⟨d',e,q⟩:=yW;obtain⟨s2,rfl⟩:=o2.pu rfl;exact⟨av C (Wn a9) (k.max k2),d,d2,.bl d',o2.sq.zF _,ay.aU cJ (r.same s2),ay.aU eY r2.rep,e,λv H' s3 r3=>q v H' (s2.trans s3) (o2.sq.same s3) (KV.flat rfl r3)⟩,
  (Cf ho hb.pe).pre λx σ H Q ⟨β,own,d,k,s,r,h⟩=>tQ.of hb s h λd2 k2 β2 v2 H2 a9 E3 o2 r2=>by
    obtain⟨d',e,b,eb,q⟩:=E3;obtain⟨s2,rfl⟩:=o2.pu rfl;cases eb;exact⟨av C (Wn a9) (k.max k2),d,d2,.bl d',o2.sq.zF _,ay.aU cJ (r.same s2),ay.aU eY r2.rep,e,λv H' s3 r3=>by
      cases r3;exact⟨_,rfl,q H' (s2.trans s3) (o2.sq.same s3)⟩⟩⟩
theorem kn (ho:bD X (TQ op) g)(hb:PQ X C true b φb)(hc:Kw X C (Es::ops) (c::rs) φr):Kw X C (op::Es::ops) (b::c::rs) (Lo g φb φr) :=
 ⟨λx k β R R' h q=>hb.mono β _ _ (λy ky β1 ⟨d,e,q⟩=>⟨d,e,by
   cases d
   ·exact h _ _ _ q
   ·exact hc.mono y ky β1 _ _ h q⟩) q,
  (Cg ho hb.pe hc.ch).pre λx σ H Q ⟨β,own,d,k,s,r,h⟩=>tQ.of hb s h λd2 k2 β2 v2 H2 a9 E1 o2 r2=>by
    obtain⟨t,e,q⟩:=E1;obtain⟨s2,rfl⟩:=o2.pu rfl;refine⟨av C (Wn a9) (k.max k2),d,d2,.bl t,o2.sq.zF _,ay.aU cJ (r.same s2),ay.aU eY r2.rep,e,λv H' s3 r3=>?_⟩;cases r3;refine⟨t,rfl,?_⟩;cases t
    · exact q _ H' (s2.trans s3) (o2.sq.same s3) HF
    · exact⟨β2,a9,d2,k2,o2.sq.same s3,r2.rep.same s3,hc.mono d2 k2 β2 _ _ (λd' k' β' q' v zX s4 sq r4=>q' v zX ((s2.trans s3).trans s4) sq (r4.later ((o2.same s3).sn))) q⟩,
  (zL ho hb.pe hc.OW).pre λx σ H Q ⟨β,own,d,k,s,r,h⟩=>tQ.of hb s h λd2 k2 β2 v2 H2 a9 oC o2 r2=>by
    obtain⟨t,e,q⟩:=oC;obtain⟨s2,rfl⟩:=o2.pu rfl;refine⟨av C (Wn a9) (k.max k2),d,d2,.bl t,o2.sq.zF _,ay.aU cJ (r.same s2),ay.aU eY r2.rep,e,λv H' s3 r3=>?_⟩;cases r3;refine⟨t,rfl,?_⟩;cases t
    · obtain⟨b,eb,q⟩:=q;cases eb;exact q H' (s2.trans s3) (o2.sq.same s3)
    · exact⟨β2,a9,d2,k2,o2.sq.same s3,r2.rep.same s3,hc.mono d2 k2 β2 _ _ (λd' k' β' sX=>by obtain⟨b,eb,q'⟩:=sX;exact⟨b,eb,λzX s4 sq=>q' zX ((s2.trans s3).trans s4) sq⟩) q⟩⟩
def Ed (φa:aV)(φr:nJ):aV:=λβ R=>φa β λx k β1=>φr x k β1 R
theorem mS {kJ kG:VG}(ha:PQ X C true a φa)(hc:Kw X C (kJ::kG::ops) (b::c::rs) φr)(hm:lastMarks (kJ::kG::ops) (b::c::rs)=false:=by with_unfolding_all rfl):
  rE X C true (.Compare a (kJ::kG::ops) (b::c::rs) pos) (xO (Ed φa φr)) :=
 ⟨λβ R R' k h=>ha.mono β _ _ (λx kx β1 q=>hc.mono x kx β1 _ _ (λd kd β' E_=>by obtain⟨b,e,q⟩:=E_;exact⟨b,e,k _ _ q⟩) q) h,(vt ha.pe hc.OW hm).pre λσ H Q ⟨β,own,s,h⟩=>tQ.of ha s h λd k β1 v H1 aB q o1 r1=>by
  obtain⟨s1,rfl⟩:=o1.pu rfl;exact⟨β1,aB,d,k,o1.sq,r1.rep,hc.mono d k β1 _ _ (λd' k' β' yZ=>by obtain⟨b,e,q'⟩:=yZ;exact⟨b,e,λzX s4 sq=>q' zX aB ⟨sq,o1.sn.same s4,λ_=>⟨s1.trans s4,rfl⟩,o1.le⟩⟩) q⟩⟩
abbrev zW:=a7->(Option Int->a7->Prop)->Prop
structure Kv (X:Cx)(C:Cfg)(e:Option Expr)(φ:zW):Prop where
 mono:∀β R R',(∀d β,R d β->R' d β)->φ β R->φ β R'
 po:PO X e λσ H Q=>∃β own,SQ X C σ H β own/\φ β λo β'=>∀H',au H H'->SQ X C σ H' β' own->Q o H'
theorem kl:Kv X C none (λβ R=>R none β):=⟨λβ R R' k h=>k _ _ h,ur.pre λσ H Q yY=>by obtain⟨β,own,s,q⟩:=yY;exact q H (au.refl _) s⟩
theorem ki (ha:PQ X C true a φ):Kv X C (some a) (λβ R=>φ β λd _ β1=>∃i,d=.int i/\R (some i) β1) :=
 ⟨λβ R R' k h=>ha.mono β _ _ (λd _ β1 yX=>by obtain⟨i,e,q⟩:=yX;exact⟨i,e,k _ _ q⟩) h,(uq ha.pe).pre λσ H Q ⟨β,own,s,h⟩=>tQ.of ha s h λd k β1 v H1 aB E8 o1 r1=>by
  obtain⟨i,e,q⟩:=E8;subst e;cases r1.rep;obtain⟨s1,rfl⟩:=o1.pu rfl;exact⟨i,rfl,q H1 s1 o1.sq⟩⟩
def PL (φ:aV)(φl φh:zW):aV:=λβ R=>φ β λx k β1=>φl β1 λl β2=>φh β2 λh β3=>∃d,Kt x l h=some d/\kN NL d k.wk λk'=>R d k' β3
theorem Cu {k:Kd}:k.wk.wk=k.wk:=by cases k <;> rfl
theorem zQ {W:Addr->Prop}{k:Kd}:∀c,av C W k.wk c->av C W k c:=λc h=>by cases k <;> exact h
theorem xZ {lo hi:Option Expr}{φl φh:zW}{p2:Pos}(ha:PQ X C p a φ)(hl:Kv X C lo φl)(hh:Kv X C hi φh):PQ X C p (.Subscript a (.Slice lo hi none p2) pos) (PL φ φl φh) :=
 ⟨λβ R R' k h=>ha.mono β _ _ (λx kx β1 q=>hl.mono β1 _ _ (λl β2 q=>hh.mono β2 _ _ (λu β3 E7=>by obtain⟨d,e,q⟩:=E7;exact⟨d,e,q.mono λ_ z=>k _ _ _ z⟩) q) q) h,
  (pO Ay ha.pe hl.po hh.po).pre λσ H Q ⟨β,own,s,h⟩=>tQ.of ha s h λd k β1 v H1 aB q o1 r1 =>
    ⟨β1,aB,o1.sq,hl.mono β1 _ _ (λl β2 q H2 s2 Pt=>⟨β2,aB,Pt,hh.mono β2 _ _ (λu β3 E5 H3 s3 J3=>by
      obtain⟨d',e,q⟩:=E5;refine⟨av C (Wn aB) k.wk,d,d',J3.zF _,((ay.aU zQ r1.rep).same s2).same s3,e,λv H' s4 r4 n4=>?_⟩;obtain⟨k',q,r⟩:=KV.kN (Z:=(H,Wn own)) Cu r4 (λn=>hG (H:=H3) J3.wN J3.gK (λa z e=>o1.sn.d a z (s2.free (s3.free e))) n (n4 n)) q;exact q v H' aB ⟨J3.same s4,o1.sn.same ((s2.trans s3).trans s4),λz=>⟨(o1.pu z).1.trans ((s2.trans s3).trans s4),(o1.pu z).2⟩,o1.le⟩ r) q⟩) q⟩⟩
def GY (X:Cx)(f:List D->Option D)(N:D->Prop):List V->Hp->VK->Prop:=λxs H Q=>∃W ds d,Dm W H/\ir X W H ds xs/\f ds=some d/\∀v H',au H H'->Rp X W H' d v->(N d->Rp X (λa=>H a≠none) H' d v)->Q v H'
abbrev zY (X:Cx)(f:Sh)(g:List D->Option D)(N:D->Prop):Prop:=fQ X f (GY X g N)
theorem cB.m {f:Sh}{g:List D->Option D}(h:cB X f g):zY X f g NF:=λpins s σ H xs us Q I r ⟨W,ds,d,hd,r1,e,q⟩ =>
 h pins s σ H xs us Q I r ⟨W,ds,d,hd,r1,e,λv H' s r=>q v H' s r λf=>ay.flat f r⟩
def i8 (g:List D->Option D)(N:D->Prop)(φs:bM):aV:=λβ R=>φs β λds ks β1=>∃d,g ds=some d/\kN N d (fu ks) λk=>R d k β1
variable {x:Str}{pp:Pos}{id T:String}{gs:List D->Option D}
theorem i8.mono (h:oT X C p es φs):∀β R R',(∀d k β,R d k β->R' d k β)->i8 gs N φs β R->i8 gs N φs β R':=λβ R R' k q=>h.mono β _ _ (λds ks β1 Mz=>by obtain⟨d,e,q⟩:=Mz;exact⟨d,e,q.mono λ_ z=>k _ _ _ z⟩) q
theorem pL (hn:Ag N)(h:oT X C p es φs):∀σ H Q,tQ X C p (i8 gs N φs) σ H Q->KS (GY X gs N) (rq X C p φs) σ H Q:=λσ H Q ⟨β,own,s,q⟩=>rq.of h s q λds ks β1 vs H1 aB Mw o1 r1=>by
 obtain⟨d,e,q1⟩:=Mw;refine⟨av C (Wn aB) (fu ks),ds,d,o1.sq.zF _,r1.gz,e,λv H' s2 r2 n2=>?_⟩;obtain⟨k',q,r⟩:=KV.kN (Z:=(H,Wn own)) hZ r2 (λn=>hG (H:=H1) o1.sq.wN o1.sq.gK (λa z=>o1.sn.d a z) (hn.nl _ n) (n2 n)) q1;exact q v H' aB (o1.same s2) r
theorem cu (BP:Ag N)(hc:zY X (.builtin id) gs N)(hm:X.mg x=none)(hv:TV x=some (.builtin id))(ha:oT X C p (e::es) φs)(hg:Gl X x:=by rfl)(hn:x≠"__name__" := by decide)(hdb:(x==("__debug__" : Str))=false:=by decide)
  (qm:SX (e::es) X.env=(false,eval e X.env)::SX es X.env:=by rfl) (hpl:(UP pos (SX es X.env)).any (·.1)=false:=by rfl) :
  PQ X C p (.Call (.Name x pp) (e::es) [] pos) (i8 gs N φs):=⟨i8.mono ha,(pP hc hg hm hv ha.pa hn hdb (he:=qm) (hpl:=hpl)).pre (pL BP ha)⟩
theorem iJ (BP:Ag N)(hc:zY X (.type T) gs N)(hm:X.mg x=none)(hv:TV x=some (.type T))(ha:oT X C p (e::es) φs)(hg:Gl X x:=by rfl)(hn:x≠"__name__" := by decide)(hdb:(x==("__debug__" : Str))=false:=by decide)
  (qm:SX (e::es) X.env=(false,eval e X.env)::SX es X.env:=by rfl) (hpl:(UP pos (SX es X.env)).any (·.1)=false:=by rfl) :
  PQ X C p (.Call (.Name x pp) (e::es) [] pos) (i8 gs N φs):=⟨i8.mono ha,(mV hc hg hm hv ha.pa hn hdb (he:=qm) (hpl:=hpl)).pre (pL BP ha)⟩
end
def rj (P:So)(w:SI)(ro:Bool)(H H':Hp)(d:D)(v:V):Prop:=match ro with
 |true=>∃A,Own P w H' d v A/\A.Nodup/\∀c∈A,H c=none
 |false=>ay P w (λa=>H a≠none) H' d v
abbrev rk (ro:Bool):Kd:=match ro with|true=>.own|false=>.eh
def dw (P:So)(w:SI)(ro:Bool)(F:FD):Sp:=λvs H Q _=>∃ds,ah P w (λ_=>False) H ds vs/\F ds λd=>∀v H',au H H'->rj P w ro H H' d v->Q v H'
def eE (P:So)(w:SI)(ok:List Int->Prop)(ro:Bool)(F:FD):Sp:=λvs H Q _=>∃h vs' ds ns,vs=.ref h::vs'/\H h=some (.lst (ns.map V.int))/\ok ns/\ah P w (λa=>a=h) H ds vs' /\
 F ds λd=>∀v H' vE,Kp (·=h) H H'->(∀c,H c≠none->H' c≠none)->H' h=some (.lst (vE.map V.int))->ok vE->rj P w ro H H' d v->Q v H'
section
variable {X:Cx}{C:Cfg}{k ih:Nat}{f:Addr}{fd:Tn}{ps:List Str}{F:FD}{ro p:Bool}{x hx:Str}{pp pos px:Pos}{e:Expr}{es:List Expr}{φs:bM}{ok:List Int->Prop}{σ:St}{H H':Hp}{β:a7}{own:Nat->List Addr}{P:So}{w:SI}
theorem rj.kv {Z:Hp×(Addr->Prop)}{d:D}{v:V}(hd:Dm (Wn own) H)(h0:∀a,C.H0 a≠none->H a≠none)(hz:∀a,Z.1 a≠none->H a≠none)(h:rj P w ro H H' d v):KV P w C Z own H' (rk ro) d v:=by
 cases ro with
 |true =>
  obtain⟨A,h1,h2,h3⟩:=h;exact⟨A,h1,h2,λc hc=>⟨Ti λz=>hz c z (h3 c hc),λz=>hd c z (h3 c hc),Ti λz=>h0 c z (h3 c hc)⟩⟩
 |false=>exact ay.aU (λa z=>z.elim (hd a) (h0 a)) h
def Lj (ro:Bool)(F:FD)(φs:bM):aV:=λβ R=>φs β λds _ β1=>F ds λd=>R d (rk ro) β1
theorem aI (mF:du F)(G:aF X.prog X.w X.K X.mg X.base bB k f fd ps (dw X.prog X.w ro F))(hr:cW k X.A)(hm:X.mg x=some (.ref f))(hk:PySem.W.keepIn X.K (.ref f)=true)(hb:Binds X.K fd ps [])(ha:oT X C p (e::es) φs)(hg:Gl X x:=by rfl)
  (hdb:(x==("__debug__" : Str))=false:=by decide)
  (qm:SX (e::es) X.env=(false,eval e X.env)::SX es X.env:=by rfl) (hpl:(UP pos (SX es X.env)).any (·.1)=false:=by rfl) :
  PQ X C p (.Call (.Name x pp) (e::es) [] pos) (Lj ro F φs) :=
 ⟨λβ R R' k h=>ha.mono β _ _ (λds ks β1 q=>mF ds _ _ (λd q=>k _ _ _ q) q) h,(uy G hr hg hm hk hb .nil CD ha.pa (hdb:=hdb) (he:=qm) (hpl:=hpl)).pre λσ H Q ⟨β,own,s,h⟩=>rq.of ha s h λds ks β1 vs H1 aB q o1 r1=>by
  rw[Uo];exact⟨ds,r1.bor,mF ds _ _ (λd q2 v H' s2 r2=>q2 v H' aB (o1.same s2) (r2.kv o1.sq.wN o1.sq.gK λa z=>o1.sn.d a z)) q⟩⟩
theorem bS.drawn {i:Nat}{h:Addr}{vE:List Int}(b:bS P w C σ H β own)(e:β[i]?=some (some (.hand ok)))(hσ:σ[i]?=some (some (.ref h)))(k:Kp (·=h) H H')(e':H' h=some (.lst (vE.map V.int)))(o':ok vE)(dn:∀c,H c≠none->H' c≠none):bS P w C σ H' β own:=by
 obtain⟨a,ns,h1,h2,h3,h4,h5⟩:=b.mf i ok e;rw[hσ]at h1;cases h1;have wh:Wn own h:=⟨i,by rw[h4];simp⟩
 have kW:∀y,Kp (f_ C (Wn own) (yk y)) H H':=λy=>k.mono λc z=>by rw[z];cases y <;> first|exact .inl wh|exact .inl (.inl wh)
 have ne:∀j,j≠i->∀c∈own j,c≠h:=λj hj c hc z=>hj (b.lK j i c hc (by rw[h4,z];simp))
 refine⟨b.len,λj y d e=>let ⟨v,g1,g2⟩:=b.val j y d e;⟨v,g1,g2.keep (kW y)⟩,λj d ej=>?_,λj wK ej=>?_,λj c hc=>?_,b.lK,b.l_,⟨λc o z n=>?_,λc xs z=>k.tup c xs (b.kp.tup c xs z)⟩,λc z=>dn c (b.gK c z),λj y d ej=>by
  obtain⟨v,g1,g2,g3⟩:=b.shl j y d ej;have hj:j≠i:=λz=>by rw[z,e]at ej;cases ej
  exact⟨v,g1,g2.map (λc hc o eo=>k.out c o eo (ne j hj c hc)) (λ_ _ r=>r.keep (kW y)),g3⟩⟩
 ·obtain⟨v,g1,g2,g3⟩:=b.ow j d ej;have hj:j≠i:=λz=>by rw[z,e]at ej;cases ej
  exact⟨v,g1,g2.keep k.tup (λc hc o eo=>k.out c o eo (ne j hj c hc)),g3⟩
 ·by_cases hj:j=i
  ·subst hj;rw[e]at ej;cases ej;exact⟨h,vE,hσ,e',o',h4,h5⟩
  ·obtain⟨a,ms,g1,g2,g3,g4,g5⟩:=b.mf j wK ej;exact⟨a,ms,g1,k.out a _ g2 (ne j hj a (by rw[g4];simp)),g3,g4,g5⟩
 ·obtain⟨g1,g2,g3⟩:=b.dm j c hc
  by_cases qq:c=h
  ·rw[qq,e'];rw[qq]at g3;exact⟨λz=>(nomatch z),λxs z=>(by cases z),g3⟩
  ·cases q:H c with
   |none=>exact absurd q g1
   |some o=>rw[k.out c o q qq];exact⟨λz=>(nomatch z),λxs z=>g2 xs (by rw[q];exact z),g3⟩
 ·refine k.out c o (b.kp.out c o z n) λq=>?_;subst q;rcases (b.dm i c (by rw[h4];simp)).2.2.1 with z0|z0
  ·rw[z0]at z;cases z
  ·exact n z0
def G2 (ih:Nat)(ok:List Int->Prop)(ro:Bool)(F:FD)(φs:bM):aV:=λβ R=>β[ih]?=some (some (.hand ok))/\φs β λds ks β1=>β1[ih]?=some (some (.hand ok))/\hold (fu ks) false/\F ds λd=>R d (rk ro) β1
theorem aY (mF:du F)(G:aF X.prog X.w X.K X.mg X.base bB k f fd ps (eE X.prog X.w ok ro F))(hr:cW k X.A)(hm:X.mg x=some (.ref f))(hk:PySem.W.keepIn X.K (.ref f)=true)(hb:Binds X.K fd ps [])(ha:oT X C p es φs)(hN:X.N[ih]?=some hx:=by rfl)
  (hv:tS X.env.scope hx:=by first|exact .inl rfl|exact .inr (.inl rfl)|exact .inr (.inr rfl)) (hd:(hx==("__debug__" : Str))=false:=by decide) (gk:(hx==("__classdict__" : Str))=false:=by decide) (hg:Gl X x:=by rfl) (hdb:(x==("__debug__" : Str))=false:=by decide)
  (qm:SX (.Name hx px::es) X.env=(false,eval (.Name hx px) X.env)::SX es X.env:=by rfl) (hpl:(UP pos (SX es X.env)).any (·.1)=false:=by rfl) :
  PQ X C false (.Call (.Name x pp) (.Name hx px::es) [] pos) (G2 ih ok ro F φs) :=
 ⟨λβ R R' k Mu=>by obtain⟨e,h⟩:=Mu;exact⟨e,ha.mono β _ _ (λds ks β1 E4=>by obtain⟨e,hh,q⟩:=E4;exact⟨e,hh,mF ds _ _ (λd q=>k _ _ _ q) q⟩) h⟩,
  (uy G hr hg hm hk hb .nil CD (b5 (cT (pos:=px) hN hv hd gk) ha.pa qm) (hdb:=hdb) (he:=qm) (hpl:=hpl)).pre λσ H Q Mt=>by
  obtain⟨β,own,s,e,h⟩:=Mt;obtain⟨hh,ns,h1,h2,h3,h4⟩:=s.mf ih ok e;refine⟨.ref hh,h1,rq.of ha s h λds ks β1 vs H1 aB ⟨e1,ho,q⟩ o1 r1=>?_⟩;obtain⟨R1,PX,g1,g2,g3,g4,g5⟩:=o1.sq.mf ih ok e1;rw[h1]at g1;cases g1;have wh:Wn aB hh:=⟨ih,by rw[g4];simp⟩
  rw[Uo];refine⟨hh,vs,ds,PX,rfl,g2,g3,ah.aU (λa z=>?_) r1.gz,mF ds _ _ (λd q v H' vE kp dn e' wK r=>?_) q⟩
  ·subst z;cases hk:fu ks with
   |own=>exact .inl wh
   |eh=>exact .inl wh
   |old=>exact wh
   |bor=>rw[hk]at ho;exact ho.elim
  ·exact q v H' aB ⟨o1.sq.drawn e1 h1 kp e' wK dn,o1.sn.kp (kp.mono λb z=>by rw[z];exact wh) dn,λz=>(nomatch z),o1.le⟩ (r.kv o1.sq.wN o1.sq.gK λa z=>o1.sn.d a z)⟩
end
abbrev Cfg.z (C:Cfg):Cfg:=C.u λ_=>False
def SB (X:Cx)(C:Cfg)(Z:Hp×(Addr->Prop))(σ:St)(H:Hp)(β:a7):Prop:=∃own,SQ X C.z σ H β own/\Sn Z H (Wn own)
structure fq where
 nx:a7->Prop
 rt:D->a7->Prop
 bk:a7->Prop:=λ_=>False
 ct:a7->Prop:=λ_=>False
def fq.up (E:fq)(n:a7->Prop):fq:=⟨n,E.rt,E.bk,E.ct⟩
def fq.lp (E:fq)(n:a7->Prop):fq:=⟨n,E.rt,E.nx,n⟩
structure Rt (X:Cx)(C:Cfg)(Z:Hp×(Addr->Prop))(E:fq)(D:Ends):Prop where
 nx:∀σ H β,SB X C Z σ H β->E.nx β->D.nx σ H
 rt:∀σ H β d v,SB X C Z σ H β->rj X.prog X.w C.ro C.H0 H d v->E.rt d β->D.rt v H
 bk:∀σ H β,SB X C Z σ H β->E.bk β->D.bk σ H
 ct:∀σ H β,SB X C Z σ H β->E.ct β->D.ct σ H
structure Le (E E':fq):Prop where
 nx:∀β,E.nx β->E'.nx β
 rt:∀d β,E.rt d β->E'.rt d β
 bk:∀β,E.bk β->E'.bk β
 ct:∀β,E.ct β->E'.ct β
abbrev Dk:=fq->a7->Prop
def NR (X:Cx)(C:Cfg)(ψ:Dk):TS:=λD σ H=>∃Z E β,SB X C Z σ H β/\ψ E β/\Rt X C Z E D
structure PB (X:Cx)(C:Cfg)(st:Stmt)(ψ:Dk):Prop where
 mono:∀E E' β,Le E E'->ψ E β->ψ E' β
 ps:PS X st (NR X C ψ)
structure u0 (X:Cx)(C:Cfg)(st:List Stmt)(ψ:Dk):Prop where
 mono:∀E E' β,Le E E'->ψ E β->ψ E' β
 ps:oS X st (NR X C ψ)
section
variable {X:Cx}{C:Cfg}{st:Stmt}{rest a b:List Stmt}{ψ ψ1 ψ2:Dk}{Z:Hp×(Addr->Prop)}{σ:St}{H H':Hp}{β β':a7}{pos pos':Pos}{e c:Expr}{φ:aV}{τ:aZ}{p:Bool}{own aN:Nat->List Addr}{i:Nat}{x:Str}
theorem Out.sb (n:Sn Z H (Wn own))(o:Out X C.z σ H own p β' H' aN):SB X C Z σ H' β':=⟨aN,o.sq,n.trans o.sn⟩
theorem aS:u0 X C [] (λE β=>E.nx β):=⟨λE E' β l h=>l.nx β h,uk.pre λD σ H za=>by obtain⟨Z,E,β,sb,h,ok⟩:=za;exact ok.nx σ H β sb h⟩
theorem ai (h1:PB X C st ψ1)(h2:u0 X C rest ψ2):u0 X C (st::rest) (λE β=>ψ1 (E.up (ψ2 E)) β) :=
 ⟨λE E' β l h=>h1.mono {E with nx:=ψ2 E} {E' with nx:=ψ2 E'} β ⟨λβ' q=>h2.mono E E' β' l q,l.rt,l.bk,l.ct⟩ h,(dh h1.ps h2.ps).pre λD σ H ⟨Z,E,β,sb,h,ok⟩ =>
  ⟨Z,{E with nx:=ψ2 E},β,sb,h,⟨λσ' H' β' rX h'=>⟨Z,E,β',rX,h',ok⟩,ok.rt,ok.bk,ok.ct⟩⟩⟩
theorem aj (h1:PB X C st ψ):u0 X C [st] ψ:=⟨h1.mono,g6 h1.ps⟩
theorem dF (h1:PB X C st ψ1)(h2:u0 X C rest ψ2):u0 X C (st::rest) (λE β=>∃J:a7->Prop,ψ1 (E.up J) β/\∀β',J β'->ψ2 E β') :=
 ⟨λE E' β l yW=>by obtain⟨J,h,k⟩:=yW;exact⟨J,h1.mono {E with nx:=J} {E' with nx:=J} β ⟨λ_ q=>q,l.rt,l.bk,l.ct⟩ h,λβ' q=>h2.mono E E' β' l (k β' q)⟩,(dh h1.ps h2.ps).pre λD σ H ⟨Z,E,β,sb,⟨J,h,k⟩,ok⟩ =>
  ⟨Z,{E with nx:=J},β,sb,h,⟨λσ' H' β' rX h'=>⟨Z,E,β',rX,k β' h',ok⟩,ok.rt,ok.bk,ok.ct⟩⟩⟩
theorem vC:u0 X C a (λ_ _=>False):=⟨λ_ _ _ _ h=>h.elim,vw.pre λD σ H E1=>by obtain⟨Z,E,β,sb,h,ok⟩:=E1;exact h.elim⟩
theorem bJ (hc:rE X C.z p c τ)(ha:u0 X C a ψ1)(hb:u0 X C b ψ2):PB X C (.If c a b pos) (λE β=>τ β λt β'=>if t=true then ψ1 E β' else ψ2 E β') :=
 ⟨λE E' β l h=>hc.mono _ _ _ (λt β' q=>by
   cases t
   ·exact hb.mono E E' β' l q
   ·exact ha.mono E E' β' l q) h,(Cy hc.pt ha.ps hb.ps).pre λD σ H EZ=>by
  obtain⟨Z,E,β,⟨own,s,n⟩,h,ok⟩:=EZ;refine jr.of hc s h λt β' H1 aB q o1=>?_;cases t
  ·exact⟨Z,E,β',o1.sb n,q,ok⟩
  ·exact⟨Z,E,β',o1.sb n,q,ok⟩⟩
abbrev CQ (d:D)(k:Kd)(K:B->Prop):Prop:=match k with
 |.own=>K (.val true d)
 |.eh=>K (.val true d)
 |.old=>K (.val false d)
 |.bor=>d.flat=true/\K (.val true d)
theorem CQ.mono {d:D}{k:Kd}{K K':B->Prop}(h:∀b,K b->K' b)(q:CQ d k K):CQ d k K':=by
 cases k <;> first|exact h _ q|exact⟨q.1,h _ q.2⟩
theorem CQ.of {P:So}{w:SI}{d:D}{v:V}{k:Kd}{K:B->Prop}(r:KV P w C Z own H k d v)(q:CQ d k K):∃y,K (.val y d)/\ay P w (av C (Wn own) (yk y)) H d v:=by
 cases k with
 |own=>exact⟨true,q,r.eh⟩
 |eh=>exact⟨true,q,r⟩
 |old=>exact⟨false,q,r⟩
 |bor=>exact⟨true,q.2,ay.flat q.1 r⟩
theorem xA {own:Nat->List Addr}{i:Nat}(n:Sn Z H (Wn own)):Sn Z H (Wn (aP own i [])):=⟨λb z=>n.w b (eC z),n.k,n.d⟩
theorem a8 (he:PQ X C.z p e φ)(hN:X.N.Nodup)(hi:X.N[i]?=some x:=by rfl)(hx:Loc X.env.scope x:=by first|exact .inl rfl|exact .inr rfl)
  (hs:UU e (some (.Name x pos')) pos.line X.env=pure false:=by rfl) (hf:X.fn x=true\/X.env.scope.names.lookup x=some .local:=by first|exact .inl rfl|exact .inr rfl|assumption) :
  PB X C (.Assign [.Name x pos'] e pos) (λE β=>φ β λd k β'=>CQ d k λb=>E.nx (β'.set i (some b))) :=
 ⟨λE E' β l q=>he.mono _ _ _ (λd k β' q=>q.mono λ_=>l.nx _) q,(r9 hN hi hx he.pe hs hf).pre λD σ H ⟨Z,E,β,⟨own,s,n⟩,q,ok⟩=>tQ.of he s q λd k β' v H' aN q o r=>by
  obtain⟨y,q,r⟩:=q.of r;exact ok.nx _ _ _ ⟨_,o.sq.fD (ay.aU (λa z=>z.elim id λz=>z.elim) r),xA (n.trans o.sn)⟩ q⟩
abbrev Aa (k:Kd)(d:D):Prop:=match k with
 |.own=>True
 |_=>d.flat=true
theorem KV.fl {P:So}{w:SI}{d:D}{v:V}{k:Kd}(f:Aa k d)(r:KV P w C Z own H k d v):KV P w C Z own H .own d v:=by
 cases k with
 |own=>exact r
 |eh=>exact KV.flat f r.rep
 |old=>exact KV.flat f r.rep
 |bor=>exact KV.flat f r.rep
theorem dJ (he:∀U,PQ X (C.u U) p e φ)(hN:X.N.Nodup)(hi:X.N[i]?=some x:=by rfl)(hx:Loc X.env.scope x:=by first|exact .inl rfl|exact .inr rfl)
  (hs:UU e (some (.Name x pos')) pos.line X.env=pure false:=by rfl) (hf:X.fn x=true\/X.env.scope.names.lookup x=some .local:=by first|exact .inl rfl|exact .inr rfl|assumption) :
  PB X C (.Assign [.Name x pos'] e pos) (λE β=>φ β λd k β'=>Aa k d/\E.nx (β'.set i (some (.own d)))) :=
 ⟨λE E' β l q=>(he λ_=>False).mono _ _ _ (λd k β' q=>⟨q.1,l.nx _ q.2⟩) q,λpins s σ H D I ⟨Z,E,β,⟨own,sq,n⟩,q,ok⟩ =>
  r9 hN hi hx (he λa=>H a=none).pe hs hf pins s σ H D I (tQ.of (he λa=>H a=none) (sq.oY (C:=C.z) (U:=λa=>H a=none) λa z=>z) q λd k β' v H' aN Fb o r=>by
   obtain⟨f,q⟩:=Fb;obtain⟨A,h1,h2,h3⟩:=r.fl f;refine ok.nx _ _ _ ⟨_,o.sq.xG h1 h2 λc hc=>⟨(h3 c hc).2.2,(h3 c hc).2.1,(h3 c hc).1⟩,?_⟩ q;have m:=n.trans o.sn;exact⟨λb E_=>by
    obtain⟨j,hj⟩:=E_
    by_cases aJ:i=j
    ·rw[<- aJ,os_eq]at hj;exact .inr (n.free (h3 b hj).1)
    ·rw[bq aJ]at hj;exact m.w b ⟨j,hj⟩,m.k,m.d⟩)⟩
theorem bS.G6 {P:So}{w:SI}{U U2:Addr->Prop}{d d':D}{v:V}{A':List Addr}{c:Addr}{o:HO}(b:bS P w (C.u U) σ H β own)(e:β[i]?=some (some (.own d)))(hσ:σ[i]?=some (some v))(hc:c∈own i)
  (r:Own P w (upd H c o) d' v A') (nd:A'.Nodup) (hA:∀a∈A',a∈own i\/(C.H0 a=none/\¬ Wn own a/\U a)) (hU:∀a,U2 a->U a) (M8:∀a∈A',¬ U2 a):bS P w (C.u U2) σ (upd H c o) (β.set i (some (.own d'))) (aP own i A'):=by
 obtain⟨g1,g2,g3,g4⟩:=b.dm i c hc;obtain⟨oc,Fc⟩:∃oc,H c=some oc:=by
  cases q:H c with
  |none=>exact absurd q g1
  |some oc=>exact⟨oc,rfl⟩
 have ht:∀xs,oc≠.tup xs:=λxs z=>g2 xs (by rw[Fc,z])
 have k:Kp (·=c) H (upd H c o):=k9 Fc ht;have h0:∀a∈own i,C.H0 a=none:=by obtain⟨_,_,_,h⟩:=b.ow i d e;exact h
 have wc:Wn own c:=⟨i,hc⟩;have sub:∀y a,f_ (C.u U2) (Wn (aP own i A')) (yk y) a->f_ (C.u U) (Wn own) (yk y) a:=λy a h=>by
  have q:∀a,Wn (aP own i A') a->Wn own a\/U a:=λa y_=>by
   obtain⟨j,q⟩:=y_
   by_cases aJ:i=j
   ·rw[aJ,os_eq]at q;rcases hA a q with z|z
    ·exact .inl ⟨i,z⟩
    ·exact .inr z.2.2
   ·rw[bq aJ]at q;exact .inl ⟨j,q⟩
  rcases h with h|h
  ·cases y with
   |true=>exact h.elim (λz=>(q a z).imp .inl id) λz=>.inl (.inr z)
   |false=>exact q a h
  ·exact .inr (hU a h)
 have mem:∀{j c},c∈aP own i A' j->(i=j/\c∈A')\/(i≠j/\c∈own j):=λ{j c} h=>by
  by_cases aJ:i=j
  ·subst aJ;rw[os_eq]at h;exact .inl ⟨rfl,h⟩
  ·rw[bq aJ]at h;exact .inr ⟨aJ,h⟩
 have J8:∀j,i≠j->∀a∈own j,a≠c:=λj aJ a ha z=>aJ (b.lK i j c hc (by rw[<- z];exact ha))
 refine⟨by simp[b.len],λj y' d2 e2=>?_,λj d2 e2=>?_,λj ok e2=>?_,λj a h=>?_,λj k2 a h1 h2=>?_,λj=>?_,⟨λa oa z n=>?_,λa xs z=>k.tup a xs (b.kp.tup a xs z)⟩,λa z=>?_,λj y' d2 e2=>by
  by_cases aJ:i=j
  ·subst aJ;obtain⟨e',hl⟩:=bj e2;cases e'
  ·rw[bc aJ]at e2;rw[bq aJ];obtain⟨u,h1,h2,h3⟩:=b.shl j y' d2 e2;exact⟨u,h1,h2.map (λa ha oa ea=>k.out a oa ea (J8 j aJ a ha)) (λ_ _ r=>ah.aU (sub _) (r.keep (k.mono λa z=>by rw[z];cases y' <;> first|exact .inl wc|exact .inl (.inl wc)))),h3⟩⟩
 ·by_cases aJ:i=j
  ·subst aJ;obtain⟨e',hl⟩:=bj e2;cases e'
  ·rw[bc aJ]at e2;obtain⟨u,h1,h2⟩:=b.val j y' d2 e2;exact⟨u,h1,(h2.keep (k.mono λa z=>by rw[z];cases y' <;> first|exact .inl wc|exact .inl (.inl wc))).aU (sub _)⟩
 ·by_cases aJ:i=j
  ·subst aJ;obtain⟨e',hl⟩:=bj e2;cases e';rw[os_eq];exact⟨v,hσ,r,λa ha=>(hA a ha).elim (h0 a) λz=>z.1⟩
  ·rw[bc aJ]at e2;rw[bq aJ];obtain⟨u,h1,h2,h3⟩:=b.ow j d2 e2;exact⟨u,h1,h2.keep k.tup (λa ha oa ea=>k.out a oa ea (J8 j aJ a ha)),h3⟩
 ·by_cases aJ:i=j
  ·subst aJ;obtain⟨e',hl⟩:=bj e2;cases e'
  ·rw[bc aJ]at e2;rw[bq aJ];obtain⟨a,ns,h1,h2,h3,h4,h5⟩:=b.mf j ok e2;exact⟨a,ns,h1,k.out a _ h2 (J8 j aJ a (by rw[h4];simp)),h3,h4,h5⟩
 ·rcases mem h with⟨_,h⟩|⟨aJ,h⟩
  ·exact⟨(r.lY a h).1,(r.lY a h).2,.inl ((hA a h).elim (h0 a) λz=>z.1),M8 a h⟩
  ·obtain⟨q1,q2,q3,q4⟩:=b.dm j a h;rw[ak (J8 j aJ a h)];exact⟨q1,q2,q3,λz=>q4 (hU a z)⟩
 ·rcases mem h1 with⟨e1,h1⟩|⟨n1,h1⟩
  ·rcases mem h2 with⟨e2,h2⟩|⟨n2,h2⟩
   ·rw[<- e1,<- e2]
   ·rcases hA a h1 with z|z
    ·exact absurd (b.lK i k2 a z h2) n2
    ·exact absurd ⟨k2,h2⟩ z.2.1
  ·rcases mem h2 with⟨e2,h2⟩|⟨n2,h2⟩
   ·rcases hA a h2 with z|z
    ·exact absurd (b.lK i j a z h1) n1
    ·exact absurd ⟨j,h1⟩ z.2.1
   ·exact b.lK j k2 a h1 h2
 ·by_cases aJ:i=j
  ·rw[<- aJ,os_eq];exact nd
  ·rw[bq aJ];exact b.l_ j
 ·refine k.out a oa (b.kp.out a oa z n) λq=>?_;subst q;rw[h0 a hc]at z;cases z
 ·by_cases OO:a=c
  ·rw[OO,ar];exact λz=>(nomatch z)
  ·rw[ak OO];exact b.gK a z
theorem bS.putIn {P:So}{w:SI}{U:Addr->Prop}{d d':D}{v:V}{A':List Addr}{c:Addr}{o:HO}(b:bS P w (C.u U) σ H β own)(e:β[i]?=some (some (.own d)))(hσ:σ[i]?=some (some v))(hc:c∈own i)
  (r:Own P w (upd H c o) d' v A') (nd:A'.Nodup) (hA:∀a∈A',a∈own i\/(C.H0 a=none/\¬ Wn own a/\U a)):bS P w C.z σ (upd H c o) (β.set i (some (.own d'))) (aP own i A') :=
 b.G6 (U2:=λ_=>False) e hσ hc r nd hA (λ_ z=>z.elim) λ_ _ z=>z
theorem rV {A':List Addr}{c:Addr}{o:HO}{U:Addr->Prop}(n:Sn Z H (Wn own))(m:∀a,U a->Z.1 a=none)(hc:Wn own c)(Fc:∃oc,H c=some oc/\∀xs,oc≠.tup xs)(hA:∀a∈A',a∈own i\/(C.H0 a=none/\¬ Wn own a/\U a)):Sn Z (upd H c o) (Wn (aP own i A')):=by
 obtain⟨oc,h1,h2⟩:=Fc;have u:=Sn.upd (o':=o) n h1 h2 hc;exact⟨λb yZ=>by
  obtain⟨j,hj⟩:=yZ
  by_cases aJ:i=j
  ·rw[<- aJ,os_eq]at hj;rcases hA b hj with z|z
   ·exact n.w b ⟨i,z⟩
   ·exact .inr (m b z.2.2)
  ·rw[bq aJ]at hj;exact n.w b ⟨j,hj⟩,u.k,u.d⟩
theorem bS.kY {P:So}{w:SI}{ds:List D}(b:bS P w C σ H β own)(e:β[i]?=some (some (.own (.lst ds)))):∃a vs A',σ[i]?=some (some (.ref a))/\H a=some (.lst vs)/\own i=a::A'/\aG P w H ds vs A':=by
 obtain⟨v,h1,⟨a,vs,A',rfl,h2,h3,h4⟩,_⟩:=b.ow i _ e;exact⟨a,vs,A',h1,h2,h3,h4⟩
variable {px ap cp:Pos}
theorem c8 (he:∀U,PQ X (C.u U) p e φ)(hN:X.N[i]?=some x:=by rfl)(hv:tS X.env.scope x:=by first|exact .inl rfl|exact .inr (.inl rfl)|exact .inr (.inr rfl))(hd:(x==("__debug__" : Str))=false:=by decide)(gk:(x==("__classdict__" : Str))=false:=by decide)
  (fK:Vo (.Name x px) "append" X.env (eval (.Name x px) X.env)=eval (.Name x px) X.env:=by rfl)
  (sZ:((UP cp (SX [e] X.env)).all (λx=>!x.1)&&(backToKw cp (W_ [] X.env)).all (λx=>x.1.isSome)&&decide ([e].length+([]:List Wz).length+(if ([]:List Wz).isEmpty then 0 else 1)<30))=true:=by rfl)
  (fJ:(ap.endLine==cp.line)=true:=by rfl) (hs:SX [e] X.env=(false,eval e X.env)::SX [] X.env:=by rfl) (gE:(UP cp (SX [] X.env)).any (·.1)=false:=by rfl)
  (uI:UU (.Call (.Attribute (.Name x px) "append" ap) [e] [] cp) none pos.line X.env=pure false:=by rfl) :
  PB X C (.Expr (.Call (.Attribute (.Name x px) "append" ap) [e] [] cp) pos) (λE β=>(∃ds,β[i]?=some (some (.own (.lst ds))))/\φ β λd k β'=>Aa k d/\∃ds,β'[i]?=some (some (.own (.lst ds)))/\ds.length<SG/\E.nx (β'.set i (some (.own (.lst (ds++[d])))))):=by
 refine⟨λE E' β l yY=>by obtain⟨h1,q⟩:=yY;exact⟨h1,(he λ_=>False).mono _ _ _ (λd k β' yX=>by obtain⟨f,ds,h1,h2,q⟩:=yX;exact⟨f,ds,h1,h2,l.nx _ q⟩) q⟩,λpins s σ H D I ⟨Z,E,β,⟨own,sq,n⟩,⟨⟨OV,hb⟩,q⟩,ok⟩=>?_⟩
 refine n_ (pos:=pos) (ye (apos:=ap) (cpos:=cp) PySem.F.plainAttrs_list PySem.F.slot_list_append PySem.F.type_list_append iN (cT (pos:=px) hN hv hd gk) (b5 (he λa=>H a=none).pe eM hs) fK sZ fJ hs gE) uI pins s σ H D I ?_;obtain⟨a,vs,A',h1,h2,h3,h4⟩:=sq.kY hb;refine⟨.ref a,h1,.inl ⟨rfl,vs,cE.of h2⟩,tQ.of (he λa=>H a=none) (sq.oY (C:=C.z) (U:=λa=>H a=none) λa z=>z) q λd k β' v H1 aB ⟨f,ds,ji,hl,q⟩ o r=>?_⟩;obtain⟨a',vs',A1,g1,g2,g3,g4⟩:=o.sq.kY ji;rw[h1]at g1;cases g1;obtain⟨A,r1,r2,r3⟩:=r.fl f;have ha:a∈aB i:=by rw[g3];simp
 have nd:(a::(A1++A)).Nodup:=by
  have q:=o.sq.l_ i;rw[g3]at q;refine S4.mpr ⟨λz=>?_,TC.mpr ⟨(S4.mp q).2,r2,λx hx y hy e=>?_⟩⟩
  ·rcases SO.mp z with z|z
   ·exact(S4.mp q).1 z
   ·exact(r3 a z).2.1 ⟨i,ha⟩
  ·subst e;exact(r3 x hy).2.1 ⟨i,by rw[g3];simp[hx]⟩
 have hA:∀b∈a::(A1++A),b∈aB i\/(C.H0 b=none/\¬ Wn aB b/\H b=none):=λb hb=>by
  rcases Sr.mp hb with rfl|hb
  ·exact .inl ha
  ·rcases SO.mp hb with hb|hb
   ·exact .inl (by rw[g3];simp[hb])
   ·exact .inr ⟨(r3 b hb).2.2,(r3 b hb).2.1,(r3 b hb).1⟩
 have kt:∀b xs,H1 b=some (.tup xs)->upd H1 a (.lst (vs'++[v])) b=some (.tup xs):=λb xs z=>by
  rw[ak (λz'=>by rw[z',g2]at z;cases z)];exact z
 have ne1:∀c∈A1,c≠a:=λc hc z=>by
  have q:=o.sq.l_ i;rw[g3]at q;exact(S4.mp q).1 (by rw[<- z];exact hc)
 have ne2:∀c∈A,c≠a:=λc hc z=>(r3 c hc).2.1 ⟨i,by rw[z];exact ha⟩
 have r':Own X.prog X.w (upd H1 a (.lst (vs'++[v]))) (.lst (ds++[d])) (.ref a) (a::(A1++A)) :=
  ⟨a,vs'++[v],A1++A,rfl,ar,rfl,(g4.keep kt λc hc oc ec=>by rw[ak (ne1 c hc)];exact ec).append (aG.one (r1.keep kt λc hc oc ec=>by rw[ak (ne2 c hc)];exact ec))⟩
 exact⟨a,vs',v,rfl,rfl,g2,by rw[g4.length];exact hl,ok.nx _ _ _ ⟨_,o.sq.putIn ji h1 ha r' nd hA,rV (n.trans o.sn) (λb z=>n.free z) ⟨i,ha⟩ ⟨_,g2,λxs z=>by cases z⟩ hA⟩ q⟩
end
abbrev c6:=D->Kd->a7->(a7->Prop)->Prop
abbrev nK:=List D->Kd->a7->(a7->Prop)->Prop
structure wC (X:Cx)(C:Cfg)(tg:Expr)(T:List Nat)(γ:c6):Prop where
 mono:∀d k β R R',(∀r,R r->R' r)->γ d k β R->γ d k β R'
 pg:PG X tg λv σ H Q=>∃own β d k,SQ X C σ H β own/\Rp X (f_ C (Wn own) k) H d v/\γ d k β λβ'=>∀σ' aN,SQ X C σ' H β' aN->(∀a,Wn aN a->Wn own a)->(∀j,j∉T->σ'[j]?=σ[j]?)->Q σ' H
structure Cr (X:Cx)(C:Cfg)(va:List Expr)(T:List Nat)(γ:nK):Prop where
 mono:∀d k β R R',(∀r,R r->R' r)->γ d k β R->γ d k β R'
 N3:Dl X va λvs σ H Q=>∃own β ds k,SQ X C σ H β own/\ir X (f_ C (Wn own) k) H ds vs/\γ ds k β λβ'=>∀σ' aN,SQ X C σ' H β' aN->(∀a,Wn aN a->Wn own a)->(∀j,j∉T->σ'[j]?=σ[j]?)->Q σ' H
section
variable {X:Cx}{C:Cfg}{tg:Expr}{va:List Expr}{γ:c6}{γs:nK}{T T':List Nat}{pos:Pos}{e:Expr}{φ:aV}{p:Bool}
def QT (i:Nat):c6:=λd k β R=>CQ d k λb=>R (β.set i (some b))
theorem ao {i:Nat}{x:Str}(hN:X.N.Nodup)(hi:X.N[i]?=some x:=by rfl)(hx:Loc X.env.scope x:=by first|exact .inl rfl|exact .inr rfl)
  (hf:X.fn x=true\/X.env.scope.names.lookup x=some .local:=by first|exact .inl rfl|exact .inr rfl|assumption):wC X C (.Name x pos) [i] (QT i) :=
 ⟨λd k β R R' h q=>CQ.mono (d:=d) (k:=k) (K:=λb=>R (β.set i (some b))) (K':=λb=>R' (β.set i (some b))) (λ_=>h _) q,(AW hN hi hx hf).pre λv σ H Q za=>by
  obtain⟨own,β,d,k,s,r,q⟩:=za;have J4:∀(v:V) (j:Nat),j∉[i]->(σ.set i (some v))[j]?=σ[j]?:=λv j hj=>bc (T5 (by simpa using hj))
  cases k with
  |own=>exact q _ _ (s.fD (y:=true) r) (λa h=>eC h) (J4 v)
  |eh=>exact q _ _ (s.fD (y:=true) r) (λa h=>eC h) (J4 v)
  |old=>exact q _ _ (s.fD (y:=false) r) (λa h=>eC h) (J4 v)
  |bor=>exact q.2 _ _ (s.fD (y:=true) (ay.flat q.1 r)) (λa h=>eC h) (J4 v)⟩
abbrev sk (k:Kd):D->Kd
 |.int _=>.own
 |.bl _=>.own
 |.bX=>.own
 |.str _=>.own
 |_=>k.wk
theorem nU {P:So}{w:SI}{W:Addr->Prop}{H:Hp}{k:Kd}{d:D}{v:V}(r:ay P w (f_ C W k) H d v):ay P w (f_ C W (sk k d)) H d v:=by
 cases d with
 |int i=>exact ay.flat rfl r
 |bl i=>exact ay.flat rfl r
 |bX=>exact ay.flat rfl r
 |str i=>exact ay.flat rfl r
 |_=>exact ay.aU (λa z=>z.imp (zQ a) id) r
def Fp:nK:=λds _ β R=>ds=[]/\R β
def zk (γ:c6)(γs:nK):nK:=λds k β R=>∃d r,ds=d::r/\γ d (sk k d) β λβ'=>γs r k β' R
theorem cM:Cr X C [] [] Fp:=⟨λd k β R R' h q=>⟨q.1,h _ q.2⟩,AV.pre λvs σ H Q BL=>by
 obtain⟨own,β,ds,k,s,r,e,q⟩:=BL;subst e;exact⟨r,q σ own s (λ_ z=>z) λ_ _=>rfl⟩⟩
theorem aW (h1:wC X C tg T γ)(h2:Cr X C va T' γs)(hs:(UB (tg::va) X.env).map (·.2)=assign tg X.env::(UB va X.env).map (·.2):=by rfl):Cr X C (tg::va) (T++T') (zk γ γs) :=
 ⟨λds k β R R' h yW=>by obtain⟨d,r,e,q⟩:=yW;exact⟨d,r,e,h1.mono _ _ β _ _ (λβ' q=>h2.mono r k β' _ _ h q) q⟩,
  (yc h1.pg h2.N3 hs).pre λvs σ H Q Ii=>by
    obtain⟨own,β,ds,k,s,rr,d,r,e,q⟩:=Ii;subst e;obtain⟨v,vr,rfl,rv,Pz⟩:=rr;exact⟨v,vr,rfl,own,β,d,_,s,nU rv,h1.mono _ _ β _ _ (λβ' q σ' aN s' w' t'=>⟨aN,β',r,k,s',ah.aU (ij w' k) Pz,h2.mono r k β' _ _ (λβ2 q2 σ2 a9 s2 w2 t2=>q2 σ2 a9 s2 (λa z=>w' a (w2 a z)) λj hj=>(t2 j λz=>hj (Th _ z)).trans (t' j λz=>hj (T3 _ z))) q⟩) q⟩⟩
def QS (n:Nat)(γs:nK):c6:=λd k β R=>∃ds,d=.tup ds/\ds.length=n/\γs ds k β R
theorem dG {k:Nat}{n:Nat}(hc:X.calm=true)(h:Cr X C va T γs)(hn:(UB va X.env).length=n:=by rfl)(Ia:(UB va X.env).findIdx? (·.1)=none:=by rfl):wC X C (.Tuple va k pos) T (QS n γs) :=
 ⟨λd k β R R' hh E3=>by obtain⟨ds,e,l,q⟩:=E3;exact⟨ds,e,l,h.mono ds k β _ _ hh q⟩,(Ei hc h.N3 hn Ia).pre λv σ H Q E2=>by
  obtain⟨own,β,d,k,s,r,ds,e,l,q⟩:=E2;subst e;obtain⟨a,vs,rfl,ha,rs⟩:=r;exact⟨a,vs,rfl,tU.of ha,by rw[rs.length];exact l,own,β,ds,k,s,rs,q⟩⟩
theorem gW {Z:Hp×(Addr->Prop)}{H:Hp}{own aN:Nat->List Addr}(n:Sn Z H (Wn own))(h:∀a,Wn aN a->Wn own a):Sn Z H (Wn aN):=⟨λb z=>n.w b (h b z),n.k,n.d⟩
theorem sv (he:PQ X C.z p e φ)(hg:wC X C.z tg T γ)(hs:swapsWithSole [tg] e pos.line X.env=pure false:=by rfl)(hw:swappedStores [tg] e X.env=pure none:=by rfl)
  (h1:(UB [tg] X.env).map (·.2)=[assign tg X.env]:=by rfl):PB X C (.Assign [tg] e pos) (λE β=>φ β λd k β'=>γ d k β' E.nx) :=
 ⟨λE E' β l q=>he.mono _ _ _ (λd k β' q=>hg.mono _ _ _ _ _ l.nx q) q,(og he.pe hg.pg hs hw h1).pre λD σ H ⟨Z,E,β,⟨own,s,n⟩,q,ok⟩=>tQ.of he s q λd k β' v H' aN q o r =>
  ⟨aN,β',d,k,o.sq,ay.aU (λa z=>z.elim id λz=>z.elim) r.rep,hg.mono _ _ _ _ _ (λβ2 q σ2 a9 s2 w2 _=>ok.nx _ _ _ ⟨a9,s2,gW (n.trans o.sn) w2⟩ q) q⟩⟩
abbrev Oh (ro:Bool)(k:Kd)(d:D):Prop:=match k,ro with
 |.own,_=>True
 |.eh,false=>True
 |_,_=>d.flat=true
theorem d6 {P:So}{w:SI}{W:Addr->Prop}{ro:Bool}{H H':Hp}{d:D}{v:V}(f:d.flat=true)(r:ay P w W H' d v):rj P w ro H H' d v:=by
 cases ro with
 |true=>exact⟨[],dj f r,Tv,λc hc=>(nomatch hc)⟩
 |false=>exact ay.flat f r
theorem Bp {P:So}{w:SI}{Z:Hp×(Addr->Prop)}{own:Nat->List Addr}{ro:Bool}{H':Hp}{k:Kd}{d:D}{v:V}(f:Oh ro k d)(r:KV P w C Z own H' k d v):rj P w ro C.H0 H' d v:=by
 cases k with
 |own =>
  cases ro with
  |true=>obtain⟨A,h1,h2,h3⟩:=r;exact⟨A,h1,h2,λc hc=>(h3 c hc).2.2⟩
  |false=>exact ay.aU (λa z=>.inr z) r.rep
 |eh =>
  cases ro with
  |true=>exact d6 f r.rep
  |false=>exact ay.aU (λa z=>.inr z) r.rep
 |old=>cases ro <;> exact d6 f r.rep
 |bor=>cases ro <;> exact d6 f r.rep
theorem aX (he:PQ X C.z p e φ):PB X C (.Return (some e) pos) (λE β=>φ β λd k β'=>Oh C.ro k d/\E.rt d β') :=
 ⟨λE E' β l q=>he.mono _ _ _ (λd k β' q=>⟨q.1,l.rt _ _ q.2⟩) q,(iI he.pe).pre λD σ H EZ=>by obtain⟨Z,E,β,⟨own,s,n⟩,q,ok⟩:=EZ;exact tQ.of he s q λd k β' v H' aN q o r=>ok.rt _ _ _ _ _ (o.sb n) (Bp (C:=C.z) q.1 r) q.2⟩
theorem jJ {i:Nat}{x:Str}{px:Pos}(hN:X.N[i]?=some x:=by rfl)(hv:tS X.env.scope x:=by first|exact .inl rfl|exact .inr (.inl rfl)|exact .inr (.inr rfl))(hd:(x==("__debug__" : Str))=false:=by decide)(gk:(x==("__classdict__" : Str))=false:=by decide):
  PB X C (.Return (some (.Name x px)) pos) (λE β=>∃d,β[i]?=some (some (.own d))/\E.rt d β) :=
 ⟨λE E' β l oC=>by obtain⟨d,h1,q⟩:=oC;exact⟨d,h1,l.rt _ _ q⟩,(iI (cT (pos:=px) hN hv hd gk)).pre λD σ H sX=>by
  obtain⟨Z,E,β,⟨own,s,n⟩,⟨d,h1,q⟩,ok⟩:=sX;obtain⟨v,e1,r,h0⟩:=s.ow i d h1;refine⟨_,e1,ok.rt _ _ _ _ _ ⟨own,s,n⟩ ?_ q⟩;cases hr:C.ro with
  |true=>exact⟨_,r,s.l_ i,h0⟩
  |false=>exact r.rep λc hc z=>z (h0 c hc)⟩
end
abbrev cg:=a7->(List D->Kd->a7->Prop)->Prop
structure uZ (X:Cx)(C:Cfg)(p:Bool)(tg iter:Expr)(ι:cg):Prop where
 mono:∀β R R',(∀d k β,R d k β->R' d k β)->ι β R->ι β R'
 pi:PI X tg iter λσ H R=>∃β own,SQ X C σ H β own/\ι β λds k β'=>∀J H' aN,Out X C σ H own p β' H' aN->tY X (av C (Wn aN) k) J ds H'->R J H'
section
variable {X:Cx}{C:Cfg}{tg e a b:Expr}{φ:aV}{φs:bM}{p:Bool}{pp pos:Pos}
def LW (φ:aV):cg:=λβ R=>φ β λd k β'=>∃ds,d=.lst ds/\R ds k β'
theorem bp (h:PQ X C p e φ):uZ X C p tg e (LW φ) :=
 ⟨λβ R R' k q=>h.mono β _ _ (λd kd β' Fb=>by obtain⟨ds,e,q⟩:=Fb;exact⟨ds,e,k _ _ _ q⟩) q,(oj h.pe).pre λσ H R ⟨β,own,s,q⟩=>tQ.of h s q λd k β' v H1 aB y_ o1 r1=>by
  obtain⟨ds,e,q1⟩:=y_;subst e;obtain⟨a,vs,rfl,h1,n1,q2⟩:=r1.rep;exact⟨a,rfl,⟨vs,cE.of h1⟩,q1 _ _ aB o1 (lj h1 n1 q2)⟩⟩
def BI (φs:bM):cg:=λβ R=>φs β λds _ β'=>∃j:Int,ds=[.int j]/\-(2 ^ 62)<=j/\j<2 ^ 62/\R (l6 0 j.toNat) .eh β'
def uH (φs:bM):cg:=λβ R=>φs β λds _ β'=>∃i j:Int,ds=[.int i,.int j]/\(-(2 ^ 62)<=i/\i<2 ^ 62/\-(2 ^ 62)<=j/\j<2 ^ 62)/\R (l6 i (j-i).toNat) .eh β'
theorem bz (hm:X.mg "range" = none) (ha:oT X C p [a] φs) (hg:Gl X "range" := by rfl) (hs:SX [a] X.env=[(false,eval a X.env)]:=by rfl):uZ X C p tg (.Call (.Name "range" pp) [a] [] pos) (BI φs) :=
 ⟨λβ R R' k q=>ha.mono β _ _ (λd kd β' E9=>by obtain⟨j,e,h1,h2,q⟩:=E9;exact⟨j,e,h1,h2,k _ _ _ q⟩) q,(vB hg hm ha.pa hs).pre λσ H R ⟨β,own,s,q⟩=>rq.of ha s q λds ks β' vs H1 aB E7 o1 r1=>by
  obtain⟨j,e,h1,h2,q1⟩:=E7;subst e;obtain⟨x,rfl,hx⟩:=ik r1.gz;cases hx;exact⟨j,rfl,h1,h2,q1 _ _ aB o1 iS⟩⟩
theorem km (hm:X.mg "range" = none) (ha:oT X C p [a,b] φs) (hg:Gl X "range" := by rfl) (hs:SX [a,b] X.env=[(false,eval a X.env),(false,eval b X.env)]:=by rfl) (lX:SX [b] X.env=[(false,eval b X.env)]:=by rfl) :
  uZ X C p tg (.Call (.Name "range" pp) [a,b] [] pos) (uH φs) :=
 ⟨λβ R R' k q=>ha.mono β _ _ (λd kd β' E6=>by obtain⟨i,j,e,h1,q⟩:=E6;exact⟨i,j,e,h1,k _ _ _ q⟩) q,(mT hg hm ha.pa hs lX).pre λσ H R ⟨β,own,s,q⟩=>rq.of ha s q λds ks β' vs H1 aB MA o1 r1=>by
  obtain⟨i,j,e,h1,q1⟩:=MA;subst e;obtain⟨x,y,rfl,hx,hy⟩:=q_ r1.gz;cases hx;cases hy;exact⟨i,j,rfl,h1,q1 _ _ aB o1 iS⟩⟩
end
def BX (γ:c6)(ψ:Dk)(E:fq)(ds:List D)(k:Kd)(β:a7):Prop:=∃I:Nat->a7->Prop,I 0 β/\(∀i d β,ds[i]?=some d->I i β->γ d (sk k d) β λβ1=>ψ (E.lp (I (i+1))) β1)/\∀β,I ds.length β->E.nx β
section
variable {X:Cx}{C:Cfg}{tg iter c:Expr}{γ:c6}{T:List Nat}{ψ:Dk}{ι:cg}{τ:aZ}{body:List Stmt}{pos:Pos}{p:Bool}
theorem BX.mono {E E':fq}{ds:List D}{k:Kd}{β:a7}(hγ:∀d k β R R',(∀r,R r->R' r)->γ d k β R->γ d k β R')(hψ:∀E E' β,Le E E'->ψ E β->ψ E' β)(l:Le E E'):BX γ ψ E ds k β->BX γ ψ E' ds k β:=λ⟨I,h0,h1,h2⟩ =>
 ⟨I,h0,λi d β e q=>hγ d _ β _ _ (λβ1 q=>hψ {nx:=I (i+1),rt:=E.rt,bk:=E.nx,ct:=I (i+1)} {nx:=I (i+1),rt:=E'.rt,bk:=E'.nx,ct:=I (i+1)} β1 ⟨λ_ q=>q,l.rt,l.nx,λ_ q=>q⟩ q) (h1 i d β e q),λβ q=>l.nx _ (h2 β q)⟩
theorem Cm {own a9:Nat->List Addr}{H H2:Hp}{k:Kd}(n:Sn (H,Wn own) H2 (Wn a9)):∀b,av C (Wn a9) k b->av C (Wn own) k b\/H b=none:=λb z=>by
 cases k with
 |own=>exact z.elim (λz=>(n.w b z).imp .inl id) λz=>.inl (.inr z)
 |eh=>exact z.elim (λz=>(n.w b z).imp .inl id) λz=>.inl (.inr z)
 |old=>exact n.w b z
 |bor=>exact z.elim
theorem di (hp:PassesOwn (model X.prog X.w) X.A X.env X.xe)(hc:X.calm=true)(hi:uZ X C.z p tg iter ι)(hg:wC X C.z tg T γ)(hb:u0 X C body ψ)(hs:∀x,TB iter X.env x=pure x:=by intro _;rfl):
  PB X C (.For tg iter body [] pos) (λE β=>ι β λds k β1=>hold k false/\BX γ ψ E ds k β1) :=
 ⟨λE E' β l q=>hi.mono _ _ _ (λds k β1 q=>⟨q.1,q.2.mono hg.mono hb.mono l⟩) q,(xV hp hc hi.pi hg.pg hb.ps hs).pre λD σ H My=>by
  obtain⟨Z,E,β,⟨own,s,n⟩,q,ok⟩:=My;refine⟨β,own,s,hi.mono _ _ _ (λds k β1 ⟨hk,I,i0,i1,i2⟩ J H1 aB o1 it=>?_) q⟩;have n':=n.trans o1.sn;have ig:∀b,Wn aB b\/H1 b=none->av C.z (Wn aB) k b\/H1 b=none:=λb z=>by
   cases k with
   |own=>exact z.imp .inl id
   |eh=>exact z.imp .inl id
   |old=>exact z
   |bor=>exact hk.elim
  have F2:=it (λb=>av C.z (Wn aB) k b\/H1 b=none) λb z=>z;refine⟨λi m σ H=>i<=ds.length/\m=ds.length-i/\∃β,SB X C (H1,Wn aB) σ H β/\I i β,⟨_,SH _,rfl,β1,⟨aB,o1.sq,Sn.refl⟩,i0⟩,?_⟩;rintro i m σ2 H2 ⟨hi,rfl,β2,⟨a9,s2,n2⟩,hl⟩;obtain⟨cz,oA⟩:=F2 i H2 (n2.k.mono ig)
  by_cases fz:i<ds.length
  ·right
   have hd:ds[i]?=some ds[i]:=Sk fz;obtain⟨go,yl⟩:=cz _ hd;refine⟨go,λσ' H'=>∃β,SB X C (H1,Wn aB) σ' H' β/\I (i+1) β,λσ' H' Mv=>by obtain⟨β',rX,sY⟩:=Mv;exact⟨_,by lia,fz,rfl,β',rX,sY⟩,λx H3 y=>?_⟩
   obtain⟨s3,r3⟩:=yl x H3 y;refine⟨a9,β2,_,_,s2.same s3,nU (C:=C.z) (ay.aU (λb z=>Cm (C:=C) n2 b (z.elim id λz=>z.elim)) r3),hg.mono _ _ _ _ _ (λβ4 q σ4 pR s4 w4 _=>?_) (i1 i _ β2 hd hl)⟩;refine⟨(H1,Wn aB),_,β4,⟨pR,s4,gW (n2.same s3) w4⟩,q,⟨λσ5 H5 β5 vj q5=>⟨β5,vj,q5⟩,λσ5 H5 β5 d5 v5 vj r5 q5=>?_,λσ5 H5 β5 vj q5=>?_,λσ5 H5 β5 vj q5=>⟨β5,vj,q5⟩⟩⟩
   ·obtain⟨l9,s5,n5⟩:=vj;exact ok.rt _ _ _ _ _ ⟨l9,s5,n'.trans n5⟩ r5 q5
   ·obtain⟨l9,s5,n5⟩:=vj;exact ok.nx _ _ _ ⟨l9,s5,n'.trans n5⟩ q5
  ·left
   have e:i=ds.length:=by lia
   subst e;exact⟨oA (Sj _),ok.nx _ _ _ ⟨a9,s2,n'.trans n2⟩ (i2 β2 hl)⟩⟩
def DB (τ:aZ)(ψ:Dk):Dk:=λE β=>∃V:Nat->a7->Prop,(∃m,V m β)/\∀m β,V m β->τ β λt β1=>if t=true then ψ {nx:=λβ'=>∃m',m'<m/\V m' β',rt:=E.rt,bk:=E.nx,ct:=λβ'=>∃m',m'<m/\V m' β'} β1 else E.nx β1
theorem yf (hp:PassesOwn (model X.prog X.w) X.A X.env X.xe)(hc:rE X C.z p c τ)(hb:u0 X C body ψ):PB X C (.While c body [] pos) (DB τ ψ) :=
 ⟨λE E' β l ⟨V,h0,h⟩=>⟨V,h0,λm β v=>hc.mono _ _ _ (λt β1 q=>by
   cases t
   ·exact l.nx _ q
   ·exact hb.mono {nx:=λβ'=>∃m',m'<m/\V m' β',rt:=E.rt,bk:=E.nx,ct:=λβ'=>∃m',m'<m/\V m' β'} {nx:=λβ'=>∃m',m'<m/\V m' β',rt:=E'.rt,bk:=E'.nx,ct:=λβ'=>∃m',m'<m/\V m' β'} β1 ⟨λ_ q=>q,l.rt,l.nx,λ_ q=>q⟩ q) (h m β v)⟩,(xU hp hc.pt hb.ps).pre λD σ H E4=>by
  obtain⟨Z,E,β,sb,⟨V,⟨m0,v0⟩,h⟩,ok⟩:=E4;refine⟨λm σ H=>∃β,SB X C Z σ H β/\V m β,⟨m0,β,sb,v0⟩,λm σ H ⟨β,⟨own,s,n⟩,v⟩=>?_⟩;refine jr.of hc s (h m β v) λt β1 H1 aB q o1=>?_;cases t
  ·exact ok.nx _ _ _ (o1.sb n) q
  ·exact⟨λσ' H'=>∃β',SB X C Z σ' H' β'/\∃m',m'<m/\V m' β',λσ' H' Ms=>by obtain⟨β',rX,m',hm,v'⟩:=Ms;exact⟨m',hm,β',rX,v'⟩,Z,_,β1,o1.sb n,q,λσ' H' β' rX q'=>⟨β',rX,q'⟩,ok.rt,ok.nx,λσ' H' β' rX q'=>⟨β',rX,q'⟩⟩⟩
end
def startB (N:List Str)(ds:List D):a7:=ds.map (λd=>some (.val false d))++UR (N.length-ds.length) none
def iE (N:List Str)(ok:List Int->Prop)(ds:List D):a7:=some (.hand ok)::(ds.map (λd=>some (.val false d))++UR (N.length-(ds.length+1)) none)
section
variable {P:So}{w:SI}{K:PySem.W.Frag}{mg:Str->Option Sh}{base:Heap}
theorem fE {i n:Nat}{b:B}(h:(UR n (none:Option B))[i]?=some (some b)):False:=by
 rw[List.getElem?_replicate]at h
 split at h <;> cases h
theorem dY {ds:List D}{n i:Nat}{b:B}(h:(ds.map (λd=>some (B.val false d))++UR n none)[i]?=some (some b)):∃d,ds[i]?=some d/\b=.val false d:=by
 by_cases hi:i<ds.length
 ·rw[T7 (by simpa using hi),Su]at h
  cases q:ds[i]? with
  |none=>rw[q]at h;cases h
  |some d=>rw[q]at h;cases h;exact⟨d,rfl,rfl⟩
 ·rw[Tr (by simpa using hi)]at h
  exact(fE h).elim
theorem iD {N:List Str}{vs:List V}{i:Nat}{v:V}(h:vs[i]?=some v):(start N vs)[i]?=some (some v):=by
 unfold start;rw[T7 (by simpa using (Sz.mp h).1),Su,h]
 rfl
theorem xt {N:List Str}{vs:List V}{ds:List D}{H:Hp}{ro:Bool}(r:ah P w (λ_=>False) H ds vs):bS P w ⟨H,λ_=>False,ro,λ_=>False⟩ (start N vs) H (startB N ds) (λ_=>[]):=by
 refine⟨?_,λi y d h=>?_,λi d h=>?_,λi ok h=>?_,λi a h=>(nomatch h),λi j a h=>(nomatch h),λi=>Tv,Kp.refl,λ_ z=>z,λi y d h=>by obtain⟨d',e,e'⟩:=dY h;cases e'⟩
 ·unfold startB start;simp[r.length]
 ·obtain⟨d',e,e'⟩:=dY h;cases e';obtain⟨v,e1,e2⟩:=ah.get r e;exact⟨v,iD e1,ay.aU (λa z=>z.elim (λMr=>by obtain⟨_,q⟩:=Mr;exact(nomatch q)) λz=>z) e2⟩
 ·obtain⟨d',e,e'⟩:=dY h;cases e'
 ·obtain⟨d',e,e'⟩:=dY h;cases e'
theorem sG {x qual:Str}{st:Stmt}{f:Addr}{fd:Tn}{N ps:List Str}{k:Nat}{F:FD}{ro:Bool}(G:Ah K x qual st f fd)(S:aK N ps (aw st))(len:∀ds R,F ds R->ds.length=ps.length)
  (lx:∀(cD:Sh) (A:TF) (outer:List Env) (s:Si) (H:Hp) (E:XK),cW k (A.deeper (V0 qual (aw st) s.heap.objs.size f cD)) ->
   ∃ψ,u0 (mB bB P w K mg base N qual (aw st) f cD A outer s H E).CG ⟨H,λ_=>False,ro,λ_=>False⟩ (dQ st) ψ/\∀ds R,F ds R->ψ {nx:=λ_=>R .bX,rt:=λd _=>R d} (startB N ds)) :
  aF P w K mg base bB (k+1) f fd ps (dw P w ro F):=by
 refine G.ok S (λvs H Q E h=>?_) (λcD A outer s H vs Q E hr h=>?_)
 ·obtain⟨ds,r,h⟩:=h;rw[r.length];exact len ds _ h
 ·obtain⟨ds,r,h⟩:=h;obtain⟨ψ,hb,hF⟩:=lx cD A outer s H E hr;refine⟨_,hb.ps,(H,Wn λ_=>[]),_,startB N ds,⟨λ_=>[],xt r,Sn.refl⟩,hF ds _ h,λσ H' β sb q=>?_,λσ H' β d v sb rr q=>?_,λ_ _ _ _ z=>z.elim,λ_ _ _ _ z=>z.elim⟩
  ·obtain⟨own,s',n'⟩:=sb;exact q _ H' (λb o e=>s'.kp.out b o e (λz=>z)) (d6 (W:=λ_=>False) rfl rfl)
  ·obtain⟨own,s',n'⟩:=sb;exact q _ H' (λb o e=>s'.kp.out b o e (λz=>z)) rr
theorem ve {N:List Str}{ok:List Int->Prop}{h:Addr}{ns:List Int}{vs:List V}{ds:List D}{H:Hp}{ro:Bool}(hh:H h=some (.lst (ns.map V.int)))(ho:ok ns)(r:ah P w (λa=>a=h) H ds vs):
  bS P w ⟨H,(·=h),ro,λ_=>False⟩ (start N (.ref h::vs)) H (iE N ok ds) (λi=>if i=0 then [h] else []):=by
 have A6:∀{i:Nat} {a:Addr},a∈(if i=0 then [h] else ([]:List Addr))->i=0/\a=h:=λ{i a} q=>by
  by_cases e:i=0
  ·rw[if_pos e]at q;exact⟨e,by simpa using q⟩
  ·rw[if_neg e]at q;cases q
 have BW:∀{i:Nat} {b:B},(iE N ok ds)[i]?=some (some b)->(i=0/\b=.hand ok)\/∃j d,i=j+1/\ds[j]?=some d/\b=.val false d:=λ{i b} q=>by
  unfold iE at q;cases i with
  |zero=>simp at q;exact .inl ⟨rfl,q.symm⟩
  |succ i =>
   rw[U9]at q;obtain⟨d,e,e'⟩:=dY q;exact .inr ⟨i,d,rfl,e,e'⟩
 refine⟨?_,λi y d q=>?_,λi d q=>?_,λi wK q=>?_,λi a q=>?_,λi j a h1 h2=>?_,λi=>?_,Kp.refl,λ_ z=>z,λi y d q=>(BW q).elim (λL9=> by obtain⟨_,e⟩ := L9;cases e) (λL8=> by obtain⟨j,d',_,_,e'⟩ := L8;cases e')⟩
 ·unfold iE start;simp[r.length]
 ·rcases BW q with⟨_,e⟩|⟨j,d',rfl,e,e'⟩
  ·cases e
  ·cases e';obtain⟨v,e1,e2⟩:=ah.get r e;exact⟨v,iD (by simpa using e1),ay.aU (λa z=>z.elim (λMq=>by obtain⟨j,q⟩:=Mq;exact(A6 q).2) λz=>z.elim) e2⟩
 ·rcases BW q with⟨_,e⟩|⟨j,d',_,_,e'⟩
  ·cases e
  ·cases e'
 ·rcases BW q with⟨e0,e⟩|⟨j,d',_,_,e'⟩
  ·cases e;subst e0;exact⟨h,ns,iD rfl,hh,ho,rfl,.inr rfl⟩
  ·cases e'
 ·obtain⟨_,rfl⟩:=A6 q;exact⟨by rw[hh];exact λz=>(nomatch z),λxs z=>(by rw[hh]at z;cases z),.inr rfl,λz=>z⟩
 ·rw[(A6 h1).1,(A6 h2).1]
 ·by_cases e:i=0
  ·simp[e]
  ·simp[e]
theorem yt {x qual:Str}{st:Stmt}{f:Addr}{fd:Tn}{N ps:List Str}{k:Nat}{F:FD}{ok:List Int->Prop}{ro:Bool}(G:Ah K x qual st f fd)(S:aK N ps (aw st))(len:∀ds R,F ds R->ds.length+1=ps.length)
  (lx:∀(cD:Sh) (A:TF) (outer:List Env) (s:Si) (H:Hp) (E:XK) (IO:Addr->Prop),cW k (A.deeper (V0 qual (aw st) s.heap.objs.size f cD)) ->
   ∃ψ,u0 (mB bB P w K mg base N qual (aw st) f cD A outer s H E).CG ⟨H,IO,ro,λ_=>False⟩ (dQ st) ψ/\∀ds R,F ds R->ψ {nx:=λ_=>False,rt:=λd β=>β[0]?=some (some (.hand ok))/\R d} (iE N ok ds)) :
  aF P w K mg base bB (k+1) f fd ps (eE P w ok ro F):=by
 refine G.ok S (λvs H Q E h=>?_) (λcD A outer s H vs Q E hr h=>?_)
 ·obtain⟨h,vs',ds,ns,rfl,hh,ho,r,q⟩:=h;rw[SM,r.length];exact len ds _ q
 ·obtain⟨h,vs',ds,ns,rfl,hh,ho,r,q⟩:=h;obtain⟨ψ,hb,hF⟩:=lx cD A outer s H E (·=h) hr;refine⟨_,hb.ps,(H,_),_,iE N ok ds,⟨_,ve hh ho r,Sn.refl⟩,hF ds _ q,λσ H' β sb z=>z.elim,λσ H' β d v sb rr ⟨b0,q⟩=>?_,λ_ _ _ _ z=>z.elim,λ_ _ _ _ z=>z.elim⟩;obtain⟨own,s',n'⟩:=sb;obtain⟨a,vE,g1,g2,g3,g4,g5⟩:=s'.mf 0 ok b0;have ea:a=h:=g5.elim (λz=>(z h rfl).elim) λz=>z;subst ea;exact q v H' vE s'.kp s'.gK g2 g3 rr
end
end L2.Q
namespace L2
open PySem PySem.Spec PySem.SeqAt PyProof.Rows
theorem rD.pre {X:Cx}{ifs:List Expr}{t t':TT}(h:rD X ifs t)(k:∀σ H Q,t' σ H Q->t σ H Q):rD X ifs t':=λpins s σ H Q I q=>h pins s σ H Q I (k σ H Q q)
section
end
section
end
section
variable {X:Cx}{e:Expr}{g:U3}{gs:List U3}{scope:U8}{N':List Str}{lk:List (Option Nat)}{tg:Addr->TG}{tt:Addr->TT}{wi:TI}
theorem jo {dW:Sem Sh}{o:HO}{after:Sh->Env->Sem Fin->Sem Fin}{ta:Addr->lT}(L:Links X scope N' lk)(hc:X.calm=true)(hA:lU X dW o)
  (F:∀acc env,gw e 0 g acc env (after acc env))
  (BQ:∀a cl C s H ex,PG (aC X scope N' cl C s H ex) g.target (tg a)/\rD (aC X scope N' cl C s H ex) g.ifs (tt a)/\oO (aC X scope N' cl C s H ex) (after (.ref a) (aC X scope N' cl C s H ex).env) (ta a))
  {cl:List (Str×Addr)} (mm:∀x,(x,To)∈scope.names->∃c,cl.lookup x=some c) (s_:∀x c,cl.lookup x=some c->X.env.cells.lookup x=some c)
  {pins:List (Addr×Obj)} {σ:St} {s:Si} {Q:V->Hp->Prop} {CS:Sh} {E:Sh->Si->Prop} {RR:Sh->Addr->Result->Si->Prop}
  (h:Kx X pins σ g.target (λJ H1=>∀a,H1 a=none->fC J (tg a) (tt a) (ta a) (λ_ H'=>Q (.ref a) H') (dy lk σ) (upd H1 a o)) CS s)
  (hR:∀a H' C s',Inv X pins σ H' s'->fx X pins H' C->(∃m,s'.heap.Ns C m)->Q (.ref a) H'->RR (.ref a) C (.ok .next) s') :
  S6 (model X.prog X.w) X.A dW (λacc s₃=>S6 (model X.prog X.w) X.A (newFunctionEnv scope X.env.globals cl [] X.env.qual none .none (some X.env)) (λJC s₄ =>
   VM (model X.prog X.w) X.A (.compStart e 0 CS acc {JC with scope:=relabel scope X.env}) (RR acc JC.locals) s₄) E s₃) E s:=by
 obtain⟨it,fp,tn,J,H2,e1,I2,T,e_,f2,hl⟩:=h;subst e1;refine hA.ok pins s σ H2 _ E I2 λa s3 ha hn hk I3=>?_;refine wpAny_newFunctionEnv L.sH (by intro y hy;simp at hy) (λh₁ Fe EY=>?_) L.kind
 have MF:∀b∈fp,∃o,s3.heap.get? b=some o:=λb hb=>by
  obtain⟨ob,q,_⟩:=T.obj _ _ e_ b hb;exact⟨ob,hk b ob q⟩
 have QK:∀b∈fp,b≠a:=λb hb=>by
  obtain⟨ob,q,_⟩:=T.obj _ _ e_ b hb;exact S5 (Td (SD q) ha)
 have f3:∀b∈fp,fx X pins (upd H2 a o) b:=λb hb=>⟨by rw[ak (QK b hb)];exact(f2 b hb).1,(f2 b hb).2⟩
 have MR:∀b ob,s3.heap.get? b=some ob->h₁.get? b=some ob:=λb ob q=>EY.extBut b ob (S5 (SD q)) (Sl _ q);have Kg:h₁.Ns s3.heap.objs.size (λ_=>none):=Fe;have I4:=yR (t':=s3.toks+([]:List (Str×Sh)).length) I3 L f3 MF mm s_ Kg MR;obtain⟨g1,g2,g3⟩:=BQ a cl s3.heap.objs.size s3 (upd H2 a o) fp;have f4:∀b∈fp,fx (aC X scope N' cl s3.heap.objs.size s3 (upd H2 a o) fp) [] (upd H2 a o) b:=λb hb =>
  ⟨(f3 b hb).1,(I4.ok.Kr b hb).1,I4.ok.zv b hb,.inl hb,(I4.ok.Kr b hb).2,λp hp=>absurd (show p∈([]:List (Addr×Obj)) from hp) (by simp)⟩
 have GL:tn 0 h₁:=T.keep 0 _ _ e_ λb hb ob q=>MR b ob (hk b ob q);refine Vc (lQ (X:=aC X scope N' cl s3.heap.objs.size s3 (upd H2 a o) fp) rfl hc (F (.ref a) _) g1 g2 g3 T I4 GL f4 (hl a hn)) λr s' hr=>?_;obtain⟨rfl,σ',H',J',q⟩:=hr;have I5:Inv X pins σ H' s':=yS (C:=s3.heap.objs.size) (h'':=s'.heap) I3 f3 J' (.refl ..);refine hR a H' s3.heap.objs.size s' I5 (I3.vZ (Sj _) J'.free) ?_ q;obtain⟨m,hm,_⟩:=J'.loc;exact⟨m,hm⟩
theorem kA {dW:Sem Sh}{o:HO}{after:Sh->Env->Sem Fin->Sem Fin}{ta:Addr->lT}{pos:Pos}(L:Links X scope N' lk)(hc:X.calm=true)(hA:lU X dW o)
  (Fh:eval e X.env=comprehension e scope X.env pos dW false (eval g.iter X.env)) (F7:clausesOf e=g::gs)
  (F:∀acc env,gw e 0 g acc env (after acc env)) (hi:PI X g.target g.iter wi)
  (BQ:∀a cl C s H ex,PG (aC X scope N' cl C s H ex) g.target (tg a)/\rD (aC X scope N' cl C s H ex) g.ifs (tt a)/\oO (aC X scope N' cl C s H ex) (after (.ref a) (aC X scope N' cl C s H ex).env) (ta a))
  (hs:∀x,TB g.iter X.env x=pure x) :
  PE X e (λσ H Q=>wi σ H λJ H1=>∀a,H1 a=none->fC J (tg a) (tt a) (ta a) (λ_ H'=>Q (.ref a) H') (dy lk σ) (upd H1 a o)):=by
 intro pins s σ H Q I h;rw[Fh];obtain⟨cl,zh,mm,s_⟩:=gu (env:=X.env) (scope:=scope) λx hx=>I.ok.has x (L.free x hx);refine wpAny_comprehension_free (use:=none) F7 hs zh L.kind L.names (br (hi pins s σ H _ I h) λv s1 h1=>br h1 λCS s2 h2=>?_);refine jo (RR:=λacc C=>compPost (model X.prog X.w) X.A X.xe none (EP X pins σ Q) acc C) L hc hA F BQ mm s_ h2 λa H' C s' I' f ⟨m,hm⟩ q=>?_;exact⟨m,hm,λh' vX=>⟨.ref a,H',I'.sameBut f vX,rfl,q⟩⟩
theorem xW {dW:Sem Sh}{o:HO}{after:Sh->Env->Sem Fin->Sem Fin}{ta:Addr->lT}{pos pos' pj:Pos}{y:Str}{i:Nat}(L:Links X scope N' lk)(hc:X.calm=true)(hA:lU X dW o)
  (uI:UU e (some (.Name y pos')) pj.line X.env=pure true)
  (Fh:evalThenUse e X.env (assign (.Name y pos') X.env)=(do let _ <- comprehension e scope X.env pos dW false (eval g.iter X.env) (some (assign (.Name y pos') X.env));pure ())) (F7:clausesOf e=g::gs)
  (hN:X.N.Nodup) (hy:X.N[i]?=some y) (hx:Loc X.env.scope y) (hf:X.fn y=true\/X.env.scope.names.lookup y=some .local)
  (F:∀acc env,gw e 0 g acc env (after acc env)) (hi:PI X g.target g.iter wi)
  (BQ:∀a cl C s H ex,PG (aC X scope N' cl C s H ex) g.target (tg a)/\rD (aC X scope N' cl C s H ex) g.ifs (tt a)/\oO (aC X scope N' cl C s H ex) (after (.ref a) (aC X scope N' cl C s H ex).env) (ta a))
  (hs:∀x,TB g.iter X.env x=pure x) :
  PS X (.Assign [.Name y pos'] e pj) (λD σ H=>wi σ H λJ H1=>∀a,H1 a=none->fC J (tg a) (tt a) (ta a) (λ_ H'=>D.nx (σ.set i (some (.ref a))) H') (dy lk σ) (upd H1 a o)):=by
 intro pins s σ H D I h;rw[exec_Assign_Name_used _ _ _ _ uI,Fh];refine Sf (UK (Sf (Sf ?_)));obtain⟨cl,zh,mm,s_⟩:=gu (env:=X.env) (scope:=scope) λx hx=>I.ok.has x (L.free x hx);refine br (wpAny_comprehension_free (use:=some (assign (.Name y pos') X.env)) (Q:=λ_ s'=>SP X pins D .next s') F7 hs zh L.kind L.names (br (hi pins s σ H _ I h) λv s1 h1=>br h1 λCS s2 h2=>?_)) λ_ s' q=>Sm (Sm q)
 refine jo (Q:=λv H'=>D.nx (σ.set i (some v)) H') (RR:=λacc C=>compPost (model X.prog X.w) X.A X.xe (some (assign (.Name y pos') X.env)) (λ_ s'=>SP X pins D .next s') acc C) L hc hA F BQ mm s_ h2 λa H' C s' I' f ⟨m,hm⟩ q=>?_
 show S6 _ _ (assign (.Name y pos') X.env (.ref a)) _ _ s';have R8:∃o,s'.heap.get? C=some o:=by obtain⟨o,_,_,ho,_⟩:=hm;exact⟨o,ho⟩
 refine wpAny_assign_Name (mM I' hN hy hx (v:=.ref a) (u:=.ref a) rfl (λs4 I4 k4=>?_) hf);obtain⟨a4,Py,QL⟩:=k4;have BO:C≠a4:=by
  rcases QL with z|z
  ·rw[z];exact f.2.1
  ·exact(f.2.2.2.2.1 y a4 z).symm
 exact⟨m,hm.at' (λo e=>(Py.2 C BO).trans e),λh' vX=>⟨_,H',I4.sameBut f vX,q⟩⟩
end
end L2
namespace L2.Q
open PySem PySem.Spec PySem.SeqAt PyProof.Rows
def Oi:Option B->Option B
 |some (.own d)=>some (.val false d)
 |some (.shl _ d)=>some (.val false d)
 |b=>b
def cA (lk:List (Option Nat))(β:a7):a7:=lk.map λl=>match l with|some j=>(match β[j]? with|some b=>Oi b|none=>none)|none=>none
def Kc:Option (Option B)->Bool
 |some (some (.hand _))=>true
 |_=>false
def bb (lk:List (Option Nat))(β:a7)(own:Nat->List Addr)(i:Nat):List Addr:=match lk[i]? with
 |some (some j)=>if Kc β[j]?=true then own j else []
 |_=>[]
def d8:a7->a7->Prop
 |[],_=>True
 |some (.hand ok)::a,c=>c.head?=some (some (.hand ok))/\d8 a c.tail
 |_::a,c=>d8 a c.tail
theorem d8.get:∀{a c:a7} {i:Nat} {ok:List Int->Prop},d8 a c->a[i]?=some (some (.hand ok))->c[i]?=some (some (.hand ok))
 |[],_,_,_,_,e=>by simp at e
 |x::a,c,0,ok,h,e=>by
  simp at e;subst e;rw[<- List.head?_eq_getElem?];exact h.1
 |x::a,c,i+1,ok,h,e=>by
  have h':d8 a c.tail:=by
   cases x with
   |none=>exact h
   |some x=>cases x <;> first|exact h|exact h.2
  have:=d8.get (i:=i) h' (by simpa using e)
  rwa [List.getElem?_tail]at this
section
variable {P:So}{w:SI}{C:Cfg}{σ σ':St}{H H' H1:Hp}{β βi:a7}{own hE:Nat->List Addr}{lk:List (Option Nat)}{a:Addr}
theorem bQ {i:Nat}{c:Addr}(h:c∈bb lk β own i):∃j,lk[i]?=some (some j)/\Kc β[j]?=true/\c∈own j:=by
 unfold bb at h
 split at h
 ·next j e =>
  by_cases q:Kc β[j]?=true
  ·rw[if_pos q]at h;exact⟨j,e,q,h⟩
  ·rw[if_neg q]at h;cases h
 ·cases h
theorem a_:∀c,Wn (bb lk β own) c->Wn own c:=λc ⟨i,h⟩=>let ⟨j,_,_,h⟩:=bQ h;⟨j,h⟩
theorem fI {i j:Nat}{v:V}(h:lk[i]?=some (some j))(e:σ[j]?=some (some v)):(dy lk σ)[i]?=some (some v):=by
 unfold dy;rw[Su,h];simp only[Vv];rw[e]
theorem f9 {i:Nat}{b:B}(h:(cA lk β)[i]?=some (some b)):∃j b',lk[i]?=some (some j)/\β[j]?=some (some b')/\Oi (some b')=some b:=by
 unfold cA at h;rw[Su]at h;cases q:lk[i]? with
 |none=>rw[q]at h;cases h
 |some l =>
  rw[q]at h;cases l with
  |none=>cases h
  |some j =>
   simp only[Vv]at h;cases q2:β[j]? with
   |none=>rw[q2]at h;cases h
   |some b2 =>
    rw[q2]at h;simp only[WV]at h;cases b2 with
    |none=>cases h
    |some b'=>exact⟨j,b',rfl,q2,h⟩
theorem bS.enter (s:bS P w C σ H β own)(ha:H a=none)(inj:∀(i i' j:Nat),lk[i]?=some (some j)->lk[i']?=some (some j)->i=i'):
  bS P w (C.u λc=>c=a) (dy lk σ) (upd H a (.lst [])) (cA lk β) (bb lk β own):=by
 have sm:au H (upd H a (.lst [])):=au.new ha;have na:∀{i c},c∈own i->c≠a:=λ{i c} hc z=>(s.dm i c hc).1 (by rw[z];exact ha)
 have gr:∀k,∀c,f_ (C.u λc=>c=a) (Wn (bb lk β own)) k c->f_ C (Wn own) k c\/H c=none:=λk c z=>by
  rcases z with z|z
  ·exact .inl (.inl (jN a_ k c z))
  ·exact .inr (by rw[z];exact ha)
 refine⟨by unfold cA dy;simp,λi y d e=>?_,λi d e=>?_,λi ok e=>?_,λi c h=>?_,λi i' c h1 h2=>?_,λi=>?_,s.kp.trans sm.kp,λc z e=>s.gK c z (sm.free e),λi y d e=>by
  obtain⟨j,b',e1,e2,e3⟩:=f9 e;cases b' <;> cases e3⟩
 ·obtain⟨j,b',e1,e2,e3⟩:=f9 e;cases b' with
  |val y' d' =>
   cases e3;obtain⟨v,h1,h2⟩:=s.val j y d e2;exact⟨v,fI e1 h1,(ay.grow (gr _) h2).same sm⟩
  |own d' =>
   cases e3;obtain⟨v,h1,h2,h3⟩:=s.ow j d e2;refine⟨v,fI e1 h1,ay.same sm (h2.rep λc hc z=>?_)⟩;rcases z with z|z
   ·obtain⟨i',d9⟩:=z;obtain⟨j',q1,q2,q3⟩:=bQ d9;have:=s.lK j j' c hc q3;subst this;rw[e2]at q2;cases q2
   ·exact na hc z
  |hand ok=>cases e3
  |shl y' d' =>
   cases e3;obtain⟨v,h1,h2,h3⟩:=s.shl j y' d e2;refine⟨v,fI e1 h1,ay.same sm (h2.rep (λc hc z=>?_) λds vs r=>ah.grow (λc z=>?_) r)⟩
   ·rcases z with z|z
    ·obtain⟨i',d9⟩:=z;obtain⟨j',q1,q2,q3⟩:=bQ d9;have:=s.lK j j' c hc q3;subst this;rw[e2]at q2;cases q2
    ·exact na hc z
   ·rcases gr _ c z with z|z
    ·refine .inl ?_;rcases z with z|z
     ·cases y' with
      |true=>exact .inl (.inl z)
      |false=>exact .inl z
     ·exact .inr z
    ·exact .inr z
 ·obtain⟨j,b',e1,e2,e3⟩:=f9 e;cases b' <;> cases e3
 ·obtain⟨j,b',e1,e2,e3⟩:=f9 e;cases b' with
  |val y' d'=>cases e3
  |own d'=>cases e3
  |shl y d=>cases e3
  |hand wK =>
   cases e3;obtain⟨h,ns,h1,h2,h3,h4,h5⟩:=s.mf j ok e2;refine⟨h,ns,fI e1 h1,sm _ _ h2,h3,?_,h5⟩;unfold bb;rw[e1];simp only;rw[e2];exact(if_pos rfl).trans h4
 ·obtain⟨j,q1,q2,q3⟩:=bQ h;obtain⟨g1,g2,g3,g4⟩:=s.dm j c q3;rw[ak (na q3)];exact⟨g1,g2,g3,na q3⟩
 ·obtain⟨j,q1,q2,q3⟩:=bQ h1;obtain⟨j',N1,RD,PM⟩:=bQ h2;have:=s.lK j j' c q3 PM;subst this;exact inj _ _ _ q1 N1
 ·unfold bb
  split
  ·next j e =>
   split
   ·exact s.l_ j
   ·exact Tv
  ·exact Tv
theorem bS.DX {o:HO}(s:bS P w (C.u λc=>c=a) σ H β own){oa:HO}(ha:H a=some oa)(ht:∀xs,oa≠.tup xs)(h0:C.H0 a=none):bS P w (C.u λc=>c=a) σ (upd H a o) β own:=by
 have k:Kp (·=a) H (upd H a o):=k9 ha ht;have na:∀{i c},c∈own i->c≠a:=λ{i c} hc=>(s.dm i c hc).2.2.2;refine⟨s.len,λi y d e=>let ⟨v,h1,h2⟩:=s.val i y d e;⟨v,h1,h2.keep (k.mono λc z=>.inr z)⟩,λi d e=>let ⟨v,h1,h2,h3⟩:=s.ow i d e;⟨v,h1,h2.keep k.tup (λc hc oc ec=>k.out c oc ec (na hc)),h3⟩,
  λi ok e=>?_,λi c h=>?_,s.lK,s.l_,⟨λc oc z n=>k.out c oc (s.kp.out c oc z n) λq=>?_,λc xs z=>k.tup c xs (s.kp.tup c xs z)⟩,λc z=>?_,λi y d e=>let ⟨v,h1,h2,h3⟩:=s.shl i y d e;⟨v,h1,h2.map (λc hc oc ec=>k.out c oc ec (na hc)) (λ_ _ r=>r.keep (k.mono λc z=>.inr z)),h3⟩⟩
 ·obtain⟨h,ns,h1,h2,h3,h4,h5⟩:=s.mf i ok e;exact⟨h,ns,h1,k.out h _ h2 (na (by rw[h4];simp)),h3,h4,h5⟩
 ·rw[ak (na h)];exact s.dm i c h
 ·rw[q,h0]at z;cases z
 ·by_cases q:c=a
  ·rw[q,ar];exact λz=>(nomatch z)
  ·rw[ak q];exact s.gK c z
theorem bS.leave (s:bS P w C σ H1 β own)(i:bS P w (C.u λc=>c=a) σ' H' βi hE)(n:Sn (H1,Wn (bb lk β own)) H' (Wn hE))(le:∀c,Wn hE c->Wn (bb lk β own) c)
  (hh:d8 (cA lk β) βi) (hσ:∀(j:Nat) (ok:List Int->Prop) (i:Nat),β[j]?=some (some (B.hand ok))->lk[i]?=some (some j)->σ'[i]?=(dy lk σ)[i]?):bS P w C σ H' β own:=by
 have off:∀{j c},c∈own j->¬ Wn (bb lk β own) c->∀o,H1 c=some o->H' c=some o:=λ{j c} hc nw o e=>n.k.out c o e λz=>z.elim nw λz=>(s.dm j c hc).1 z;have Ie:∀{j c},c∈own j->Kc β[j]?=false->¬ Wn (bb lk β own) c:=λ{j c} hc q BL=>by
  obtain⟨i',d9⟩:=BL;obtain⟨j',q1,q2,q3⟩:=bQ d9;have:=s.lK j j' c hc q3;subst this;rw[q]at q2;cases q2
 have hN:∀(j:Nat) (ok:List Int->Prop),β[j]?=some (some (B.hand ok))->∃a ns,σ[j]?=some (some (V.ref a))/\H' a=some (.lst (ns.map V.int))/\ok ns/\own j=[a]/\((∀b,¬ C.IO b)\/C.IO a):=λj ok e=>by
  obtain⟨h,ns,h1,h2,h3,h4,h5⟩:=s.mf j ok e
  by_cases q:Wn (bb lk β own) h
  ·obtain⟨i',d9⟩:=q;obtain⟨j',q1,q2,q3⟩:=bQ d9;have:=s.lK j j' h (by rw[h4];simp) q3
   subst this;have eB:(cA lk β)[i']?=some (some (.hand ok)):=by
    unfold cA;rw[Su,q1];simp only[Vv];rw[e];rfl
   obtain⟨h',vE,g1,g2,g3,g4,g5⟩:=i.mf i' ok (hh.get eB);rw[hσ j ok i' e q1,fI q1 h1]at g1;cases g1;exact⟨h,vE,h1,g2,g3,h4,h5⟩
  ·exact⟨h,ns,h1,off (by rw[h4];simp) q _ h2,h3,h4,h5⟩
 refine⟨s.len,λj y d e=>?_,λj d e=>?_,hN,λj c hc=>?_,s.lK,s.l_,i.kp,i.gK,λj y d e=>by
  obtain⟨v,h1,h2,h3⟩:=s.shl j y d e;refine⟨v,h1,h2.map (λc hc o eo=>off hc (Ie hc (by rw[e];rfl)) o eo) (λds vs r=>?_),h3⟩
  have g:ah P w (λc=>f_ C (Wn own) (yk y) c\/H1 c=none) H1 ds vs:=ah.grow (λc z=>z) r;refine ah.aU (λc z=>.inl z) (g.keep (n.k.mono λc z=>z.imp (λz=>?_) id));cases y with
  |true=>exact .inl (.inl (a_ c z))
  |false=>exact .inl (a_ c z)⟩
 ·obtain⟨v,h1,h2⟩:=s.val j y d e;have g:ay P w (λc=>f_ C (Wn own) (yk y) c\/H1 c=none) H1 d v:=ay.grow (λc z=>z) h2;refine⟨v,h1,ay.aU (λc z=>.inl z) (g.keep (n.k.mono λc z=>z.imp (λz=>?_) id))⟩;cases y with
  |true=>exact .inl (.inl (a_ c z))
  |false=>exact .inl (a_ c z)
 ·obtain⟨v,h1,h2,h3⟩:=s.ow j d e;exact⟨v,h1,h2.keep n.k.tup (λc hc o eo=>off hc (Ie hc (by rw[e];rfl)) o eo),h3⟩
 ·obtain⟨g1,g2,g3,g4⟩:=s.dm j c hc
  by_cases q:Wn (bb lk β own) c
  ·obtain⟨i',d9⟩:=q;obtain⟨j',q1,q2,q3⟩:=bQ d9;have:=s.lK j j' c hc q3;subst this;cases e:β[j]? with
   |none=>rw[e]at q2;cases q2
   |some b =>
    rw[e]at q2;cases b with
    |none=>cases q2
    |some b =>
     cases b with
     |val y d=>cases q2
     |own d=>cases q2
     |shl y d=>cases q2
     |hand ok =>
      obtain⟨h,ns,k1,k2,k3,k4,k5⟩:=hN j ok e;rw[k4]at hc;rw[SF.mp hc]at g3 g4 ⊢
      rw[k2];exact⟨λz=>(nomatch z),λxs z=>(by cases z),g3,g4⟩
  ·cases e:H1 c with
   |none=>exact absurd e g1
   |some o=>rw[off hc q o e];exact⟨λz=>(nomatch z),λxs z=>g2 xs (by rw[e];exact z),g3,g4⟩
end
def Gv:aZ:=λβ R=>R true β
theorem xY {X:Cx}{C:Cfg}:rD X [] (jr X C true Gv):=AM.pre λσ H Q ⟨β,own,s,q⟩=>q H own (Out.refl s _)
theorem xX {X:Cx}{C:Cfg}{p:Bool}{c:Expr}{τ:aZ}(h:rE X C p c τ):rD X [c] (jr X C p τ):=AL h.pt
def kZ (γ:c6)(τ:aZ)(φ:aV)(ds:List D)(k:Kd)(β0:a7)(K:List D->Prop):Prop:=∃I:Nat->a7->List D->Prop,I 0 β0 [] /\
 (∀i d β o,ds[i]?=some d->I i β o->γ d (sk k d) β λβ1=>τ β1 λt β2=>if t=true then φ β2 λx kx β3=>Aa kx x/\o.length<SG/\I (i+1) β3 (o++[x]) else I (i+1) β2 o)/\∀β o,I ds.length β o->d8 β0 β/\K o
theorem kZ.mono {γ:c6}{τ:aZ}{φ:aV}{ds:List D}{k:Kd}{β0:a7}{K K':List D->Prop}(h:∀o,K o->K' o)(q:kZ γ τ φ ds k β0 K):kZ γ τ φ ds k β0 K':=let ⟨I,h0,h1,h2⟩:=q;⟨I,h0,h1,λβ o z=>⟨(h2 β o z).1,h _ (h2 β o z).2⟩⟩
section
variable {X:Cx}{C:Cfg}{lk:List (Option Nat)}{γ:c6}{τ:aZ}{φ:aV}{T:List Nat}{pc pe:Bool}
theorem nz {σ:St}{H1:Hp}{β:a7}{own:Nat->List Addr}{a:Addr}{J:It}{ds:List D}{k:Kd}{K:List D->Prop}{End:Hp->Prop}
  (γm:∀d k β R R',(∀r,R r->R' r)->γ d k β R->γ d k β R') (τm:∀β R R',(∀d β,R d β->R' d β)->τ β R->τ β R') (φm:∀β R R',(∀d k β,R d k β->R' d k β)->φ β R->φ β R')
  (inj:∀(i i' j:Nat),lk[i]?=some (some j)->lk[i']?=some (some j)->i=i') (hT:∀i∈T,∀j,lk[i]?≠some (some j))
  (s1:SQ X C σ H1 β own) (ha:H1 a=none) {hp:Bool} (Ou:hp=true->(pc&&pe)=true) (hk:hold k hp) (it:tY X (av C (Wn own) k) J ds H1) (q:kZ γ τ φ ds k (cA lk β) K)
  (fin:∀o H',K o->Out X C σ H1 own (pc&&pe) β H' own->KV X.prog X.w C (H1,Wn own) own H' .own (.lst o) (.ref a)->End H') :
  fC J (λv σ H Q=>∃own β d k,SQ X (C.u λc=>c=a) σ H β own/\Rp X (f_ (C.u λc=>c=a) (Wn own) k) H d v/\γ d k β λβ'=>∀σ' aN,SQ X (C.u λc=>c=a) σ' H β' aN->(∀a,Wn aN a->Wn own a)->(∀j,j∉T->σ'[j]?=σ[j]?)->Q σ' H)
   (jr X (C.u λc=>c=a) pc τ) (λN σ H=>tQ X (C.u λc=>c=a) pe φ σ H λv H1=>∃xs,H1 a=some (.lst xs)/\xs.length<SG/\N σ (upd H1 a (.lst (xs++[v]))))
   (λ_ H'=>End H') (dy lk σ) (upd H1 a (.lst [])):=by
 obtain⟨I,i0,i1,i2⟩:=q;have h0:C.H0 a=none:=Ti λz=>s1.gK a z ha;have sm:au H1 (upd H1 a (.lst [])):=au.new ha;have Od:∀c,Wn (bb lk β own) c->c≠a:=λc z e=>by
  obtain⟨j,hj⟩:=a_ c z;exact(s1.dm j c hj).1 (by rw[e];exact ha)
 let S:Nat->St->Hp->Prop:=λi σ' H'=>∃βi hE vs o A,SQ X (C.u λc=>c=a) σ' H' βi hE/\Sn (H1,Wn (bb lk β own)) H' (Wn hE)/\(∀c,Wn hE c->Wn (bb lk β own) c)/\H' a=some (.lst vs)/\aG X.prog X.w H' o vs A/\A.Nodup/\(∀c∈A,H1 c=none/\c≠a) /\
  ((pc&&pe)=true->au H1 H')/\(∀j,j∉T->σ'[j]?=(dy lk σ)[j]?)/\I i βi o
 have W':Addr->Prop:=λb=>av C (Wn own) k b\/H1 b=none;have F2:=it (λb=>av C (Wn own) k b\/H1 b=none) λb z=>z;have kI:∀{H':Hp} {hE:Nat->List Addr},Sn (H1,Wn (bb lk β own)) H' (Wn hE)->((pc&&pe)=true->au H1 H')->Kp (λb=>av C (Wn own) k b\/H1 b=none) H1 H':=λn pu=>by
  cases k with
  |own=>exact n.k.mono λb z=>z.imp (λz=>.inl (a_ b z)) id
  |eh=>exact n.k.mono λb z=>z.imp (λz=>.inl (a_ b z)) id
  |old=>exact n.k.mono λb z=>z.imp (a_ b) id
  |bor =>
   cases hp with
   |false=>exact hk.elim
   |true=>exact(pu (Ou rfl)).kp.mono λb z=>.inr z
 refine⟨λi m σ' H'=>i<=ds.length/\m=ds.length-i/\S i σ' H',⟨_,SH _,rfl,cA lk β,bb lk β own,[],[],[],s1.enter ha inj,⟨λb z=>.inl z,sm.kp,λb z e=>z (sm.free e)⟩,λ_ z=>z,ar,⟨rfl,rfl⟩,Tv,λc hc=>(nomatch hc),λ_=>sm,λ_ _=>rfl,i0⟩,?_⟩;rintro i m σ2 H2 ⟨hi,rfl,βi,hE,vs,o,A,sq,sn,le,M3,os,nd,nw,pu,st,hl⟩;obtain⟨cz,oA⟩:=F2 i H2 (kI sn pu)
 by_cases fz:i<ds.length
 ·right
  have hd:ds[i]?=some ds[i]:=Sk fz;obtain⟨go,yl⟩:=cz _ hd;refine⟨go,λσ' H'=>S (i+1) σ' H',λσ' H' h=>⟨_,by omega,fz,rfl,h⟩,λx H3 y=>?_⟩
  obtain⟨s3,r3⟩:=yl x H3 y;have Ra:∀{hE:Nat->List Addr},(∀c,Wn hE c->Wn (bb lk β own) c)->∀c,f_ (C.u λc=>c=a) (Wn hE) k c->av C (Wn own) k c\/H1 c=none:=λle c z=>z.elim (λz=>.inl (jN (λc z=>a_ c (le c z)) k c z)) λz=>.inr (by rw[z];exact ha)
  refine⟨hE,βi,_,_,sq.same s3,nU (ay.aU (Ra le) r3),γm _ _ _ _ _ (λβ4 q σ4 pR s4 w4 t4=>?_) (i1 i _ βi o hd hl)⟩;have LP:∀c,Wn pR c->Wn (bb lk β own) c:=λc z=>le c (w4 c z);refine⟨β4,pR,s4,τm _ _ _ (λt β5 q H5 l9 o5=>?_) q⟩;have J_:∀c,Wn l9 c->Wn (bb lk β own) c:=λc z=>LP c (o5.le c z);have yI:∀c,c∈a::A->∀oc,H2 c=some oc->H5 c=some oc:=λc hc oc e=>by
   refine o5.sn.k.out c oc (s3 c oc e) λz=>?_;rcases z with z|z
   ·rcases Sr.mp hc with rfl|hc
    ·exact Od _ (LP _ z) rfl
    ·obtain⟨j,hj⟩:=a_ c (LP c z);exact(s1.dm j c hj).1 (nw c hc).1
   ·exact absurd ((s3 c oc e).symm.trans z) (λz=>(nomatch z))
  have Qa:∀b xs,H2 b=some (.tup xs)->H5 b=some (.tup xs):=λb xs e=>o5.sn.k.tup b xs (s3 b _ e);have Lx:aG X.prog X.w H5 o vs A:=os.keep Qa λc hc oc e=>yI c (by simp[hc]) oc e
  have K0:Sn (H1,Wn (bb lk β own)) H5 (Wn l9):=(gW (sn.same s3) w4).trans o5.sn;have N2:(pc&&pe)=true->au H1 H5:=λz=>((pu z).trans s3).trans (o5.pu (FO z)).1;have GL:∀j,j∉T->σ4[j]?=(dy lk σ)[j]?:=λj hj=>(t4 j hj).trans (st j hj);cases t with
  |false=>exact⟨β5,l9,vs,o,A,o5.sq,K0,J_,yI a (by simp) _ M3,Lx,nd,nw,N2,GL,q⟩
  |true =>
   refine⟨β5,l9,o5.sq,φm _ _ _ (λxd kx β6 ⟨f,hz,q⟩ v H6 A5 o6 r6=>?_) q⟩;obtain⟨B',r1,r2,Lf⟩:=r6.fl f;have Jj:H5 a=some (.lst vs):=yI a (by simp) _ M3
   have CO:∀c,c∈a::A->∀oc,H5 c=some oc->H6 c=some oc:=λc hc oc e=>by
    refine o6.sn.k.out c oc e λz=>?_;rcases z with z|z
    ·rcases Sr.mp hc with rfl|hc
     ·exact Od _ (J_ _ z) rfl
     ·obtain⟨j,hj⟩:=a_ c (J_ c z);exact(s1.dm j c hj).1 (nw c hc).1
    ·exact absurd (e.symm.trans z) (λz=>(nomatch z))
   have qr:H6 a=some (.lst vs):=CO a (by simp) _ Jj
   have N5:aG X.prog X.w H6 o vs A:=Lx.keep o6.sn.k.tup λc hc oc e=>CO c (by simp[hc]) oc e
   have PZ:∀c∈A,c≠a:=λc hc=>(nw c hc).2;have Hk:∀c∈B',c≠a:=λc hc z=>by rw[z]at hc;exact absurd (Jj.symm.trans (Lf a hc).1) (λz=>(nomatch z))
   have kt:∀b xs,H6 b=some (.tup xs)->upd H6 a (.lst (vs++[v])) b=some (.tup xs):=λb xs z=>by rw[ak (λz'=>by rw[z',qr]at z;cases z)];exact z
   refine⟨vs,qr,by rw[N5.length];exact hz,β6,A5,vs++[v],o++[xd],A++B',o6.sq.DX qr (λxs z=>by cases z) h0,?_,λc z=>J_ c (o6.le c z),ar,?_,?_,λc hc=>?_,λz=>?_,GL,q⟩
   ·have m:=K0.trans o6.sn;refine⟨m.w,m.k.trans ((k9 qr (λxs z=>by cases z)).mono λb z=>.inr (by rw[z];exact ha)),λb z e=>?_⟩
    by_cases hb:b=a
    ·rw[hb,ar]at e;cases e
    ·rw[ak hb]at e;exact m.d b z e
   ·exact(N5.keep kt λc hc oc e=>by rw[ak (PZ c hc)];exact e).append (aG.one (r1.keep kt λc hc oc e=>by rw[ak (Hk c hc)];exact e))
   ·refine TC.mpr ⟨nd,r2,λx hx y hy e=>?_⟩;subst e;have:=(Lf x hy).1;exact(Lx.lY x hx).1 this
   ·rcases SO.mp hc with hc|hc
    ·exact nw c hc
    ·exact⟨K0.free (Lf c hc).1,Hk c hc⟩
   ·refine λb ob e=>?_;rw[ak (λz'=>by rw[z',ha]at e;cases e)]
    exact(o6.pu (Nq z)).1 b ob (N2 z b ob e)
 ·left
  have e:i=ds.length:=by omega
  subst e;obtain⟨hh,q⟩:=i2 βi o hl;have lv:SQ X C σ H2 β own:=s1.leave sq sn le hh λj ok i' e1 e2=>st i' λz=>hT i' z j e2;refine⟨oA (Sj _),fin o H2 q ⟨lv,⟨λb z=>.inl z,sn.k.mono λb z=>z.imp (a_ b) id,sn.d⟩,λz=>⟨pu z,rfl⟩,λ_ z=>z⟩ ⟨a::A,⟨a,vs,A,rfl,M3,rfl,os⟩,S4.mpr ⟨λz=>(nw a z).2 rfl,nd⟩,λc hc=>?_⟩⟩;have mm:H1 c=none:=by
   rcases Sr.mp hc with rfl|hc
   ·exact ha
   ·exact(nw c hc).1
  exact⟨mm,λE3=>by obtain⟨j,hj⟩:=E3;exact(s1.dm j c hj).1 mm,Ti λz=>s1.gK c z mm⟩
theorem c_ {scope:U8}{N':List Str}(L:Links X scope N' lk)(hN:N'.Nodup):∀(i i' j:Nat),lk[i]?=some (some j)->lk[i']?=some (some j)->i=i':=λi i' j h1 h2=>by
 obtain⟨x,a1,a2,_⟩:=L.link i j h1;obtain⟨y,b1,b2,_⟩:=L.link i' j h2;rw[a2]at b2;cases b2;exact(List.getElem?_inj (Sz.mp a1).1 hN).mp (a1.trans b1.symm)
def pK (lk:List (Option Nat))(ι:cg)(γ:c6)(τ:aZ)(φ:aV):aV:=λβ R=>ι β λds k β1=>hold k false/\kZ γ τ φ ds k (cA lk β1) λo=>R (.lst o) .own β1
variable {scope:U8}{N':List Str}{tg cz elt:Expr}{ifs:List Expr}{ι:cg}{pi:Bool}{pos pos' pj:Pos}{y:Str}{i:Nat}
theorem Cz (L:Links X scope N' lk)(td:N'.Nodup)(hT:T.all (λi=>match lk[i]? with|some (some _)=>false|_=>true)=true)(hc:X.calm=true)(hi:uZ X C pi tg cz ι)
  (oQ:∀a cl c s H ex,wC (aC X scope N' cl c s H ex) (C.u λc=>c=a) tg T γ) (lW:∀a cl c s H ex,rD (aC X scope N' cl c s H ex) ifs (jr (aC X scope N' cl c s H ex) (C.u λc=>c=a) pc τ)) (τm:∀β R R',(∀d β,R d β->R' d β)->τ β R->τ β R')
  (ml:∀a cl c s H ex,PQ (aC X scope N' cl c s H ex) (C.u λc=>c=a) pe elt φ) (γm:∀d k β R R',(∀r,R r->R' r)->γ d k β R->γ d k β R') (φm:∀β R R',(∀d k β,R d k β->R' d k β)->φ β R->φ β R')
  (hs:∀x,TB cz X.env x=pure x:=by intro _;rfl):PQ X C (pi&&(pc&&pe)) (.ListComp elt [⟨tg,cz,ifs,0⟩] scope pos) (pK lk ι γ τ φ):=by
 have Fn:∀i∈T,∀j,lk[i]?≠some (some j):=λi hi j e=>by
  have:=Vn.mp hT i hi;rw[e]at this;cases this
 refine⟨λβ R R' k h=>hi.mono β _ _ (λds kd β1 q=>⟨q.1,q.2.mono λo z=>k _ _ _ z⟩) h,?_⟩;refine(kA (g:=⟨tg,cz,ifs,0⟩) (gs:=[]) (tg:=λa v σ H Q=>∃own β d k,SQ X (C.u λc=>c=a) σ H β own/\Rp X (f_ (C.u λc=>c=a) (Wn own) k) H d v/\γ d k β λβ'=>∀σ' aN,SQ X (C.u λc=>c=a) σ' H β' aN->(∀a,Wn aN a->Wn own a)->(∀j,j∉T->σ'[j]?=σ[j]?)->Q σ' H)
  (tt:=λa=>jr X (C.u λc=>c=a) pc τ) (ta:=λa N σ H=>tQ X (C.u λc=>c=a) pe φ σ H λv H1=>∃xs,H1 a=some (.lst xs)/\xs.length<SG/\N σ (upd H1 a (.lst (xs++[v]))))
  L hc kS rfl rfl (λ_ _=>Dd) hi.pi (λa cl c s H ex=>⟨(oQ a cl c s H ex).pg,lW a cl c s H ex,kB rfl (ml a cl c s H ex).pe⟩) hs).pre λσ H Q ⟨β,own,s,h⟩=>?_
 refine⟨β,own,s,hi.mono β _ _ (λds k β1 ⟨hk,q⟩ J H1 aB o1 it a ha=>?_) h⟩;exact nz γm τm φm (c_ L td) Fn o1.sq ha (hp:=false) (λz=>by cases z) hk it q λo H' q o2 r=>q _ _ aB (o1.trans o2) (r.later o1.sn)
theorem G7 {K:D->a7->fq->Prop}(L:Links X scope N' lk)(td:N'.Nodup)(hT:T.all (λi=>match lk[i]? with|some (some _)=>false|_=>true)=true)(hc:X.calm=true)(hi:∀U,uZ X (C.u U) pi tg cz ι)
  (oQ:∀U cl c s H ex,wC (aC X scope N' cl c s H ex) (C.u U) tg T γ) (lW:∀U cl c s H ex,rD (aC X scope N' cl c s H ex) ifs (jr (aC X scope N' cl c s H ex) (C.u U) pc τ)) (τm:∀β R R',(∀d β,R d β->R' d β)->τ β R->τ β R')
  (ml:∀U cl c s H ex,PQ (aC X scope N' cl c s H ex) (C.u U) pe elt φ) (γm:∀d k β R R',(∀r,R r->R' r)->γ d k β R->γ d k β R') (φm:∀β R R',(∀d k β,R d k β->R' d k β)->φ β R->φ β R') (o:Bool)
  (hN:X.N.Nodup) (hy:X.N[i]?=some y:=by rfl) (hx:Loc X.env.scope y:=by first|exact .inl rfl|exact .inr rfl) (hf:X.fn y=true\/X.env.scope.names.lookup y=some .local:=by first|exact .inl rfl|exact .inr rfl|assumption)
  (uI:UU (.ListComp elt [⟨tg,cz,ifs,0⟩] scope pos) (some (.Name y pos')) pj.line X.env=pure true:=by rfl)
  (Fh:evalThenUse (.ListComp elt [⟨tg,cz,ifs,0⟩] scope pos) X.env (assign (.Name y pos') X.env)=(do let _ <- comprehension (.ListComp elt [⟨tg,cz,ifs,0⟩] scope pos) scope X.env (firstIterPos [⟨tg,cz,ifs,0⟩] pos) (newList []) false (eval cz X.env) (some (assign (.Name y pos') X.env));pure ()):=by first|rfl|exact arm_evalThenUse_ListComp ..)
  (hs:∀x,TB cz X.env x=pure x:=by intro _;rfl) :
  PB X C (.Assign [.Name y pos'] (.ListComp elt [⟨tg,cz,ifs,0⟩] scope pos) pj) (λE β=>pK lk ι γ τ φ β λd _ β'=>E.nx (β'.set i (some (match o with|true=>.own d|false=>.val true d)))):=by
 have Fn:∀i∈T,∀j,lk[i]?≠some (some j):=λi hi j e=>by
  have:=Vn.mp hT i hi;rw[e]at this;cases this
 refine⟨λE E' β l h=>(hi λ_=>False).mono β _ _ (λds kd β1 q=>⟨q.1,q.2.mono λo z=>l.nx _ z⟩) h,λpins s σ H D I0 ⟨Z,E,β,⟨own,sq,n⟩,h,ok⟩=>?_⟩;refine xW (g:=⟨tg,cz,ifs,0⟩) (gs:=[]) (tg:=λa v σ H Q=>∃own β d k,SQ X (C.u λc=>c=a) σ H β own/\Rp X (f_ (C.u λc=>c=a) (Wn own) k) H d v/\γ d k β λβ'=>∀σ' aN,SQ X (C.u λc=>c=a) σ' H β' aN->(∀a,Wn aN a->Wn own a)->(∀j,j∉T->σ'[j]?=σ[j]?)->Q σ' H)
  (tt:=λa=>jr X (C.u λc=>c=a) pc τ) (ta:=λa N σ H=>tQ X (C.u λc=>c=a) pe φ σ H λv H1=>∃xs,H1 a=some (.lst xs)/\xs.length<SG/\N σ (upd H1 a (.lst (xs++[v]))))
  L hc kS uI Fh rfl hN hy hx hf (λ_ _=>Dd) (hi λa=>H a=none).pi (λa cl c s H ex=>⟨(oQ _ cl c s H ex).pg,lW _ cl c s H ex,kB rfl (ml _ cl c s H ex).pe⟩) hs pins s σ H D I0 ?_
 refine⟨β,own,sq.oY (C:=C.z) (U:=λa=>H a=none) λa z=>z,(hi λ_=>False).mono β _ _ (λds k β1 ⟨hk,q⟩ J H1 aB o1 it a ha=>?_) h⟩;refine nz (C:=C.u λa=>H a=none) γm τm φm (c_ L td) Fn o1.sq ha (hp:=false) (λz=>by cases z) hk it q λol H' q o2 r=>?_
 have r':=r.later o1.sn;have oo:=o1.trans o2;have m:=n.trans oo.sn;cases o with
 |false=>exact ok.nx _ _ _ ⟨_,(bS.PY oo.sq).fD (ay.aU (λa z=>z.elim id λz=>z.elim) (KV.rep r')),xA m⟩ q
 |true =>
  obtain⟨A,h1,h2,h3⟩:=r';refine ok.nx _ _ _ ⟨_,oo.sq.xG h1 h2 λc hc=>⟨(h3 c hc).2.2,(h3 c hc).2.1,(h3 c hc).1⟩,?_⟩ q;exact⟨λb oC=>by
   obtain⟨j,hj⟩:=oC
   by_cases aJ:i=j
   ·rw[<- aJ,os_eq]at hj;exact .inr (n.free (h3 b hj).1)
   ·rw[bq aJ]at hj;exact m.w b ⟨j,hj⟩,m.k,m.d⟩
end
end L2.Q
namespace Zp
open PySem PySem.Spec PyProof.Rows
structure Gj (prog:So)(w:SI)(i l:Addr)(vs:List Sh)(St:Nat->Heap->Prop)(Ct:Heap->Prop):Prop where
 obj:∀k h,St k h->∃o,h.get? i=some o/\∀v,o.data≠.cell v
 keep:∀k h h',St k h->(∀o,h.get? i=some o->h'.get? i=some o)->St k h'
 kept:∀h h',Ct h->(∀o,h.get? l=some o->h'.get? l=some o)->Ct h'
 item:∀(A:TF) (E:Sh->Si->Prop) (s:Si) (k:Nat) (x:Sh) (Q:Sh->Si->Prop),St k s.heap->Ct s.heap->vs[k]?=some x ->
  (∀h',St (k+1) h'->Uq i s.heap h'->Q x {s with heap:=h'})->S6 (model prog w) A (Ug (.ref i)) Q E s
 done:∀(A:TF) (E:Sh->Si->Prop) (s:Si) (k:Nat) (Q:Sh->Si->Prop),A.handled=none->St k s.heap->Ct s.heap->vs[k]?=none ->
  (∀h' e,Heap.ExtBut i s.heap h'->(∃o,h'.get? e=some o/\o.cls=.type "StopIteration")->E (.ref e) {s with heap:=h'})->S6 (model prog w) A (Ug (.ref i)) Q E s
variable {prog:So}{w:SI}
theorem zD {i l:Addr}{vs:List Sh}:Gj prog w i l vs (λk h=>h.IsListIter i l k) (λh=>h.IsList l vs.toArray) where
 obj:=λk h ⟨o,a,_,d⟩=>⟨o,a,λv z=>by rw[d]at z;cases z⟩
 keep:=λk h h' a k1=>a.at k1
 kept:=λh h' b k2=>b.at k2
 item:=λA E s k x Q a b hx q=>wpAny_nextOf_list_item a b (by simpa using hx) λh' a' sb=>q h' a' sb
 done:=λA E s k Q hh a b hx q=>wpAny_nextOf_list_end hh a b (by simpa using hx) q
structure Apart (z TI TO i1 i2 l1 l2:Addr):Prop where
 nd:[z,TI,TO,i1,i2].Nodup
 o1:∀c∈[z,TO,i1,i2],l1≠c
 o2:∀c∈[z,TO,i1,i2],l2≠c
section
variable {A:TF}{E:Sh->Si->Prop}{s:Si}{z TI TO i1 i2 l1 l2:Addr}{vs us:List Sh}{S1 S2:Nat->Heap->Prop}{C1 C2:Heap->Prop}
theorem wR (P:Apart z TI TO i1 i2 l1 l2)(D1:Gj prog w i1 l1 vs S1 C1)(D2:Gj prog w i2 l2 us S2 C2){k:Nat}{x y a b:Sh}{Q:Option Sh->Si->Prop}(hz:Wt s.heap z TI TO .none)(M5:UY s.heap TI (.ref i1) (.ref i2))(M4:UY s.heap TO a b)
  (h1:S1 k s.heap) (h2:S2 k s.heap) (c1:C1 s.heap) (c2:C2 s.heap) (hx:vs[k]?=some x) (hy:us[k]?=some y)
  (q:∀h',Wt h' z TI TO (rawInt s.heap.objs.size)->UY h' TO x y->S1 (k+1) h'->S2 (k+1) h'->UY h' s.heap.objs.size x y->(∀c o,c∉[z,TO,i1,i2]->s.heap.get? c=some o->h'.get? c=some o)->Q (some (.ref s.heap.objs.size)) {s with heap:=h'}) :
  S6 (model prog w) A (VB (.ref z)) Q E s:=by
 have hT:s.TypeIs (.ref z) "zip" := ⟨_,hz,rfl⟩;obtain⟨nd,o1,o2⟩:=P;simp only[S4,Sr,Tt,or_false,not_or,Tv,not_false_eq_true,and_true]at nd;obtain⟨⟨O6,Dr,Dq,FV⟩,⟨TITO,TIi1,TIi2⟩,⟨TOi1,TOi2⟩,i12⟩:=nd;have a1:=o1 z (by simp);have a2:=o1 TO (by simp);have a3:=o1 i1 (by simp);have a4:=o1 i2 (by simp)
 have b1:=o2 z (by simp);have b2:=o2 TO (by simp);have b3:=o2 i1 (by simp);have b4:=o2 i2 (by simp)
 unfold VB;apply Sf;apply VP;apply U7 (name:=WU "__next__") hT F.slot_zip_next;refine Ut F.slot_zip_next hT F.entry_zip_next ?_ (F.args_zip_next_1 _)
 change S6 (model prog w) _ (field (.ref z) 2 >>= _) _ _ _
 apply Sf;apply U6 hz rfl (x:=.bool false) rfl
 change S6 (model prog w) _ (field (.ref z) 3 >>= _) _ _ _
 apply Sf;apply U6 hz rfl (x:=.ref TI) rfl;apply Sf;apply UC M5 rfl
 change S6 (model prog w) _ (Us (.ref z) >>= _) _ _ _
 apply Sf;unfold Us;apply Sf;apply U6 hz rfl (x:=.none) rfl;apply Sm;simp only[if_true];apply Sf;apply UO;apply Sf;apply U6 hz rfl (x:=.ref TO) rfl;apply Sf;refine Uh hz (by simp) λg1 y1 e1=>?_
 have z1:Wt g1 z TI TO .ellipsis:=y1;apply Sf;simp only[W8,List.zipIdx_nil,Wg,List.forIn_nil];apply Sf;apply Sf;apply WG
 change S6 (model prog w) _ (Ug (.ref i1) >>= _) _ _ _
 apply Sf;refine D1.item _ _ _ k x _ (D1.keep k _ _ h1 (λo e=>e1.extBut _ _ (T5 Dq) e)) (D1.kept _ _ c1 λo e=>e1.extBut _ _ a1 e) hx λg2 s2 e2=>Sm ?_;have t2:UY g2 TO a b:=e2.extBut _ _ TOi1 (e1.extBut _ _ (T5 Dr) M4);apply Sf;apply UC t2 rfl;apply Sf;refine Wr t2 λg3 y3 e3=>?_;have t3:UY g3 TO x b:=y3;apply Sf;refine wpAny_letGo (Sm ?_);apply Sf;apply Sf;apply WG
 change S6 (model prog w) _ (Ug (.ref i2) >>= _) _ _ _
 apply Sf;have k2:S2 k g3:=D2.keep k _ _ h2 λo e=>e3.extBut _ _ (T5 TOi2) (e2.extBut _ _ (T5 i12) (e1.extBut _ _ (T5 FV) e));have k3:C2 g3:=D2.kept _ _ c2 λo e=>e3.extBut _ _ b2 (e2.extBut _ _ b3 (e1.extBut _ _ b1 e));refine D2.item _ _ _ k y _ k2 k3 hy λg4 s4 e4=>Sm ?_;have t4:UY g4 TO x b:=e4.extBut _ _ TOi2 t3;apply Sf;apply UC t4 rfl;apply Sf;refine Wr t4 λg5 y5 e5=>?_;have t5:UY g5 TO x y:=y5;apply Sf;refine wpAny_letGo (Sm (Sm ?_));apply Sf;apply UC t5 rfl;apply Sf;refine wpAny_newTuple ?_;have hsz:g5.objs.size=s.heap.objs.size:=by rw[e5.1,e4.1,e3.1,e2.1,e1.1]
 have z5:Wt g5 z TI TO .ellipsis:=e5.extBut _ _ Dr (e4.extBut _ _ FV (e3.extBut _ _ Dr (e2.extBut _ _ Dq z1)));have old:∀c o,c∉[z,TO,i1,i2]->s.heap.get? c=some o->g5.get? c=some o:=λc o hc e=>by
  simp only[Sr,Tt,or_false,not_or]at hc;obtain⟨c1,c2,c3,c4⟩:=hc;exact e5.extBut _ _ c2 (e4.extBut _ _ c4 (e3.extBut _ _ c2 (e2.extBut _ _ c3 (e1.extBut _ _ c1 e))))
 have n1:S1 (k+1) g5:=D1.keep _ _ _ s2 λo e=>e5.extBut _ _ (T5 TOi1) (e4.extBut _ _ i12 (e3.extBut _ _ (T5 TOi1) e));have n2:S2 (k+1) g5:=D2.keep _ _ _ s4 λo e=>e5.extBut _ _ (T5 TOi2) e;have NO:=SD z5
 change S6 (model prog w) _ (WE (.ref z) (.ref g5.objs.size) >>= _) _ _ _
 apply Sf;unfold WE;have z6:Wt (g5.push {cls:=.type "tuple",data:=.seq #[x,y]}) z TI TO .ellipsis:=Sl _ z5;apply Sf;refine Uh z6 (by simp) λg7 y7 e7=>?_
 have z7:Wt g7 z TI TO (rawInt g5.objs.size):=y7;refine Uh z7 (by simp) λg8 y8 e8=>?_
 have z8:Wt g8 z TI TO (rawInt g5.objs.size):=y8;have up:∀c o,c≠z->g5.get? c=some o->g8.get? c=some o:=λc o c1 e=>e8.extBut _ _ c1 (e7.extBut _ _ c1 (Sl _ e));have t8:UY g8 g5.objs.size x y:=e8.extBut _ _ (WW NO) (e7.extBut _ _ (WW NO) (Tf _ rfl));rw[hsz]at z8 t8;refine Sm ⟨_,rfl,Sm ?_⟩;show Q (some (.ref g5.objs.size)) _;rw[hsz];exact q g8 z8 (up _ _ (T5 Dr) t5) (D1.keep _ _ _ n1 λo e=>up _ _ (T5 Dq) e) (D2.keep _ _ _ n2 λo e=>up _ _ (T5 FV) e) t8 λc o hc e=>up c o (λw=>hc (by simp[w])) (old c o hc e)
theorem Ai (P:Apart z TI TO i1 i2 l1 l2)(D1:Gj prog w i1 l1 vs S1 C1)(D2:Gj prog w i2 l2 us S2 C2)(hh:A.handled=none){k:Nat}{a b:Sh}{Q:Option Sh->Si->Prop}(hz:Wt s.heap z TI TO .none)(M5:UY s.heap TI (.ref i1) (.ref i2))(M4:UY s.heap TO a b)
  (h1:S1 k s.heap) (h2:S2 k s.heap) (c1:C1 s.heap) (c2:C2 s.heap) (hx:vs[k]?=none\/us[k]?=none)
  (q:∀h',(∀c o,c∉[z,TO,i1,i2]->s.heap.get? c=some o->h'.get? c=some o)->Q none {s with heap:=h'}) :
  S6 (model prog w) A (VB (.ref z)) Q E s:=by
 have hT:s.TypeIs (.ref z) "zip" := ⟨_,hz,rfl⟩;obtain⟨nd,o1,o2⟩:=P;simp only[S4,Sr,Tt,or_false,not_or,Tv,not_false_eq_true,and_true]at nd;obtain⟨⟨O6,Dr,Dq,FV⟩,⟨TITO,TIi1,TIi2⟩,⟨TOi1,TOi2⟩,i12⟩:=nd;have a1:=o1 z (by simp);have b1:=o2 z (by simp);have b2:=o2 TO (by simp);have b3:=o2 i1 (by simp)
 have oc:∀{c:Addr},c∉[z,TO,i1,i2]->c≠z/\c≠TO/\c≠i1/\c≠i2:=λhc=>by simpa[not_or] using hc
 have OJ:A.in1.handled=none:=hh;unfold VB;apply Sf;apply VP;apply U7 (name:=WU "__next__") hT F.slot_zip_next;refine Ut F.slot_zip_next hT F.entry_zip_next ?_ (F.args_zip_next_1 _);have fin:∀(h':Heap) (e:Addr),(∀c o,c∉[z,TO,i1,i2]->s.heap.get? c=some o->h'.get? c=some o)->(∃o,h'.get? e=some o/\o.cls=.type "StopIteration") ->
   S6 (model prog w) A (do if <- isInstance (.ref e) (.type "StopIteration") then pure none else throw (.ref e)) Q E {s with heap:=h'}:=λh' e hk IT=> by
  obtain⟨o,ho,hc⟩ := IT;apply Sf;refine W4 (T:="StopIteration") (b:=true) ⟨o,ho,hc⟩ isSubtype_stop ?_;exact Sm (q h' hk)
 change S6 (model prog w) _ (field (.ref z) 2 >>= _) _ _ _
 apply Sf;apply U6 hz rfl (x:=.bool false) rfl
 change S6 (model prog w) _ (field (.ref z) 3 >>= _) _ _ _
 apply Sf;apply U6 hz rfl (x:=.ref TI) rfl;apply Sf;apply UC M5 rfl
 change S6 (model prog w) _ (Us (.ref z) >>= _) _ _ _
 apply Sf;unfold Us;apply Sf;apply U6 hz rfl (x:=.none) rfl;apply Sm;simp only[if_true];apply Sf;apply UO;apply Sf;apply U6 hz rfl (x:=.ref TO) rfl;apply Sf;refine Uh hz (by simp) λg1 y1 e1=>?_
 have z1:Wt g1 z TI TO .ellipsis:=y1;apply Sf;simp only[W8,List.zipIdx_nil,Wg,List.forIn_nil];apply Sf;apply Sf;apply WG
 change S6 (model prog w) _ (Ug (.ref i1) >>= _) _ _ _
 apply Sf;have f1:S1 k g1:=D1.keep k _ _ h1 λo e=>e1.extBut _ _ (T5 Dq) e;have f2:C1 g1:=D1.kept _ _ c1 λo e=>e1.extBut _ _ a1 e;cases ex:vs[k]? with
 |none =>
  refine D1.done _ _ _ k _ OJ f1 f2 ex λg2 e e2 he=>?_;obtain⟨oe,ge,ce⟩:=he;have z2:Wt g2 z TI TO .ellipsis:=e2 _ _ Dq z1;have ez:e≠z:=λw=>by subst w;rw[z2]at ge;cases ge;simp at ce
  refine Uh z2 (by simp) λg3 _ e3=>fin g3 e (λc o hc x=>?_) ⟨oe,e3.extBut _ _ ez ge,ce⟩
  obtain⟨q1,q2,q3,q4⟩:=oc hc;exact e3.extBut _ _ q1 (e2 _ _ q3 (e1.extBut _ _ q1 x))
 |some x =>
  have ey:us[k]?=none:=hx.resolve_left (by rw[ex];intro z;cases z)
  refine D1.item _ _ _ k x _ f1 f2 ex λg2 s2 e2=>Sm ?_;have t2:UY g2 TO a b:=e2.extBut _ _ TOi1 (e1.extBut _ _ (T5 Dr) M4);apply Sf;apply UC t2 rfl;apply Sf;refine Wr t2 λg3 y3 e3=>?_;apply Sf;refine wpAny_letGo (Sm ?_);apply Sf;apply Sf;apply WG
  change S6 (model prog w) _ (Ug (.ref i2) >>= _) _ _ _
  apply Sf;have k2:S2 k g3:=D2.keep k _ _ h2 λo e=>e3.extBut _ _ (T5 TOi2) (e2.extBut _ _ (T5 i12) (e1.extBut _ _ (T5 FV) e));have k3:C2 g3:=D2.kept _ _ c2 λo e=>e3.extBut _ _ b2 (e2.extBut _ _ b3 (e1.extBut _ _ b1 e));refine D2.done _ _ _ k _ OJ k2 k3 ey λg4 e e4 he=>?_;obtain⟨oe,ge,ce⟩:=he;have z4:Wt g4 z TI TO .ellipsis:=e4 _ _ FV (e3.extBut _ _ Dr (e2.extBut _ _ Dq z1));have ez:e≠z:=λw=>by subst w;rw[z4]at ge;cases ge;simp at ce
  refine Uh z4 (by simp) λg5 _ e5=>fin g5 e (λc o hc x=>?_) ⟨oe,e5.extBut _ _ ez ge,ce⟩
  obtain⟨q1,q2,q3,q4⟩:=oc hc;exact e5.extBut _ _ q1 (e4 _ _ q4 (e3.extBut _ _ q2 (e2.extBut _ _ q3 (e1.extBut _ _ q1 x))))
end
section
end
end Zp
namespace L2
open PySem PySem.Spec PySem.SeqAt PyProof.Rows Zp
abbrev Ku:=Hp->List V->Prop
def O1 (c1 c2:Ku):It :=
 ⟨λi H=>∃xs ys x y,c1 H xs/\c2 H ys/\xs[i]?=some x/\ys[i]?=some y,
  λi H x H'=>∃T,H T=none/\x=.ref T/\∀xs ys,c1 H xs->c2 H ys->∃a b,xs[i]?=some a/\ys[i]?=some b/\H'=upd H T (.tup [a,b]),
  λi H=>∃xs ys,c1 H xs/\c2 H ys/\(xs[i]?=none\/ys[i]?=none)⟩
structure Src (P:So)(w:SI)(K:PySem.W.Frag)(i l:Addr)(c:Ku)(S:Nat->Heap->Prop):Prop where
 «at»:∀(X:Cx) (pins:List (Addr×Obj)) (σ:St) (H:Hp) (s:Si) (xs:List V),X.prog=P->X.w=w->X.K=K->Inv X pins σ H s->c H xs->∃vs Ct,Vals xs vs/\Gj P w i l vs S Ct/\Ct s.heap
 obj:∀k h,S k h->∃o,h.get? i=some o/\∀v,o.data≠.cell v
 keep:∀k h h',S k h->(∀o,h.get? i=some o->h'.get? i=some o)->S k h'
 inj:∀(H:Hp) (xs ys:List V),c H xs->c H ys->xs=ys
 old:∀(H:Hp) (xs:List V),c H xs->H l≠none
theorem src_list {P:So}{w:SI}{K:PySem.W.Frag}{i l:Addr}:Src P w K i l (λH xs=>H l=some (.lst xs)) (λk h=>h.IsListIter i l k) where
 «at»:=λX pins σ H s xs hp hw hk I h=>by
  obtain⟨its,r',pl,_⟩:=I.list (cE.of h);exact⟨its,_,r',zD,pl.isList⟩
 obj:=λk h ⟨o,a,_,d⟩=>⟨o,a,λv z=>by rw[d]at z;cases z⟩
 keep:=λk h h' a k1=>a.at k1
 inj:=λH xs ys h h'=>by rw[h]at h';cases h';rfl
 old:=λH xs h z=>by rw[h]at z;cases z
theorem Inv.t9 {X:Cx}{pins:List (Addr×Obj)}{σ:St}{H:Hp}{s:Si}{fp:List Addr}{h':Heap}{x y:V}{u v:Sh}(I:Inv X pins σ H s)(hf:∀b∈fp,fx X pins H b)(k:∀c o,c∉fp->s.heap.get? c=some o->h'.get? c=some o)
  (rx:RelV x u) (ry:RelV y v) (hT:UY h' s.heap.objs.size u v):Inv X pins σ (upd H s.heap.objs.size (.tup [x,y])) {s with heap:=h'}:=by
 have hn:H s.heap.objs.size=none:=I.bG.fresh (Sj _);have ne:∀{b:Addr} {o:Obj},s.heap.get? b=some o->b≠s.heap.objs.size:=λe=>S5 (SD e);have nt:∀{b:Addr} {o:HO},H b=some o->b≠s.heap.objs.size:=λe z=>by rw[z,hn]at e;cases e
 have nf:∀{b:Addr} {o:HO},H b=some o->b∉fp:=λe z=>by rw[(hf _ z).1]at e;cases e
 refine I.call (g':=s.gens) (t':=s.toks) (d':=s.drawn) (ch:=fp) ⟨λb o e n _ hc=>k b o hc e,λb o e n _ hc=>⟨o.slots,k b o hc e⟩,λb o e n _=>by rw[ak (ne e)];exact n,λb o e hc=>⟨o,k b o hc e⟩,
  λb xs e=>by rw[ak (nt e)];exact e,λb o u e=>by rw[ak (nt e)];exact e,λb ps e=>⟨#[],by rw[ak (nt e),e];simp⟩⟩ (λb u e=>?_) I.bare λb hb=>?_
 ·by_cases hb:b=s.heap.objs.size
  ·subst hb;rw[ar]at e;cases e;exact⟨by show 2<=SG;decide,[_,_],.cons rx (.cons ry .nil),⟨_,hT,rfl,_,rfl⟩⟩
  ·rw[ak hb]at e;refine(I.bG b u e).ph (λc v hc q=>k c v ?_ q) (λc q=>by rw[ak (nt q)];exact q) λc xs q=>by rw[ak (nt q)];exact q
   rcases hc with z|z
   ·rw[z];exact nf e
   ·exact nf z
 ·obtain⟨f0,f1,f2,f3,f4,f5⟩:=hf b hb;exact⟨f3,f1,f4,f5⟩
theorem Inv.jC {X:Cx}{pins:List (Addr×Obj)}{σ:St}{H:Hp}{s:Si}{fp:List Addr}{h':Heap}(I:Inv X pins σ H s)(hf:∀b∈fp,fx X pins H b)(k:∀c o,c∉fp->s.heap.get? c=some o->h'.get? c=some o):Inv X pins σ H {s with heap:=h'}:=by
 have nf:∀{b:Addr} {o:HO},H b=some o->b∉fp:=λe z=>by rw[(hf _ z).1]at e;cases e
 refine I.call (g':=s.gens) (t':=s.toks) (d':=s.drawn) (ch:=fp) ⟨λb o e n _ hc=>k b o hc e,λb o e n _ hc=>⟨o.slots,k b o hc e⟩,λb o e n _=>n,λb o e hc=>⟨o,k b o hc e⟩,λb xs e=>e,λb o u e=>e,λb ps e=>⟨#[],by rw[e];simp⟩⟩ (λb u e=>?_) I.bare λb hb=>?_
 ·refine(I.bG b u e).ph (λc v hc q=>k c v ?_ q) (λc q=>q) λc xs q=>q;rcases hc with z|z
  ·rw[z];exact nf e
  ·exact nf z
 ·obtain⟨f0,f1,f2,f3,f4,f5⟩:=hf b hb;exact⟨f3,f1,f4,f5⟩
theorem xb {P:So}{w:SI}{K:PySem.W.Frag}{elts:List Expr}{kk:Nat}{pos:Pos}{z TI TO i1 i2 l1 l2:Addr}{c1 c2:Ku}{S1 S2:Nat->Heap->Prop}(Ap:Apart z TI TO i1 i2 l1 l2)(s1:Src P w K i1 l1 c1 S1)(s2:Src P w K i2 l2 c2 S2):
  Turn P w K (.Tuple elts kk pos) (O1 c1 c2) [z,TI,TO,i1,i2] z (λk h=>Wt h z TI TO .none/\UY h TI (.ref i1) (.ref i2)/\(∃a b,UY h TO a b)/\S1 k h/\S2 k h) where
 mem:=by simp
 obj:=λk h IS c hc=> by
  obtain⟨h1,h2,⟨a,b,h3⟩,h4,h5⟩ := IS;simp only[Sr,Tt,or_false]at hc;rcases hc with rfl|rfl|rfl|rfl|rfl
  ·exact⟨_,h1,λv z=>by cases (show Xe _=WA v from z)⟩
  ·exact⟨_,h2,λv z=>by cases (show Data.seq _ _=WA v from z)⟩
  ·exact⟨_,h3,λv z=>by cases (show Data.seq _ _=WA v from z)⟩
  ·exact s1.obj k h h4
  ·exact s2.obj k h h5
 keep:=λk h h' ⟨h1,h2,⟨a,b,h3⟩,h4,h5⟩ kp=>⟨kp z (by simp) _ h1,kp TI (by simp) _ h2,⟨a,b,kp TO (by simp) _ h3⟩,s1.keep k h h' h4 (λo e=>kp i1 (by simp) o e),s2.keep k h h' h5 λo e=>kp i2 (by simp) o e⟩
 item:=by
  intro X hP hw hK hc i pins s σ H E I hf st hg;obtain⟨g1,g2,⟨a,b,g3⟩,g4,g5⟩:=st;obtain⟨xs,ys,x,y,hx,hy,ex,ey⟩:=hg;obtain⟨vs,C1,r1,D1,k1⟩:=s1.at X pins σ H s xs hP hw hK I hx;obtain⟨us,C2,r2,D2,k2⟩:=s2.at X pins σ H s ys hP hw hK I hy;obtain⟨u,eu,ru⟩:=r1.get ex;obtain⟨v,ev,rv⟩:=r2.get ey;have sub:∀c∈[z,TO,i1,i2],c∈[z,TI,TO,i1,i2]:=λc hc=>by simp at hc ⊢;rcases hc with h|h|h|h <;> simp[h]
  refine wR Ap D1 D2 g1 g2 g3 g4 g5 k1 k2 eu ev λh' y1 y2 y3 y4 y5 y6=>?_;have I1:=I.t9 (fp:=[z,TI,TO,i1,i2]) hf (λc o s9 e=>y6 c o (λq=>s9 (sub c q)) e) ru rv y5;have nT:∀b∈[z,TI,TO,i1,i2],upd H s.heap.objs.size (.tup [x,y]) b=none:=λb hb=>by
   have:b≠s.heap.objs.size:=by
    have:=(show (∃o,s.heap.get? b=some o) from by
     simp only[Sr,Tt,or_false]at hb;rcases hb with rfl|rfl|rfl|rfl|rfl
     ·exact⟨_,g1⟩
     ·exact⟨_,g2⟩
     ·exact⟨_,g3⟩
     ·exact⟨_,(s1.obj i _ g4).choose_spec.1⟩
     ·exact⟨_,(s2.obj i _ g5).choose_spec.1⟩)
    obtain⟨o,e⟩:=this;exact S5 (SD e)
   rw[ak this];exact(hf b hb).1
  have Rb:UY h' TI (.ref i1) (.ref i2):=y6 TI _ (by
   have:=Ap.nd;simp only[S4,Sr,Tt,or_false,not_or]at this ⊢
   obtain⟨⟨q1,_⟩,⟨q2,q3,q4⟩,_⟩:=this;exact⟨T5 q1,q2,q3,q4⟩) g2
  refine⟨_,rfl,wpAny_letOwnedTupleGo_zip y1 λh'' z' sb=>?_⟩;have I2:Inv X pins σ (upd H s.heap.objs.size (.tup [x,y])) {s with heap:=h''}:=by
   refine I1.jC (fp:=[z]) (λb hb=>?_) λc o s9 e=>sb.extBut _ _ (by simpa using s9) e
   have e:b=z:=by simpa using hb
   subst e;exact⟨nT b (by simp),(hf b (by simp)).2⟩
  have JW:∀c∈[TI,TO,i1,i2],c≠z:=λc hc q=>by
   have:=Ap.nd;rw[S4]at this;exact this.1 (by rw[<- q];exact hc)
  refine⟨.ref s.heap.objs.size,_,I2,rfl,⟨s.heap.objs.size,I.bG.fresh (Sj _),rfl,λJX O7 yU L0=>?_⟩,⟨z',sb.extBut _ _ (JW TI (by simp)) Rb,⟨_,_,sb.extBut _ _ (JW TO (by simp)) y2⟩,s1.keep _ _ _ y3 (λo e=>sb.extBut _ _ (JW i1 (by simp)) e),s2.keep _ _ _ y4 λo e=>sb.extBut _ _ (JW i2 (by simp)) e⟩,nT⟩
  rw[s1.inj H JX xs yU hx,s2.inj H O7 ys L0 hy];exact⟨x,y,ex,ey,rfl⟩
 done:=by
  intro X hP hw hK hc i pins s σ H E I hf st hg;obtain⟨g1,g2,⟨a,b,g3⟩,g4,g5⟩:=st;obtain⟨xs,ys,hx,hy,ex⟩:=hg;obtain⟨vs,C1,r1,D1,k1⟩:=s1.at X pins σ H s xs hP hw hK I hx;obtain⟨us,C2,r2,D2,k2⟩:=s2.at X pins σ H s ys hP hw hK I hy;have sub:∀c∈[z,TO,i1,i2],c∈[z,TI,TO,i1,i2]:=λc hc=>by simp at hc ⊢;rcases hc with h|h|h|h <;> simp[h]
  refine Ai Ap D1 D2 (I.ok.hd hc) g1 g2 g3 g4 g5 k1 k2 (ex.imp (λq=>r1.none_of q) λq=>r2.none_of q) λh' y6=>?_;exact⟨rfl,I.jC (fp:=[z,TI,TO,i1,i2]) hf λc o s9 e=>y6 c o (λq=>s9 (sub c q)) e⟩
 self:=λA i s Q E ⟨h1,_⟩ q=>wpAny_pyIter_zip h1 q
theorem FI:TV "zip" = some (.type "zip"):=by decide +kernel
def gb:List D->List D->List D
 |a::as,b::bs=>.tup [a,b]::gb as bs
 |_,_=>[]
theorem jQ:∀{as bs:List D} {i:Nat} {d:D},(gb as bs)[i]?=some d->∃a b,as[i]?=some a/\bs[i]?=some b/\d=.tup [a,b]
 |[],_,_,_,h=>by simp[gb]at h
 |_::_,[],_,_,h=>by simp[gb]at h
 |a::as,b::bs,0,_,h=>by simp[gb]at h;exact⟨a,b,rfl,rfl,h.symm⟩
 |a::as,b::bs,i+1,_,h=>by
  obtain⟨x,y,h1,h2,h3⟩:=jQ (as:=as) (bs:=bs) (i:=i) (by simpa[gb] using h)
  exact⟨x,y,by simpa using h1,by simpa using h2,h3⟩
theorem jP:∀(as bs:List D),(gb as bs).length=min as.length bs.length
 |[],_=>by simp[gb]
 |_::_,[]=>by simp[gb]
 |a::as,b::bs=>by simp[gb,jP as bs]
section
variable {X:Cx}{W:Addr->Prop}{H:Hp}{l1 l2:Addr}{xs ys:List V}{ds es:List D}
def Ae (t:Bool)(l:Addr):Ku:=λH xs=>if t=true then H l=some (.tup xs) else H l=some (.lst xs)
theorem BC (t:Bool)(h1:Ae t l1 H xs)(h2:Ae t l2 H ys)(n1:t=false->¬ W l1)(n2:t=false->¬ W l2)(r1:ir X W H ds xs)(r2:ir X W H es ys):tY X W (O1 (Ae t l1) (Ae t l2)) (gb ds es) H:=λW' hW i H' k=>by
 have st:∀{l:Addr} {xs:List V},Ae t l H xs->(t=false->¬ W l)->Ae t l H' xs:=λ{l xs} h n=>by
  unfold Ae at h ⊢
  cases t with
  |true=>exact k.tup l xs h
  |false=>exact k.out l _ h λz=>(hW l z).elim (n rfl) λq=>by rw[show H l=some (HO.lst xs) from h]at q;cases q
 have inj:∀{l:Addr} {xs ys:List V},Ae t l H' xs->Ae t l H' ys->xs=ys:=λ{l xs ys} a b=>by
  unfold Ae at a b;cases t with
  |true=>rw[show H' l=some (HO.tup xs) from a]at b;cases b;rfl
  |false=>rw[show H' l=some (HO.lst xs) from a]at b;cases b;rfl
 have q1:=(ah.grow hW r1).keep k;have q2:=(ah.grow hW r2).keep k;constructor
 ·intro d hd;obtain⟨a,b,ha,hb,rfl⟩:=jQ hd;obtain⟨x,ex,rx⟩:=ah.get q1 ha;obtain⟨y,ey,ry⟩:=ah.get q2 hb;refine⟨⟨xs,ys,x,y,st h1 n1,st h2 n2,ex,ey⟩,λv H1 ⟨T,hT,e,yl⟩=>?_⟩;obtain⟨x',y',Jp,OT,eH⟩:=yl xs ys (st h1 n1) (st h2 n2);rw[ex]at Jp;rw[ey]at OT;cases Jp;cases OT;subst e eH;exact⟨au.new hT,Rp.xc hT (.cons rx (.cons ry .nil))⟩
 ·intro hl;rw[jP]at hl;have z1:=q1.length;have z2:=q2.length;refine⟨xs,ys,st h1 n1,st h2 n2,?_⟩
  by_cases h:ds.length<=i
  ·exact .inl (S7 (by lia))
  ·exact .inr (S7 (by lia))
end
section
end
theorem bK {lo:Int}{n i:Nat}{d:D}(h:(l6 lo n)[i]?=some d):i<n/\d=.int (lo+i):=by
 unfold l6 at h;rw[Su]at h;have hi:i<n:=by
  by_cases hi:i<n
  ·exact hi
  ·rw[S7 (by simpa using hi)]at h;cases h
 rw[Up hi]at h;cases h;exact⟨hi,rfl⟩
theorem cq {lo:Int}{n:Nat}:(l6 lo n).length=n:=by unfold l6;simp
section
end
structure Df (K:PySem.W.Frag)(mg:Str->Option Sh)(x:Str)(st:Stmt)(ps:List Str)(f:Addr)(fd:Tn):Prop where
 F:Ah K x x st f fd
 b:Binds K fd ps []
 m:mg x=some (.ref f)
structure Bs (mg:Str->Option Sh):Prop where
 max:mg "max" = none
 min:mg "min" = none
 int:mg "int" = none
 range:mg "range" = none
 sorted:mg "sorted" = none
 set:mg "set" = none
 len:mg "len" = none
 list:mg "list" = none
theorem FJ:TV "set" = some (.type "set"):=by decide +kernel
theorem cW.As {k:Nat}{A:TF}(r:cW k A):A.units+16<Vx:=by have:=r.un;lia
def Nu (n:Int)(t:List Int):Prop:=∃a b,t=[a,b]/\0<=a/\a<b/\b<n
theorem Nu.ne {n:Int}{t:List Int}(h:Nu n t):t≠[]:=by
 obtain⟨a,b,rfl,_⟩:=h;intro z;cases z
def bg (n:Int)(ts:List (List Int)):Prop:=∀t∈ts,Nu n t
theorem bg.ne {n:Int}{ts:List (List Int)}(h:bg n ts):∀k∈ts,k≠[]:=λk hk=>(h k hk).ne
theorem bg.nil {n:Int}:bg n []:=λ_ z=>(nomatch z)
theorem bg.app {n:Int}{ts us:List (List Int)}(h:bg n ts)(h':bg n us):bg n (ts++us):=λt ht=>(SO.mp ht).elim (h t) (h' t)
theorem bg.one {n:Int}{a b:Int}(h1:0<=a)(h2:a<b)(h3:b<n):bg n [[a,b]]:=λt ht=>by
 rw[SF.mp ht];exact⟨a,b,rfl,h1,h2,h3⟩
theorem fL (ts:List (List Int)):D.cw (ts.map kD)=true:=by
 have fi:∀k:List Int,D.cw (k.map D.int)=true:=λk=>by
  induction k with
  |nil=>rfl
  |cons i k ih=>show (D.flat (.int i)&&D.cw (k.map D.int))=true;rw[ih];rfl
 induction ts with
 |nil=>rfl
 |cons t ts ih =>
  show (D.flat (kD t)&&D.cw (ts.map kD))=true;rw[ih];show (D.cw (t.map D.int)&&true)=true;rw[fi];rfl
theorem rT {ts:List (List Int)}(h:∀k∈ts,k≠[])(l:ts.length<=1000000):(match [D.lst (ts.map kD)]with | [.lst ds]=>oI [.lst ds]|_=>none)=some (.lst ((gi ts).map kD)):=by
 show (match dN (ts.map kD)with|some ks=>if ks.length<=1000000 then some (D.lst ((gi ks).map kD)) else none|none=>none)=_
 rw[iR h];show (if ts.length<=1000000 then some (D.lst ((gi ts).map kD)) else none)=_
 rw[if_pos l]
theorem xq {n:Int}{ts:List (List Int)}(h:bg n ts):bg n (gi ts):=λt ht=>h t ((dZ ts).mem_iff.mp ht)
theorem xF {ts:List (List Int)}(h:∀k∈ts,k≠[])(l:ts.length<1000):C_ [.lst (ts.map kD)]=some (.sT (my ts)):=by
 show (match dN (ts.map kD)with|some ks=>if ks.length<1000 then some (D.sT (my ks)) else none|none=>none)=_
 rw[iR h];show (if ts.length<1000 then some (D.sT (my ts)) else none)=_
 rw[if_pos l]
theorem rS {ts:List (List Int)}(h:∀k∈ts,k≠[])(l:ts.length<1000):(match [D.sT (my ts)]with | [.sT ts]=>oI [.sT ts]|_=>none)=some (.lst ((gi (my ts)).map kD)):=by
 show (if (my ts).length<=1000/\(∀k∈my ts,k≠[]) then some (D.lst ((gi (my ts)).map kD)) else none)=_
 rw[if_pos ⟨by have:=uQ ts;lia,λk hk=>h k (((fO ts).2 k).mp hk)⟩]
def qM:FD:=λds R=>∃n:Int,ds=[.int n]/\0<=n/\n<=1000/\∀ts:List (List Int),ts.length<=n.toNat->bg n ts->R (.lst (ts.map kD))
theorem qM.mono:du qM:=λds R R' k ⟨n,e,h1,h2,q⟩=>⟨n,e,h1,h2,λts a b=>k _ (q ts a b)⟩
def Drawn (n:Int)(ts:List (List Int)):Prop:=ts.length<=300/\bg n ts/\tT ts/\ts.Nodup
def qG:FD:=λds R=>∃n:Int,ds=[.int n]/\2<=n/\n<=40/\∀ts,Drawn n ts->R (.lst (ts.map kD))
theorem qG.mono:du qG:=λds R R' k ⟨n,e,h1,h2,q⟩=>⟨n,e,h1,h2,λts a=>k _ (q ts a)⟩
def zu:FD:=λds R=>ds=[]/\∀(n:Int) ts,0<=n->n<=40->Drawn n ts->R (.tup [.int n,.lst (ts.map kD)])
theorem zu.mono:du zu:=λds R R' k ⟨e,q⟩=>⟨e,λn ts a b c=>k _ (q n ts a b c)⟩
theorem zE {n:Int}{ks:List (List Int)}(h:bg n ks):∃ts,cutD ((gi (my ks)).map kD) none (some 300)=ts.map kD/\Drawn n ts:=by
 refine⟨(gi (my ks)).take (min 300 (gi (my ks)).length),?_,?_,?_,?_,?_⟩
 ·unfold cutD;rw[HT.xI,show (some (300:Int))=some ((300:Nat):Int) from rfl,HT.gX,List.drop_zero,<- VS]
  simp
 ·rw[SU];lia
 ·exact λt ht=>h t (((fO ks).2 t).mp ((dZ _).mem_iff.mp (Vt ht)))
 ·exact List.Pairwise.take (j5 _)
 ·exact List.Nodup.sublist (List.take_sublist _ _) ((dZ _).nodup_iff.mpr (fO ks).1)
theorem jE {fs:List (List Int)}{t:List Int}:(fs++[t]).map kD=fs.map kD++[kD t]:=by simp
theorem xx {fs:List Int}{t:Int}:(fs++[t]).map D.int=fs.map D.int++[D.int t]:=by simp
theorem o9 {a b:D}:[a,b].length<=SG:=by show 2<=SG;decide
theorem Pn {a b c:D}:[a,b,c].length<=SG:=by show 3<=SG;decide
theorem FX {a:D}:[a].length<=SG:=by show 1<=SG;decide
theorem sW {b:Bool}{p q:Prop}(hb:b=true)(h:p):(if b=true then p else q):=by rw[if_pos hb];exact h
theorem iq {b:Bool}{p q:Prop}(hb:b=false)(h:q):(if b=true then p else q):=by rw[hb,if_neg (by simp)];exact h
theorem rB {c:Prop}[Decidable c]{p q:Prop}(h1:c->p)(h2:¬ c->q):(if decide c=true then p else q):=by
 by_cases h:c
 ·exact sW (by simp[h]) (h1 h)
 ·exact iq (by simp[h]) (h2 h)
theorem Qh {c:Prop}[Decidable c]{p q:Prop}(h1:¬ c->p)(h2:c->q):(if (!decide c)=true then p else q):=by
 by_cases h:c
 ·exact iq (by simp[h]) (h2 h)
 ·exact sW (by simp[h]) (h1 h)
theorem fX {α:Type}(f:α->D):∀l:List α,D.sj (l.map f)=l.map λa=>(f a).pd
 |[]=>rfl
 |a::l=>by
  show (f a).pd::D.sj (l.map f)=_;rw[fX f l];rfl
theorem nH {n:Nat}:∀{xs:List PyData},(∀x∈xs,x.canLay0=true/\x.depth<=n)->Vd xs=true/\Wc xs<=n
 |[],_=>⟨by simp[Vd],by simp[Wc]⟩
 |x::xs,h=>by
  obtain⟨h1,h2⟩:=nH (n:=n) (xs:=xs) λy hy=>h y (by simp[hy])
  obtain⟨g1,g2⟩:=h x (by simp)
  refine⟨by simp[Vd,h1,g1],?_⟩
  simp only[Wc];lia
theorem mO {n:Nat}{ds:List D}(h:∀d∈ds,d.pd.canLay0=true/\d.pd.depth<=n):(D.lst ds).pd.canLay0=true/\(D.lst ds).pd.depth<=n+1:=by
 have e:D.sj ds=ds.map λd=>d.pd:=by
  have:=fX (λd:D=>d) ds;simpa using this
 obtain⟨h1,h2⟩:=nH (n:=n) (xs:=D.sj ds) λx hx=>by
  rw[e]at hx;obtain⟨d,hd,rfl⟩:=Tj.mp hx;exact h d hd
 refine⟨by simpa[D.pd,Uv] using h1,?_⟩
 have:(D.lst ds).pd.depth=Wc (D.sj ds)+1:=by simp[D.pd,PyData.depth]
 lia
theorem d3 (i:Int):(D.int i).pd.canLay0=true/\(D.int i).pd.depth<=1:=⟨by simp[D.pd,Uv],by simp[D.pd,PyData.depth]⟩
theorem xB (b:Bool):(D.bl b).pd.canLay0=true/\(D.bl b).pd.depth<=1:=⟨by simp[D.pd,Uv],by simp[D.pd,PyData.depth]⟩
theorem b8 (ts:List Int):(D.lst (ts.map D.int)).pd.canLay0=true/\(D.lst (ts.map D.int)).pd.depth<=2:=mO λd hd=>by
 obtain⟨i,_,rfl⟩:=Tj.mp hd;exact d3 i
theorem dS {d:D}{n:Nat}(h:d.pd.canLay0=true/\d.pd.depth<=n)(hn:n<=64:=by decide):d.AB=true:=by
 show (d.pd.canLay0&&decide (d.pd.depth<=64))=true;rw[h.1,decide_eq_true (by lia)]
 rfl
theorem gH {α:Type}[DecidableEq α]{f:α->PyData}(hf:∀a b,Um (f a) (f b)=decide (a=b)):∀xs ys:List α,VR (xs.map f) (ys.map f)=decide (xs=ys)
 |[],[]=>by simp[VR]
 |[],_::_=>by simp[VR]
 |_::_,[]=>by simp[VR]
 |x::xs,y::ys=>by
  simp only[Ta,VR];rw[hf,gH hf xs ys]
  by_cases h1:x=y
  ·by_cases h2:xs=ys <;> simp[h1,h2]
  ·simp[h1]
theorem uM (i j:Int):Um (D.int i).pd (D.int j).pd=decide (i=j):=by
 simp only[D.pd,Um]
 by_cases h:i=j <;> simp[h]
theorem lH (ts us:List Int):Um (D.lst (ts.map D.int)).pd (D.lst (us.map D.int)).pd=decide (ts=us):=by
 show Um (.list (D.sj (ts.map D.int))) (.list (D.sj (us.map D.int)))=_;rw[fX,fX];simp only[Um];exact gH uM ts us
theorem tK {a b:D}{c:Bool}(h1:a.AB=true)(h2:b.AB=true)(e:Um a.pd b.pd=c):Fz a b=some (.bl c):=by
 unfold Fz;rw[if_pos ⟨h1,h2⟩,e]
theorem zG {a b:D}{c:Bool}(h1:a.AB=true)(h2:b.AB=true)(e:Um a.pd b.pd=c):Ju a b=some (.bl (!c)):=by
 unfold Ju;rw[if_pos ⟨h1,h2⟩,e]
theorem b7 (i j:Int):Fz (.int i) (.int j)=some (.bl (decide (i=j))):=tK (dS (d3 i)) (dS (d3 j)) (uM i j)
theorem zJ (ts us:List Int):Fz (.lst (ts.map D.int)) (.lst (us.map D.int))=some (.bl (decide (ts=us))):=tK (dS (b8 ts)) (dS (b8 us)) (lH ts us)
theorem zH (ts us:List Int):Ju (.lst (ts.map D.int)) (.lst (us.map D.int))=some (.bl (!decide (ts=us))):=zG (dS (b8 ts)) (dS (b8 us)) (lH ts us)
theorem Np {α:Type}{ds:List α}{i:Nat}{d:α}(h:ds[i]?=some d):mC ds (i:Int)=some d:=by
 have hl:i<ds.length:=(Sz.mp h).1;unfold mC rA;rw[if_pos (by lia),if_pos (by lia),WZ]
 exact h
theorem zR {α:Type}{ds:List α}{i:Int}(h0:0<=i)(h1:i<ds.length):∃d∈ds,mC ds i=some d/\ds[i.toNat]?=some d:=by
 have hl:i.toNat<ds.length:=by lia
 refine⟨ds[i.toNat],Uu hl,?_,Sk hl⟩;have:=Np (ds:=ds) (i:=i.toNat) (Sk hl)
 rwa [show ((i.toNat:Nat):Int)=i by lia]at this
theorem Cb {ds:List D}{i:Nat}{d:D}(h:ds[i]?=some d):tH (.lst ds) (.int (i:Int))=some d:=Np h
theorem pick {ds:List D}{r:Int}{p:D->Prop}(h0:0<=r)(h1:r<ds.length)(h:∀d∈ds,p d):∃d,tH (.lst ds) (.int r)=some d/\p d:=by
 obtain⟨d,hd,e,_⟩:=zR h0 h1;exact⟨d,e,h d hd⟩
theorem qQ {ks:List Int}{i:Int}(h0:0<=i)(h1:i<ks.length):∃r∈ks,tH (.lst (ks.map D.int)) (.int i)=some (.int r):=by
 obtain⟨r,hr,e,e'⟩:=zR h0 h1;refine⟨r,hr,?_⟩;show mC (ks.map D.int) i=_;have:=Np (ds:=ks.map D.int) (i:=i.toNat) (d:=.int r) (by rw[Su,e'];rfl)
 rwa [show ((i.toNat:Nat):Int)=i by lia]at this
theorem Cj:TV "enumerate" = some (.type "enumerate"):=by decide +kernel
def O2 (l:Addr):It :=
 ⟨λi H=>∃xs x,H l=some (.lst xs)/\xs[i]?=some x,
  λi H x H'=>∃T,H T=none/\x=.ref T/\∀xs,H l=some (.lst xs)->∃a,xs[i]?=some a/\H'=upd H T (.tup [.int i,a]),
  λi H=>∃xs,H l=some (.lst xs)/\xs[i]?=none⟩
theorem u_ {P:So}{w:SI}{K:PySem.W.Frag}{elts:List Expr}{kk:Nat}{pos:Pos}{e it l:Addr}(ne:e≠it):
  Turn P w K (.Tuple elts kk pos) (O2 l) [e,it] e (λk h=>(∃old,IsEnum h e it (k:Int) old)/\h.IsListIter it l k) where
 mem:=by simp
 obj:=λk h IQ c hc=> by
  obtain⟨⟨old,h1⟩,h2⟩ := IQ;simp only[Sr,Tt,or_false]at hc;rcases hc with rfl|rfl
  ·exact⟨_,h1,λv z=>by cases (show Xe _=WA v from z)⟩
  ·obtain⟨o,a,_,d⟩:=h2;exact⟨o,a,λv z=>by rw[d]at z;cases z⟩
 keep:=λk h h' ⟨⟨old,h1⟩,h2⟩ kp=>⟨⟨old,kp e (by simp) _ h1⟩,h2.at λo q=>kp it (by simp) o q⟩
 item:=by
  intro X hP hw hK hc i pins s σ H E I hf st hg;obtain⟨⟨old,g1⟩,g2⟩:=st;obtain⟨xs,x,hx,ex⟩:=hg;obtain⟨its,r',pl,_⟩:=I.list (cE.of hx);obtain⟨u,eu,ru⟩:=r'.get ex;refine wpAny_pyNext_enum_item g1 g2 pl.isList (by simpa using eu) ne λh' y1 y2 y3 y4 y5=>?_
  have I1:=(I.t9 (fp:=[e,it]) (x:=.int i) (u:=.int i s.toks) hf (λc o s9 q=>y5 c o (λz=>s9 (by simp[z])) (λz=>s9 (by simp[z])) q) ⟨_,rfl⟩ ru y3).tok (s.toks+1)
  have nT:∀b∈[e,it],upd H s.heap.objs.size (.tup [.int i,x]) b=none:=λb hb=>by
   have:b≠s.heap.objs.size:=by
    simp only[Sr,Tt,or_false]at hb;rcases hb with rfl|rfl
    ·exact S5 (SD g1)
    ·obtain⟨o,a,_⟩:=g2;exact S5 (SD a)
   rw[ak this];exact(hf b hb).1
  refine⟨_,rfl,wpAny_letOwnedTupleGo_enum y1 λh'' z' sb=>?_⟩;have I2:Inv X pins σ (upd H s.heap.objs.size (.tup [.int i,x])) {s with heap:=h'',toks:=s.toks+1}:=by
   refine I1.jC (fp:=[e]) (λb hb=>?_) λc o s9 q=>sb.extBut _ _ (by simpa using s9) q
   have q:b=e:=by simpa using hb
   subst q;exact⟨nT b (by simp),(hf b (by simp)).2⟩
  refine⟨.ref s.heap.objs.size,_,I2,rfl,⟨s.heap.objs.size,I.bG.fresh (Sj _),rfl,λJX yU=>?_⟩,⟨⟨_,z'⟩,y2.at λo q=>sb.extBut _ _ (T5 ne) q⟩,nT⟩;rw[hx]at yU;cases yU;exact⟨x,ex,rfl⟩
 done:=by
  intro X hP hw hK hc i pins s σ H E I hf st hg;obtain⟨⟨old,g1⟩,g2⟩:=st;obtain⟨xs,hx,ex⟩:=hg;obtain⟨its,r',pl,_⟩:=I.list (cE.of hx);refine wpAny_pyNext_enum_end (I.ok.hd hc) g1 g2 pl.isList (by simpa using r'.none_of ex) λh' y=>?_
  exact⟨rfl,I.jC (fp:=[e,it]) hf λc o s9 q=>y c o (λz=>s9 (by simp[z])) q⟩
 self:=λA i s Q E ⟨⟨old,h1⟩,_⟩ q=>wpAny_pyIter_enum h1 q
def jm (ds:List D):List D:=gb (l6 0 ds.length) ds
section
variable {X:Cx}{W:Addr->Prop}{H:Hp}{l:Addr}{xs:List V}{ds:List D}
theorem nu {i:Nat}{d:D}(h:(jm ds)[i]?=some d):∃b,ds[i]?=some b/\d=.tup [.int i,b]:=by
 obtain⟨a,b,h1,h2,rfl⟩:=jQ h;obtain⟨_,rfl⟩:=bK h1;exact⟨b,h2,by simp⟩
theorem iW:(jm ds).length=ds.length:=by unfold jm;rw[jP,cq];simp
theorem yN (h1:H l=some (.lst xs))(n1:¬ W l)(r1:ir X W H ds xs):tY X W (O2 l) (jm ds) H:=λW' hW i H' k=>by
 have st:H' l=some (.lst xs):=k.out l _ h1 λz=>(hW l z).elim n1 λq=>by rw[h1]at q;cases q
 have q1:=(ah.grow hW r1).keep k;constructor
 ·intro d hd;obtain⟨b,hb,rfl⟩:=nu hd;obtain⟨x,ex,rx⟩:=ah.get q1 hb;refine⟨⟨xs,x,st,ex⟩,λv H1 ⟨T,hT,e,yl⟩=>?_⟩;obtain⟨x',Jp,eH⟩:=yl xs st;rw[ex]at Jp;cases Jp;subst e eH;exact⟨au.new hT,Rp.xc hT (.cons rfl (.cons rx .nil))⟩
 ·intro hl;rw[iW]at hl;exact⟨xs,st,S7 (by rw[q1.length];exact hl)⟩
variable {φs:rg}{elts:List Expr}{kk:Nat}{DH:Pos}
def HW (φs:rg):FR:=λρ R=>φs ρ λl=>∃as,l=[.lst as]/\R (jm as)
theorem xP {a:Expr} {p pos:Pos} (hm:X.mg "enumerate" = none) (ha:JM X [a] φs) (hg:Gl X "enumerate" := by rfl) (hs:SX [a] X.env=[(false,eval a X.env)]:=by rfl) :
  OZ X (.Tuple elts kk DH) (.Call (.Name "enumerate" p) [a] [] pos) (HW φs):=by
 refine⟨λρ R R' k q=>ha.mono ρ _ _ (λl IP=> by obtain⟨as,e,q⟩ := IP;exact⟨as,e,k _ q⟩) q,λpins s σ H R I ⟨W,ρ,se,q⟩=>?_⟩
 refine Call_ (eQ I hg hm Cj (TN (br (ha.pa pos pins s σ H _ I (GF.of ha se q λds vs H1 h s1 r1=>(⟨ds,h,s1,r1⟩:∃ds,(∃as,ds=[.lst as]/\∀J H',au H H'->tY X W J (jm as) H'->R J H')/\au H H1/\ir X W H1 ds vs)))
  λus s1 ⟨vs,H1,I1,rv,h⟩=>?_) hs rfl))
 obtain⟨ds,⟨as,e,q⟩,sm,r1⟩:=h;subst e;obtain⟨x,rfl,⟨l1,xs,rfl,g1,n1,w1⟩⟩:=ik r1;obtain⟨v1,rfl,e1⟩:=vals1 rv;cases (show v1=Value.ref l1 from e1)
 obtain⟨its,_,p1,_⟩:=I1.list (cE.of g1);refine call_enumerate_list p1.isList λh' y1 y2 y3 y4=>wpAny_pyIter_enum y1 ?_;have I2:Inv X pins σ H1 {s1 with heap:=h'}:=I1.kept (t':=s1.toks) y4
 refine⟨_,_,_,_,H1,rfl,I2,u_ (Nat.succ_ne_self _),⟨⟨_,y1⟩,y2⟩,λb hb=>?_,q _ _ sm (yN g1 n1 w1)⟩;have ji:s1.heap.objs.size<=b:=by
  simp only[Sr,Tt,or_false]at hb;rcases hb with rfl|rfl <;> first|exact Vl _ _|exact Sj _
 exact I1.vZ ji (I1.bG.fresh ji)
end
end L2
namespace HT
open PySem PySem.Spec PyProof.Rows
theorem lA {α β:Type}{f g:α->Option β}:∀{l:List α},(∀x∈l,f x=g x)->l.filterMap f=l.filterMap g
 |[],_=>rfl
 |x::l,h=>by
  rw[Tx,Tx,h x (by simp),lA λy hy=>h y (by simp[hy])]
theorem xM {α:Type}(xs:List α):((SV xs.length).filterMap λk=>xs[xs.length-1-k]?)=xs.reverse:=by
 have h:=pick_run xs.reverse.toArray 0 xs.length;rw[List.filterMap_map]at h;have e:((SV xs.length).filterMap λk=>xs[xs.length-1-k]?)=(SV xs.length).filterMap ((λx=>xs.reverse.toArray[x]?) ∘ λx=>0+x):=by
  refine lA λk hk=>?_;have F5:=Tq.mp hk;show _=xs.reverse.toArray[0+k]?;rw[Vh,UH,List.getElem?_reverse F5]
 rw[e,h];simp only[List.drop_zero];exact Ud (by simp)
theorem l3 (items:Array Sh):slicePick items none none (some (-1))=items.toList.reverse.toArray:=by
 have e:(sliceRange (UG none none (some (-1)) items.size).1 (UG none none (some (-1)) items.size).2.1 (UG none none (some (-1)) items.size).2.2)=(SV items.size).map λk=>items.size-1-k:=by
  show sliceRange ((items.size:Int)-1) (-1) (-1)=_;unfold sliceRange;have c:(if (-1:Int)>0 then (if (items.size:Int)-1 < -1 then ((-1)-((items.size:Int)-1)+-1-1) / -1 else 0) else (if (items.size:Int)-1 > -1 then ((items.size:Int)-1-(-1)-(-1)-1) / (-(-1)) else 0)).toNat=items.size:=by
   rw[if_neg (by lia)]
   split
   ·rw[show (-(-1):Int)=1 by rfl,Int.ediv_one];lia
   ·lia
  simp only[c];refine Tw λk hk=>?_;have:=Tq.mp hk;lia
 unfold slicePick;rw[e,List.filterMap_map]
 congr 1
 have:=xM items.toList;rw[Sv]at this;rw[<- this];refine lA λk hk=>?_;show items[items.size-1-k]?=_;rw[SK]
section
end
end HT
namespace L2
open PySem PySem.Spec PySem.SeqAt PyProof.Rows
theorem ah.rev {P:So}{w:SI}{W:Addr->Prop}{H:Hp}:∀{ds:List D} {vs:List V},ah P w W H ds vs->ah P w W H ds.reverse vs.reverse
 |[],_,h=>by rw[show _=[] from h];rfl
 |d::ds,_,⟨v,r,e,h1,h2⟩=>by
  subst e;rw[VN,VN];exact(ah.rev h2).append (.one h1)
theorem Vals.rev:∀{xs:List V} {us:List Sh},Vals xs us->Vals xs.reverse us.reverse
 |_,_,.nil=>.nil
 |_,_,.cons r t=>by
  rw[VN,VN];exact(Vals.rev t).append (.cons r .nil)
section
end
end L2
namespace L2.Q
open PySem PySem.Spec PySem.SeqAt PyProof.Rows
def DE (β:a7):zV:=β.map λb=>match b with|some (.val _ d)=>some d|_=>none
section
variable {P:So}{w:SI}{C:Cfg}{σ:St}{H:Hp}{β:a7}{own:Nat->List Addr}{i:Nat}
theorem bS.K2 (s:bS P w C σ H β own):JJ P w (av C (Wn own) .old) σ H (DE β):=⟨s.zF .old,λi d e=>by
 unfold DE at e;rw[Su]at e;cases q:β[i]? with
 |none=>rw[q]at e;cases e
 |some x =>
  rw[q]at e;cases x with
  |none=>cases e
  |some x =>
   cases x with
   |val y d'=>cases e;obtain⟨v,h1,h2⟩:=s.val i y d q;exact⟨v,h1,h2.aU λa z=>by cases y <;> first|exact .inl z|exact .inl (.inl z)⟩
   |own d'=>cases e
   |hand ok=>cases e
   |shl y d=>cases e⟩
end
section
variable {X:Cx}{C:Cfg}{tg it:Expr}{ι:FR}
theorem AQ (h:OZ X tg it ι):uZ X C true tg it (λβ R=>ι (DE β) λds=>R ds .old β) :=
 ⟨λβ R R' k q=>h.mono _ _ _ (λd q=>k _ _ _ q) q,h.pi.pre λσ H R yW=>by obtain⟨β,own,s,q⟩:=yW;exact⟨_,_,s.K2,h.mono _ _ _ (λds q J H' s1 it=>q J H' own ((Out.refl s true).same s1) it) q⟩⟩
end
section
variable {P:So}{w:SI}{C:Cfg}{σ:St}{H:Hp}{β:a7}{own:Nat->List Addr}{i:Nat}{ok:List Int->Prop}{ns:List Int}
theorem mX:∀{ns:List Int} {vs:List V} {A:List Addr},aG P w H (ns.map D.int) vs A->vs=ns.map V.int/\A=[]
 |[],_,_,h=>h
 |n::ns,_,_,⟨v,r,A1,A2,e,eA,h1,h2⟩=>by
  obtain⟨rfl,rfl⟩:=mX h2;obtain⟨rfl,rfl⟩:=h1;exact⟨e,by rw[eA];rfl⟩
theorem bS.toHand (s:bS P w C σ H β own)(e:β[i]?=some (some (.own (.lst (ns.map D.int)))))(ho:ok ns)(io:∀b,¬ C.IO b):bS P w C σ H (β.set i (some (.hand ok))) own:=by
 obtain⟨v,h1,⟨a,vs,A',rfl,h2,h3,h4⟩,h5⟩:=s.ow i _ e;obtain⟨rfl,rfl⟩:=mX h4;refine⟨by simp[s.len],λj y d q=>?_,λj d q=>?_,λj wK q=>?_,s.dm,s.lK,s.l_,s.kp,s.gK,λj y d q=>by
  by_cases aJ:i=j
  ·subst aJ;obtain⟨e',_⟩:=bj q;cases e'
  ·rw[bc aJ]at q;exact s.shl j y d q⟩
 ·by_cases aJ:i=j
  ·subst aJ;obtain⟨e',_⟩:=bj q;cases e'
  ·rw[bc aJ]at q;exact s.val j y d q
 ·by_cases aJ:i=j
  ·subst aJ;obtain⟨e',_⟩:=bj q;cases e'
  ·rw[bc aJ]at q;exact s.ow j d q
 ·by_cases aJ:i=j
  ·subst aJ;obtain⟨e',_⟩:=bj q;cases e';exact⟨a,ns,h1,h2,ho,h3,.inl io⟩
  ·rw[bc aJ]at q;exact s.mf j wK q
end
section
variable {X:Cx}{C:Cfg}{e:Expr}{φ:aV}{p:Bool}{i:Nat}{x:Str}{pos pos' px ap cp:Pos}{ok:List Int->Prop}
theorem AY (ok:List Int->Prop)(MT:∀b,¬ C.IO b)(he:∀U,PQ X (C.u U) p e φ)(hN:X.N.Nodup)(hi:X.N[i]?=some x:=by rfl)(hx:Loc X.env.scope x:=by first|exact .inl rfl|exact .inr rfl)
  (hs:UU e (some (.Name x pos')) pos.line X.env=pure false:=by rfl) (hf:X.fn x=true\/X.env.scope.names.lookup x=some .local:=by first|exact .inl rfl|exact .inr rfl|assumption) :
  PB X C (.Assign [.Name x pos'] e pos) (λE β=>φ β λd k β'=>Aa k d/\i<β'.length/\∃ns:List Int,d=.lst (ns.map D.int)/\ok ns/\E.nx (β'.set i (some (.hand ok)))):=by
 have B:=dJ (C:=C) (i:=i) (pos:=pos) (pos':=pos') he hN hi hx hs hf;refine⟨λE E' β l q=>(he λ_=>False).mono _ _ _ (λd k β' Ii=>by obtain⟨f,h,ns,e,o,q⟩:=Ii;exact⟨f,h,ns,e,o,l.nx _ q⟩) q,B.ps.pre λDe σ H ⟨Z,E,β,sb,q,wK⟩=>?_⟩
 refine⟨Z,{E with nx:=λβ'=>∃(ns:List Int) (β2:a7),i<β2.length/\β'=β2.set i (some (.own (.lst (ns.map D.int))))/\ok ns/\E.nx (β2.set i (some (.hand ok)))},β,sb,(he λ_=>False).mono _ _ _ (λd k β' E2=>by obtain⟨f,h,ns,e,o,q⟩:=E2;exact⟨f,ns,β',h,by rw[e],o,q⟩) q,⟨λσ' H' β' rX ⟨ns,β2,hl,e,o,q⟩=>?_,wK.rt,wK.bk,wK.ct⟩⟩
 subst e;obtain⟨own,s,n⟩:=rX;have:=s.toHand (i:=i) (ok:=ok) (get_set hl) o MT;rw[List.set_set]at this;exact wK.nx _ _ _ ⟨own,this,n⟩ q
theorem bS.putL {P:So}{w:SI}{σ:St}{H:Hp}{β:a7}{own:Nat->List Addr}{U U2:Addr->Prop}{ds ds':List D}{vs':List V}{a:Addr}{vs:List V}{A A':List Addr}(s:bS P w (C.u U) σ H β own)(e:β[i]?=some (some (.own (.lst ds))))(h1:σ[i]?=some (some (.ref a)))(h2:H a=some (.lst vs))(h3:own i=a::A)
  (r:aG P w H ds' vs' A') (nd:A'.Nodup) (hA:∀c∈A',c∈A\/(C.H0 c=none/\¬ Wn own c/\U c)) (hU:∀a,U2 a->U a) (M8:∀c∈A',c∉A->¬ U2 c) :
  bS P w (C.u U2) σ (upd H a (.lst vs')) (β.set i (some (.own (.lst ds')))) (aP own i (a::A'))/\∀c∈a::A',c∈own i\/(C.H0 c=none/\¬ Wn own c/\U c):=by
 have ha:a∈own i:=by rw[h3];simp
 have nA:a∉A:=by have:=s.l_ i;rw[h3]at this;exact(S4.mp this).1
 have na:∀c∈A',c≠a:=λc hc z=>by
  subst z;rcases hA c hc with z|z
  ·exact nA z
  ·exact z.2.1 ⟨i,ha⟩
 have kt:∀b xs,H b=some (.tup xs)->upd H a (.lst vs') b=some (.tup xs):=λb xs z=>by rw[ak (λz'=>by rw[z',h2]at z;cases z)];exact z
 have OR:∀c∈a::A',c∈own i\/(C.H0 c=none/\¬ Wn own c/\U c):=λc hc=>by
  rcases Sr.mp hc with rfl|hc
  ·exact .inl ha
  ·exact(hA c hc).imp (λz=>by rw[h3];simp[z]) id
 refine⟨s.G6 e h1 ha ⟨a,vs',A',rfl,ar,rfl,r.keep kt λc hc oc ec=>by rw[ak (na c hc)];exact ec⟩ (S4.mpr ⟨λz=>na a z rfl,nd⟩) OR hU (λc hc z=>?_),OR⟩
 rcases Sr.mp hc with rfl|hc
 ·exact(s.dm i c ha).2.2.2 (hU c z)
 ·by_cases q:c∈A
  ·exact(s.dm i c (by rw[h3];simp[q])).2.2.2 (hU c z)
  ·exact M8 c hc q z
theorem yh {own:Nat->List Addr}{i:Nat}{A':List Addr}(h:∀c∈A',c∈own i):∀c,Wn (aP own i A') c->Wn own c:=λc E1=>by
 obtain⟨j,hj⟩:=E1
 by_cases aJ:i=j
 ·rw[<- aJ,os_eq]at hj;exact⟨i,h c hj⟩
 ·rw[bq aJ]at hj;exact⟨j,hj⟩
theorem Eh {P:So}{w:SI}{H:Hp}{own:Nat->List Addr}{Z:Hp×(Addr->Prop)}{d:D}{v:V}{A:List Addr}(r:Own P w H d v A)(h:∀c∈A,¬ Wn own c/\C.H0 c=none):KV P w C Z own H (sk .eh d) d v:=by
 have q:ay P w (av C (Wn own) .eh) H d v:=r.rep λc hc z=>z.elim (h c hc).1 λz=>z (h c hc).2;cases d with
 |int i=>exact KV.flat rfl q
 |bl i=>exact KV.flat rfl q
 |bX=>exact KV.flat rfl q
 |str i=>exact KV.flat rfl q
 |_=>exact q
theorem aG.concat {P:So}{w:SI}{H:Hp}{ds:List D}{d:D}{vs:List V}{A:List Addr}(h:aG P w H (ds++[d]) vs A):∃us v A1 A2,vs=us++[v]/\A=A1++A2/\aG P w H ds us A1/\Own P w H d v A2:=by
 obtain⟨v,A1,A2,A3,g1,g2,g3,g4,g5⟩:=h.split (i:=ds.length) (d:=d) (by simp)
 rw[List.take_left]at g3;have e3:aG P w H [] (vs.drop (ds.length+1)) A3:=by simpa using g5
 have hl:=h.length;rw[S_,Vg]at hl;refine⟨vs.take ds.length,v,A1,A2,?_,by rw[g2,e3.2,Uo],g3,g4⟩
 have fz:ds.length<vs.length:=by lia
 have e1:vs=vs.take ds.length++vs.drop ds.length:=(Ux _ _).symm;rw[TJ fz,e3.1]at e1;have:vs[ds.length]=v:=by
  have:=Sk fz;rw[g1]at this;exact(S8 this).symm
 rw[this]at e1;exact e1
theorem x_ (hN:X.N[i]?=some x:=by rfl)(hv:tS X.env.scope x:=by first|exact .inl rfl|exact .inr (.inl rfl)|exact .inr (.inr rfl))(hd:(x==("__debug__" : Str))=false:=by decide)(gk:(x==("__classdict__" : Str))=false:=by decide)
  (fK:Vo (.Name x px) "pop" X.env (eval (.Name x px) X.env)=eval (.Name x px) X.env:=by rfl) (fJ:(ap.endLine==cp.line)=true:=by rfl) :
  PQ X C false (.Call (.Attribute (.Name x px) "pop" ap) [] [] cp) (λβ R=>∃ds d,β[i]?=some (some (.own (.lst (ds++[d]))))/\R d (sk .eh d) (β.set i (some (.own (.lst ds))))) :=
 ⟨λβ R R' k EZ=>by obtain⟨ds,d,h1,q⟩:=EZ;exact⟨ds,d,h1,k _ _ _ q⟩,(El (apos:=ap) (cpos:=cp) PySem.F.plainAttrs_list PySem.F.slot_list_pop PySem.F.type_list_pop EC (cT (pos:=px) hN hv hd gk) fK fJ).pre λσ H Q oC=>by
  obtain⟨β,own,s,ds,d,hb,q⟩:=oC;obtain⟨a,vs,A,h1,h2,h3,h4⟩:=s.kY hb;obtain⟨us,v,A1,A2,rfl,rfl,g3,g4⟩:=h4.concat;have nd:=s.l_ i;rw[h3]at nd;obtain⟨yz,Bt,Ez⟩:=TC.mp (S4.mp nd).2;obtain⟨s2,hA⟩:=s.putL (C:=C) (U:=C.U) (U2:=C.U) (ds':=ds) (vs':=us) (A':=A1) hb h1 h2 h3 g3 yz (λc hc=>.inl (by simp[hc])) (λ_ z=>z) (λc hc n=>absurd (by simp[hc]) n)
  have h0:∀c∈own i,C.H0 c=none:=by obtain⟨_,_,_,h⟩:=s.ow i _ hb;exact h
  have kt:∀b xs,H b=some (.tup xs)->upd H a (.lst us) b=some (.tup xs):=λb xs z=>by rw[ak (λz'=>by rw[z',h2]at z;cases z)];exact z
  have na:∀c∈A2,c≠a:=λc hc z=>(S4.mp nd).1 (by rw[<- z];simp[hc])
  have le:∀c,Wn (aP own i (a::A1)) c->Wn own c:=yh λc hc=>by rw[h3];rcases Sr.mp hc with rfl|hc <;> simp[*]
  refine⟨.ref a,h1,.inl ⟨rfl,_,cE.of h2⟩,a,_,v,rfl,rfl,h2,by simp,?_⟩
  rw[List.dropLast_concat];refine q v _ _ ⟨s2,?_,λz=>(nomatch z),le⟩ (Eh (C:=C) (g4.keep kt λc hc oc ec=>by rw[ak (na c hc)];exact ec) λc hc=>⟨λ⟨j,hj⟩=>?_,h0 c (by rw[h3];simp[hc])⟩)
  ·have u:=Sn.upd (Z:=(H,Wn own)) (o':=.lst us) (Sn.refl (H:=H) (W:=Wn own)) h2 (λxs z=>by cases z) ⟨i,by rw[h3];simp⟩
   exact⟨λb z=>.inl (le b z),u.k,u.d⟩
  ·by_cases aJ:i=j
   ·rw[<- aJ,os_eq]at hj;rcases Sr.mp hj with rfl|hj
    ·exact na _ hc rfl
    ·exact Ez _ hj _ hc rfl
   ·rw[bq aJ]at hj;exact aJ (s.lK i j c (by rw[h3];simp[hc]) hj)⟩
end
section
variable {X:Cx}{C:Cfg}{e k:Expr}{φ φk:aV}{p pk:Bool}{i:Nat}{x:Str}{pos pos' px ap cp:Pos}
theorem sP {n:Nat}{j:Int}{k:Nat}(h:rA n j=some k):k<n:=by
 unfold rA at h
 by_cases h0:0<=j
 ·rw[if_pos h0]at h
  by_cases h1:j<n
  ·rw[if_pos h1]at h;cases h;lia
  ·rw[if_neg h1]at h;cases h
 ·rw[if_neg h0]at h
  by_cases h1:-(n:Int)<=j
  ·rw[if_pos h1]at h;cases h;lia
  ·rw[if_neg h1]at h;cases h
theorem ue {Z:Hp×(Addr->Prop)}{H:Hp}{own:Nat->List Addr}{a:Addr}{o oa:HO}{A':List Addr}{U:Addr->Prop}(n:Sn Z H (Wn own))(m:∀a,U a->Z.1 a=none)(h2:H a=some oa)(ht:∀xs,oa≠.tup xs)(ha:Wn own a)(hA:∀c∈A',c∈own i\/(C.H0 c=none/\¬ Wn own c/\U c)):Sn Z (upd H a o) (Wn (aP own i A')) :=
 rV n m ha ⟨oa,h2,ht⟩ hA
theorem mW (he:PQ X C.z p e φ)(hN:X.N[i]?=some x:=by rfl)(hv:tS X.env.scope x:=by first|exact .inl rfl|exact .inr (.inl rfl)|exact .inr (.inr rfl))(hd:(x==("__debug__" : Str))=false:=by decide)(gk:(x==("__classdict__" : Str))=false:=by decide)
  (fK:Vo (.Name x px) "extend" X.env (eval (.Name x px) X.env)=eval (.Name x px) X.env:=by rfl)
  (sZ:((UP cp (SX [e] X.env)).all (λx=>!x.1)&&(backToKw cp (W_ [] X.env)).all (λx=>x.1.isSome)&&decide ([e].length+([]:List Wz).length+(if ([]:List Wz).isEmpty then 0 else 1)<30))=true:=by rfl)
  (fJ:(ap.endLine==cp.line)=true:=by rfl) (hs:SX [e] X.env=(false,eval e X.env)::SX [] X.env:=by rfl) (gE:(UP cp (SX [] X.env)).any (·.1)=false:=by rfl)
  (uI:UU (.Call (.Attribute (.Name x px) "extend" ap) [e] [] cp) none pos.line X.env=pure false:=by rfl) :
  PB X C (.Expr (.Call (.Attribute (.Name x px) "extend" ap) [e] [] cp) pos) (λE β=>(∃ds,β[i]?=some (some (.own (.lst ds))))/\φ β λd _ β'=>∃ds es,d=.lst es/\D.cw es=true/\β'[i]?=some (some (.own (.lst ds)))/\ds.length+es.length<=SG/\E.nx (β'.set i (some (.own (.lst (ds++es)))))):=by
 refine⟨λE E' β l E2=>by obtain⟨h1,q⟩:=E2;exact⟨h1,he.mono _ _ _ (λd k β' Mc=>by obtain⟨ds,es,h1,h2,h3,h4,q⟩:=Mc;exact⟨ds,es,h1,h2,h3,h4,l.nx _ q⟩) q⟩,
  (n_ (pos:=pos) (ye (apos:=ap) (cpos:=cp) PySem.F.plainAttrs_list PySem.F.slot_list_extend PySem.F.type_list_extend vI (cT (pos:=px) hN hv hd gk) (b5 he.pe eM hs) fK sZ fJ hs gE) uI).pre λD σ H ⟨Z,E,β,⟨own,s0,n⟩,⟨⟨OV,CZ⟩,q⟩,ok⟩=>?_⟩
 obtain⟨a0,O9,A0,z1,z2,z3,z4⟩:=s0.kY CZ;refine⟨.ref a0,z1,.inl ⟨rfl,_,cE.of z2⟩,tQ.of he s0 q λd kk β' v H1 aB ⟨ds,es,e1,f,hb,hl,q⟩ o r=>?_⟩;subst e1;obtain⟨b,us,rfl,ON,_,rb⟩:=r.rep;obtain⟨a,vs,A,h1,h2,h3,h4⟩:=o.sq.kY hb;rw[z1]at h1;cases h1;have nd:=o.sq.l_ i;rw[h3]at nd;obtain⟨s2,hA⟩:=o.sq.putL (C:=C) (U:=λ_=>False) (U2:=λ_=>False) (ds':=ds++es) (vs':=vs++us) (A':=A) hb z1 h2 h3 (by simpa using h4.append (fY f rb)) (S4.mp nd).2 (λc hc=>.inl hc) (λ_ z=>z) (λc hc n=>absurd hc n)
 exact⟨a0,b,vs,us,rfl,rfl,h2,ON,by rw[h4.length,rb.length];exact hl,ok.nx _ _ _ ⟨_,s2,ue (n.trans o.sn) (λ_ z=>z.elim) h2 (λxs z=>by cases z) ⟨i,by rw[h3];simp⟩ hA⟩ q⟩
theorem su (he:∀U,PQ X (C.u U) p e φ)(hk:∀U,PQ X (C.u U) pk k φk)(hN:X.N[i]?=some x:=by rfl)(hv:tS X.env.scope x:=by first|exact .inl rfl|exact .inr (.inl rfl)|exact .inr (.inr rfl))(hd:(x==("__debug__" : Str))=false:=by decide)(gk:(x==("__classdict__" : Str))=false:=by decide)
  (ha:∀v,assign (.Subscript (.Name x px) k pos') X.env v=(do
   let ov <- holding [v] (eval (.Name x px) X.env)
   let iv <- holding [v,ov] (eval k X.env)
   VL pos'
   holding [v,ov,iv] (setItem ov iv v)
   release [v,ov,iv] []):=by intro _;rfl) (hs:swapsWithSole [.Subscript (.Name x px) k pos'] e pos.line X.env=pure false:=by rfl) (hw:swappedStores [.Subscript (.Name x px) k pos'] e X.env=pure none:=by rfl)
  (h1:(UB [.Subscript (.Name x px) k pos'] X.env).map (·.2)=[assign (.Subscript (.Name x px) k pos') X.env]:=by rfl) :
  PB X C (.Assign [.Subscript (.Name x px) k pos'] e pos) (λE β=>φ β λd kd β1=>Aa kd d/\(∃ds,β1[i]?=some (some (.own (.lst ds))))/\φk β1 λjd _ β2=>∃ds j m,jd=.int j/\β2[i]?=some (some (.own (.lst ds)))/\rA ds.length j=some m/\E.nx (β2.set i (some (.own (.lst (ds.set m d)))))):=by
 refine⟨λE E' β l q=>(he λ_=>False).mono _ _ _ (λd kd β1 oC=>by obtain⟨f,h0,q⟩:=oC;exact⟨f,h0,(hk λ_=>False).mono _ _ _ (λjd _ β2 sX=>by obtain⟨ds,j,m,h1,h2,h3,q⟩:=sX;exact⟨ds,j,m,h1,h2,h3,l.nx _ q⟩) q⟩) q,λpins s σ H De I ⟨Z,E,β,⟨own,sq,n⟩,q,ok⟩=>?_⟩
 refine og (he λa=>H a=none).pe (sg (cT (pos:=px) hN hv hd gk) (hk λa=>H a=none).pe set_list ha) hs hw h1 pins s σ H De I ?_;refine tQ.of (he λa=>H a=none) (sq.oY (C:=C.z) (U:=λa=>H a=none) λa z=>z) q λd kd β1 v H1 aB ⟨f,⟨OV,CZ⟩,q⟩ o r=>?_;obtain⟨a0,O9,A0,z1,z2,z3,z4⟩:=o.sq.kY CZ;refine⟨.ref a0,z1,tQ.of (hk λa=>H a=none) o.sq q λjd kj β2 jv H2 a9 ⟨ds,j,m,e1,hb,hj,q⟩ o2 r2=>?_⟩;subst e1;cases r2.rep;obtain⟨A,r1,rn,r3⟩:=(r.fl f).held (by intro z;cases z) o2.sn
 obtain⟨a,vs,A',g1,g2,g3,g4⟩:=o2.sq.kY hb;rw[z1]at g1;cases g1;have I9:m<ds.length:=sP hj;have hm:ds[m]?=some ds[m]:=Sk I9;obtain⟨v0,B1,B2,B3,k1,rfl,k3,k4,k5⟩:=g4.split hm;have nd:=o2.sq.l_ i;rw[g3]at nd;obtain⟨yz,Bt,Ez⟩:=TC.mp (S4.mp nd).2;obtain⟨LG,LF,LD⟩:=TC.mp Bt;have Ki:m<vs.length:=by rw[g4.length];exact sP hj
 have ow:aG X.prog X.w H2 (ds.set m d) (vs.set m v) (B1++(A++B3)):=by
  rw[U_,if_pos (sP hj),U_,if_pos Ki];exact k3.append ⟨v,_,A,B3,rfl,rfl,r1,k5⟩
 have off:∀c∈A,∀c'∈B1++(B2++B3),c≠c':=λc hc c' oF z=>(r3 c hc).2.1 ⟨i,by rw[g3,z];simp only[Sr];exact .inr oF⟩
 have P0:(B1++(A++B3)).Nodup:=TC.mpr ⟨yz,TC.mpr ⟨rn,LF,λx hx y hy=>off x hx y (by simp[hy])⟩,λx hx y hy z=>by
  rcases SO.mp hy with hy|hy
  ·exact off y hy x (by simp[hx]) z.symm
  ·exact Ez x hx y (Th _ hy) z⟩
 obtain⟨s2,hA⟩:=o2.sq.putL (C:=C) (U:=λa=>H a=none) (U2:=λ_=>False) (ds':=ds.set m d) (vs':=vs.set m v) (A':=B1++(A++B3)) hb z1 g2 g3 ow P0 (λc hc=>by
  rcases SO.mp hc with hc|hc
  ·exact .inl (by simp[hc])
  ·rcases SO.mp hc with hc|hc
   ·exact .inr ⟨(r3 c hc).2.2,(r3 c hc).2.1,(r3 c hc).1⟩
   ·exact .inl (by simp[hc])) (λ_ z=>z.elim) (λc hc n z=>z)
 exact⟨a0,vs,j,m,rfl,rfl,g2,by rw[g4.length];exact hj,ok.nx _ _ _ ⟨_,s2,ue ((n.trans o.sn).trans o2.sn) (λb z=>n.free z) g2 (λxs z=>by cases z) ⟨i,by rw[g3];simp⟩ hA⟩ q⟩
end
end L2.Q
namespace L2
open PySem PySem.Spec PySem.SeqAt PyProof.Rows
section
end
namespace Q
section
variable {P:So}{w:SI}{C:Cfg}{σ:St}{H:Hp}{β:a7}{own:Nat->List Addr}{lk:List (Option Nat)}{a:Addr}
theorem bS.Ft {o:HO}(ho:∀xs,o≠.tup xs)(s:bS P w C σ H β own)(ha:H a=none)(inj:∀(i i' j:Nat),lk[i]?=some (some j)->lk[i']?=some (some j)->i=i'):
  bS P w (C.u λc=>c=a) (dy lk σ) (upd H a o) (cA lk β) (bb lk β own):=by
 have h0:C.H0 a=none:=Ti λz=>s.gK a z ha;have q:=(s.enter ha inj).DX (o:=o) ar (λxs z=>by cases z) h0
 have e:upd (upd H a (.lst [])) a o=upd H a o:=by
  funext b
  by_cases hb:b=a
  ·rw[hb,ar,ar]
  ·rw[ak hb,ak hb,ak hb]
 rwa [e]at q
end
section
end
end Q
end L2
namespace L2.Q
open PySem PySem.Spec PySem.SeqAt PyProof.Rows
abbrev Hz (l:Bool)(ds:List D):D:=match l with|true=>.lst ds|false=>.tup ds
section
variable {P:So}{w:SI}{H:Hp}{A:List Addr}{v:V}{ds:List D}{l:Bool}
theorem pQ {m:Nat}{es:List D}(r:Own P w H (Hz l ds) v A)(nd:A.Nodup)(hm:ds[m]?=some (.lst es)):∃a vs c us B,v=.ref a/\H a=some (match l with|true=>.lst vs|false=>.tup vs)/\vs.length=ds.length/\vs[m]?=some (.ref c)/\H c=some (.lst us)/\c∈A/\aG P w H es us B/\(∀x∈B,x∈A/\x≠c)/\B.Nodup /\
  ∀dP t7 B',aG P w H dP t7 B'->B'.Nodup->(∀x∈B',x∈B\/x∉A)->(∀x∈B',x≠c)->∃A',Own P w (upd H c (.lst t7)) (Hz l (ds.set m (.lst dP))) v A'/\A'.Nodup/\∀x∈A',x∈A\/x∈B':=by
 have core:∀{vs:List V} {A:List Addr},A.Nodup->aG P w H ds vs A->∃c us B,vs[m]?=some (.ref c)/\H c=some (.lst us)/\c∈A/\aG P w H es us B/\(∀x∈B,x∈A/\x≠c)/\B.Nodup /\
   ∀dP t7 B',aG P w H dP t7 B'->B'.Nodup->(∀x∈B',x∈B\/x∉A)->(∀x∈B',x≠c)->∃A',aG P w (upd H c (.lst t7)) (ds.set m (.lst dP)) vs A'/\A'.Nodup/\(∀x∈A',x∈A\/x∈B'):=λ{vs A} nd os=>by
  have hl:=os.length;have Qy:m<ds.length:=(Sz.mp hm).1;obtain⟨u,A1,A2,A3,g1,rfl,g3,⟨c,us,B,rfl,h2,rfl,h4⟩,g5⟩:=os.split hm;obtain⟨yz,Bt,Ez⟩:=TC.mp nd;obtain⟨LG,LF,LD⟩:=TC.mp Bt;have P4:=(S4.mp LG).1;refine⟨c,us,B,g1,h2,by simp,h4,λx hx=>⟨by simp[hx],λz=>P4 (by rw[<- z];exact hx)⟩,(S4.mp LG).2,λdP t7 B' o' n' ji oF=>?_⟩
  have kt:∀b xs,H b=some (.tup xs)->upd H c (.lst t7) b=some (.tup xs):=λb xs z=>by rw[ak (λz'=>by rw[z',h2]at z;cases z)];exact z
  have n1:∀x∈A1,x≠c:=λx hx z=>Ez x hx c (by simp) z
  have n3:∀x∈A3,x≠c:=λx hx z=>LD c (by simp) x hx z.symm
  have off:∀x∈B',x∉A1/\x∉A3:=λx hx=>by
   rcases ji x hx with z|z
   ·exact⟨λq=>Ez x q x (by simp[z]) rfl,λq=>LD x (by simp[z]) x q rfl⟩
   ·exact⟨λq=>z (by simp[q]),λq=>z (by simp[q])⟩
  have Ki:m<vs.length:=by lia
  have ev:vs=vs.take m++V.ref c::vs.drop (m+1):=by
   have e1:vs=vs.take m++vs.drop m:=(Ux _ _).symm;rw[TJ Ki]at e1;have:vs[m]=V.ref c:=by
    have:=Sk Ki;rw[g1]at this;exact(S8 this).symm
   rwa [this]at e1
  refine⟨A1++((c::B')++A3),?_,TC.mpr ⟨yz,TC.mpr ⟨S4.mpr ⟨λz=>oF c z rfl,n'⟩,LF,λx hx y hy=>?_⟩,λx hx y hy z=>?_⟩,λx hx=>?_⟩
  ·rw[U_,if_pos Qy];have q:aG P w (upd H c (.lst t7)) (ds.take m++.lst dP::ds.drop (m+1)) (vs.take m++.ref c::vs.drop (m+1)) (A1++((c::B')++A3)) :=
    (g3.keep kt λx hx oc ec=>by rw[ak (n1 x hx)];exact ec).append ⟨.ref c,_,c::B',A3,rfl,rfl,⟨c,t7,B',rfl,ar,rfl,o'.keep kt λx hx oc ec=>by rw[ak (oF x hx)];exact ec⟩,g5.keep kt λx hx oc ec=>by rw[ak (n3 x hx)];exact ec⟩
   rw[<- ev]at q;exact q
  ·intro z;subst z;rcases Sr.mp hx with rfl|hx
   ·exact n3 _ hy rfl
   ·exact(off x hx).2 hy
  ·subst z;rcases SO.mp hy with hy|hy
   ·rcases Sr.mp hy with rfl|hy
    ·exact n1 _ hx rfl
    ·exact(off x hy).1 hx
   ·exact Ez x hx x (by simp[hy]) rfl
  ·rcases SO.mp hx with hx|hx
   ·exact .inl (by simp[hx])
   ·rcases SO.mp hx with hx|hx
    ·rcases Sr.mp hx with rfl|hx
     ·exact .inl (by simp)
     ·exact .inr hx
    ·exact .inl (by simp[hx])
 cases l with
 |true =>
  obtain⟨a,vs,A',rfl,h2,rfl,h4⟩:=r;obtain⟨na,P2⟩:=S4.mp nd;obtain⟨c,us,B,q1,q2,q3,q4,q5,q6,q7⟩:=core P2 h4;have ca:c≠a:=λz=>na (by rw[<- z];exact q3)
  refine⟨a,vs,c,us,B,rfl,h2,h4.length,q1,q2,by simp[q3],q4,λx hx=>⟨by simp[(q5 x hx).1],(q5 x hx).2⟩,q6,λdP t7 B' o' n' ji oF=>?_⟩
  obtain⟨A2,g1,g2,g3⟩:=q7 dP t7 B' o' n' (λx hx=>(ji x hx).imp id λz q=>z (by simp[q])) oF
  refine⟨a::A2,⟨a,vs,A2,rfl,by rw[ak ca.symm];exact h2,rfl,g1⟩,S4.mpr ⟨λz=>?_,g2⟩,λx hx=>?_⟩
  ·rcases g3 a z with z|z
   ·exact na z
   ·rcases ji a z with z|z
    ·exact na (q5 a z).1
    ·exact z (by simp)
  ·rcases Sr.mp hx with rfl|hx
   ·exact .inl (by simp)
   ·exact(g3 x hx).imp (λz=>by simp[z]) id
 |false =>
  obtain⟨a,vs,rfl,h2,h4⟩:=r;obtain⟨c,us,B,q1,q2,q3,q4,q5,q6,q7⟩:=core nd h4;have ca:a≠c:=λz=>by rw[z,q2]at h2;cases h2
  refine⟨a,vs,c,us,B,rfl,h2,h4.length,q1,q2,q3,q4,q5,q6,λdP t7 B' o' n' ji oF=>?_⟩;obtain⟨A2,g1,g2,g3⟩:=q7 dP t7 B' o' n' ji oF;exact⟨A2,⟨a,vs,rfl,by rw[ak ca];exact h2,g1⟩,g2,g3⟩
end
section
variable {X:Cx}{C:Cfg}{e k:Expr}{φ φk:aV}{i:Nat}{x:Str}{pos px kp ap cp:Pos}
theorem je (l:Bool)(he:∀U,PQ X (C.u U) true e φ)(hk:∀U,PQ X (C.u U) true k φk)(hN:X.N[i]?=some x:=by rfl)(hv:tS X.env.scope x:=by first|exact .inl rfl|exact .inr (.inl rfl)|exact .inr (.inr rfl))(hd:(x==("__debug__" : Str))=false:=by decide)(gk:(x==("__classdict__" : Str))=false:=by decide)
  (QB:oN k:=by exact λ_ _=>rfl)
  (fK:Vo (.Subscript (.Name x px) k kp) "append" X.env (eval (.Subscript (.Name x px) k kp) X.env)=eval (.Subscript (.Name x px) k kp) X.env:=by rfl)
  (sZ:((UP cp (SX [e] X.env)).all (λx=>!x.1)&&(backToKw cp (W_ [] X.env)).all (λx=>x.1.isSome)&&decide ([e].length+([]:List Wz).length+(if ([]:List Wz).isEmpty then 0 else 1)<30))=true:=by rfl)
  (fJ:(ap.endLine==cp.line)=true:=by rfl) (hs:SX [e] X.env=(false,eval e X.env)::SX [] X.env:=by rfl) (gE:(UP cp (SX [] X.env)).any (·.1)=false:=by rfl)
  (uI:UU (.Call (.Attribute (.Subscript (.Name x px) k kp) "append" ap) [e] [] cp) none pos.line X.env=pure false:=by rfl) :
  PB X C (.Expr (.Call (.Attribute (.Subscript (.Name x px) k kp) "append" ap) [e] [] cp) pos) (λE β=>(∃d0,β[i]?=some (some (.own d0)))/\φk β λjd _ β1=>∃ds j m es,jd=.int j/\β1[i]?=some (some (.own (Hz l ds)))/\rA ds.length j=some m/\ds[m]?=some (.lst es)/\φ β1 λd kd β2=>Aa kd d/\β2[i]?=some (some (.own (Hz l ds)))/\es.length<SG/\E.nx (β2.set i (some (.own (Hz l (ds.set m (.lst (es++[d]))))))) ):=by
 refine⟨λE E' β l IM=> by obtain⟨q0,q⟩ := IM;exact⟨q0,(hk λ_=>False).mono _ _ _ (λjd _ β1 IL=> by obtain⟨ds,j,m,es,h1,h2,h3,h4,q⟩ := IL;exact⟨ds,j,m,es,h1,h2,h3,h4,(he λ_=>False).mono _ _ _ (λd kd β2 IK=> by obtain⟨g1,g2,g3,q⟩ := IK;exact⟨g1,g2,g3,l.nx _ q⟩) q⟩) q⟩,λpins s σ H De I ⟨Z,E,β,⟨own,sq,n⟩,⟨⟨d0,QH⟩,q⟩,ok⟩=>?_⟩
 have ix:Dn X (λx y H Q=>GX X.K x y H Q\/GW X.K x y H Q):=λvalue slice pins s σ H x y v u Q I rx ry h hs=>h.elim (λh=>eR value slice pins s σ H x y v u Q I rx ry h hs) λh=>yK value slice pins s σ H x y v u Q I rx ry h hs;refine n_ (pos:=pos) (ye (apos:=ap) (cpos:=cp) PySem.F.plainAttrs_list PySem.F.slot_list_append PySem.F.type_list_append iN (kz (pos:=kp) ix (cT (pos:=px) hN hv hd gk) (hk λa=>H a=none).pe QB) (b5 (he λa=>H a=none).pe eM hs) fK sZ fJ hs gE) uI pins s σ H De I ?_;have Pr:=sq.oY (C:=C.z) (U:=λa=>H a=none) λa z=>z;obtain⟨v0,Ke,_,_⟩:=sq.ow i d0 QH;refine⟨v0,Ke,tQ.of (hk λa=>H a=none) Pr q λjd kk β1 kv H1 aB ⟨ds,j,m,es,e1,hb,hj,hm,q⟩ o r=>?_⟩;subst e1;cases r.rep;obtain⟨v,Om,ow,h0⟩:=o.sq.ow i _ hb;rw[Ke]at Om;cases Om;obtain⟨a,vs,c,us,B,rfl,q1,q2,q3,q4,q5,q6,q7,q8,q9⟩:=pQ ow (o.sq.l_ i) hm;have OY:mC vs j=some (.ref c):=by unfold mC;rw[q2,hj];exact q3
 have N9:JY X.K "list" (.ref c) H1/\Cv (tQ X (C.u λa=>H a=none) true φ) GC σ H1 λxs H2=>ui (.ref c) xs H2 λ_ H1=>De.nx σ H1:=by
  refine⟨.inl ⟨rfl,us,cE.of q4⟩,tQ.of (he λa=>H a=none) o.sq q λd kd β2 v2 H2 a9 ⟨f,OM,hl,q⟩ o2 r2=>?_⟩;obtain⟨s2,e2⟩:=o2.pu rfl;obtain⟨v',Oo,PR,R9⟩:=o2.sq.ow i _ OM;rw[Ke]at Oo;cases Oo;obtain⟨a',vs',c',t7,B',ea,p1,p2,p3,p4,p5,p6,p7,p8,p9⟩:=pQ PR (o2.sq.l_ i) hm;cases ea;have e3:=s2 _ _ q1;rw[p1]at e3;have ev:vs'=vs:=by cases l <;> (cases e3;rfl)
  subst ev;rw[q3]at p3;cases p3;have e4:=s2 _ _ q4;rw[p4]at e4;cases e4;obtain⟨A,r1,rn,r3⟩:=r2.fl f;have Ew:∀x∈A,x∉a9 i:=λx hx z=>(r3 x hx).2.1 ⟨i,z⟩;obtain⟨A',g1,g2,g3⟩:=p9 (es++[d]) (us++[v2]) (B'++A) (p6.append (aG.one r1)) (TC.mpr ⟨p8,rn,λx hx y hy z=>Ew y hy (by rw[<- z];exact(p7 x hx).1)⟩)
   (λx hx=>(SO.mp hx).imp id (Ew x)) (λx hx z=>by
    rcases SO.mp hx with hx|hx
    ·exact(p7 x hx).2 z
    ·exact Ew x hx (by rw[z];exact p5))
  have hA:∀x∈A',x∈a9 i\/(C.H0 x=none/\¬ Wn a9 x/\H x=none):=λx hx=>by
   rcases g3 x hx with z|z
   ·exact .inl z
   ·rcases SO.mp z with z|z
    ·exact .inl (p7 x z).1
    ·exact .inr ⟨(r3 x z).2.2,(r3 x z).2.1,o.sn.free (r3 x z).1⟩
  exact⟨c,us,v2,rfl,rfl,p4,by rw[p6.length];exact hl,ok.nx _ _ _ ⟨_,o2.sq.putIn (C:=C) (U:=λa=>H a=none) OM Ke p5 g1 g2 hA,rV ((n.trans o.sn).trans o2.sn) (λb z=>n.free z) ⟨i,p5⟩ ⟨_,p4,λxs z=>by cases z⟩ hA⟩ q⟩
 cases l with
 |true=>exact .inl ⟨a,vs,j,.ref c,rfl,rfl,cE.of q1,OY,N9⟩
 |false=>exact .inr ⟨a,vs,j,.ref c,rfl,rfl,tU.of q1,OY,N9⟩
end
end L2.Q
namespace L2
open PySem PySem.Spec PySem.SeqAt PyProof.Rows
structure Bs2 (mg:Str->Option Sh):Prop extends Bs mg where
 RK:mg "isinstance" = none
 tuple:mg "tuple" = none
 str:mg "str" = none
 bool:mg "bool" = none
 zip:mg "zip" = none
 enumerate:mg "enumerate" = none
theorem fP {d:D}{n:Nat}(h:d.pd.canLay0=true/\d.pd.depth<=n)(hn:n<=64:=by decide):Ju d d=some (.bl false):=zG (dS h hn) (dS h hn) (eqv_refl _ h.1)
end L2
namespace L2.Q
open PySem PySem.Spec PySem.SeqAt PyProof.Rows
structure rh (X:Cx)(C:Cfg)(p:Bool)(ifs:List Expr)(τ:aZ):Prop where
 mono:∀β R R',(∀d β,R d β->R' d β)->τ β R->τ β R'
 pt:rD X ifs (jr X C p τ)
theorem dc {X:Cx}{C:Cfg}:rh X C true [] Gv:=⟨λ_ _ _ k h=>k _ _ h,xY⟩
theorem gx {X:Cx}{C:Cfg}{p:Bool}{c:Expr}{τ:aZ}(h:rE X C p c τ):rh X C p [c] τ:=⟨h.mono,xX h⟩
section
variable {X:Cx}{C:Cfg}{lk:List (Option Nat)}{γ:c6}{τ:aZ}{φ:aV}{T:List Nat}{pc pe pi:Bool}{scope:U8}{N':List Str}{tg cz elt:Expr}{ifs:List Expr}{ι:cg}{pos pos' pj:Pos}{y:Str}{i:Nat}
theorem F0 (N':List Str)(lk:List (Option Nat))(L:gB X.env.scope.names X.N scope N' lk=true)(td:N'.Nodup)(hc:X.calm=true)(hi:uZ X C pi tg cz ι)
  (oQ:∀U cl c s H ex,wC (aC X scope N' cl c s H ex) (C.u U) tg T γ) (lW:∀U cl c s H ex,rh (aC X scope N' cl c s H ex) (C.u U) pc ifs τ) (ml:∀U cl c s H ex,PQ (aC X scope N' cl c s H ex) (C.u U) pe elt φ)
  (hT:T.all (λi=>match lk[i]? with|some (some _)=>false|_=>true)=true:=by rfl) (hs:∀x,TB cz X.env x=pure x:=by intro _;rfl):PQ X C (pi&&(pc&&pe)) (.ListComp elt [⟨tg,cz,ifs,0⟩] scope pos) (pK lk ι γ τ φ) :=
 Cz (Links.of L) td hT hc hi (λa=>oQ _) (λa cl c s H ex=>(lW _ cl c s H ex).pt) (lW (λ_=>False) [] 0 X.s₀ X.H₀ []).mono (λa=>ml _) (oQ (λ_=>False) [] 0 X.s₀ X.H₀ []).mono (ml (λ_=>False) [] 0 X.s₀ X.H₀ []).mono hs
theorem vm (o:Bool)(N':List Str)(lk:List (Option Nat))(L:gB X.env.scope.names X.N scope N' lk=true)(td:N'.Nodup)(hc:X.calm=true)(hi:∀U,uZ X (C.u U) pi tg cz ι)
  (oQ:∀U cl c s H ex,wC (aC X scope N' cl c s H ex) (C.u U) tg T γ) (lW:∀U cl c s H ex,rh (aC X scope N' cl c s H ex) (C.u U) pc ifs τ) (ml:∀U cl c s H ex,PQ (aC X scope N' cl c s H ex) (C.u U) pe elt φ)
  (hN:X.N.Nodup) (hT:T.all (λi=>match lk[i]? with|some (some _)=>false|_=>true)=true:=by rfl) (hy:X.N[i]?=some y:=by rfl) (hx:Loc X.env.scope y:=by first|exact .inl rfl|exact .inr rfl) (hf:X.fn y=true\/X.env.scope.names.lookup y=some .local:=by first|exact .inl rfl|exact .inr rfl|assumption)
  (uI:UU (.ListComp elt [⟨tg,cz,ifs,0⟩] scope pos) (some (.Name y pos')) pj.line X.env=pure true:=by rfl)
  (Fh:evalThenUse (.ListComp elt [⟨tg,cz,ifs,0⟩] scope pos) X.env (assign (.Name y pos') X.env)=(do let _ <- comprehension (.ListComp elt [⟨tg,cz,ifs,0⟩] scope pos) scope X.env (firstIterPos [⟨tg,cz,ifs,0⟩] pos) (newList []) false (eval cz X.env) (some (assign (.Name y pos') X.env));pure ()):=by first|rfl|exact arm_evalThenUse_ListComp ..)
  (hs:∀x,TB cz X.env x=pure x:=by intro _;rfl) :
  PB X C (.Assign [.Name y pos'] (.ListComp elt [⟨tg,cz,ifs,0⟩] scope pos) pj) (λE β=>pK lk ι γ τ φ β λd _ β'=>E.nx (β'.set i (some (match o with|true=>.own d|false=>.val true d)))) :=
 G7 (K:=λ_ _ _=>True) (Links.of L) td hT hc hi oQ (λU cl c s H ex=>(lW U cl c s H ex).pt) (lW (λ_=>False) [] 0 X.s₀ X.H₀ []).mono ml (oQ (λ_=>False) [] 0 X.s₀ X.H₀ []).mono (ml (λ_=>False) [] 0 X.s₀ X.H₀ []).mono o hN hy hx hf uI Fh hs
theorem bf:Dn X (xN X tH NF):=λvalue slice pins s σ H x y v u Q I rx ry ⟨W,d1,d2,d,hd,r1,r2,e,q⟩ hs =>
 ES value slice pins s σ H x y v u Q I rx ry ⟨W,d1,d2,d,hd,r1,r2,e,λv H' s r=>q v H' s r λf=>ay.flat f r⟩ hs
end
section
variable {P:So}{w:SI}{K:PySem.W.Frag}{mg:Str->Option Sh}{base:Heap}{k:Nat}{f:Addr}{fd:Tn}{ps:List Str}
def qJ:FD:=λds R=>∃c:Int,ds=[.int c]/\∀ns,fe ns->R (.lst (ns.map D.int))
theorem qJ.mono:du qJ:=λds R R' k ⟨c,e,q⟩=>⟨c,e,λns o=>k _ (q ns o)⟩
theorem Fl (G:aF P w K mg base bB k f fd ps xw):aF P w K mg base bB k f fd ps (dw P w true qJ):=G.imp λvs H Q E h=>by
 obtain⟨ds,r,c,rfl,q⟩:=h;obtain⟨x,rr,rfl,hx,hr⟩:=r;cases (show rr=[] from hr)
 cases (show x=V.int c from hx)
 refine⟨c,rfl,λp H' hp hd sm=>?_⟩;obtain⟨ns,e,o⟩:=hd.ok;have rep:∀ns:List Int,aG P w H' (ns.map D.int) (ns.map V.int) []:=λns=>by
  induction ns with
  |nil=>exact⟨rfl,rfl⟩
  |cons n ns ih=>exact⟨_,_,[],[],rfl,rfl,⟨rfl,rfl⟩,ih⟩
 exact q ns o _ H' sm ⟨[p],⟨p,_,[],rfl,e,rfl,rep ns⟩,by simp,λc hc=>by rw[SF.mp hc];exact hp⟩
theorem iB {ro:Bool}(G:aF P w K mg base bB k f fd ps xu):aF P w K mg base bB k f fd ps (eE P w fe ro bu):=G.imp λvs H Q E h=>by
 obtain⟨h,vs',ds,ns,rfl,e,o,r,n,rfl,n1,n2,q⟩:=h;obtain⟨x,rr,rfl,hx,hr⟩:=r;cases (show rr=[] from hr)
 cases (show x=V.int n from hx)
 refine⟨h,n,rfl,o.hand e,n1,n2,λr H' r0 r1 hd fm=>?_⟩;obtain⟨vE,e',o'⟩:=hd.ok;refine q r r0 r1 _ H' vE ⟨λb u hb nb=>fm b u hb nb,λb xs hb=>fm b _ hb λz=>by rw[z,e]at hb;cases hb⟩ (λc hc z=>?_) e' o' (d6 (W:=λ_=>False) rfl rfl)
 by_cases qq:c=h
 ·rw[qq,e']at z;cases z
 ·cases q:H c with
  |none=>exact hc q
  |some u=>rw[fm c u q qq]at z;cases z
end
end L2.Q
namespace jO
open PySem L2 L2.Q
def top (i:Nat):Stmt:=PySem.Challenge.pw_archrow_k14_whole_papers_and_tables.main.body.getD i (.Pass ⟨0,0,0,0⟩)
abbrev bw:Stmt:=top 4
abbrev cF:Stmt:=top 5
abbrev c5:Stmt:=top 6
abbrev dD:Stmt:=top 7
abbrev bN:Stmt:=top 8
abbrev cH:Stmt:=top 9
abbrev cI:Stmt:=top 10
abbrev cm:Stmt:=top 11
abbrev cn:Stmt:=top 12
abbrev bO:Stmt:=top 13
abbrev dC:Stmt:=top 15
abbrev fS:Stmt:=top 16
abbrev eF:Stmt:=top 17
abbrev cG:Stmt:=top 18
abbrev eI:Stmt:=top 19
abbrev df:Stmt:=top 21
abbrev de:Stmt:=top 22
abbrev eK:Stmt:=top 23
abbrev eJ:Stmt:=top 24
abbrev fT:Stmt:=top 25
abbrev bH:Stmt:=top 26
abbrev bI:Stmt:=top 27
abbrev kg:Stmt:=top 28
abbrev D0 (K:PySem.W.Frag)(mg:Str->Option Sh)(f:Addr)(fd:Tn):Prop:=Df K mg "_law_arcs" eK ["hand","many"] f fd
abbrev D1 (K:PySem.W.Frag)(mg:Str->Option Sh)(f:Addr)(fd:Tn):Prop:=Df K mg "_law_take" de ["hand","many"] f fd
abbrev D2 (K:PySem.W.Frag)(mg:Str->Option Sh)(f:Addr)(fd:Tn):Prop:=Df K mg "_law_ties" eJ ["hand","many"] f fd
abbrev D3 (K:PySem.W.Frag)(mg:Str->Option Sh)(f:Addr)(fd:Tn):Prop:=Df K mg "_law_row" fT ["hand"] f fd
abbrev D4 (K:PySem.W.Frag)(mg:Str->Option Sh)(f:Addr)(fd:Tn):Prop:=Df K mg "stretches_rising" bw ["many"] f fd
abbrev D5 (K:PySem.W.Frag)(mg:Str->Option Sh)(f:Addr)(fd:Tn):Prop:=Df K mg "partners_of" cF ["row"] f fd
abbrev D6 (K:PySem.W.Frag)(mg:Str->Option Sh)(f:Addr)(fd:Tn):Prop:=Df K mg "number_with" cI ["worth","table","i","k","j"] f fd
abbrev D7 (K:PySem.W.Frag)(mg:Str->Option Sh)(f:Addr)(fd:Tn):Prop:=Df K mg "least_number" cm ["partners","worth","table","i","j"] f fd
abbrev D8 (K:PySem.W.Frag)(mg:Str->Option Sh)(f:Addr)(fd:Tn):Prop:=Df K mg "greatest_table" bN ["row","worth"] f fd
abbrev D9 (K:PySem.W.Frag)(mg:Str->Option Sh)(f:Addr)(fd:Tn):Prop:=Df K mg "one_each" eI ["row"] f fd
abbrev Gp (K:PySem.W.Frag)(mg:Str->Option Sh)(f:Addr)(fd:Tn):Prop:=Df K mg "table_of" eF ["row"] f fd
abbrev Gn (K:PySem.W.Frag)(mg:Str->Option Sh)(f:Addr)(fd:Tn):Prop:=Df K mg "parts_left" c5 ["i","k","j"] f fd
abbrev Gm (K:PySem.W.Frag)(mg:Str->Option Sh)(f:Addr)(fd:Tn):Prop:=Df K mg "best_choices" cn ["partners","worth","table","i","j"] f fd
abbrev JV (K:PySem.W.Frag)(mg:Str->Option Sh)(f:Addr)(fd:Tn):Prop:=Df K mg "first_greatest" bO ["row","worth","table","i","j"] f fd
abbrev KD (K:PySem.W.Frag)(mg:Str->Option Sh)(f:Addr)(fd:Tn):Prop:=Df K mg "most_of" fS ["row","i","j"] f fd
abbrev NM (K:PySem.W.Frag)(mg:Str->Option Sh)(f:Addr)(fd:Tn):Prop:=Df K mg "most_ties" dC ["row"] f fd
abbrev Gk (K:PySem.W.Frag)(mg:Str->Option Sh)(f:Addr)(fd:Tn):Prop:=Df K mg "has_shape" dD ["paper","many"] f fd
abbrev JU (K:PySem.W.Frag)(mg:Str->Option Sh)(f:Addr)(fd:Tn):Prop:=Df K mg "paper_holds" cH ["row","worth","paper"] f fd
abbrev KC (K:PySem.W.Frag)(mg:Str->Option Sh)(f:Addr)(fd:Tn):Prop:=Df K mg "paper_shows" cG ["row","paper"] f fd
abbrev O4 (K:PySem.W.Frag)(mg:Str->Option Sh)(f:Addr)(fd:Tn):Prop:=Df K mg "_law_table_right" bH ["hand","row","table"] f fd
abbrev O3 (K:PySem.W.Frag)(mg:Str->Option Sh)(f:Addr)(fd:Tn):Prop:=Df K mg "_law_fewer_right" bI ["hand","row","table"] f fd
abbrev Ru (K:PySem.W.Frag)(mg:Str->Option Sh)(f:Addr)(fd:Tn):Prop:=Df K mg "_law_hand" df ["cell"] f fd
section
variable {P:So}{w:SI}{K:PySem.W.Frag}{mg:Str->Option Sh}{base:Heap}
theorem pD:aK ["cell"] ["cell"] (aw df):=⟨rfl,rfl,rfl,by decide +kernel,rfl,by decide +kernel,by decide +kernel⟩
theorem Bh {f:Addr} {fd:Tn} (F:Ah K "_law_hand" "_law_hand" df f fd) (B:Rv mg):aF P w K mg base bB 1 f fd ["cell"] xw:=by
 refine F.ok pD (λvs H Q E h=>?_) (λcD A outer s H vs Q E hr h=>?_)
 ·obtain⟨c,rfl,_⟩:=h;rfl
 ·obtain⟨c,rfl,k⟩:=h;refine⟨_,g6 (iI (si (b5 (pP (nB rfl) (by rfl) B.max tP (b5 a6 (b5 (cL yi (pv 0) (cL om a6 a6)) eM)))
   (b5 (cL sC (cL sD (cL kL (pv 0) a6) a6) (mV iZ (by rfl) B.int zO (b5 (ux G_ (pv 0) (cL om a6 a6) (yw _)) eM))) eM)))),?_⟩
  refine⟨_,rfl,_,_,rfl,rfl,yb,_,_,rfl,rfl,_,_,rfl,?_⟩;have m1:=jK (a:=c) (b:=2147483629) (by decide)
  refine⟨_,rfl,_,_,rfl,rfl,(by show (0:Int)<2147483629;decide),_,_,rfl,rfl,_,rfl,_,_,rfl,rfl,yb,rfl,.inr ⟨_,rfl,_,_,rfl,rfl,.inl ⟨by lia,by lia⟩,?_⟩⟩
  refine⟨(by show 2<=SG;decide),λp hp=>k p _ hp ⟨_,_,ar,?_,?_⟩ (au.new hp)⟩
  ·split <;> lia
  ·split <;> constructor <;> lia
theorem i7:aK ["hand","many","taken"] ["hand","many"] (aw de):=⟨rfl,rfl,rfl,by decide +kernel,rfl,by decide +kernel,by decide +kernel⟩
theorem Lv {y:Int}(h:0<=y)(h':y<2147483647):z9 (y+1) 7:=⟨by decide,by decide,by lia⟩
theorem fZ {f:Addr} {fd:Tn} (F:Ah K "_law_take" "_law_take" de f fd):aF P w K mg base bB 1 f fd ["hand","many"] xu:=by
 refine F.ok i7 (λvs H Q E h=>?_) (λcD A outer s H vs Q E hr h=>?_)
 ·obtain⟨h,n,rfl,_⟩:=h;rfl
 ·obtain⟨h,n,rfl,⟨x,y,hx,x0,y0,y1⟩,n0,n1,k⟩:=h;refine⟨_,dh (Cy (uj CF (kz eR (pv 0) a6 (λ_ _=>rfl)) a6 (yw _))
    (dh (r9 (i:=2) i7.nd rfl (Or.inl rfl) (cL kL (kz eR (pv 0) a6 (λ_ _=>rfl)) (pv 1)))
    (dh (og (cL kM (kz eR (pv 0) a6 (λ_ _=>rfl)) (pv 1)) (sg (pv 0) a6 set_list))
    (g6 (iI (pv 2))))) uk)
   (dh (og (cL kL (cL sC (kz eR (pv 0) a6 (λ_ _=>rfl)) a6) a6) (sg (pv 0) a6 set_list))
   (g6 (iI (cL kL (cL kM (cL om (cL sD (kz eR (pv 0) a6 (λ_ _=>rfl)) a6) a6) a6) (pv 1))))),?_⟩
  refine⟨_,rfl,h,_,_,_,rfl,rfl,cE.of hx,rfl,_,_,rfl,rfl,_,rfl,?_⟩;refine LU (λhp=>?_) (λhp=>?_)
  ·refine⟨_,rfl,h,_,_,_,rfl,rfl,cE.of hx,rfl,_,rfl,_,_,rfl,rfl,n0,?_⟩;refine⟨_,rfl,h,_,_,_,rfl,rfl,cE.of hx,rfl,_,rfl,_,_,rfl,rfl,nL.of n0 n1,?_⟩;refine⟨_,rfl,h,_,_,0,rfl,rfl,hx,rfl,?_⟩;have m:=jK (a:=x) n0;exact⟨_,rfl,k _ _ m.1 m.2 ⟨_,_,ar,Int.ediv_nonneg x0 (Int.le_of_lt n0),y0,y1⟩ Fm.upd⟩
  ·have m1:=jK (a:=y*48271) (b:=2147483647) (by decide)
   refine⟨_,rfl,h,_,_,_,rfl,rfl,cE.of hx,rfl,_,_,rfl,rfl,.inr ⟨by decide,by decide⟩,_,_,rfl,rfl,(by show (0:Int)<2147483647;decide),?_⟩
   refine⟨_,rfl,h,_,_,1,rfl,rfl,hx,rfl,?_⟩;refine⟨_,rfl,h,_,_,_,rfl,rfl,cE.of ar,rfl,_,_,rfl,rfl,_,_,rfl,rfl,Lv m1.1 m1.2,_,_,rfl,rfl,nL.of (by decide) (by decide),_,rfl,_,_,rfl,rfl,n0,?_⟩
   have m:=jK (a:=(y*48271 % 2147483647+1) ^ (7:Int).toNat / 8) n0;exact k _ _ m.1 m.2 ⟨_,_,ar,x0,m1.1,m1.2⟩ Fm.upd
theorem cK:aK ["hand","many","found","piled","point","way"] ["hand","many"] (aw eK):=⟨rfl,rfl,rfl,by decide +kernel,rfl,by decide +kernel,by decide +kernel⟩
theorem Bl {C6 qD} (dA:D0 K mg C6 qD) {zt lB} (dT:D1 K mg zt lB) (B:Bs mg):aF P w K mg base bB 2 C6 qD ["hand","many"] (eE P w fe true qM):=by
 have GT:aF P w K mg base bB 1 _ _ _ (eE P w fe true bu):=iB (fZ dT.F);refine yt dA.F cK (λds R IJ=> by obtain⟨n,e,_⟩ := IJ;subst e;rfl) λcD A outer s H E IO hr=>⟨_,(ai (dJ (i:=2) (λ_=>(bF ae)) cK.nd)
    (ai (dJ (i:=3) (λ_=>(bF ae)) cK.nd)
    (ai (di TX rfl (bz B.range (aa (ab (i:=1)) ae)) (ao (i:=4) cK.nd) (ai (a8 (i:=5) (aY (ih:=0) bu.mono GT (hr.mono (by decide)) dT.m dT.F.kp dT.b (aa ag ae)) cK.nd)
    (ai (bJ (aD af (bD.m (cC hr.units)) (ab (i:=5)) ag) (aj (c8 (i:=3) (λ_=>(ab (i:=4))))) aS)
    (aj (bJ (tX.t (oi (aD af (bD.m (cC hr.units)) (ab (i:=5)) ag) (kh (aD af (bD.m (iL hr.units)) (ab (i:=3)) (bF ae))))) (aj (c8 (i:=2) (λ_=>(bW (aa (x_ (i:=3)) (aa (ab (i:=4)) ae)))))) aS)))))
    (aj (aX (cu aM oM B.sorted nC (aa (ab (i:=2)) ae))))))),λds R h=>?_⟩
 obtain⟨n,rfl,n0,n1,q⟩:=h;refine⟨SH _,trivial,SH _,trivial,_,rfl,trivial,n,rfl,by omega,by omega,trivial,?_⟩
 refine⟨λi β=>∃(fs:List (List Int)) (ps:List Int) (x4 x5:Option Q.B),β=[some (.hand fe),some (.val false (.int n)),some (.own (.lst (fs.map kD))),some (.own (.lst (ps.map D.int))),x4,x5]/\fs.length<=i/\ps.length<=i/\i<=n.toNat/\bg n fs/\(∀p∈ps,0<=p/\p<i),⟨[],[],_,_,rfl,Sj _,Sj _,SH _,bg.nil,λ_ z=>(nomatch z)⟩,?_,?_⟩
 ·rintro i d β hd ⟨fs,ps,x4,x5,rfl,h1,h2,h3,h4,h5⟩;obtain⟨hi,rfl⟩:=bK hd;refine⟨rfl,trivial,rfl,trivial,3,rfl,by omega,by omega,λr r0 r1=>?_⟩
  refine⟨_,rfl,trivial,_,b7 _ _,_,rfl,?_⟩;have fin:∃(oR:List (List Int)) (Ls:List Int) (x4 x5:Option Q.B),[some (.hand fe),some (.val false (.int n)),some (.own (.lst (fs.map kD))),some (.own (.lst (ps.map D.int))),some (.val true (.int (0+(i:Int)))),some (.val true (.int r))]=[some (.hand fe),some (.val false (.int n)),some (.own (.lst (oR.map kD))),some (.own (.lst (Ls.map D.int))),x4,x5]/\oR.length<=i+1/\Ls.length<=i+1/\i+1<=n.toNat/\bg n oR/\(∀p∈Ls,0<=p/\p<((i+1:Nat):Int)) :=
    ⟨fs,ps,_,_,rfl,by omega,by omega,by omega,h4,λp hp=>by have:=h5 p hp;omega⟩
  refine rB (λEa=>?_) (λEa=>?_)
  ·refine⟨⟨_,rfl⟩,_,rfl,trivial,_,rfl,by rw[Sg,TH];omega,?_⟩
   refine⟨_,rfl,trivial,_,b7 _ _,_,rfl,iq (by simp[Ea]) (iq rfl ?_)⟩
   refine⟨fs,ps++[0+(i:Int)],_,_,by rw[xx];rfl,by omega,by simp;omega,by omega,h4,λp hp=>?_⟩
   rcases SO.mp hp with z|z
   ·have:=h5 p z;omega
   ·rw[SF.mp z];omega
  ·refine⟨_,rfl,trivial,_,b7 _ _,_,rfl,rB (λr2=>?_) (λr2=>iq rfl fin)⟩;refine⟨_,rfl,trivial,SH _,_,zH ps [],_,rfl,Qh (λhp=>?_) (λhp=>fin)⟩;obtain⟨qs,p,rfl⟩:∃qs p,ps=qs++[p]:=⟨ps.dropLast,ps.getLast hp,(List.dropLast_concat_getLast hp).symm⟩;have Ou:=h5 p (by simp)
   rw[S_,Vg]at h2;refine⟨⟨_,rfl⟩,qs.map D.int,.int p,by simp,trivial,_,rfl,trivial,o9,trivial,fs.map kD,rfl,by rw[Sg,TH];omega,?_⟩
   refine⟨fs++[[p,0+(i:Int)]],qs,_,_,by rw[jE];rfl,by simp;omega,by omega,by omega,h4.app (bg.one (by omega) (by omega) (by omega)),λx hx=>?_⟩
   have:=h5 x (by simp[hx])
   omega
 ·rintro β ⟨fs,ps,x4,x5,rfl,h1,h2,h3,h4,h5⟩;rw[cq]at h1;refine⟨_,rfl,trivial,_,rT h4.ne (by omega),.inl ⟨fL _,trivial,rfl,q _ ?_ (xq h4)⟩⟩
  rw[(dZ fs).length_eq];exact h1
end
section
variable {P:So}{w:SI}{K:PySem.W.Frag}{mg:Str->Option Sh}{base:Heap}
theorem aR:aK ["hand","many","way","found","k","one","other","reach","kinds","wide"] ["hand","many"] (aw eJ):=⟨rfl,rfl,rfl,by decide +kernel,rfl,by decide +kernel,by decide +kernel⟩
def T9 (n way:Int)(f:Q.B)(β:Q.a7):Prop:=∃x4 x5 x6 x7 x8 x9:Option Q.B,β=[some (.hand fe),some (.val false (.int n)),some (.val true (.int way)),some f,x4,x5,x6,x7,x8,x9]
theorem Bd {F_ v3} (dI:D2 K mg F_ v3) {zt lB} (dT:D1 K mg zt lB) {C6 qD} (dA:D0 K mg C6 qD) (B:Bs mg):aF P w K mg base bB 3 F_ v3 ["hand","many"] (eE P w fe true qG):=by
 have GT:aF P w K mg base bB 1 _ _ _ (eE P w fe true bu):=iB (fZ dT.F);have GA:aF P w K mg base bB 2 _ _ _ (eE P w fe true qM):=Bl dA dT B;refine yt dI.F aR (λds R II=> by obtain⟨n,e,_⟩ := II;subst e;rfl) λcD A outer s H E IO hr=>⟨_,(ai (a8 (i:=2) (aY (ih:=0) bu.mono GT (hr.mono (by decide)) dT.m dT.F.kp dT.b (aa ag ae)) aR.nd)
    (ai (dJ (i:=3) (λ_=>(bF ae)) aR.nd)
    (dF (bJ (tX.t (oh (aD af (bD.m (cC hr.units)) (ab (i:=2)) ag) (jH (aD af (bD.m (cC hr.units)) (ab (i:=2)) ag)))) (aj (di TX rfl (bz B.range (aa (aY (ih:=0) bu.mono GT (hr.mono (by decide)) dT.m dT.F.kp dT.b (aa (aO af bf (bF (aa ag (aa ag (aa ag ae)))) (aY (ih:=0) bu.mono GT (hr.mono (by decide)) dT.m dT.F.kp dT.b (aa ag ae))) ae)) ae)) (ao (i:=4) aR.nd) (ai (a8 (i:=5) (aY (ih:=0) bu.mono GT (hr.mono (by decide)) dT.m dT.F.kp dT.b (aa (ab (i:=1)) ae)) aR.nd)
    (ai (a8 (i:=6) (aH af (bD.m A_) (aH aM aA (aH aM aA (ab (i:=5)) ag) (aY (ih:=0) bu.mono GT (hr.mono (by decide)) dT.m dT.F.kp dT.b (aa (aH af (bD.m bh) (ab (i:=1)) ag) ae))) (ab (i:=1))) aR.nd)
    (aj (c8 (i:=3) (λ_=>(bW (aa (cu af (cB.m (gJ rfl)) B.min tO (aa (ab (i:=5)) (aa (ab (i:=6)) ae))) (aa (cu af (cB.m (tN rfl)) B.max tP (aa (ab (i:=5)) (aa (ab (i:=6)) ae))) ae)))))))))) aS)
    (ai (a8 (i:=7) (aH aM aA ag (aY (ih:=0) bu.mono GT (hr.mono (by decide)) dT.m dT.F.kp dT.b (aa ag ae))) aR.nd)
    (dF (bJ (aD af (bD.m (cC hr.units)) (ab (i:=2)) ag) (aj (di TX rfl (bz B.range (aa (ab (i:=1)) ae)) (ao (i:=5) aR.nd) (aj (di TX rfl (km B.range (aa (aH aM aA (ab (i:=5)) ag) (aa (cu af (cB.m (gJ rfl)) B.min tO (aa (ab (i:=1)) (aa (aH aM aA (aH aM aA (ab (i:=5)) ag) (ab (i:=7))) ae))) ae))) (ao (i:=6) aR.nd) (aj (bJ (aD af (bD.m kQ) (aY (ih:=0) bu.mono GT (hr.mono (by decide)) dT.m dT.F.kp dT.b (aa ag ae)) ag) (aj (c8 (i:=3) (λ_=>(bW (aa (ab (i:=5)) (aa (ab (i:=6)) ae)))))) aS)))))) aS)
    (dF (bJ (aD af (bD.m (cC hr.units)) (ab (i:=2)) ag) (ai (a8 (i:=8) (F0 ["point","hand"] [none,some 0] (by rfl) (by decide:(["point","hand"]:List Str).Nodup) rfl (bz B.range (aa (ab (i:=1)) ae)) (λ_ _ _ _ _ _=>(ao (i:=0) (by decide:(["point","hand"]:List Str).Nodup))) (λ_ _ _ _ _ _=>dc) (λ_ _ _ _ _ _=>(aY (ih:=1) bu.mono GT (hr.mono (by decide)) dT.m dT.F.kp dT.b (aa ag ae)))) aR.nd)
    (ai (a8 (i:=9) (aO af bf (bF (aa (ab (i:=1)) (aa ag ae))) (iJ af (cB.m wx) B.int zO (aa (kq af (bD.m kQ) (ab (i:=1)) ag) ae))) aR.nd)
    (aj (di TX rfl (bz B.range (aa (ab (i:=1)) ae)) (ao (i:=5) aR.nd) (aj (mW (i:=3) (F0 ["k","one","kinds"] [none,some 5,some 8] (by rfl) (by decide:(["k","one","kinds"]:List Str).Nodup) rfl (km B.range (aa (aH aM aA (ab (i:=5)) ag) (aa (cu af (cB.m (gJ rfl)) B.min tO (aa (ab (i:=1)) (aa (aH aM aA (ab (i:=5)) (ab (i:=9))) ae))) ae))) (λ_ _ _ _ _ _=>(ao (i:=0) (by decide:(["k","one","kinds"]:List Str).Nodup))) (λ_ _ _ _ _ _=>(gx (aD af (bD.m (cC hr.units)) (aH aM aA (aO af bf (ab (i:=2)) (ab (i:=1))) (aO af bf (ab (i:=2)) (ab (i:=0)))) ag))) (λ_ _ _ _ _ _=>(bW (aa (ab (i:=1)) (aa (ab (i:=0)) ae))))))))))) aS)
    (dF (bJ (aD af (bD.m (cC hr.units)) (ab (i:=2)) ag) (aj (dJ (i:=3) (λ_=>(aH aM aA (ya (i:=3)) (aY (ih:=0) qM.mono GA (hr.mono (by decide)) dA.m dA.F.kp dA.b (aa (ab (i:=1)) ae)))) aR.nd)) aS)
    (aj (aX (xZ (cu aM (oK rfl) B.sorted nC (aa (iJ af (cB.m (wq rfl hr.As)) B.set FJ (aa (ab (i:=3)) ae)) ae)) kl (ki ag))))))))))),λds R h=>?_⟩
 obtain⟨n,rfl,n0,n1,q⟩:=h;refine⟨rfl,trivial,rfl,trivial,5,rfl,by lia,by lia,λway w0 w1=>?_⟩
 refine⟨SH _,trivial,?_⟩;refine⟨λβ=>∃fs:List (List Int),T9 n way (.own (.lst (fs.map kD))) β/\bg n fs/\fs.length<=300/\(way≠1->way≠4->fs=[]),?_,?_⟩
 ·-- drawn Pg
  have no:∃fs:List (List Int),T9 n way (.own (.lst (fs.map kD))) [some (.hand fe),some (.val false (.int n)),some (.val true (.int way)),some (.own (.lst [])),none,none,none,none,none,none]/\bg n fs/\fs.length<=300/\(way≠1->way≠4->fs=[]) :=
   ⟨[],⟨_,_,_,_,_,_,rfl⟩,bg.nil,by simp,λ_ _=>rfl⟩
  refine(λ(key:way=1\/way=4->_)=>⟨_,rfl,trivial,_,b7 _ _,_,rfl,rB (λh1=>sW rfl (key (.inl h1))) (λh1=>⟨_,rfl,trivial,_,b7 _ _,_,rfl,rB (λh4=>key (.inr h4)) (λh4=>no)⟩)⟩) ?_
  ·intro Ry;refine⟨rfl,trivial,trivial,trivial,Pn,trivial,rfl,trivial,rfl,trivial,3,rfl,by lia,by lia,λr r0 r1=>pick r0 (by simpa using r1) λd hd=>?_⟩
   obtain⟨m,rfl,m0,m1⟩:∃m:Int,d=.int m/\0<m/\m<=301:=by
    simp only[Sr,Tt,or_false]at hd;rcases hd with rfl|rfl|rfl
    ·exact⟨5,rfl,by lia,by lia⟩
    ·exact⟨12,rfl,by lia,by lia⟩
    ·exact⟨301,rfl,by lia,by lia⟩
   refine⟨trivial,rfl,trivial,m,rfl,m0,by lia,λj j0 j1=>⟨trivial,j,rfl,by lia,by lia,trivial,?_⟩⟩
   refine⟨λi β=>∃fs:List (List Int),T9 n way (.own (.lst (fs.map kD))) β/\bg n fs/\fs.length<=i,⟨[],⟨_,_,_,_,_,_,rfl⟩,bg.nil,by simp⟩,?_,?_⟩
   ·rintro i d β hd ⟨fs,⟨x4,x5,x6,x7,x8,x9,rfl⟩,ht,hl⟩;obtain⟨hi,rfl⟩:=bK hd;refine⟨rfl,_,rfl,trivial,rfl,trivial,n,rfl,by lia,by lia,λone o0 o1=>?_⟩
    refine⟨_,rfl,trivial,_,rfl,trivial,rfl,_,rfl,trivial,_,rfl,trivial,rfl,trivial,n-1,rfl,by lia,by lia,λr' RC Ea=>?_⟩
    have MK:Jw (.int (one+1+r')) (.int n)=some (.int ((one+1+r') % n)):=if_pos (by lia)
    refine⟨_,rfl,trivial,_,rfl,_,MK,?_⟩;refine⟨⟨_,rfl⟩,_,rfl,trivial,_,rfl,trivial,_,rfl,trivial,_,rfl,trivial,_,rfl,trivial,_,rfl,trivial,o9,trivial,_,rfl,by rw[Sg,TH];lia,?_⟩
    have BP:(one+1+r') % n≠one/\0<=(one+1+r') % n/\(one+1+r') % n<n:=by
     by_cases fz:one+1+r'<n
     ·rw[Int.emod_eq_of_lt (by lia) fz];lia
     ·rw[show one+1+r'=(one+1+r' - n)+n by lia,Int.add_emod_right,Int.emod_eq_of_lt (by lia) (by lia)];lia
    generalize (one+1+r') % n=J5 at BP;refine⟨fs++[[if J5<one then J5 else one,if J5>one then J5 else one]],⟨_,_,_,_,_,_,by rw[jE];rfl⟩,ht.app (bg.one ?_ ?_ ?_),by simp;lia⟩
    all_goals (split <;> (try split) <;> lia)
   ·rintro β ⟨fs,h9,ht,hl⟩;rw[cq]at hl;exact⟨fs,h9,ht,by lia,λa b=>by lia⟩
 ·rintro β ⟨fs,⟨x4,x5,x6,x7,x8,x9,rfl⟩,ht,hl,hz⟩;refine⟨trivial,rfl,trivial,rfl,trivial,6,rfl,by lia,by lia,λreach e0 e1=>⟨_,rfl,?_⟩⟩
  refine⟨λβ=>∃fs:List (List Int),T9 n way (.own (.lst (fs.map kD))) β/\bg n fs/\fs.length<=300/\(way=3->fs=[]),?_,?_⟩
  ·have no:∃oR:List (List Int),T9 n way (.own (.lst (oR.map kD))) [some (.hand fe),some (.val false (.int n)),some (.val true (.int way)),some (.own (.lst (fs.map kD))),x4,x5,x6,some (.val true (.int (1+reach))),x8,x9]/\bg n oR/\oR.length<=300/\(way=3->oR=[]) :=
    ⟨fs,⟨_,_,_,_,_,_,rfl⟩,ht,hl,λh=>hz (by lia) (by lia)⟩
   refine⟨_,rfl,trivial,_,b7 _ _,_,rfl,rB (λw2=>?_) (λw2=>no)⟩;have LY:fs=[]:=hz (by lia) (by lia)
   subst LY;refine⟨_,rfl,trivial,n,rfl,by lia,by lia,trivial,?_⟩
   refine⟨λi β=>∃(fs:List (List Int)) (y4 y5 y6 y8 y9:Option Q.B),β=[some (.hand fe),some (.val false (.int n)),some (.val true (.int way)),some (.own (.lst (fs.map kD))),y4,y5,y6,some (.val true (.int (1+reach))),y8,y9]/\bg n fs/\fs.length<=i*6,⟨[],_,_,_,_,_,rfl,bg.nil,by simp⟩,?_,?_⟩
   ·rintro i d β hd ⟨fs,y4,y5,y6,y8,y9,rfl,ht,hl⟩;obtain⟨hi,rfl⟩:=bK hd;refine⟨_,rfl,trivial,_,rfl,trivial,_,rfl,trivial,_,rfl,trivial,_,rfl,trivial,_,rfl,_,rfl,trivial,_,rfl,trivial,_,_,rfl,⟨by lia,by lia,by split <;> lia,by split <;> lia⟩,trivial,?_⟩
    generalize Kj:(0:Int)+(i:Int)+1=lo;have MZ:((if lo+(1+reach)<n then lo+(1+reach) else n)-lo).toNat<=6/\(if lo+(1+reach)<n then lo+(1+reach) else n)<=n:=by split <;> lia
    generalize (if lo+(1+reach)<n then lo+(1+reach) else n)=d9 at MZ
    refine⟨λk β=>∃(fs:List (List Int)) (y4 y6 y8 y9:Option Q.B),β=[some (.hand fe),some (.val false (.int n)),some (.val true (.int way)),some (.own (.lst (fs.map kD))),y4,some (.val true (.int (0+(i:Int)))),y6,some (.val true (.int (1+reach))),y8,y9]/\bg n fs/\fs.length<=i*6+k,⟨fs,_,_,_,_,rfl,ht,by lia⟩,?_,?_⟩
    ·rintro k d β hd ⟨fs,y4,y6,y8,y9,rfl,ht,hl⟩;obtain⟨hk,rfl⟩:=bK hd;refine⟨rfl,trivial,rfl,trivial,3,rfl,by lia,by lia,λr r0 r1=>⟨trivial,_,rfl,_,rfl,rB (λhp=>?_) (λhp=>?_)⟩⟩
     ·refine⟨⟨_,rfl⟩,_,rfl,trivial,_,rfl,trivial,o9,trivial,_,rfl,by rw[Sg,TH];lia,?_⟩
      exact⟨fs++[[0+(i:Int),lo+(k:Int)]],_,_,_,_,by rw[jE];rfl,ht.app (bg.one (by lia) (by lia) (by lia)),by simp;lia⟩
     ·exact⟨fs,_,_,_,_,rfl,ht,by lia⟩
    ·rintro β ⟨fs,y4,y6,y8,y9,rfl,ht,hl⟩;rw[cq]at hl;exact⟨fs,_,_,_,_,_,rfl,ht,by lia⟩
   ·rintro β ⟨fs,y4,y5,y6,y8,y9,rfl,ht,hl⟩;rw[cq]at hl;exact⟨fs,⟨_,_,_,_,_,_,rfl⟩,ht,by lia,λh=>by lia⟩
  ·rintro β ⟨fs,⟨x4,x5,x6,x7,x8,x9,rfl⟩,ht,hl,hz⟩;refine⟨λβ=>∃fs:List (List Int),T9 n way (.own (.lst (fs.map kD))) β/\bg n fs/\fs.length<=960/\(way=4->fs.length<=300),?_,?_⟩
   ·have no:∃oR:List (List Int),T9 n way (.own (.lst (oR.map kD))) [some (.hand fe),some (.val false (.int n)),some (.val true (.int way)),some (.own (.lst (fs.map kD))),x4,x5,x6,x7,x8,x9]/\bg n oR/\oR.length<=960/\(way=4->oR.length<=300) :=
     ⟨fs,⟨_,_,_,_,_,_,rfl⟩,ht,by lia,λh=>hl⟩
    refine⟨_,rfl,trivial,_,b7 _ _,_,rfl,rB (λw3=>?_) (λw3=>no)⟩;have LY:fs=[]:=hz w3;subst LY;refine⟨_,rfl,trivial,n,rfl,by lia,by lia,trivial,?_⟩
    refine⟨λi β o=>(∃x0,β=[x0,some (.hand fe)])/\∃ks:List Int,o=ks.map D.int/\ks.length=i/\∀k∈ks,0<=k/\k<3,⟨⟨_,rfl⟩,[],rfl,rfl,λ_ z=>(nomatch z)⟩,?_,?_⟩
    ·rintro i d β o hd ⟨⟨x0,rfl⟩,ks,rfl,hk,OC⟩;obtain⟨hi,rfl⟩:=bK hd;refine⟨rfl,trivial,rfl,trivial,3,rfl,by lia,by lia,λr r0 r1=>⟨trivial,by rw[Sg,TH];lia,⟨_,rfl⟩,ks++[r],by simp,by simp[hk],λk hk=>?_⟩⟩
     rcases SO.mp hk with z|z
     ·exact OC k z
     ·rw[SF.mp z];exact⟨r0,r1⟩
    rintro β o ⟨⟨x0,rfl⟩,ks,rfl,ho,OC⟩;rw[cq]at ho;refine⟨⟨rfl,trivial⟩,?_⟩;obtain⟨wd,QY,Rx,Rw⟩:∃wd:Int,tH (.lst [.int n,.int 14]) (.int (if decide (n>24)=true then 1 else 0))=some (.int wd)/\0<=wd/\wd<=24:=by
     by_cases hn:n>24
     ·exact⟨14,by rw[if_pos (by simpa using hn)];rfl,by lia,by lia⟩
     ·exact⟨n,by rw[if_neg (by simpa using hn)];rfl,by lia,by lia⟩
    refine⟨_,rfl,trivial,trivial,o9,trivial,_,rfl,trivial,_,rfl,trivial,_,rfl,_,QY,?_⟩;refine⟨_,rfl,trivial,n,rfl,by lia,by lia,trivial,?_⟩
    refine⟨λi β=>∃(fs:List (List Int)) (y4 y5 y6 y7:Option Q.B),β=[some (.hand fe),some (.val false (.int n)),some (.val true (.int way)),some (.own (.lst (fs.map kD))),y4,y5,y6,y7,some (.val true (.lst (ks.map D.int))),some (.val true (.int wd))]/\bg n fs/\fs.length<=i*24,⟨[],_,_,_,_,rfl,bg.nil,by simp⟩,?_,?_⟩
    ·rintro i d β hd ⟨fs,y4,y5,y6,y7,rfl,ht,hl⟩;obtain⟨hi,rfl⟩:=bK hd;refine⟨⟨_,rfl⟩,_,rfl,trivial,_,rfl,trivial,_,rfl,trivial,_,rfl,trivial,_,rfl,_,rfl,trivial,_,rfl,trivial,_,_,rfl,⟨by lia,by lia,by split <;> lia,by split <;> lia⟩,trivial,?_⟩
     have MZ:((if 0+(i:Int)+wd<n then 0+(i:Int)+wd else n)-(0+(i:Int)+1)).toNat<=24/\(if 0+(i:Int)+wd<n then 0+(i:Int)+wd else n)<=n:=by split <;> lia
     generalize (if 0+(i:Int)+wd<n then 0+(i:Int)+wd else n)=d9 at MZ
     refine⟨λj β o=>(∃x0,β=[x0,some (.val true (.int (0+(i:Int)))),some (.val true (.lst (ks.map D.int)))])/\∃us:List (List Int),o=us.map kD/\us.length<=j/\bg n us,⟨⟨_,rfl⟩,[],rfl,Sj _,bg.nil⟩,?_,?_⟩
     ·rintro j d β o hd ⟨⟨x0,rfl⟩,us,rfl,hj,yV⟩;obtain⟨F5,rfl⟩:=bK hd;obtain⟨r1,_,e1⟩:=qQ (ks:=ks) (i:=0+(i:Int)) (by lia) (by lia)
      obtain⟨r2,_,e2⟩:=qQ (ks:=ks) (i:=0+(i:Int)+1+(j:Int)) (by lia) (by lia)
      refine⟨_,rfl,trivial,_,rfl,_,e1,trivial,_,rfl,trivial,_,rfl,_,e2,_,rfl,trivial,_,b7 _ _,_,rfl,rB (λh=>?_) (λh=>⟨⟨_,rfl⟩,us,rfl,by lia,yV⟩)⟩
      refine⟨_,rfl,trivial,_,rfl,trivial,o9,trivial,by rw[Sg,TH];lia,⟨_,rfl⟩,us++[[0+(i:Int),0+(i:Int)+1+(j:Int)]],by rw[jE];rfl,by simp;lia,yV.app (bg.one (by lia) (by lia) (by lia))⟩
     ·rintro β o ⟨⟨x0,rfl⟩,us,rfl,hlen,yV⟩;rw[cq]at hlen;refine⟨trivial,_,us.map kD,rfl,fL us,rfl,by rw[Sg,Sg,TH];lia,?_⟩
      exact⟨fs++us,_,_,_,_,by rw[S9];rfl,ht.app yV,by simp;lia⟩
    ·rintro β ⟨fs,y4,y5,y6,y7,rfl,ht,hl⟩;rw[cq]at hl;exact⟨fs,⟨_,_,_,_,_,_,rfl⟩,ht,by lia,λh=>by lia⟩
   ·rintro β ⟨fs,⟨x4,x5,x6,x7,x8,x9,rfl⟩,ht,hl,hz⟩;refine⟨λβ=>∃fs:List (List Int),T9 n way (.own (.lst (fs.map kD))) β/\bg n fs/\fs.length<1000,?_,?_⟩
    ·refine⟨_,rfl,trivial,_,b7 _ _,_,rfl,rB (λw4=>?_) (λw4=>⟨fs,⟨_,_,_,_,_,_,rfl⟩,ht,by lia⟩)⟩
     have:=hz w4;refine⟨_,rfl,trivial,rfl,_,rfl,trivial,rfl,trivial,n,rfl,by lia,by lia,λts tl tt=>?_⟩
     have ea:zK (.lst (fs.map kD)) (.lst (ts.map kD))=some (.lst ((fs++ts).map kD)):=by
      rw[S9];exact if_pos (by rw[Sg,Sg,TH];lia)
     exact⟨_,ea,.inl ⟨fL _,trivial,fs++ts,⟨_,_,_,_,_,_,rfl⟩,ht.app tt,by simp;lia⟩⟩
    ·rintro β ⟨fs,⟨x4,x5,x6,x7,x8,x9,rfl⟩,ht,hl⟩;obtain⟨ts,e,lW⟩:=zE ht;refine⟨_,rfl,trivial,_,xF ht.ne hl,.inr ⟨trivial,_,rS ht.ne hl,.inl ⟨fL _,300,rfl,_,rfl,?_⟩⟩⟩;rw[e];exact .inl ⟨fL _,trivial,rfl,q _ lW⟩
theorem kc:aK ["hand","many"] ["hand"] (aw fT):=⟨rfl,rfl,rfl,by decide +kernel,rfl,by decide +kernel,by decide +kernel⟩
theorem Et {Kq BY} (dR:D3 K mg Kq BY) {zt lB} (dT:D1 K mg zt lB) {C6 qD} (dA:D0 K mg C6 qD) {F_ v3} (dI:D2 K mg F_ v3) (B:Bs mg):aF P w K mg base bB 4 Kq BY ["hand"] (eE P w fe true zu):=by
 have GT:aF P w K mg base bB 1 _ _ _ (eE P w fe true bu):=iB (fZ dT.F);have GI:aF P w K mg base bB 3 _ _ _ (eE P w fe true qG):=Bd dI dT dA B;refine yt dR.F kc (λds R IH=> by obtain⟨e,_⟩ := IH;subst e;rfl) λcD A outer s H E IO hr=>⟨_,(ai (a8 (i:=1) (aY (ih:=0) bu.mono GT (hr.mono (by decide)) dT.m dT.F.kp dT.b (aa (aO af bf (bF (aa ag (aa ag (aa ag (aa ag ae))))) (aY (ih:=0) bu.mono GT (hr.mono (by decide)) dT.m dT.F.kp dT.b (aa ag ae))) ae)) kc.nd)
    (ai (bJ (aD af (bD.m gA) (ab (i:=1)) ag) (aj (aX (bW (aa (ab (i:=1)) (aa (bF ae) ae))))) aS)
    (aj (aX (bW (aa (ab (i:=1)) (aa (aY (ih:=0) qG.mono GI (hr.mono (by decide)) dI.m dI.F.kp dI.b (aa (ab (i:=1)) ae)) ae))))))),λds R h=>?_⟩
 obtain⟨rfl,q⟩:=h;refine⟨rfl,trivial,trivial,trivial,trivial,(by show 4<=SG;decide),trivial,rfl,trivial,rfl,trivial,4,rfl,by lia,by lia,λr r0 r1=>pick r0 (by simpa using r1) λd hd=>?_⟩
 obtain⟨m,rfl,m0,m1⟩:∃m:Int,d=.int m/\0<m/\m<=41:=by
  simp only[Sr,Tt,or_false]at hd;rcases hd with rfl|rfl|rfl|rfl
  ·exact⟨7,rfl,by lia,by lia⟩
  ·exact⟨7,rfl,by lia,by lia⟩
  ·exact⟨11,rfl,by lia,by lia⟩
  ·exact⟨41,rfl,by lia,by lia⟩
 refine⟨trivial,rfl,trivial,m,rfl,m0,by lia,λn j0 j1=>?_⟩
 refine⟨_,rfl,trivial,_,rfl,_,rfl,rB (λh=>?_) (λh=>?_)⟩
 ·exact⟨_,rfl,trivial,SH _,trivial,o9,trivial,rfl,q n [] j0 (by lia) ⟨by simp,bg.nil,List.Pairwise.nil,Tv⟩⟩
 ·exact⟨_,rfl,trivial,rfl,_,rfl,trivial,rfl,trivial,n,rfl,by lia,by lia,λts lW=>⟨trivial,o9,trivial,rfl,q n ts j0 (by lia) lW⟩⟩
end
end jO
namespace L2.Q
open PySem PySem.Spec PySem.SeqAt PyProof.Rows
theorem we (ns:List Int)(lo hi:Option Int):∃ms:List Int,qT (ns.map V.int) lo hi=ms.map V.int/\ms.length<=ns.length:=by
 refine⟨(ns.drop (HT.jF (ns.map V.int).length 0 lo)).take (HT.jF (ns.map V.int).length (ns.map V.int).length hi-HT.jF (ns.map V.int).length 0 lo),?_,?_⟩
 ·unfold qT;rw[VS,WH]
 ·rw[SU,UW];lia
section
variable {P:So}{w:SI}
theorem cb {W:Addr->Prop}{H:Hp}:∀ns:List Int,ah P w W H (ns.map D.int) (ns.map V.int)
 |[]=>rfl
 |n::ns=>⟨_,_,rfl,rfl,cb ns⟩
theorem Ax {N:List Str}{vs:List V}{H H':Hp}{n:Nat}{ro:Bool}{U:Addr->Prop}(hl:(L2.start N vs).length=n)(sm:au H H'):bS P w ⟨H,λ_=>False,ro,U⟩ (L2.start N vs) H' (UR n none) (λ_=>[]) :=
 ⟨by rw[hl,List.length_replicate],λi y d h=>(fE h).elim,λi d h=>(fE h).elim,λi ok h=>(fE h).elim,λi a h=>(nomatch h),λi j a h=>(nomatch h),λi=>Tv,sm.kp,λa z e=>z (sm.free e),λi y d h=>(fE h).elim⟩
theorem GU {ro:Bool}{H H':Hp}{b:Bool}{v:V}(h:rj P w ro H H' (.bl b) v):v=.bl b:=by
 cases ro with
 |true=>obtain⟨A,h1,_⟩:=h;exact h1.1
 |false=>exact h
end
end L2.Q
namespace L2
open PySem PySem.Spec PyProof.Rows
section
variable {κ:Type}[DecidableEq κ]
def ft (kvs:List (κ×V))(k:κ):Option V:=(kvs.find? λkv=>decide (kv.1=k)).map (·.2)
def putK (kvs:List (κ×V))(k:κ)(v:V):List (κ×V) :=
 if (kvs.any λkv=>decide (kv.1=k))=true then kvs.map (λkv=>if kv.1=k then (kv.1,v) else kv) else kvs++[(k,v)]
theorem jT {p:κ×V}{r:List (κ×V)}{k:κ}(e:p.1=k):ft (p::r) k=some p.2:=by simp[ft,Ub,e]
theorem jU {p:κ×V}{r:List (κ×V)}{k:κ}(e:¬ p.1=k):ft (p::r) k=ft r k:=by simp[ft,Ub,e]
theorem jV (k:κ):∀kvs:List (κ×V),(kvs.any λkv=>decide (kv.1=k))=(ft kvs k).isSome
 |[]=>rfl
 |p::r=>by
  rw[List.any_cons]
  by_cases e:p.1=k
  ·simp only[jT e,decide_eq_true e,Bool.true_or,Option.isSome_some]
  ·rw[jU e,decide_eq_false e,Bool.false_or];exact jV k r
theorem qh (kvs:List (κ×V))(k:κ)(v:V):(putK kvs k v).length<=kvs.length+1:=by
 unfold putK
 split
 ·rw[Sg];lia
 ·rw[S_,SM,List.length_nil];lia
theorem xR {kvs:List (κ×V)}{k:κ}(v:V)(h:ft kvs k=none):putK kvs k v=kvs++[(k,v)]:=by
 unfold putK;rw[jV,h];exact if_neg (by decide)
theorem mG.vV {o:Option V}{u:Option Sh}(r:mG o u):o.isSome=u.isSome:=by
 cases o with
 |none=>cases u with
  |none=>rfl
  |some _=>exact(show False from r).elim
 |some _=>cases u with
  |none=>exact(show False from r).elim
  |some _=>rfl
theorem KV.val {kvs:List (κ×V)}{vs:List (κ×Sh)}(r:KV kvs vs)(k:κ):mG (ft kvs k) (WO vs k):=by
 unfold KV at r
 induction r with
 |nil=>exact True.intro
 | @cons p q ps qs h t ih =>
  obtain⟨h1,h2⟩:=h
  by_cases e:p.1=k
  ·have e':q.1=k:=h1.symm.trans e;have b:WO (q::qs) k=some q.2:=by simp[WO,Ub,e']
   rw[jT e,b];exact h2
  ·have e':¬ q.1=k:=λz=>e (h1.trans z);have b:WO (q::qs) k=WO qs k:=by simp[WO,Ub,e']
   rw[jU e,b];exact ih
end
theorem CP {P:So}{w:SI}{k:Key}{u:Sh}(r:RelV (kV k) u):(bP P w).is k u=true:=by
 cases k with
 |inl i=>obtain⟨t,e⟩:=(show ∃t,u=Value.int i t from r);subst e;exact pZ P w i t
 |inr x=>obtain⟨t,e⟩:=(show ∃t,u=Value.str x t from r);subst e;exact pY P w x t
theorem m8 {P:So}{w:SI}:∀{ks:List Key} {us:List Sh},Vals (ks.map kV) us->ItemsAre (bP P w) ks us
 |[],_,r=>by rw[List.map_nil]at r;cases r;exact .nil
 |k::ks,_,r=>by
  rw[Ta]at r;cases r with
  |cons h t=>exact .cons (CP h) (m8 t)
abbrev KT (H:Hp):List (List Key×V)->List (List Key×Addr×Sh)->Prop:=Paired λp q=>p.1=q.1/\H q.2.1=some (.tup (p.1.map kV))/\RelV p.2 q.2.2
theorem KT.val {H:Hp}{kvs:List (List Key×V)}{xs:List (List Key×Addr×Sh)}(r:KT H kvs xs)(k:List Key):mG (ft kvs k) ((Xm xs k).map (·.2)):=by
 induction r with
 |nil=>exact True.intro
 | @cons p q ps qs h t ih =>
  obtain⟨h1,_,h2⟩:=h
  by_cases e:p.1=k
  ·have e':q.1=k:=h1.symm.trans e;have b:Xm (q::qs) k=some q.2:=by simp[Xm,Ub,e']
   rw[jT e,b];exact h2
  ·have e':¬ q.1=k:=λz=>e (h1.trans z);have b:Xm (q::qs) k=Xm qs k:=by simp[Xm,Ub,e']
   rw[jU e,b];exact ih
theorem KT.K8 {H:Hp}{kvs:List (List Key×V)}{xs:List (List Key×Addr×Sh)}(r:KT H kvs xs)(k:List Key){y:V}{u:Sh}(ry:RelV y u):
  KT H (kvs.map λkv=>if kv.1=k then (kv.1,y) else kv) (xs.map (putAt k u)):=by
 induction r with
 |nil=>exact .nil
 | @cons p q ps qs h t ih =>
  rw[Ta,Ta];refine .cons ?_ ih;obtain⟨h1,h2,h3⟩:=h;unfold putAt
  by_cases e:p.1=k
  ·rw[if_pos e,if_pos (h1.symm.trans e)];exact⟨h1,h2,ry⟩
  ·rw[if_neg e,if_neg (λz=>e (h1.trans z))];exact⟨h1,h2,h3⟩
theorem KT.put {H:Hp}{kvs:List (List Key×V)}{xs:List (List Key×Addr×Sh)}(r:KT H kvs xs)(k:List Key){b:Addr}{y:V}{u:Sh}(hb:H b=some (.tup (k.map kV)))(ry:RelV y u):
  KT H (putK kvs k y) (storedH xs k b u):=by
 have e:(kvs.any λkv=>decide (kv.1=k))=(Xm xs k).isSome:=by
  rw[jV,(r.val k).vV,Option.isSome_map]
 unfold putK storedH;rw[e]
 by_cases q:(Xm xs k).isSome=true
 ·rw[if_pos q,if_pos q];exact r.K8 k ry
 ·rw[if_neg q,if_neg q];exact Paired.snoc r ⟨rfl,hb,ry⟩
theorem KT.keeps {H H':Hp}{kvs:List (List Key×V)}{xs:List (List Key×Addr×Sh)}(r:KT H kvs xs)(ht:∀b ys,H b=some (.tup ys)->H' b=some (.tup ys)):KT H' kvs xs :=
 Paired.ED r λ_ _ z=>⟨z.1,ht _ _ z.2.1,z.2.2⟩
section
variable {P:So}{w:SI}{H:Hp}{h:Heap}{a:Addr}
theorem Cw {u:HO}(ok:gO P w H h)(e:Rd H a u):bV P w H h a u:=e.ok ok
theorem C9 {kvs:List (Key×V)}(ok:gO P w H h)(e:Rd H a (.dK kvs)):kvs.length<=SG/\(a==Vi)=false/\∃vs,KV kvs vs/\h.DictOf (bP P w) a vs :=
 show bV P w H h a (.dK kvs) from Cw ok e
theorem sO {ks:List Key}(ok:gO P w H h)(e:H a=some (.tup (ks.map kV))):(VX (bP P w)).is h ks a:=by
 obtain⟨_,its,r,o,h1,h2,n,h3⟩:=(show bV P w H h a (.tup (ks.map kV)) from ok a _ e)
 exact⟨o,its.toArray,n,h1,h2,h3,by simpa using m8 r⟩
theorem zB {kvs:List (List Key×V)}(ok:gO P w H h)(e:Rd H a (.dT kvs)):kvs.length<=SG/\(a==Vi)=false /\
  ∃xs,KT H kvs xs/\h.DictOfH (VX (bP P w)) a xs:=by
 obtain⟨z,y,xs,r,o,es,ep,h1,h2,h3,h4,h5⟩:=(show bV P w H h a (.dT kvs) from Cw ok e)
 refine⟨z,y,xs,r,o,es,ep,h1,h2,h3,h4,λx hx=>?_,h5⟩;have all:∀{l:List (List Key×V)} {m:List (List Key×Addr×Sh)},KT H l m->∀x∈m,(VX (bP P w)).is h x.1 x.2.1:=by
  intro l m q
  induction q with
  |nil=>intro x hx;exact nomatch hx
  | @cons p q ps qs hq t ih =>
   intro x hx;rcases Sr.mp hx with e|hx
   ·subst e;exact sO ok (by rw[<- hq.1];exact hq.2.1)
   ·exact ih x hx
 exact all r x hx
theorem Jq {kvs:List (List Key×V)}(ok:gO P w H h)(e:H a=some (.dT kvs)):kvs.length<=SG/\(a==Vi)=false /\
  ∃xs,KT H kvs xs/\h.DictOfH (VX (bP P w)) a xs:=zB ok (.inl e)
end
def wF (H:Hp)(a:Addr)(y:V)(r:Option V):Prop :=
 (∃kvs k,Rd H a (.dK kvs)/\y=kV k/\r=ft kvs k)\/∃kvs k b,Rd H a (.dT kvs)/\y=.ref b/\H b=some (.tup (k.map kV))/\r=ft kvs k
theorem wF.t {H:Hp}{a b:Addr}{kvs:List (List Key×V)}{k:List Key}(e:H a=some (.dT kvs))(eb:H b=some (.tup (k.map kV))):wF H a (.ref b) (ft kvs k):=.inr ⟨kvs,k,b,.inl e,rfl,eb,rfl⟩
section
variable {X:Cx}{pins:List (Addr×Obj)}{σ:St}{H:Hp}{s:Si}{a:Addr}{y v:V}{u:Sh}{o:Option V}{A:TF}{E:Sh->Si->Prop}
theorem Inv.big (I:Inv X pins σ H s):Vi<s.heap.objs.size:=by
 have h:UA<s.heap.objs.size:=(I.mod.glob.keeps I.bk).lt;exact Nat.lt_trans (by decide) h
theorem v9 {Q:Sh->Si->Prop}(hu:A.units+1<Vx)(I:Inv X pins σ H s)(g:wF H a y (some v))(ry:RelV y u)(h:∀w' s',Inv X pins σ H s'->RelV v w'->Q w' s'):
  S6 (model X.prog X.w) A (getItem (.ref a) u) Q E s:=by
 rcases g with⟨kvs,k,e,ey,l⟩|⟨kvs,k,b,e,ey,eb,l⟩
 ·subst ey;obtain⟨z,hd,vs,rel,dd⟩:=C9 I.bG e;obtain⟨w',hw,z_⟩:=mG.some_of (v:=v) (o:=WO vs k) (by rw[l];exact rel.val k)
  exact wpAny_getItem_of (CP ry) dd.mapOf hw (h w' _ (I.tok _) z_)
 ·subst ey;cases (show u=Value.ref b from ry)
  obtain⟨z,hd,xs,rel,dd⟩:=zB I.bG e;obtain⟨w',hw,z_⟩:=mG.some_of (v:=v) (o:=(Xm xs k).map (·.2)) (by rw[l];exact rel.val k)
  obtain⟨p,hp,Kf⟩:=SJ.mp hw;refine wpAny_getItem_heap (tupleKind_room_in1 hu) (sO I.bG eb) dd hp ?_;rw[Kf];exact h w' _ (I.tok _) z_
theorem B8 {h':Heap}{t':Nat}{ob:HO}(I:Inv X pins σ H s)(mu:JP (H a))(hs:Uq a s.heap h')(he:∃q,h'.get? a=some q)(new:bV X.prog X.w (upd H a ob) h' a ob):
  Inv X pins σ (upd H a ob) {s with heap:=h',toks:=t'} :=
 I.write (x:=a) (e:=a) mu (.inl rfl) (λb q hb z=>(hs.2 b hb).trans z) he new
end
section
end
theorem qP {X:Cx} {pins:List (Addr×Obj)} {σ:St} {H:Hp} {s:Si} {a:Addr} {y:V} {o:Option V} (I:Inv X pins σ H s) (g:wF H a y o):s.TypeIs (.ref a) "dict" := by
 rcases g with⟨kvs,k,e,_,_⟩|⟨kvs,k,b,e,_,_,_⟩
 ·obtain⟨_,_,vs,_,dd⟩:=C9 I.bG e;exact dd.typeIs
 ·obtain⟨_,_,xs,_,dd⟩:=zB I.bG e;exact dd.typeIs
section
end
theorem zC {P:So}{w:SI}{H:Hp}(h:Heap)(hb:Vi<h.objs.size):bV P w H (h.push {cls:=.type "dict",data:=.dict #[]}) h.objs.size (.dT []) :=
 ⟨SH _,beq_eq_false_iff_ne.mpr (T5 (S5 hb)),[],.nil,_,#[],0,Tf _ rfl,⟨rfl,rfl,rfl⟩,rfl,rfl,Tv⟩
section
end
section
end
section
end
section
end
section
end
section
end
section
variable {κ:Type}[DecidableEq κ]
end
end L2
namespace L2.Q
open PySem PySem.Spec PySem.SeqAt PyProof.Rows
theorem _root_.L2.cW.w9 {k:Nat}{A:TF}(r:cW k A):A.units+1<Vx:=by have:=r.un;lia
def iK (t:List Int):List Key:=t.map Wy
theorem EX {t u:List Int}(h:iK t=iK u):t=u:=by
 unfold iK at h
 induction t generalizing u with
 |nil=>cases u with|nil=>rfl|cons _ _=>cases h
 |cons a t ih =>
  cases u with
  |nil=>cases h
  |cons b u =>
   rw[Ta,Ta]at h;injection h with h1 h2
   injection h1 with h1
   rw[h1,ih h2]
theorem CT (t:List Int):(iK t).map kV=t.map V.int:=by
 unfold iK;rw[Tz];rfl
section
end
section
end
end L2.Q
namespace L2
open PySem PySem.Spec PySem.SeqAt PyProof.Rows
def D.int?:D->Option Int
 |.int i=>some i
 |_=>none
def D.Bw:D->Option (List D)
 |.lst ds=>some ds
 |_=>none
theorem D.BG {d:D}{i:Int}(h:d.int?=some i):d=.int i:=by
 cases d <;> first|(cases h;rfl)|cases h
theorem D.uE {d:D}{ds:List D}(h:d.Bw=some ds):d=.lst ds:=by
 cases d <;> first|(cases h;rfl)|cases h
def jn:List D->Option (List Int)
 |[]=>some []
 |d::ds=>d.int?.bind λi=>(jn ds).map (i::·)
theorem lN:∀{ds:List D} {ns:List Int},jn ds=some ns->ds=ns.map D.int
 |[],_,h=>by cases h;rfl
 |d::ds,ns,h=>by
  obtain⟨i,h1,h2⟩:=Uc.mp h;obtain⟨ms,h3,rfl⟩:=SJ.mp h2;rw[D.BG h1,lN h3];rfl
theorem iY:∀ns:List Int,jn (ns.map D.int)=some ns
 |[]=>rfl
 |n::ns=>by
  show (some n).bind (λi=>(jn (ns.map D.int)).map (i::·))=_;rw[iY ns];rfl
def jM (f:List Int->Option Int):List D->Option D
 |[d]=>d.Bw.bind λds=>(jn ds).bind λns=>(f ns).map D.int
 |_=>none
theorem tG {f:List Int->Option Int}{ds:List D}{d:D}(h:jM f ds=some d):∃ns i,ds=[.lst (ns.map D.int)]/\f ns=some i/\d=.int i:=by
 cases ds with
 |nil=>cases h
 |cons x r =>
  cases r with
  |cons _ _=>cases h
  |nil =>
   obtain⟨es,h1,h2⟩:=Uc.mp h;obtain⟨ns,h3,h4⟩:=Uc.mp h2;obtain⟨i,h5,rfl⟩:=SJ.mp h4;exact⟨ns,i,by rw[D.uE h1,lN h3],h5,rfl⟩
theorem tF {f:List Int->Option Int}{ns:List Int}{i:Int}(h:f ns=some i):jM f [.lst (ns.map D.int)]=some (.int i):=by
 show (some (ns.map D.int)).bind (λds=>(jn ds).bind λns=>(f ns).map D.int)=_;rw[Vk,iY,Vk,h];rfl
def qe:List Int->Option Int
 |[]=>none
 |n::ns=>some (ns.foldl max n)
theorem cv:∀(ns:List Int) (n:Int),(ns.foldl max n∈n::ns)/\∀x∈n::ns,x<=ns.foldl max n
 |[],n=>⟨by simp,λx hx=>by simp at hx;rw[hx];exact Wu _⟩
 |m::ns,n=>by
  obtain⟨h1,h2⟩:=cv ns (max n m);have hm:max n m<=ns.foldl max (max n m):=h2 _ (by simp)
  refine⟨?_,λx hx=>?_⟩
  ·rw[Wh];rcases Sr.mp h1 with h|h
   ·rw[h]
    by_cases q:n<=m
    ·rw[show max n m=m by lia];simp
    ·rw[show max n m=n by lia];simp
   ·simp[h]
  ·rw[Wh];rcases Sr.mp hx with rfl|hx
   ·lia
   ·rcases Sr.mp hx with rfl|hx
    ·lia
    ·exact h2 x (by simp[hx])
section
variable {X:Cx}
theorem jS:∀{ns:List Int} {us:List Sh},Vals (ns.map V.int) us->∃xs:Array (Int×Tok),us.toArray=intItems xs/\xs.toList.map (·.1)=ns
 |[],_,h=>by cases h;exact⟨#[],by simp[intItems],rfl⟩
 |n::ns,_,h=>by
  cases h with
  |cons h1 h2 =>
   obtain⟨t,rfl⟩:=h1;obtain⟨xs,e1,e2⟩:=jS h2;refine⟨⟨(n,t)::xs.toList⟩,?_,by simp[e2]⟩
   have:=congrArg Array.toList e1;simp[intItems]at this ⊢
   exact this
theorem iM {xs:Array (Int×Tok)}{ns:List Int}(e:xs.toList.map (·.1)=ns)(i:Nat):numAt xs i=ns.getD i 0:=by
 subst e;unfold numAt;rw[SN,Su,SK]
theorem Cn {xs:Array (Int×Tok)}{ns:List Int}(e:xs.toList.map (·.1)=ns){i:Nat}{v:Sh}(h:(intItems xs)[i]?=some v):RelV (.int (ns.getD i 0)) v:=by
 obtain⟨t,rfl⟩:=intItems_at h;exact⟨t,by rw[iM e]⟩
theorem ints_size {xs:Array (Int×Tok)}{ns:List Int}(e:xs.toList.map (·.1)=ns):xs.size=ns.length:=by rw[<- e];simp
theorem wt (hc:X.calm=true):cB X (.builtin "max") (jM qe):=by
 intro pins s σ H xs us Q I r h;obtain⟨W,ds,d,hd,r1,e,q⟩:=h;obtain⟨ns,i,rfl,e1,rfl⟩:=tG e;obtain⟨x,rfl,p,vs,rfl,h1,n1,q1⟩:=ik r1;obtain⟨u,rfl,ru⟩:=vals1 r;cases ru;rw[cb q1]at h1;obtain⟨its,r2,ht,hz⟩:=I.list (cE.of h1);obtain⟨ys,Q4,e2⟩:=jS r2;have hs:=ints_size e2;cases ns with
 |nil=>cases e1
 |cons n ns =>
  rw[SM]at hs;refine max_intList (I.ok.hd hc) (xs:=ys) (by rw[<- Q4];exact ht.isList) (by lia) λv h' tk hv k=>⟨.int i,H,I.kept k,?_,q _ _ (au.refl _) rfl⟩
  have hr:=Cn e2 hv;obtain⟨g1,g2⟩:=argBest_gt (numAt ys) (ys.size-1);generalize argBest (λi j=>decide (numAt ys i>numAt ys j)) (ys.size-1)=b at *
  have hb:b<(n::ns).length:=by rw[SM];lia
  have:(n::ns).getD b 0=i:=by
   cases e1;obtain⟨f1,f2⟩:=cv ns n;have hle:∀x∈n::ns,x<=(n::ns).getD b 0:=λx hx=>by
    obtain⟨j,hj,rfl⟩:=List.getElem_of_mem hx;have:=g2 j (by rw[SM]at hj;lia)
    rw[iM e2,iM e2]at this;rw[SN,Sk hj]at this;exact this
   have mh:(n::ns).getD b 0∈n::ns:=by
    rw[SN,Sk hb];exact Uu hb
   have:=hle _ f1;have:=f2 _ mh;lia
  rw[<- this];exact hr
end
end L2
namespace L2.Q
open PySem PySem.Spec PySem.SeqAt PyProof.Rows
def dA (kvs:List (List Int×D)):D:=.dT (kvs.map λp=>iK p.1) (kvs.map (·.2))
def jq (kvs:List (List Int×D))(t:List Int):Option D:=(kvs.find? λp=>decide (p.1=t)).map (·.2)
def _root_.L2.D.HP:D->Option (List (List Key)×List D)
 |.dT ks ds=>some (ks,ds)
 |_=>none
theorem BF {d:D}{ks:List (List Key)}{ds:List D}(h:d.HP=some (ks,ds)):d=.dT ks ds:=by
 cases d <;> first|(cases h;rfl)|cases h
def rM (ks:List (List Key))(ds:List D)(k:List Key):Option D:=((ks.zip ds).find? λp=>decide (p.1=k)).map (·.2)
theorem BD {d:D}{es:List D}(h:d.HN=some es):d=.tup es:=by
 cases d <;> first|(cases h;rfl)|cases h
def Ca (a b:D):Option ((List (List Key)×List D)×List Int):=a.HP.bind λp=>b.HN.bind λes=>(jn es).map λt=>(p,t)
theorem B_ {a b:D}{ks:List (List Key)}{ds:List D}{t:List Int}(h:Ca a b=some ((ks,ds),t)):a=.dT ks ds/\b=.tup (t.map D.int):=by
 obtain⟨p,h1,h2⟩:=Uc.mp h;obtain⟨es,h3,h4⟩:=Uc.mp h2;obtain⟨t',h5,h6⟩:=SJ.mp h4;cases h6;exact⟨BF h1,by rw[BD h3,lN h5]⟩
theorem B9 {kvs:List (List Int×D)}{t:List Int}:Ca (dA kvs) (.tup (t.map D.int))=some ((kvs.map λp=>iK p.1,kvs.map (·.2)),t):=by
 show (some _).bind (λp=>(some (t.map D.int)).bind λes=>(jn es).map λt=>(p,t))=_;rw[Vk,Vk,iY];rfl
theorem rL {t:List Int}:∀{kvs:List (List Int×D)},rM (kvs.map λp=>iK p.1) (kvs.map (·.2)) (iK t)=jq kvs t
 |[]=>rfl
 |p::kvs=>by
  have ih:=rL (t:=t) (kvs:=kvs);unfold rM jq at *
  rw[Ta,Ta,VD,Ub,Ub]
  by_cases h:p.1=t
  ·rw[decide_eq_true (congrArg iK h),decide_eq_true h];rfl
  ·rw[decide_eq_false (λz=>h (EX z)),decide_eq_false h];exact ih
def uS (a b:D):Option D:=(Ca a b).bind λz=>rM z.1.1 z.1.2 (iK z.2)
theorem Cc {kvs:List (List Int×D)}{t:List Int}:uS (dA kvs) (.tup (t.map D.int))=jq kvs t:=by
 unfold uS;rw[B9,Vk];exact rL
section
variable {P:So}{w:SI}{W:Addr->Prop}{H:Hp}
theorem n9 {k:List Key}:∀{ks:List (List Key)} {ds:List D} {vs:List V},ks.length=vs.length->ah P w W H ds vs->(ft (ks.zip vs) k).isSome=(rM ks ds k).isSome/\∀d,rM ks ds k=some d->∃v,ft (ks.zip vs) k=some v/\ay P w W H d v
 |[],ds,vs,_,_=>by
  unfold ft rM;rw[WY,WY];exact⟨rfl,λd h=>by cases h⟩
 |k'::ks,[],_,l,h=>by rw[show _=([]:List V) from h]at l;cases l
 |k'::ks,d::ds,_,l,⟨v,r,e,h1,h2⟩=>by
  subst e;obtain⟨i1,i2⟩:=n9 (k:=k) (ks:=ks) (V1 l) h2;unfold ft rM at *
  rw[VD,VD,Ub,Ub]
  by_cases hk:k'=k
  ·rw[decide_eq_true hk];exact⟨rfl,λd' e=>by cases e;exact⟨v,rfl,h1⟩⟩
  ·rw[decide_eq_false hk];exact⟨i1,i2⟩
end
section
variable {X:Cx}
theorem ER {W:Addr->Prop}{H:Hp}{a b:D}{x y:V}{ks:List (List Key)}{ds:List D}{t:List Int}(h:Ca a b=some ((ks,ds),t))(r1:Rp X W H a x)(r2:Rp X W H b y):∃p vs,x=.ref p/\wF H p y (ft (ks.zip vs) (iK t))/\ks.length=vs.length/\ah X.prog X.w W H ds vs:=by
 obtain⟨rfl,rfl⟩:=B_ h;obtain⟨p,vs,rfl,e1,l,n,rs⟩:=r1;obtain⟨q,us,rfl,e2,rt⟩:=r2;rw[L2.cb rt]at e2;exact⟨p,vs,rfl,wF.t e1 (by rw[CT];exact e2),l,rs⟩
theorem HG (hu:X.A.units+1<Vx):Dn X (xN X uS NF):=by
 intro value slice pins s σ H x y v u Q I rx ry h hs;obtain⟨W,d1,d2,d,hd,r1,r2,e,q⟩:=h;obtain⟨⟨⟨ks,ds⟩,t⟩,h1,h2⟩:=Uc.mp e;obtain⟨p,vs,rfl,g,l,rs⟩:=ER h1 r1 r2;obtain⟨w',hw,z_⟩:=(n9 l rs).2 d h2;rw[hw]at g;cases (show v=Value.ref p from rx)
 exact tail_any (qP I g) PySem.F.slot_dict_getitem.lookup (v9 hu I g ry λu' s' I' r'=>⟨w',H,I',r',q w' H (au.refl _) z_ λf=>ay.flat f z_⟩) hs
end
theorem En {P:So}{w:SI}{H:Hp}{kvs:List (List Int×D)}{a:Addr}{vs:List V}{A:List Addr}(h:H a=some (.dT ((kvs.map λp=>iK p.1).zip vs)))(o:aG P w H (kvs.map (·.2)) vs A):Own P w H (dA kvs) (.ref a) (a::A) :=
 ⟨a,vs,A,rfl,h,by rw[Sg,o.length,Sg],rfl,o⟩
theorem DD {P:So}{w:SI}{H:Hp}{kvs:List (List Int×D)}{vs:List V}{A:List Addr}{t:List Int}(o:aG P w H (kvs.map (·.2)) vs A)(h:jq kvs t=none):ft ((kvs.map λp=>iK p.1).zip vs) (iK t)=none:=by
 have:=(n9 (k:=iK t) (ks:=kvs.map λp=>iK p.1) (W:=λ_=>False) (by rw[Sg,o.length,Sg]) (o.rep λc _ z=>z)).1
 rw[rL,h]at this;exact Xs.mp (by rw[<- Option.not_isSome,this];rfl)
section
end
end L2.Q
namespace L2
open PySem PySem.Spec PySem.SeqAt PyProof.Rows
def Kz (lo:Int)(n:Nat):It:=⟨λi _=>i<n,λi H x H'=>H'=H/\x=.int (lo-i),λi _=>n<=i⟩
theorem o3 {P:So}{w:SI}{K:PySem.W.Frag}{tg:Expr}(it:Addr)(lo:Int)(n:Nat):Turn P w K tg (Kz lo n) [it] it (λi h=>Xc h it (lo+(i:Nat)*(-1)) ((n:Int)-(i:Nat)) (-1)) where
 mem:=by simp
 obj:=λi h st b hb=>by
  have e:b=it:=by simpa using hb
  subst e;exact⟨_,st,λv z=>by
   have z':Xe _=WA v:=z;cases z'⟩
 keep:=λi h h' st k=>k it (by simp) _ st
 item:=by
  intro X hP hw hK hc i pins s σ H E I hf st hg;subst hP hw hK;obtain⟨f0,f1,f2,f3,f4,f5⟩:=hf it (by simp)
  have W:=Walks.range (prog:=X.prog) (w:=X.w) (I.ok.hd hc) it lo (-1) n;refine W.item i s _ _ hg st λv h' tk hv az kk=>?_;obtain⟨t,rfl⟩:=hv;have I1:Inv X pins σ H {s with heap:=h',toks:=tk}:=I.turned (λb o hb e=>kk b o (by simpa using hb) e) f0 f1 f3 f4 f5
  refine⟨_,rfl,zj (s:={s with heap:=h',toks:=tk}) (n:="range_iterator") az rfl rfl (by decide) ⟨.int (lo-i),H,I1,⟨t,?_⟩,⟨rfl,rfl⟩,az,λb hb=>(hf b hb).1⟩⟩
  rw[Int.mul_neg,Int.mul_one];rfl
 done:=by
  intro X hP hw hK hc i pins s σ H E I hf st hg;subst hP hw hK;obtain⟨f0,f1,f2,f3,f4,f5⟩:=hf it (by simp)
  exact wpAny_pyNext_range_end (I.ok.hd hc) st (by have:n<=i:=hg;lia) λh' eb=>⟨rfl,I.turned (t':=s.toks) (λb o hb e=>eb b o hb e) f0 f1 f3 f4 f5⟩
 self:=λ_ _ _ _ _ st h=>wpAny_pyIter_rangeiter st h
theorem dU (a b:Int):UE a b (-1)=if b<a then a-b else 0:=by
 unfold UE;rw[if_neg (by decide)]
 by_cases h:b<a
 ·rw[if_pos h,if_pos h,show -(-1:Int)=1 by decide,Int.ediv_one];lia
 ·rw[if_neg h,if_neg h]
theorem mN {a b:Int}(ha:-(2 ^ 62)<=a)(F8:a<2 ^ 62)(hb:-(2 ^ 62)<=b)(ji:b<2 ^ 62):Builtin.Range.small a b (-1)=true:=by
 unfold Builtin.Range.small;rw[dU];simp only[Builtin.Range.rangeFitsLong,Tu,Bool.or_eq_true,decide_eq_true_eq,beq_iff_eq,show ¬ ((-1:Int)>0) by decide,if_false]
 split <;> lia
section
variable {X:Cx}{tg:Expr}
theorem vp {pins:List (Addr×Obj)}{σ:St}{H:Hp}{s:Si}{R:It->Hp->Prop}{E:Sh->Si->Prop}{lo hi:Int}{t u v:Tok}{tk:Nat}(I:Inv X pins σ H s)(h1:-(2 ^ 62)<=lo)(h2:lo<2 ^ 62)(h3:-(2 ^ 62)<=hi)(h4:hi<2 ^ 62)
  (q:R (Kz lo (lo-hi).toNat) H):S6 (model X.prog X.w) X.A (WI (.ref s.heap.objs.size)) (Kx X pins σ tg R) E {s with heap:=s.heap.push {cls:=.type "range",data:=.fields #[.int lo t,.int hi u,.int (-1) v]},toks:=tk}:=by
 refine wpAny_pyIter_range (IsRange.new ..) (mN h1 h2 h3 h4) ?_;have I1:Inv X pins σ H {s with heap:=s.heap.push {cls:=.type "range",data:=.fields #[.int lo t,.int hi u,.int (-1) v]},toks:=tk}:=I.kept λb o e=>Sl _ e
 refine⟨(s.heap.push {cls:=.type "range",data:=.fields #[.int lo t,.int hi u,.int (-1) v]}).objs.size,[(s.heap.push {cls:=.type "range",data:=.fields #[.int lo t,.int hi u,.int (-1) v]}).objs.size],_,_,H,rfl,
  I1.kept (t':=tk) λb o e=>Sl _ e,o3 _ lo (lo-hi).toNat,?_,λb hb=>?_,q⟩
 ·have e1:lo+((0:Nat):Int)*(-1)=lo:=by simp
  have e2:(((lo-hi).toNat:Nat):Int)-((0:Nat):Int)=UE lo hi (-1):=by rw[dU];split <;> lia
  show Xc _ _ (lo+((0:Nat):Int)*(-1)) ((((lo-hi).toNat:Nat):Int)-((0:Nat):Int)) (-1);rw[e1,e2];exact Tf _ rfl
 ·have e:b=(s.heap.push {cls:=.type "range",data:=.fields #[.int lo t,.int hi u,.int (-1) v]}).objs.size:=by simpa using hb
  subst e;exact I1.vZ (Sj _) (I1.bG.fresh (Sj _))
def HR (ta:TA):TI:=λσ H R=>ta σ H λvs H1=>∃i j:Int,vs=[.int i,.int j,.int (-1)]/\(-(2 ^ 62)<=i/\i<2 ^ 62/\-(2 ^ 62)<=j/\j<2 ^ 62)/\R (Kz i (i-j).toNat) H1
theorem vA {a b c:Expr} {ta:TA} {p pos:Pos} (hg:Gl X "range") (hm:X.mg "range" = none) (ha:PA X [a,b,c] ta) (hs:SX [a,b,c] X.env=[(false,eval a X.env),(false,eval b X.env),(false,eval c X.env)]:=by rfl) (lX:SX [b,c] X.env=[(false,eval b X.env),(false,eval c X.env)]:=by rfl) :
  PI X tg (.Call (.Name "range" p) [a,b,c] [] pos) (HR ta):=by
 intro pins s σ H R I h;refine Call_ (eQ I hg hm Xl (TN (br (ha pos pins s σ H _ I h) λus s1 ⟨vs,H1,I1,r1,q1⟩=>?_) (by rw[hs,lX]) (by rw[lX];rfl)))
 obtain⟨i,j,e,⟨q1,q2,q3,q4⟩,q⟩:=q1;subst e;cases r1 with
 |cons r rr =>
  cases rr with
  |cons r' rr =>
   cases rr with
   |cons FY rr =>
    cases rr;obtain⟨t,rfl⟩:=r;obtain⟨t',rfl⟩:=r';obtain⟨RA,rfl⟩:=FY;exact call_range_3 (by decide) (vp I1 q1 q2 q3 q4 q) (.inl (VQ (by decide +kernel)))
def n6 (hi:Int)(n:Nat):List D:=(SV n).map λ(k:Nat)=>D.int (hi-(k:Int))
theorem pH {hi:Int}{n i:Nat}{d:D}(h:(n6 hi n)[i]?=some d):i<n/\d=.int (hi-i):=by
 unfold n6 at h;rw[Su]at h
 by_cases hi:i<n
 ·rw[Up hi]at h;cases h;exact⟨hi,rfl⟩
 ·rw[S7 (by simpa using hi)]at h;cases h
theorem pG {hi:Int}{n:Nat}:(n6 hi n).length=n:=by unfold n6;simp
theorem sQ {W:Addr->Prop}{H:Hp}{lo:Int}{n:Nat}:tY X W (Kz lo n) (n6 lo n) H:=λ_ _ i H' k=>by
 constructor
 ·intro d hd;obtain⟨hi,rfl⟩:=pH hd;refine⟨hi,λx H1 y=>?_⟩;obtain⟨rfl,rfl⟩:=y;exact⟨au.refl _,rfl⟩
 ·intro hl;rw[pG]at hl;exact hl
end
end L2
namespace L2.Q
open PySem PySem.Spec PySem.SeqAt PyProof.Rows
section
variable {X:Cx}{C:Cfg}{tg a b c:Expr}{φs:bM}{p:Bool}{pp pos:Pos}
def BH (φs:bM):cg:=λβ R=>φs β λds _ β'=>∃i j:Int,ds=[.int i,.int j,.int (-1)]/\(-(2 ^ 62)<=i/\i<2 ^ 62/\-(2 ^ 62)<=j/\j<2 ^ 62)/\R (n6 i (i-j).toNat) .eh β'
theorem JG {W:Addr->Prop}{H:Hp}{a b c:D}{xs:List V}(h:ir X W H [a,b,c] xs):∃x y z,xs=[x,y,z]/\Rp X W H a x/\Rp X W H b y/\Rp X W H c z:=by
 obtain⟨x,r,rfl,hx,y,r',rfl,hy,z,FY,rfl,hz,hr⟩:=h;cases hr;exact⟨x,y,z,rfl,hx,hy,hz⟩
theorem sd (hm:X.mg "range" = none) (ha:oT X C p [a,b,c] φs) (hg:Gl X "range" := by rfl) (hs:SX [a,b,c] X.env=[(false,eval a X.env),(false,eval b X.env),(false,eval c X.env)]:=by rfl) (lX:SX [b,c] X.env=[(false,eval b X.env),(false,eval c X.env)]:=by rfl) :
  uZ X C p tg (.Call (.Name "range" pp) [a,b,c] [] pos) (BH φs) :=
 ⟨λβ R R' k q=>ha.mono β _ _ (λd kd β' h=>by obtain⟨i,j,e,h1,q⟩:=h;exact⟨i,j,e,h1,k _ _ _ q⟩) q,(vA hg hm ha.pa hs lX).pre λσ H R h=>by
  obtain⟨β,own,s,q⟩:=h;refine rq.of ha s q λds ks β' vs H1 aB h o1 r1=>?_;obtain⟨i,j,e,h1,q1⟩:=h;subst e;obtain⟨x,y,z,rfl,hx,hy,hz⟩:=JG r1.gz;cases hx;cases hy;cases hz;exact⟨i,j,rfl,h1,q1 _ _ aB o1 sQ⟩⟩
end
structure Nw (X:Cx)(C:Cfg)(tg iter:Expr)(ι:cg):Prop where
 mono:∀β R R',(∀d k β,R d k β->R' d k β)->ι β R->ι β R'
 pi:PI X tg iter λσ H R=>∃β own,SQ X C σ H β own/\ι β λds k β'=>∀J H',au H H'->SQ X C σ H' β' own->tY X (f_ C (Wn own) k) J ds H'->R J H'
section
variable {X:Cx}{C:Cfg}{tg a b:Expr}{φs:bM}{pp pos:Pos}{i:Nat}{x:Str}
theorem r_ (hm:X.mg "range" = none) (ha:oT X C true [a,b] φs) (hg:Gl X "range" := by rfl) (hs:SX [a,b] X.env=[(false,eval a X.env),(false,eval b X.env)]:=by rfl) (lX:SX [b] X.env=[(false,eval b X.env)]:=by rfl) :
  Nw X C tg (.Call (.Name "range" pp) [a,b] [] pos) (uH φs) :=
 ⟨λβ R R' k q=>ha.mono β _ _ (λd kd β' h=>by obtain⟨i,j,e,h1,q⟩:=h;exact⟨i,j,e,h1,k _ _ _ q⟩) q,(mT hg hm ha.pa hs lX).pre λσ H R h=>by
  obtain⟨β,own,s,q⟩:=h;refine rq.of ha s q λds ks β' vs H1 aB h o1 r1=>?_;obtain⟨i,j,e,h1,q1⟩:=h;subst e;obtain⟨s1,rfl⟩:=o1.pu rfl;obtain⟨x,y,rfl,hx,hy⟩:=q_ r1.gz;cases hx;cases hy;exact⟨i,j,rfl,h1,q1 _ _ s1 o1.sq iS⟩⟩
def EW (i:Nat):cg:=λβ R=>∃y ds,β[i]?=some (some (.val y (.lst ds)))/\R ds (yk y) β
theorem vx (hN:X.N[i]?=some x:=by rfl)(hv:tS X.env.scope x:=by first|exact .inl rfl|exact .inr (.inl rfl)|exact .inr (.inr rfl))(hd:(x==("__debug__" : Str))=false:=by decide)(gk:(x==("__classdict__" : Str))=false:=by decide):Nw X C tg (.Name x pos) (EW i) :=
 ⟨λβ R R' k h=>by obtain⟨y,ds,e,q⟩:=h;exact⟨y,ds,e,k _ _ _ q⟩,(oj (cT (pos:=pos) hN hv hd gk)).pre λσ H R h=>by
  obtain⟨β,own,s,y,ds,e,q⟩:=h;obtain⟨v,hv,p,vs,rfl,h1,n1,rs⟩:=s.val i y _ e;exact⟨_,hv,p,rfl,⟨vs,cE.of h1⟩,q _ _ (au.refl _) s (lj h1 n1 rs)⟩⟩
end
structure SC (X:Cx)(C:Cfg)(W0:Addr->Prop)(T:List Nat)(σ0:St)(H1:Hp)(a:Addr)(Hb:Hp)(Wb:Addr->Prop)(Ac:Hp->Prop)(β:a7)(σ':St)(H':Hp)(own:Nat->List Addr):Prop where
 sq:SQ X (C.u λc=>c=a) σ' H' β own
 sn:Sn (H1,W0) H' (Wn own)
 le:∀c,Wn own c->Wb c
 ac:Ac H'
 pu:au H1 H'
 bs:∀b ob,b≠a->Hb b=some ob->H' b=some ob
 st:∀j,j∉T->σ'[j]?=σ0[j]?
abbrev rf {α:Type}(X:Cx)(C:Cfg)(W0:Addr->Prop)(T:List Nat)(σ0:St)(H1:Hp)(a:Addr)(Hb:Hp)(Wb:Addr->Prop)(Ac:α->Hp->Prop)(β:a7)(o:α)(σ':St)(H':Hp):Prop:=∃own,SC X C W0 T σ0 H1 a Hb Wb (Ac o) β σ' H' own
structure wG {α:Type}(a:Addr)(Ac:α->Hp->Prop):Prop where
 same:∀o H H',au H H'->Ac o H->Ac o H'
 Hh:∀o H xs,Ac o H->H a≠some (.tup xs)
abbrev FW (X:Cx)(C:Cfg)(a:Addr)(T:List Nat)(γ:c6):TG:=λv σ H Q=>∃own β d k,SQ X (C.u λc=>c=a) σ H β own/\Rp X (f_ (C.u λc=>c=a) (Wn own) k) H d v/\γ d k β λβ'=>∀σ' aN,SQ X (C.u λc=>c=a) σ' H β' aN->(∀a,Wn aN a->Wn own a)->(∀j,j∉T->σ'[j]?=σ[j]?)->Q σ' H
abbrev NP (X:Cx)(C:Cfg)(a:Addr)(φ:aV):lT:=λN σ H=>tQ X (C.u λc=>c=a) true φ σ H λv H1=>∃xs,H1 a=some (.lst xs)/\xs.length<SG/\N σ (upd H1 a (.lst (xs++[v])))
section
variable {α:Type}{X:Cx}{C:Cfg}{W0:Addr->Prop}{T Tg:List Nat}{σ0:St}{H1:Hp}{a:Addr}{Hb:Hp}{Wb:Addr->Prop}{γ:c6}{τ:aZ}{φ:aV}{Ac:α->Hp->Prop}
theorem SC.next {o:α}(hA:wG a Ac){β β':a7}{σ σ':St}{H H':Hp}{own aN:Nat->List Addr}(s:SC X C W0 T σ0 H1 a Hb Wb (Ac o) β σ H own)(sq:SQ X (C.u λc=>c=a) σ' H' β' aN)(w:∀c,Wn aN c->Wn own c)(sm:au H H')(t:∀j,j∉T->σ'[j]?=σ[j]?):
  SC X C W0 T σ0 H1 a Hb Wb (Ac o) β' σ' H' aN :=
 ⟨sq,gW (s.sn.same sm) w,λc z=>s.le c (w c z),hA.same o _ _ sm s.ac,s.pu.trans sm,λb ob n e=>sm _ _ (s.bs b ob n e),λj hj=>(t j hj).trans (s.st j hj)⟩
theorem SC.put {A:Hp->Prop}{A':Hp->Prop}(h0:C.H0 a=none)(ha:H1 a=none){β:a7}{σ:St}{H:Hp}{own:Nat->List Addr}{oa ob:HO}(s:SC X C W0 T σ0 H1 a Hb Wb A β σ H own)(e:H a=some oa)(nt:∀xs,oa≠.tup xs)(q:A' (upd H a ob)):
  SC X C W0 T σ0 H1 a Hb Wb A' β σ (upd H a ob) own:=by
 refine⟨s.sq.DX e nt h0,⟨s.sn.w,s.sn.k.trans ((k9 e nt).mono λb z=>.inr (by rw[z];exact ha)),λb z e=>?_⟩,s.le,q,λb o e=>?_,λb o n e=>?_,s.st⟩
 ·by_cases hb:b=a
  ·rw[hb,ar]at e;cases e
  ·rw[ak hb]at e;exact s.sn.d b z e
 ·rw[ak (λz'=>by rw[z',ha]at e;cases e)]
  exact s.pu b o e
 ·rw[ak n];exact s.bs b o n e
def KG (P:So)(w:SI)(H1:Hp)(a:Addr)(o:List D)(H:Hp):Prop:=∃vs A,H a=some (.lst vs)/\aG P w H o vs A/\A.Nodup/\∀c∈A,H1 c=none/\c≠a
theorem tR {P:So}{w:SI}:wG a (KG P w H1 a):=⟨λo H H' s h=>by
  obtain⟨vs,A,h1,h2,h3,h4⟩:=h;exact⟨vs,A,s _ _ h1,h2.keep (λb xs e=>s _ _ e) λc _ oc e=>s _ _ e,h3,h4⟩,λo H xs h z=>by
  obtain⟨vs,A,h1,_⟩:=h;rw[h1]at z;cases z⟩
def C7 (φ:aV)(o:List D)(β:a7)(N:a7->List D->Prop):Prop:=φ β λx kx β3=>Aa kx x/\o.length<SG/\N β3 (o++[x])
theorem AG (h0:C.H0 a=none)(ha:H1 a=none)(φm:∀β R R',(∀d k β,R d k β->R' d k β)->φ β R->φ β R'){β:a7}{o:List D}{σ:St}{H:Hp}{N:a7->List D->Prop}(s:rf X C W0 T σ0 H1 a Hb Wb (KG X.prog X.w H1 a) β o σ H)(q:C7 φ o β N):
  NP X C a φ (λσ' H'=>∃β' o',rf X C W0 T σ0 H1 a Hb Wb (KG X.prog X.w H1 a) β' o' σ' H'/\N β' o') σ H:=by
 obtain⟨own,s⟩:=s;refine⟨β,own,s.sq,φm _ _ _ (λxd kx β6 ⟨f,hz,q⟩ v H6 A5 o6 r6=>?_) q⟩;obtain⟨sm,rfl⟩:=o6.pu rfl;have s6:=s.next tR (o6.sq) (λ_ z=>z) sm (λ_ _=>rfl)
 obtain⟨B',r1,r2,r3⟩:=r6.fl f;obtain⟨vs,A,at',os,nd,nw⟩:=s.ac;have qr:H6 a=some (.lst vs):=sm _ _ at';have Hk:∀c∈B',c≠a:=λc hc z=>by rw[z]at hc;exact absurd (at'.symm.trans (r3 a hc).1) (λz=>(nomatch z))
 have kt:∀b xs,H6 b=some (.tup xs)->upd H6 a (.lst (vs++[v])) b=some (.tup xs):=λb xs z=>by rw[ak (λz'=>by rw[z',qr]at z;cases z)];exact z
 refine⟨vs,qr,by rw[os.length];exact hz,β6,o++[xd],⟨A5,s6.put h0 ha qr (λxs z=>by cases z) ⟨vs++[v],A++B',ar,?_,?_,λc hc=>?_⟩⟩,q⟩
 ·exact(os.keep (λb xs e=>kt b xs (sm _ _ e)) λc hc oc e=>by rw[ak (nw c hc).2];exact sm _ _ e).append (aG.one (r1.keep kt λc hc oc e=>by rw[ak (Hk c hc)];exact e))
 ·refine TC.mpr ⟨nd,r2,λx hx y hy e=>?_⟩;subst e;exact(os.lY x hx).1 (r3 x hy).1
 ·rcases SO.mp hc with hc|hc
  ·exact nw c hc
  ·exact⟨s.sn.free (r3 c hc).1,Hk c hc⟩
def jg {α:Type}(γ:c6)(τ:aZ)(Af:α->a7->(a7->α->Prop)->Prop)(ds:List D)(k:Kd)(β0:a7)(o0:α)(F:a7->α->Prop):Prop:=∃I:Nat->a7->α->Prop,I 0 β0 o0 /\
 (∀i d β o,ds[i]?=some d->I i β o->γ d (sk k d) β λβ1=>τ β1 λt β2=>if t=true then Af o β2 (I (i+1)) else I (i+1) β2 o)/\∀β o,I ds.length β o->F β o
theorem jg.mono {Af:α->a7->(a7->α->Prop)->Prop}{ds:List D}{k:Kd}{β0:a7}{o0:α}{F F':a7->α->Prop}(h:∀β o,F β o->F' β o)(q:jg γ τ Af ds k β0 o0 F):jg γ τ Af ds k β0 o0 F':=by
 obtain⟨I,h0,h1,h2⟩:=q;exact⟨I,h0,h1,λβ o z=>h _ _ (h2 β o z)⟩
theorem uh (hA:wG a Ac)(hT:∀j∈Tg,j∈T)(γm:∀d k β R R',(∀r,R r->R' r)->γ d k β R->γ d k β R')(τm:∀β R R',(∀d β,R d β->R' d β)->τ β R->τ β R'){J:It}{ds:List D}{k:Kd}{Af:α->a7->(a7->α->Prop)->Prop}{ta:lT}{F:a7->α->Prop}{End:St->Hp->Prop}{β0:a7}{o0:α}{σ1:St}{Hs:Hp}
  (it:∀i β o σ' H',rf X C W0 T σ0 H1 a Hb Wb Ac β o σ' H'->(∀d,ds[i]?=some d->J.go i H'/\∀x H3,J.Gr i H' x H3->au H' H3/\∀own,(∀c,Wn own c->Wb c)->ay X.prog X.w (f_ (C.u λc=>c=a) (Wn own) k) H3 d x)/\(ds.length<=i->J.stop i H'))
  (H_:∀β o σ' H' N,rf X C W0 T σ0 H1 a Hb Wb Ac β o σ' H'->Af o β N->ta (λwO zX=>∃β' o',rf X C W0 T σ0 H1 a Hb Wb Ac β' o' wO zX/\N β' o') σ' H')
  (s0:rf X C W0 T σ0 H1 a Hb Wb Ac β0 o0 σ1 Hs) (q:jg γ τ Af ds k β0 o0 F) (fin:∀β o σ' H',rf X C W0 T σ0 H1 a Hb Wb Ac β o σ' H'->F β o->End σ' H') :
  fC J (FW X C a Tg γ) (jr X (C.u λc=>c=a) true τ) ta End σ1 Hs:=by
 obtain⟨I,i0,i1,i2⟩:=q;refine⟨λi m σ' H'=>i<=ds.length/\m=ds.length-i/\∃β o,rf X C W0 T σ0 H1 a Hb Wb Ac β o σ' H'/\I i β o,⟨_,SH _,rfl,β0,o0,s0,i0⟩,?_⟩;rintro i m σ2 H2 ⟨hi,rfl,β,o,sE,hl⟩;obtain⟨cz,oA⟩:=it i β o σ2 H2 sE
 by_cases fz:i<ds.length
 ·right
  have hd:ds[i]?=some ds[i]:=Sk fz;obtain⟨go,yl⟩:=cz _ hd;refine⟨go,λσ' H'=>∃β' o',rf X C W0 T σ0 H1 a Hb Wb Ac β' o' σ' H'/\I (i+1) β' o',λσ' H' h=>⟨_,by omega,fz,rfl,h⟩,λx H3 y=>?_⟩
  obtain⟨s3,r3⟩:=yl x H3 y;obtain⟨own,s⟩:=sE;refine⟨own,β,_,_,s.sq.same s3,nU (r3 own s.le),γm _ _ _ _ _ (λβ4 q σ4 pR s4 w4 t4=>?_) (i1 i _ β o hd hl)⟩;have Px:=s.next hA s4 w4 s3 λj hj=>t4 j λz=>hj (hT j z)
  refine⟨β4,pR,s4,τm _ _ _ (λt β5 q H5 l9 o5=>?_) q⟩;obtain⟨K1,rfl⟩:=o5.pu rfl;have NV:=Px.next hA o5.sq (λ_ z=>z) K1 λ_ _=>rfl
  cases t with
  |false=>exact⟨β5,o,⟨_,NV⟩,q⟩
  |true=>exact H_ β5 o σ4 H5 _ ⟨_,NV⟩ q
 ·left
  have e:i=ds.length:=by omega
  subst e;exact⟨oA (Sj _),fin β o σ2 H2 sE (i2 β o hl)⟩
def CH {α:Type}(ι:cg)(γ:c6)(τ:aZ)(Af:α->a7->(a7->α->Prop)->Prop)(o:α)(β:a7)(N:a7->α->Prop):Prop:=ι β λds k β1=>jg γ τ Af ds k β1 o N
theorem AF (hA:wG a Ac){ι:cg}(hT:∀j∈Tg,j∈T)(γm:∀d k β R R',(∀r,R r->R' r)->γ d k β R->γ d k β R')(τm:∀β R R',(∀d β,R d β->R' d β)->τ β R->τ β R'){Af:α->a7->(a7->α->Prop)->Prop}{ta:lT}
  (H_:∀Hb Wb β o σ' H' N,rf X C W0 T σ0 H1 a Hb Wb Ac β o σ' H'->Af o β N->ta (λwO zX=>∃β' o',rf X C W0 T σ0 H1 a Hb Wb Ac β' o' wO zX/\N β' o') σ' H')
  (ιm:∀β R R',(∀d k β,R d k β->R' d k β)->ι β R->ι β R') {β:a7} {o:α} {σ:St} {H:Hp} {N:a7->α->Prop} (s:rf X C W0 T σ0 H1 a Hb Wb Ac β o σ H) (q:CH ι γ τ Af o β N) :
  ∃β own,SQ X (C.u λc=>c=a) σ H β own/\ι β λds k β'=>∀J H',au H H'->SQ X (C.u λc=>c=a) σ H' β' own->tY X (f_ (C.u λc=>c=a) (Wn own) k) J ds H' ->
   fC J (FW X C a Tg γ) (jr X (C.u λc=>c=a) true τ) ta (λσ' H'=>∃β' o',rf X C W0 T σ0 H1 a Hb Wb Ac β' o' σ' H'/\N β' o') σ H':=by
 obtain⟨own,s⟩:=s;refine⟨β,own,s.sq,ιm _ _ _ (λds k β1 q J H' sm sq Qg=>?_) q⟩;have s1:=s.next hA sq (λ_ z=>z) sm λ_ _=>rfl
 have hu:f_ (C.u λc=>c=a) (Wn own) k a:=.inr rfl;refine uh (Hb:=H') (Wb:=Wn own) hA hT γm τm (λi βx ox σx Hx sx=>?_) (λβx ox σx Hx Nx sx qx=>H_ _ _ _ _ _ _ _ sx qx) ⟨own,⟨s1.sq,s1.sn,λ_ z=>z,s1.ac,s1.pu,λ_ _ _ e=>e,s1.st⟩⟩ q λβx ox σx Hx sx hx=>?_
 ·obtain⟨A4,sx⟩:=sx;have kp:Kp (λb=>f_ (C.u λc=>c=a) (Wn own) k b\/H' b=none) H' Hx:=⟨λb ob e n=>sx.bs b ob (λz=>n (.inl (by rw[z];exact hu))) e,λb xs e=>sx.bs b _ (λz=>hA.Hh _ _ _ s1.ac (by rw[<- z];exact e)) e⟩
  obtain⟨g1,g2⟩:=Qg (λb=>f_ (C.u λc=>c=a) (Wn own) k b\/H' b=none) (λb z=>z) i Hx kp;refine⟨λd hd=>?_,g2⟩;obtain⟨go,yl⟩:=g1 d hd;refine⟨go,λx H3 y=>?_⟩;obtain⟨s3,r3⟩:=yl x H3 y;exact⟨s3,λaN LQ=>ay.aU (λb z=>.inl (ij LQ k b z)) r3⟩
 ·obtain⟨A4,sx⟩:=sx;exact⟨βx,ox,⟨A4,⟨sx.sq,sx.sn,λc z=>s.le c (sx.le c z),sx.ac,sx.pu,λb ob n e=>sx.bs b ob n (s1.bs b ob n e),sx.st⟩⟩,hx⟩
theorem pE {lk:List (Option Nat)}{σ:St}{β:a7}{own:Nat->List Addr}{oa:HO}(hA:wG a Ac){Af:α->a7->(a7->α->Prop)->Prop}{ta:lT}{J:It}{ds:List D}{k:Kd}{o0:α}{K:α->Prop}{End:Hp->Prop}
  (γm:∀d k β R R',(∀r,R r->R' r)->γ d k β R->γ d k β R') (τm:∀β R R',(∀d β,R d β->R' d β)->τ β R->τ β R') (QO:∀j∈Tg,j∈T)
  (inj:∀(i i' j:Nat),lk[i]?=some (some j)->lk[i']?=some (some j)->i=i') (hT:∀i∈T,∀j,lk[i]?≠some (some j))
  (s1:SQ X C σ H1 β own) (ha:H1 a=none) (hk:hold k false) (it:tY X (av C (Wn own) k) J ds H1) (a0:Ac o0 (upd H1 a oa)) (ent:SQ X (C.u λc=>c=a) (dy lk σ) (upd H1 a oa) (cA lk β) (bb lk β own))
  (H_:∀Hb Wb β' o σ' H' N,C.H0 a=none->rf X C (Wn (bb lk β own)) T (dy lk σ) H1 a Hb Wb Ac β' o σ' H'->Af o β' N->ta (λwO zX=>∃β' o',rf X C (Wn (bb lk β own)) T (dy lk σ) H1 a Hb Wb Ac β' o' wO zX/\N β' o') σ' H')
  (q:jg γ τ Af ds k (cA lk β) o0 λβf o=>d8 (cA lk β) βf/\K o)
  (fin:∀o H',K o->Out X C σ H1 own true β H' own->Ac o H'->End H') :
  fC J (FW X C a Tg γ) (jr X (C.u λc=>c=a) true τ) ta (λ_ H'=>End H') (dy lk σ) (upd H1 a oa):=by
 have h0:C.H0 a=none:=Ti λz=>s1.gK a z ha;have sm:au H1 (upd H1 a oa):=au.new ha;refine uh (W0:=Wn (bb lk β own)) (T:=T) (σ0:=dy lk σ) (H1:=H1) (Hb:=H1) (Wb:=Wn (bb lk β own)) hA QO γm τm (λi βx ox σx Hx sx=>?_) (λβx ox σx Hx Nx sx qx=>H_ _ _ _ _ _ _ _ h0 sx qx)
  ⟨bb lk β own,⟨ent,⟨λb z=>.inl z,sm.kp,λb z e=>z (sm.free e)⟩,λ_ z=>z,a0,sm,λb ob n e=>sm _ _ e,λ_ _=>rfl⟩⟩ q λβx ox σx Hx sx hx=>?_
 ·obtain⟨A4,sx⟩:=sx;have kI:Kp (λb=>av C (Wn own) k b\/H1 b=none) H1 Hx:=sx.pu.kp;obtain⟨g1,g2⟩:=it (λb=>av C (Wn own) k b\/H1 b=none) (λb z=>z) i Hx kI;refine⟨λd hd=>?_,g2⟩;obtain⟨go,yl⟩:=g1 d hd;refine⟨go,λx H3 y=>?_⟩;obtain⟨s3,r3⟩:=yl x H3 y;exact⟨s3,λaN LQ=>ay.aU (λc z=>z.elim (λz=>.inl (jN (λc z=>a_ c (LQ c z)) k c z)) λz=>.inr (by rw[z];exact ha)) r3⟩
 ·obtain⟨A4,sx⟩:=sx;obtain⟨hh,hK⟩:=hx;have lv:SQ X C σ Hx β own:=s1.leave sx.sq sx.sn sx.le hh λj ok i' e1 e2=>sx.st i' λz=>hT i' z j e2;exact fin ox Hx hK ⟨lv,⟨λb z=>.inl z,sx.sn.k.mono λb z=>z.imp (a_ b) id,sx.sn.d⟩,λz=>⟨sx.pu,rfl⟩,λ_ z=>z⟩ sx.ac
end
theorem FP {X:Cx}{C:Cfg}{σ:St}{H1 H':Hp}{β:a7}{own:Nat->List Addr}{a:Addr}{o:List D}(s1:SQ X C σ H1 β own)(ha:H1 a=none)(h:KG X.prog X.w H1 a o H'):KV X.prog X.w C (H1,Wn own) own H' .own (.lst o) (.ref a):=by
 obtain⟨vs,A,at',os,nd,nw⟩:=h;refine⟨a::A,⟨a,vs,A,rfl,at',rfl,os⟩,S4.mpr ⟨λz=>(nw a z).2 rfl,nd⟩,λc hc=>?_⟩;have mm:H1 c=none:=by
  rcases Sr.mp hc with rfl|hc
  ·exact ha
  ·exact(nw c hc).1
 exact⟨mm,λh=>by obtain⟨j,hj⟩:=h;exact(s1.dm j c hj).1 mm,Ti λz=>s1.gK c z mm⟩
def Ec (lk:List (Option Nat))(ι:cg)(γ:c6)(τ:aZ)(ι2:cg)(γ2:c6)(τ2:aZ)(φ:aV):aV:=λβ R=>ι β λds k β1=>hold k false/\jg γ τ (CH ι2 γ2 τ2 (C7 φ)) ds k (cA lk β1) [] λβf o=>d8 (cA lk β1) βf/\R (.lst o) .own β1
section
variable {X:Cx}{C:Cfg}{lk:List (Option Nat)}{γ γ2:c6}{τ τ2:aZ}{φ:aV}{T T2:List Nat}
variable {scope:U8}{tg cz xh oA elt:Expr}{ifs me:List Expr}{ι ι2:cg}{pi:Bool}{pos:Pos}{i:Nat}
theorem Og (N':List Str)(lk:List (Option Nat))(L:gB X.env.scope.names X.N scope N' lk=true)(td:N'.Nodup)(hc:X.calm=true)(hi:uZ X C pi tg cz ι)
  (oQ:∀a cl c s H ex,wC (aC X scope N' cl c s H ex) (C.u λc=>c=a) tg T γ) (lW:∀a cl c s H ex,rh (aC X scope N' cl c s H ex) (C.u λc=>c=a) true ifs τ)
  (OH:∀a cl c s H ex,Nw (aC X scope N' cl c s H ex) (C.u λc=>c=a) xh oA ι2)
  (H9:∀a cl c s H ex,wC (aC X scope N' cl c s H ex) (C.u λc=>c=a) xh T2 γ2) (H4:∀a cl c s H ex,rh (aC X scope N' cl c s H ex) (C.u λc=>c=a) true me τ2)
  (ml:∀a cl c s H ex,PQ (aC X scope N' cl c s H ex) (C.u λc=>c=a) true elt φ) (hT:(T++T2).all (λi=>match lk[i]? with|some (some _)=>false|_=>true)=true:=by rfl)
  (hs:∀x,TB cz X.env x=pure x:=by intro _;rfl) (lX:∀cl c s H ex x,TB oA (aC X scope N' cl c s H ex).env x=pure x:=by intro _ _ _ _ _ _;rfl):PQ X C pi (.ListComp elt [⟨tg,cz,ifs,0⟩,⟨xh,oA,me,0⟩] scope pos) (Ec lk ι γ τ ι2 γ2 τ2 φ):=by
 have L:=Links.of L;have Fn:∀i∈T++T2,∀j,lk[i]?≠some (some j):=λi hi j e=>by
  have:=Vn.mp hT i hi;rw[e]at this;cases this
 have ax:Addr:=0;have Sd:List (Str×Addr):=[];have γm:=(oQ 0 [] 0 X.s₀ X.H₀ []).mono;have τm:=(lW 0 [] 0 X.s₀ X.H₀ []).mono;have KI:=(H9 0 [] 0 X.s₀ X.H₀ []).mono;have KH:=(H4 0 [] 0 X.s₀ X.H₀ []).mono;have φm:=(ml 0 [] 0 X.s₀ X.H₀ []).mono;have ιm:=(OH 0 [] 0 X.s₀ X.H₀ []).mono;refine⟨λβ R R' k h=>hi.mono β _ _ (λds kd β1 q=>⟨q.1,q.2.mono λ_ _ z=>⟨z.1,k _ _ _ z.2⟩⟩) h,?_⟩;refine(kA (g:=⟨tg,cz,ifs,0⟩) (gs:=[⟨xh,oA,me,0⟩]) (tg:=λa=>FW X C a T γ) (tt:=λa=>jr X (C.u λc=>c=a) true τ)
  (ta:=λa N σ H=>∃β own,SQ X (C.u λc=>c=a) σ H β own/\ι2 β λds k β'=>∀J H',au H H'->SQ X (C.u λc=>c=a) σ H' β' own->tY X (f_ (C.u λc=>c=a) (Wn own) k) J ds H' ->
   fC J (FW X C a T2 γ2) (jr X (C.u λc=>c=a) true τ2) (NP X C a φ) N σ H')
  L hc kS rfl rfl (λ_ _=>FH) hi.pi (λa cl c s H ex=>⟨(oQ a cl c s H ex).pg,(lW a cl c s H ex).pt,AZ (X:=aC X scope N' cl c s H ex) (g':=⟨xh,oA,me,0⟩) rfl hc FG (OH a cl c s H ex).pi (H9 a cl c s H ex).pg (H4 a cl c s H ex).pt (kB (X:=aC X scope N' cl c s H ex) rfl (ml a cl c s H ex).pe) (lX cl c s H ex)⟩) hs).pre λσ H Q h=>?_
 obtain⟨β,own,s,h⟩:=h;refine⟨β,own,s,hi.mono β _ _ (λds k β1 h J H1 aB o1 it a ha=>?_) h⟩;obtain⟨hk,q⟩:=h;refine pE (T:=T++T2) (tR (P:=X.prog) (w:=X.w) (H1:=H1)) γm τm (λj hj=>T3 _ hj) (c_ L td) Fn o1.sq ha hk it ⟨[],[],ar,(show aG _ _ _ [] [] [] from ⟨rfl,rfl⟩),Tv,λc hc=>(nomatch hc)⟩ (o1.sq.enter ha (c_ L td))
  (λHb Wb βx ox σx Hx Nx h0 sx qx=>AF tR (λj hj=>Th _ hj) KI KH (λHb Wb βy oy σy Hy Ny sy qy=>AG h0 ha φm sy qy) ιm sx qx) q λo H' q o2 r=>?_
 refine q _ _ aB ⟨o2.sq,o1.sn.trans o2.sn,λz=>⟨(o1.pu z).1.trans (o2.pu rfl).1,(o1.pu z).2⟩,o1.le⟩ ((FP o1.sq ha r).later o1.sn)
end
end L2.Q
namespace L2
open PySem PySem.Spec PySem.SeqAt PyProof.Rows
section
variable {X:Cx}
theorem vG:lU X newDict (.dT []) :=
 ⟨λpins s σ H Q E I h=>Va (h _ _ (Sj _) I.fresh (λb o e=>Sl _ e) (I.laid (t':=s.toks) (λ_ _ q=>Sl _ q) (Sj _) (zC _ I.big)))⟩
theorem yg {k v:Expr}{tk tv:TE}{a:Addr}(hx:X.xe=λ_ _=>False)(hu:X.A.units<Vx)(hk:PE X k tk)(hv:PE X v tv):
  oO X (jY (zA k v (.ref a) X.env)) (λN σ H=>tk σ H λy H1=>tv σ H1 λv H2=>∃kvs key b,H2 a=some (.dT kvs)/\y=.ref b/\H2 b=some (.tup (key.map kV))/\kvs.length<SG/\N σ (upd H2 a (.dT (putK kvs key v)))):=by
 intro pins s σ H N kk Q E I h hN;unfold jY zA;refine Sf (Sf (br (dM hx (hk pins s σ H _ I h)) λu s1 ⟨y,H1,I1,r1,q⟩=>?_));refine Sf (T_ (br (dM hx (hv pins s1 σ H1 _ I1 q)) λw' s2 ⟨v,H2,I2,r2,kvs,key,b,e,ey,eb,l,q2⟩=>?_));subst ey;cases (show u=Value.ref b from r1)
 refine Sf (UK (T_ ?_));obtain⟨z,hd,xs,rel,dd⟩:=Jq I2.bG e;have hz:xs.length<=SG:=by rw[<- Paired.length rel];exact z
 have hl:(putK kvs key v).length<=SG:=by have:=qh kvs key v;lia
 refine wpAny_dictSet_heap (hsz:=hz) (knd:=VX (bP X.prog X.w)) hu (sO I2.bG eb) dd λh' Q5 hs=>hN σ _ _ ?_ q2;obtain⟨q,es,ep,hq,h2,h3,h4,_,h5⟩:=Q5;refine B8 I2 (by rw[e];exact True.intro) hs ⟨q,hq⟩ ⟨hl,hd,_,(rel.put key eb r2).keeps λc ys ec=>?_,q,es,ep,hq,h2,h3,h4,h5⟩
 rw[ak (CI ec e (λz=>nomatch z))];exact ec
end
end L2
namespace L2.Q
open PySem PySem.Spec PySem.SeqAt PyProof.Rows
def NN (P:So)(w:SI)(a:Addr)(o:List (List Int×D))(H:Hp):Prop:=∃vs,H a=some (.dT ((o.map λp=>iK p.1).zip vs))/\aG P w H (o.map (·.2)) vs []
theorem zT {P:So}{w:SI}{a:Addr}:wG a (NN P w a):=⟨λo H H' s h=>by
  obtain⟨vs,h1,h2⟩:=h;exact⟨vs,s _ _ h1,h2.keep (λb xs e=>s _ _ e) λc hc=>(nomatch hc)⟩,λo H xs h z=>by
  obtain⟨vs,h1,_⟩:=h;rw[h1]at z;cases z⟩
abbrev NQ (X:Cx)(C:Cfg)(a:Addr)(φk φ:aV):lT:=λN σ H=>tQ X (C.u λc=>c=a) true φk σ H λy H1=>tQ X (C.u λc=>c=a) true φ σ H1 λv H2=>∃kvs key b,H2 a=some (.dT kvs)/\y=.ref b/\H2 b=some (.tup (key.map kV))/\kvs.length<SG/\N σ (upd H2 a (.dT (putK kvs key v)))
def zw (φk φ:aV)(o:List (List Int×D))(β:a7)(N:a7->List (List Int×D)->Prop):Prop:=φk β λkd _ β2=>φ β2 λx _ β3=>∃t,kd=.tup (t.map D.int)/\x.flat=true/\jq o t=none/\o.length<SG/\N β3 (o++[(t,x)])
section
variable {X:Cx}{C:Cfg}{W0:Addr->Prop}{T:List Nat}{σ0:St}{H1:Hp}{a:Addr}{Hb:Hp}{Wb:Addr->Prop}{φ φk:aV}
theorem xH (h0:C.H0 a=none)(ha:H1 a=none)(Dp:∀β R R',(∀d k β,R d k β->R' d k β)->φk β R->φk β R')(φm:∀β R R',(∀d k β,R d k β->R' d k β)->φ β R->φ β R'){β:a7}{o:List (List Int×D)}{σ:St}{H:Hp}{N:a7->List (List Int×D)->Prop}(s:rf X C W0 T σ0 H1 a Hb Wb (NN X.prog X.w a) β o σ H)(q:zw φk φ o β N):
  NQ X C a φk φ (λσ' H'=>∃β' o',rf X C W0 T σ0 H1 a Hb Wb (NN X.prog X.w a) β' o' σ' H'/\N β' o') σ H:=by
 obtain⟨own,s⟩:=s;refine⟨β,own,s.sq,Dp _ _ _ (λkd kk β5 q v5 H5 l9 o5 r5=>?_) q⟩;obtain⟨K1,rfl⟩:=o5.pu rfl;refine⟨β5,_,o5.sq,φm _ _ _ (λxd kx β6 ⟨t,e1,f,hn,hz,q2⟩ v H6 A5 o6 r6=>?_) q⟩;obtain⟨sm,rfl⟩:=o6.pu rfl;have s6:=s.next zT o6.sq (λ_ z=>z) (K1.trans sm) (λ_ _=>rfl)
 subst e1;obtain⟨b,us,rfl,hb,rt⟩:=r5.rep;rw[L2.cb rt]at hb;obtain⟨vs,at',os⟩:=s6.ac;have PF:Own X.prog X.w H6 xd v []:=dj f r6.rep;have l:(o.map λp=>iK p.1).length=vs.length:=by rw[Sg,os.length,Sg]
 have MJ:putK ((o.map λp=>iK p.1).zip vs) (iK t) v=((o++[(t,xd)]).map λp=>iK p.1).zip (vs++[v]):=by
  rw[xR v (DD os hn),S9,List.zip_append l];rfl
 have kt:∀c xs,H6 c=some (.tup xs)->upd H6 a (.dT (putK ((o.map λp=>iK p.1).zip vs) (iK t) v)) c=some (.tup xs):=λc xs z=>by rw[ak (λz'=>by rw[z',at']at z;cases z)];exact z
 refine⟨_,iK t,b,at',rfl,by rw[CT];exact sm _ _ hb,by rw[List.length_zip,<- l,Nat.min_self,Sg];exact hz,β6,o++[(t,xd)],⟨_,s6.put h0 ha at' (λxs z=>by cases z) ⟨vs++[v],by rw[ar,MJ],?_⟩⟩,q2⟩
 rw[S9];exact(os.keep kt (A:=[]) λc hc=>by cases hc).append (aG.one (PF.keep kt (A:=[]) λc hc=>by cases hc))
end
def Eb (lk:List (Option Nat))(ι:cg)(γ:c6)(τ:aZ)(φk φ:aV):aV:=λβ R=>ι β λds k β1=>hold k false/\jg γ τ (zw φk φ) ds k (cA lk β1) [] λβf o=>d8 (cA lk β1) βf/\R (dA o) .own β1
section
variable {X:Cx}{C:Cfg}{lk:List (Option Nat)}{γ:c6}{τ:aZ}{φ φk:aV}{T:List Nat}
variable {scope:U8}{tg cz ke elt:Expr}{ifs:List Expr}{ι:cg}{pi:Bool}{pos:Pos}{i:Nat}
theorem Q6 (hu:X.A.units<Vx)(N':List Str)(lk:List (Option Nat))(L:gB X.env.scope.names X.N scope N' lk=true)(td:N'.Nodup)(hc:X.calm=true)(hi:uZ X C pi tg cz ι)
  (oQ:∀a cl c s H ex,wC (aC X scope N' cl c s H ex) (C.u λc=>c=a) tg T γ) (lW:∀a cl c s H ex,rh (aC X scope N' cl c s H ex) (C.u λc=>c=a) true ifs τ)
  (OD:∀a cl c s H ex,PQ (aC X scope N' cl c s H ex) (C.u λc=>c=a) true ke φk) (ml:∀a cl c s H ex,PQ (aC X scope N' cl c s H ex) (C.u λc=>c=a) true elt φ) (hT:T.all (λi=>match lk[i]? with|some (some _)=>false|_=>true)=true:=by rfl)
  (hs:∀x,TB cz X.env x=pure x:=by intro _;rfl):PQ X C pi (.DictComp ke elt [⟨tg,cz,ifs,0⟩] scope pos) (Eb lk ι γ τ φk φ):=by
 have L:=Links.of L;have Fn:∀i∈T,∀j,lk[i]?≠some (some j):=λi hi j e=>by
  have:=Vn.mp hT i hi;rw[e]at this;cases this
 have γm:=(oQ 0 [] 0 X.s₀ X.H₀ []).mono;have τm:=(lW 0 [] 0 X.s₀ X.H₀ []).mono;have φm:=(ml 0 [] 0 X.s₀ X.H₀ []).mono;have Dp:=(OD 0 [] 0 X.s₀ X.H₀ []).mono;refine⟨λβ R R' k h=>hi.mono β _ _ (λds kd β1 q=>⟨q.1,q.2.mono λ_ _ z=>⟨z.1,k _ _ _ z.2⟩⟩) h,?_⟩;refine(kA (g:=⟨tg,cz,ifs,0⟩) (gs:=[]) (tg:=λa=>FW X C a T γ) (tt:=λa=>jr X (C.u λc=>c=a) true τ) (ta:=λa=>NQ X C a φk φ)
  L hc vG rfl rfl (λ_ _=>JB) hi.pi (λa cl c s H ex=>⟨(oQ a cl c s H ex).pg,(lW a cl c s H ex).pt,yg (X:=aC X scope N' cl c s H ex) rfl hu (OD a cl c s H ex).pe (ml a cl c s H ex).pe⟩) hs).pre λσ H Q h=>?_
 obtain⟨β,own,s,h⟩:=h;refine⟨β,own,s,hi.mono β _ _ (λds k β1 h J H1 aB o1 it a ha=>?_) h⟩;obtain⟨hk,q⟩:=h;refine pE (T:=T) (zT (P:=X.prog) (w:=X.w)) γm τm (λj hj=>hj) (c_ L td) Fn o1.sq ha hk it ⟨[],ar,(show aG _ _ _ [] [] [] from ⟨rfl,rfl⟩)⟩ (o1.sq.Ft (λxs z=>by cases z) ha (c_ L td))
  (λHb Wb βx ox σx Hx Nx h0 sx qx=>xH h0 ha Dp φm sx qx) q λo H' q o2 r=>?_
 refine q _ _ aB ⟨o2.sq,o1.sn.trans o2.sn,λz=>⟨(o1.pu z).1.trans (o2.pu rfl).1,(o1.pu z).2⟩,o1.le⟩ ?_;obtain⟨vs,at',os⟩:=r;refine⟨[a],En at' os,by simp,λc hc=>?_⟩
 rw[SF.mp hc];exact⟨Ti λz=>o1.sn.d a z ha,λh=>by obtain⟨j,hj⟩:=h;exact(o1.sq.dm j a hj).1 ha,Ti λz=>o1.sq.gK a z ha⟩
end
structure Bs3 (mg:Str->Option Sh):Prop extends Bs2 mg where
 sum:mg "sum" = none
def tI (p:Nat×Nat):List Int:=[(p.1:Int),(p.2:Int)]
theorem xn {p q:Nat×Nat}(h:tI p=tI q):p=q:=by
 unfold tI at h;injection h with h1 h2
 injection h2 with h2 _
 exact Prod.ext (Int.ofNat.inj h1) (Int.ofNat.inj h2)
def xf (ps:List (Nat×Nat)):D:=.lst (ps.map λp=>kD (tI p))
def jG (n:Nat)(ps:List (Nat×Nat)):D:=.tup [.int n,xf ps]
structure oU (n:Nat)(ps:List (Nat×Nat)):Prop where
 lt:∀p∈ps,p.1<p.2/\p.2<n
 nd:ps.Nodup
 le:n<=80
 sm:ps.length<=400
theorem xg {n:Int}{ts:List (List Int)}(n0:0<=n)(h:bg n ts):∃ps:List (Nat×Nat),ts=ps.map tI/\∀p∈ps,p.1<p.2/\p.2<n.toNat:=by
 induction ts with
 |nil=>exact⟨[],rfl,λ_ z=>(nomatch z)⟩
 |cons t ts ih =>
  obtain⟨ps,e,q⟩:=ih λu hu=>h u (by simp[hu])
  obtain⟨a,b,rfl,h1,h2,h3⟩:=h t (by simp)
  refine⟨(a.toNat,b.toNat)::ps,?_,λp hp=>?_⟩
  ·rw[Ta,<- e]
   congr 1
   show [a,b]=[((a.toNat:Nat):Int),((b.toNat:Nat):Int)];rw[WC h1,WC (by lia)]
  ·rcases Sr.mp hp with rfl|hp
   ·exact⟨by show a.toNat<b.toNat;lia,by show b.toNat<n.toNat;lia⟩
   ·exact q p hp
theorem AH {n:Int}{ts:List (List Int)}(n0:0<=n)(n1:n<=80)(l:ts.length<=400)(h:bg n ts)(nd:ts.Nodup):∃(m:Nat) (ps:List (Nat×Nat)),oU m ps/\n=m/\ts=ps.map tI/\D.tup [.int n,.lst (ts.map kD)]=jG m ps:=by
 obtain⟨ps,e,q⟩:=xg n0 h;refine⟨n.toNat,ps,⟨q,?_,by lia,by rw[e,Sg]at l;exact l⟩,by lia,e,?_⟩
 ·rw[e]at nd;exact(UM.mp nd).imp λz e=>z (congrArg tI e)
 ·unfold jG xf;rw[e,Tz,WC n0];rfl
def cZ (l:List Nat):List D:=l.map λ(k:Nat)=>D.int (k:Int)
def lV (ps:List (Nat×Nat))(i:Nat):List Nat:=(ps.filter λp=>decide (p.1=i)).map (·.2)
theorem eN {ps:List (Nat×Nat)}{i k:Nat}:k∈lV ps i↔(i,k)∈ps:=by
 unfold lV;rw[Tj];constructor
 ·rintro⟨p,hp,rfl⟩;obtain⟨h1,h2⟩:=Ua.mp hp;rw[<- of_decide_eq_true h2];exact h1
 ·intro h;exact⟨(i,k),Ua.mpr ⟨h,by simp⟩,rfl⟩
def wI (n:Nat)(ps:List (Nat×Nat)):D:=.lst ((SV n).map λi=>.lst (cZ (lV ps i)))
def wD (ps:List (Nat×Nat))(w:Nat×Nat->Int):D:=dA (ps.map λp=>(tI p,.int (w p)))
theorem DC {ps:List (Nat×Nat)}{w:Nat×Nat->Int}{p:Nat×Nat}(h:p∈ps):jq (ps.map λp=>(tI p,.int (w p))) (tI p)=some (.int (w p)):=by
 unfold jq
 induction ps with
 |nil=>cases h
 |cons q ps ih =>
  rw[Ta,Ub]
  by_cases e:q=p
  ·rw[e,decide_eq_true rfl];rfl
  ·rw[decide_eq_false λz=>e (xn z)];exact ih ((Sr.mp h).resolve_left λz=>e z.symm)
theorem Bn {ps:List (Nat×Nat)}{w:Nat×Nat->Int}{p:Nat×Nat}(h:p∉ps):jq (ps.map λp=>(tI p,.int (w p))) (tI p)=none:=by
 unfold jq;rw[Option.map_eq_none_iff,List.find?_eq_none];intro x hx;obtain⟨q,hq,rfl⟩:=Tj.mp hx;simp only[decide_eq_true_eq];intro e;exact h (xn e▸hq)
theorem Fo {ps:List (Nat×Nat)}{w:Nat×Nat->Int}{i k:Nat}(h:(i,k)∈ps):uS (wD ps w) (.tup [.int (i:Int),.int (k:Int)])=some (.int (w (i,k))):=by
 have:=Cc (kvs:=ps.map λp=>(tI p,D.int (w p))) (t:=tI (i,k));rw[DC h]at this;exact this
theorem bx {α:Type}{n i:Nat}{f:Nat->α}(h:i<n):((SV n).map f)[i]?=some (f i):=by
 rw[Su,Up h];rfl
theorem m7 {ds:List D}{x:Int}{i:Nat}{d:D}(hx:x=(i:Int))(h:ds[i]?=some d):tH (.lst ds) (.int x)=some d:=by rw[hx];exact Cb h
theorem HH {n:Nat}{ps:List (Nat×Nat)}{x:Int}{i:Nat}(hx:x=(i:Int))(h:i<n):tH (wI n ps) (.int x)=some (.lst (cZ (lV ps i))):=m7 hx (bx h)
def jZ (L:Nat)(T:Nat->Int):List D:=(SV L).map λl=>.int (T l)
def iC (n:Nat)(L:Nat->Nat)(T:Nat->Nat->Int):D:=.lst ((SV (n+1)).map λi=>.lst (jZ (L i) λl=>T l i))
theorem lh {L:Nat}{T:Nat->Int}{x:Int}{l:Nat}(hx:x=(l:Int))(h:l<L):tH (.lst (jZ L T)) (.int x)=some (.int (T l)):=m7 hx (bx h)
theorem lg {n:Nat}{L:Nat->Nat}{T:Nat->Nat->Int}{x:Int}{i:Nat}(hx:x=(i:Int))(h:i<=n):tH (iC n L T) (.int x)=some (.lst (jZ (L i) λl=>T l i)):=m7 hx (bx (by lia))
def gg (ps:List (Nat×Nat))(w:Nat×Nat->Int)(T:Nat->Nat->Int)(i j:Nat):Int:=(qe ((((lV ps i).filter λk=>decide (k<j)).map λk=>w (i,k)+T (k-i-1) (i+1)+T (j-k-1) (k+1))++[T (j-i-1) (i+1)])).getD 0
theorem vK {l:List Int}{x:Int}:qe (l++[x])=some ((qe (l++[x])).getD 0):=by
 cases l with
 |nil=>rfl
 |cons a l=>rfl
theorem k0 {ps:List (Nat×Nat)}{w:Nat×Nat->Int}{T T':Nat->Nat->Int}{i j:Nat}(hp:∀p∈ps,p.1<p.2)(hj:i<j)(h:∀l,l<j-i->∀a,T l a=T' l a):gg ps w T i j=gg ps w T' i j:=by
 unfold gg;have e:((lV ps i).filter λk=>decide (k<j)).map (λk=>w (i,k)+T (k-i-1) (i+1)+T (j-k-1) (k+1))=((lV ps i).filter λk=>decide (k<j)).map λk=>w (i,k)+T' (k-i-1) (i+1)+T' (j-k-1) (k+1):=by
  refine Tw λk hk=>?_;obtain⟨h1,h2⟩:=Ua.mp hk;have h3:=hp _ (eN.mp h1);have h4:=of_decide_eq_true h2;dsimp only at h3;rw[h _ (by lia),h _ (by lia)]
 rw[e,h (j-i-1) (by lia)]
def DL (ps:List (Nat×Nat))(w:Nat×Nat->Int):Nat->Nat->Nat->Int
 |0,_,_=>0
 |_+1,0,_=>0
 |n+1,l+1,i=>gg ps w (DL ps w n) i (i+l+1)
theorem o7 {ps:List (Nat×Nat)}{w:Nat×Nat->Int}(hp:∀p∈ps,p.1<p.2):∀{n m l i:Nat},l<=n->l<=m->DL ps w n l i=DL ps w m l i
 |0,0,_,_,_,_=>rfl
 |0,m+1,0,_,_,_=>rfl
 |0,m+1,l+1,_,h,_=>by lia
 |n+1,0,0,_,_,_=>rfl
 |n+1,0,l+1,_,_,h=>by lia
 |n+1,m+1,0,_,_,_=>rfl
 |n+1,m+1,l+1,i,h1,h2=>by
  unfold DL;exact k0 hp (by lia) λl' hl a=>o7 hp (by lia) (by lia)
def tW (ps:List (Nat×Nat))(w:Nat×Nat->Int)(l i:Nat):Int:=DL ps w l l i
theorem eD {ps:List (Nat×Nat)}{w:Nat×Nat->Int}(hp:∀p∈ps,p.1<p.2){l i:Nat}:tW ps w (l+1) i=gg ps w (tW ps w) i (i+l+1):=by
 show DL ps w (l+1) (l+1) i=_;unfold DL;exact k0 hp (by lia) λl' hl a=>o7 hp (by lia) (by lia)
def dg (n a:Nat):List (Nat×Nat):=(SV (a+1)).map λb=>(n-1-a,n-a+b)
def gV (n:Nat):List (Nat×Nat):=(SV n).flatMap (dg n)
def wJ (p:Nat×Nat):D:=.tup [.int (p.1:Int),.int (p.2:Int)]
def dE (n a b:Nat):List (Nat×Nat):=(dg n a).drop b++((SV n).drop (a+1)).flatMap (dg n)
theorem gy {n a b:Nat}(h:b<=a):dE n a b=(n-1-a,n-a+b)::dE n a (b+1):=by
 unfold dE dg;rw[TJ (by rw[Sg,Tc];lia)]
 simp
theorem ny {n a:Nat}(h:a<n):((SV n).drop a).flatMap (dg n)=dE n a 0:=by
 unfold dE;rw[TJ (by rw[Tc];exact h)]
 simp
theorem mR {n a:Nat}(h:a+1<n):dE n a (a+1)=dE n (a+1) 0:=by
 rw[<- ny h];unfold dE dg;simp
theorem rY {n a:Nat}(h:n<=a+1):dE n a (a+1)=[]:=by
 unfold dE dg;rw[List.drop_eq_nil_of_le (by simp),List.drop_eq_nil_of_le (by simpa using h)]
 rfl
theorem vc {n:Nat}(h:0<n):gV n=dE n 0 0:=by rw[<- ny h];rfl
theorem fH {α:Type}{γ:c6}{τ:aZ}{φ:aV}{l:List α}{f:α->D}{k:Kd}{qV:a7}{K:List D->Prop}(t:α->Bool)(g:α->D)(h0:d8 qV qV)(hl:l.length<=SG)
  (h:∀x∈l,∀(x0:Option B) (o:List D) (J:a7->List D->Prop),o.length<SG->(t x=true->∀x0,J (x0::qV) (o++[g x]))->(t x=false->∀x0,J (x0::qV) o)->γ (f x) (sk k (f x)) (x0::qV) λβ1=>τ β1 λt β2=>if t=true then φ β2 λx kx β3=>Aa kx x/\o.length<SG/\J β3 (o++[x]) else J β2 o)
  (q:K ((l.filter t).map g)):kZ γ τ φ (l.map f) k (none::qV) K:=by
 refine⟨λi β o=>i<=l.length/\(∃x0,β=x0::qV)/\o=((l.take i).filter t).map g,⟨SH _,⟨_,rfl⟩,rfl⟩,?_,?_⟩
 ·rintro i d β o hd ⟨hi,⟨x0,rfl⟩,rfl⟩;rw[Su]at hd;obtain⟨x,hx,rfl⟩:=SJ.mp hd;have fz:i<l.length:=(Sz.mp hx).1;have hle:(((l.take i).filter t).map g).length<SG:=by
   rw[Sg];have:=Uy t (l.take i);rw[SU]at this;lia
  have e:l.take (i+1)=l.take i++[x]:=by rw[TR,hx];rfl
  refine h x (TU hx) x0 _ (λβ o=>i+1<=l.length/\(∃x0,β=x0::qV)/\o=((l.take (i+1)).filter t).map g) hle (λht x0=>?_) λht x0=>?_
  ·exact⟨fz,⟨_,rfl⟩,by rw[e,U5,S9,Vm,if_pos ht];rfl⟩
  ·exact⟨fz,⟨_,rfl⟩,by rw[e,U5,S9,Vm,if_neg (by rw[ht];simp)];simp⟩
 ·rintro β o ⟨_,⟨x0,rfl⟩,rfl⟩;rw[Sg,Ui];exact⟨h0,q⟩
theorem yE {α:Type}{γ:c6}{τ:aZ}{φ:aV}{l:List α}{f:α->D}{k:Kd}{qV:a7}{K:List D->Prop}(t:α->Bool)(g:α->D)(h0:d8 qV qV)(hl:l.length<=SG)
  (h:∀x∈l,∀(x0 x1:Option B) (o:List D) (J:a7->List D->Prop),o.length<SG->(t x=true->∀x0 x1,J (x0::x1::qV) (o++[g x]))->(t x=false->∀x0 x1,J (x0::x1::qV) o)->γ (f x) (sk k (f x)) (x0::x1::qV) λβ1=>τ β1 λt β2=>if t=true then φ β2 λx kx β3=>Aa kx x/\o.length<SG/\J β3 (o++[x]) else J β2 o)
  (q:K ((l.filter t).map g)):kZ γ τ φ (l.map f) k (none::none::qV) K:=by
 refine⟨λi β o=>i<=l.length/\(∃x0 x1,β=x0::x1::qV)/\o=((l.take i).filter t).map g,⟨SH _,⟨_,_,rfl⟩,rfl⟩,?_,?_⟩
 ·rintro i d β o hd ⟨hi,⟨x0,x1,rfl⟩,rfl⟩;rw[Su]at hd;obtain⟨x,hx,rfl⟩:=SJ.mp hd;have fz:i<l.length:=(Sz.mp hx).1;have hle:(((l.take i).filter t).map g).length<SG:=by
   rw[Sg];have:=Uy t (l.take i);rw[SU]at this;lia
  have e:l.take (i+1)=l.take i++[x]:=by rw[TR,hx];rfl
  refine h x (TU hx) x0 x1 _ (λβ o=>i+1<=l.length/\(∃x0 x1,β=x0::x1::qV)/\o=((l.take (i+1)).filter t).map g) hle (λht x0 x1=>?_) λht x0 x1=>?_
  ·exact⟨fz,⟨_,_,rfl⟩,by rw[e,U5,S9,Vm,if_pos ht];rfl⟩
  ·exact⟨fz,⟨_,_,rfl⟩,by rw[e,U5,S9,Vm,if_neg (by rw[ht];simp)];simp⟩
 ·rintro β o ⟨_,⟨x0,x1,rfl⟩,rfl⟩;rw[Sg,Ui];exact⟨h0,q⟩
theorem cN {α:Type}{l:List α}:l.filter (λ_=>true)=l:=List.filter_eq_self.mpr λ_ _=>rfl
theorem lO {a b:List D}(h:a.length+b.length<=1000000):zK (.lst a) (.lst b)=some (.lst (a++b)):=by
 show (if a.length+b.length<=SG then _ else _)=_
 rw[if_pos (Ts h (by decide))]
theorem iV {α:Type}{f:α->Int}:∀{l:List α},D.cw (l.map λx=>D.int (f x))=true
 |[]=>rfl
 |_::l=>iV (l:=l)
theorem nk:∀{a b:List D},D.cw a=true->D.cw b=true->D.cw (a++b)=true
 |[],_,_,h=>h
 |d::a,b,h,h'=>by
  have f':(d.flat&&D.cw a)=true:=h;rw[Tu]at f';show (d.flat&&D.cw (a++b))=true;rw[f'.1,nk f'.2 h'];rfl
theorem yB {α:Type}{f:α->Int}{l:List α}{x:Int}:jM qe [.lst ((l.map λk=>D.int (f k))++[D.int x])]=some (.int ((qe (l.map f++[x])).getD 0)):=by
 have e:(l.map λk=>D.int (f k))++[D.int x]=(l.map f++[x]).map D.int:=by simp
 rw[e];exact tF vK
theorem Br {α:Type}{l:List α}{m:Nat}{x:α}(h:l.Nodup)(hx:l[m]?=some x):x∉l.take m:=λz=>by
 obtain⟨i,hi⟩:=List.mem_iff_getElem?.mp z;rw[List.getElem?_take]at hi
 split at hi
 ·next fz =>
  have:=(List.getElem?_inj (Sz.mp hi).1 h).mp (hi.trans hx.symm);lia
 ·cases hi
def tp:FD:=λds R=>∃n:Nat,ds=[.int n]/\n<=80/\R (.lst ((gV n).map wJ))
theorem tp.mono:du tp:=λds R R' k h=>by obtain⟨n,e,h1,q⟩:=h;exact⟨n,e,h1,k _ q⟩
def ia:FD:=λds R=>∃n ps,ds=[jG n ps]/\oU n ps/\R (wI n ps)
theorem ia.mono:du ia:=λds R R' k h=>by obtain⟨n,ps,e,h1,q⟩:=h;exact⟨n,ps,e,h1,k _ q⟩
def lD:FD:=λds R=>∃(n:Nat) (ps:List (Nat×Nat)) (w:Nat×Nat->Int) (L:Nat->Nat) (T:Nat->Nat->Int) (i k j:Nat),ds=[wD ps w,iC n L T,.int i,.int k,.int j]/\(i,k)∈ps/\i<k/\k<j/\j<=n/\k-i-1<L (i+1)/\j-k-1<L (k+1) /\
 R (.int (w (i,k)+T (k-i-1) (i+1)+T (j-k-1) (k+1)))
theorem lD.mono:du lD:=λds R R' k h=>by obtain⟨n,ps,w,L,T,i,k',j,e,h1,h2,h3,h4,h5,h6,q⟩:=h;exact⟨n,ps,w,L,T,i,k',j,e,h1,h2,h3,h4,h5,h6,k _ q⟩
def gG:FD:=λds R=>∃(n:Nat) (ps:List (Nat×Nat)) (w:Nat×Nat->Int) (L:Nat->Nat) (T:Nat->Nat->Int) (i j:Nat),ds=[wI n ps,wD ps w,iC n L T,.int i,.int j]/\oU n ps/\i<j/\j<=n/\(∀a,i<a->a<=n->n+1-a<=L a)/\R (.int (gg ps w T i j))
theorem gG.mono:du gG:=λds R R' k h=>by obtain⟨n,ps,w,L,T,i,j,e,h1,h2,h3,h4,q⟩:=h;exact⟨n,ps,w,L,T,i,j,e,h1,h2,h3,h4,k _ q⟩
abbrev dk (n:Nat)(T:Nat->Nat->Int):D:=iC n (λi=>n+1-i) T
def lF:FD:=λds R=>∃(n:Nat) (ps:List (Nat×Nat)) (w:Nat×Nat->Int),ds=[jG n ps,wD ps w]/\oU n ps/\R (dk n (tW ps w))
theorem lF.mono:du lF:=λds R R' k h=>by obtain⟨n,ps,w,e,h1,q⟩:=h;exact⟨n,ps,w,e,h1,k _ q⟩
def w1:Nat×Nat->Int:=λ_=>1
def oG:FD:=λds R=>∃(n:Nat) (ps:List (Nat×Nat)),ds=[jG n ps]/\oU n ps/\R (wD ps w1)
theorem oG.mono:du oG:=λds R R' k h=>by obtain⟨n,ps,e,h1,q⟩:=h;exact⟨n,ps,e,h1,k _ q⟩
def eV:FD:=λds R=>∃(n:Nat) (ps:List (Nat×Nat)),ds=[jG n ps]/\oU n ps/\R (dk n (tW ps w1))
theorem eV.mono:du eV:=λds R R' k h=>by obtain⟨n,ps,e,h1,q⟩:=h;exact⟨n,ps,e,h1,k _ q⟩
theorem dB {n:Nat}(h:n<=1000):n<=SG:=Ts h (by decide)
theorem mL {n:Nat}(h:n<=1000):n<SG:=Nat.lt_of_le_of_lt h (by decide)
theorem HI {n i:Nat}{x:Int}(hx:x=(i:Int))(h:i<n):rA n x=some i:=by
 subst hx;unfold rA;rw[if_pos (by lia),if_pos (by lia)]
 simp
theorem ug {α:Type}{n i:Nat}{f:Nat->α}{y:α}(h:i<n):((SV n).map f).set i y=(SV n).map λk=>if k=i then y else f k:=by
 refine Ue λk=>?_;rw[Vf]
 by_cases hk:k<n
 ·rw[bx hk,bx hk,Sg,Tc]
  by_cases e:i=k
  ·rw[if_pos e,if_pos (e▸hk),if_pos e.symm]
  ·rw[if_neg e,if_neg (T5 e)]
 ·rw[S7 (l:=(SV n).map f) (by simpa using hk),S7 (l:=(SV n).map λk=>if k=i then y else f k) (by simpa using hk),if_neg (by lia)]
theorem DW {n i k:Nat}{ps:List (Nat×Nat)}(h:i<n):((SV n).map λj=>D.lst (cZ (lV ps j))).set i (.lst (cZ (lV ps i)++[D.int k]))=(SV n).map λj=>D.lst (cZ (lV (ps++[(i,k)]) j)):=by
 rw[ug h];refine Tw λj _=>?_;unfold lV cZ;rw[U5,S9,S9]
 by_cases e:j=i
 ·rw[if_pos e,e];simp
 ·rw[if_neg e,Vm,if_neg (by simpa using T5 e)];simp
theorem g9 {ps:List (Nat×Nat)}{i:Nat}:(lV ps i).length<=ps.length:=by
 unfold lV;rw[Sg];exact Uy _ _
def eP (n a b:Nat)(i:Nat):Nat:=if n-1-a<i then n+1-i else if i=n-1-a then b+1 else 1
theorem AD {n a b:Nat}{T:Nat->Nat->Int}(ha:a<n)(hb:b<=a):
  ((SV (n+1)).map λi=>D.lst (jZ (eP n a b i) λl=>T l i)).set (n-1-a) (.lst (jZ (b+1) (λl=>T l (n-1-a))++[D.int (T (b+1) (n-1-a))]))=(SV (n+1)).map λi=>D.lst (jZ (eP n a (b+1) i) λl=>T l i):=by
 rw[ug (by lia)]
 refine Tw λi _=>?_;unfold eP
 by_cases e:i=n-1-a
 ·rw[if_pos e,e,if_neg (by lia),if_pos rfl]
  unfold jZ;rw[We (n:=b+1),S9];rfl
 ·rw[if_neg e,if_neg e,if_neg e]
theorem vP {n a:Nat}(h:a+1<n)(i:Nat)(hi:i<=n):eP n a (a+1) i=eP n (a+1) 0 i:=by
 unfold eP
 by_cases h1:n-1-a<i
 ·rw[if_pos h1,if_pos (by omega)]
 ·rw[if_neg h1]
  by_cases h2:i=n-1-a
  ·rw[if_pos h2,if_pos (by omega)];omega
  ·rw[if_neg h2,if_neg (by omega)]
   split <;> rfl
theorem yG {n a:Nat}(h:n=a+1)(i:Nat)(hi:i<=n):eP n a (a+1) i=n+1-i:=by
 unfold eP
 split
 ·rfl
 ·split <;> lia
theorem sL {n:Nat}(h:0<n)(i:Nat)(hi:i<=n):eP n 0 0 i=1:=by
 unfold eP
 split
 ·lia
 ·split <;> rfl
theorem mK {n:Nat}{L L':Nat->Nat}{T:Nat->Nat->Int}(h:∀i,i<=n->L i=L' i):iC n L T=iC n L' T:=by
 unfold iC
 congr 1
 refine Tw λi hi=>?_;rw[h i (by have:=Tq.mp hi;lia)]
def u6 (n idx:Nat)(L:Nat->Nat):Prop:=(n=0/\L 0=1)\/∃a b,a<n/\b<=a+1/\(∀i,i<=n->L i=eP n a b i)/\(gV n).drop idx=dE n a b
theorem qO {n:Nat}:u6 n 0 λ_=>1:=by
 rcases WK n with h|h
 ·exact .inl ⟨h,rfl⟩
 ·exact .inr ⟨0,0,h,SH _,λi hi=>(sL h i hi).symm,vc h⟩
theorem v8 {n:Nat}{L:Nat->Nat}(h:u6 n (gV n).length L):∀i,i<=n->L i=n+1-i:=by
 rcases h with⟨rfl,h⟩|⟨a,b,h1,h2,h3,h4⟩
 ·intro i hi;rw[show i=0 by lia,h]
 ·intro i hi;rw[List.drop_length]at h4;have hb:b=a+1:=by
   rcases TZ a b with q|q
   ·lia
   ·rw[gy q]at h4;cases h4
  have ha:n=a+1:=by
   rcases TZ (a+1) n with q|q
   ·rw[hb,mR q,gy (SH _)]at h4;cases h4
   ·lia
  rw[h3 i hi,hb];exact yG ha i hi
theorem tx {n idx:Nat}{L:Nat->Nat}{p:Nat×Nat}(h:u6 n idx L)(hp:(gV n)[idx]?=some p):∃a b,a<n/\b<=a/\p=(n-1-a,n-a+b)/\(∀i,i<=n->L i=eP n a b i)/\(gV n).drop (idx+1)=dE n a (b+1):=by
 have hd:(gV n).drop idx=p::(gV n).drop (idx+1):=by
  obtain⟨h1,h2⟩:=Sz.mp hp;rw[TJ h1,h2]
 rcases h with⟨rfl,h⟩|⟨a,b,h1,h2,h3,h4⟩
 ·cases hp
 ·have key:∃a b,a<n/\b<=a/\(∀i,i<=n->L i=eP n a b i)/\(gV n).drop idx=dE n a b:=by
   rcases TZ a b with q|q
   ·have e:b=a+1:=by lia
    rcases TZ (a+1) n with q2|q2
    ·exact⟨a+1,0,q2,SH _,λi hi=>by rw[h3 i hi,e,vP q2 i hi],by rw[h4,e,mR q2]⟩
    ·rw[h4,e,rY q2]at hd;cases hd
   ·exact⟨a,b,h1,q,h3,h4⟩
  obtain⟨a,b,h1,h2,h3,h4⟩:=key;rw[h4,gy h2]at hd;injection hd with e1 e2
  exact⟨a,b,h1,h2,e1.symm,h3,e2.symm⟩
theorem pF {n a:Nat}:(dg n a).length=a+1:=by unfold dg;simp
theorem vn {n a b:Nat}(h:b<a+1):(dg n a).take (b+1)=(dg n a).take b++[(n-1-a,n-a+b)]:=by
 rw[TR];unfold dg;rw[bx h];rfl
theorem xJ {n a:Nat}:(dg n a).take (a+1)=dg n a:=Ud (by rw[pF];exact Sj _)
theorem qu {n:Nat}:∀a:Nat,a<=n->(((SV n).take a).flatMap (dg n)).length<=a*a
 |0,_=>by simp
 |a+1,h=>by
  have:=qu (n:=n) a (by lia)
  rw[TR,Up (show a<n by lia),Vz,S_]
  have e:((some a).toList.flatMap (dg n)).length=a+1:=by simp[pF]
  rw[e,Nat.mul_add,Nat.add_mul];lia
theorem xo {n a b:Nat}(hn:n<=80)(ha:a<n)(hb:b<a+1):(((SV n).take a).flatMap (dg n)).length+((dg n a).take b).length<SG:=by
 have h1:=qu (n:=n) a (by lia)
 have h2:((dg n a).take b).length<=b:=by rw[SU];exact Nat.min_le_left _ _
 have h3:a*a<=80*80:=Nat.mul_le_mul (by lia) (by lia)
 have h4:80*80+80<SG:=by decide
 lia
end L2.Q
namespace jO
open PySem L2 L2.Q
section
variable {P:So}{w:SI}{K:PySem.W.Frag}{mg:Str->Option Sh}{base:Heap}
theorem gc:aK ["many"] ["many"] (aw bw):=⟨rfl,rfl,rfl,by decide +kernel,rfl,by decide +kernel,by decide +kernel⟩
theorem uz {d_ cc} (gL:D4 K mg d_ cc) (B:Bs3 mg):aF P w K mg base bB 1 d_ cc ["many"] (dw P w true tp):=by
 refine sG gL.F gc (λds R IG=> by obtain⟨n,e,_⟩ := IG;subst e;rfl) λcD A outer s H E hr=>⟨_,(aj (aX (Og ["i","j","many"] [none,none,some 0] (by rfl) (by decide:(["i","j","many"]:List Str).Nodup) rfl (sd B.range (aa (aH af (bD.m bh) (ab (i:=0)) ag) (aa (uo jB ag) (aa (uo jB ag) ae)))) (λ_ _ _ _ _ _=>(ao (i:=0) (by decide:(["i","j","many"]:List Str).Nodup))) (λ_ _ _ _ _ _=>dc) (λ_ _ _ _ _ _=>(r_ B.range (aa (aH aM aA (ab (i:=0)) ag) (aa (aH aM aA (ab (i:=2)) ag) ae)))) (λ_ _ _ _ _ _=>(ao (i:=1) (by decide:(["i","j","many"]:List Str).Nodup))) (λ_ _ _ _ _ _=>dc) (λ_ _ _ _ _ _=>(bW (aa (ab (i:=0)) (aa (ab (i:=1)) ae))))))),λds R h=>?_⟩
 obtain⟨n,rfl,hn,q⟩:=h;refine⟨_,rfl,trivial,_,rfl,trivial,_,rfl,rfl,trivial,_,rfl,rfl,trivial,(n:Int)-1,-1,rfl,⟨by lia,by lia,by lia,by lia⟩,trivial,?_⟩
 have en:((n:Int)-1 - -1).toNat=n:=by lia
 rw[en];refine⟨λa β o=>a<=n/\(∃x0 x1,β=[x0,x1,some (.val false (.int n))])/\o=(((SV n).take a).flatMap (dg n)).map wJ,⟨SH _,⟨_,_,rfl⟩,rfl⟩,?_,?_⟩
 ·rintro a d β o hd ⟨ha,⟨x0,x1,rfl⟩,rfl⟩;obtain⟨F8,rfl⟩:=pH hd;have e1:(n:Int)-1-a=((n-1-a:Nat):Int):=by lia
  rw[e1];refine⟨_,rfl,trivial,_,rfl,trivial,_,rfl,trivial,_,rfl,trivial,((n-1-a:Nat):Int)+1,(n:Int)+1,rfl,⟨by lia,by lia,by lia,by lia⟩,?_⟩
  have e2:((n:Int)+1-(((n-1-a:Nat):Int)+1)).toNat=a+1:=by lia
  rw[e2];refine⟨λb β o=>b<=a+1/\(∃x1,β=[some (.val true (.int ((n-1-a:Nat):Int))),x1,some (.val false (.int n))])/\o=(((SV n).take a).flatMap (dg n)++(dg n a).take b).map wJ,⟨SH _,⟨_,rfl⟩,by simp⟩,?_,?_⟩
  ·rintro b d β o hd ⟨hb,⟨x1,rfl⟩,rfl⟩;obtain⟨ji,rfl⟩:=bK hd;refine⟨_,rfl,trivial,_,rfl,trivial,o9,trivial,?_,ji,⟨_,rfl⟩,?_⟩
   ·rw[Sg,S_];exact xo hn F8 ji
   ·rw[show ((n-1-a:Nat):Int)+1+(b:Int)=((n-a+b:Nat):Int) by lia,vn ji,<- TM,S9,S9,S9]
    rfl
  ·rintro β o ⟨_,⟨x1,rfl⟩,rfl⟩;refine⟨F8,⟨_,_,rfl⟩,?_⟩;rw[cq,xJ,TR,Up F8,Vz];simp
 ·rintro β o ⟨_,⟨x0,x1,rfl⟩,rfl⟩;rw[pG,Ud (by simp)]
  exact⟨trivial,trivial,q⟩
theorem bo:aK ["row","many","ties","partners","a","b"] ["row"] (aw cF):=⟨rfl,rfl,rfl,by decide +kernel,rfl,by decide +kernel,by decide +kernel⟩
theorem ot {dz bT} (fA:D5 K mg dz bT) (B:Bs3 mg):aF P w K mg base bB 1 dz bT ["row"] (dw P w true ia):=by
 refine sG fA.F bo (λds R IF=> by obtain⟨n,ps,e,_⟩ := IF;subst e;rfl) λcD A outer s H E hr=>⟨_,(ai (sv (ab (i:=0)) (dG (n:=2) rfl (aW (ao (i:=1) bo.nd) (aW (ao (i:=2) bo.nd) cM))))
    (ai (vm (i:=3) true ["point"] [none] (by rfl) (by decide:(["point"]:List Str).Nodup) rfl (λ_=>(bz B.range (aa (ab (i:=1)) ae))) (λ_ _ _ _ _ _=>(ao (i:=0) (by decide:(["point"]:List Str).Nodup))) (λ_ _ _ _ _ _=>dc) (λ_ _ _ _ _ _=>(bF ae)) bo.nd)
    (ai (di TX rfl (bp (ab (i:=2))) (dG (n:=2) rfl (aW (ao (i:=4) bo.nd) (aW (ao (i:=5) bo.nd) cM))) (aj (je (i:=3) true (λ_=>(ab (i:=5))) (λ_=>(ab (i:=4))))))
    (aj (jJ (i:=3)))))),λds R h=>?_⟩
 obtain⟨n,ps,rfl,ok,q⟩:=h;have hn:=ok.le;refine⟨_,rfl,_,rfl,rfl,_,_,rfl,_,_,rfl,rfl,_,rfl,trivial,n,rfl,by lia,by lia,trivial,?_⟩
 rw[WZ];refine fH (λ_=>true) (λ_=>.lst []) trivial (by rw[Tc];exact dB (by lia)) (λx hx x0 o J ho h1 _=>⟨SH _,trivial,ho,h1 rfl _⟩) ?_
 rw[cN];refine⟨_,rfl,_,rfl,trivial,?_⟩;refine⟨λm β=>∃x4 x5,β=[some (.val false (jG n ps)),some (.val true (.int n)),some (.val false (xf ps)),some (.own (wI n (ps.take m))),x4,x5],⟨_,_,rfl⟩,?_,?_⟩
 ·rintro m d β hd ⟨x4,x5,rfl⟩;rw[Su]at hd;obtain⟨p,hp,rfl⟩:=SJ.mp hd;obtain⟨h1,h2⟩:=ok.lt p (TU hp);refine⟨_,rfl,rfl,_,_,rfl,_,_,rfl,rfl,⟨_,rfl⟩,_,rfl,_,_,_,_,rfl,rfl,by rw[Sg,Tc];exact HI rfl (show p.1<n by lia),bx (show p.1<n by lia),_,rfl,trivial,rfl,?_,?_⟩
  ·unfold Q.cZ;rw[Sg];have:=g9 (ps:=ps.take m) (i:=p.1);rw[SU]at this;have:=ok.sm;exact mL (by lia)
  ·refine⟨some (.val true (.int p.1)),some (.val true (.int p.2)),?_⟩;have e:ps.take (m+1)=ps.take m++[(p.1,p.2)]:=by rw[TR,hp];rfl
   rw[DW (show p.1<n by lia),e]
   rfl
 ·rintro β ⟨x4,x5,rfl⟩;rw[Sg,Ui];exact⟨_,rfl,q⟩
theorem j9:aK ["worth","table","i","k","j"] ["worth","table","i","k","j"] (aw cI):=⟨rfl,rfl,rfl,by decide +kernel,rfl,by decide +kernel,by decide +kernel⟩
theorem uA {cO bt} (fw:D6 K mg cO bt):aF P w K mg base bB 1 cO bt ["worth","table","i","k","j"] (dw P w true lD):=by
 refine sG fw.F j9 (λds R IE=> by obtain⟨n,ps,w,L,T,i,k,j,e,_⟩ := IE;subst e;rfl) λcD A outer s H E hr=>⟨_,(aj (aX (aH aM aA (aH aM aA (aO af (HG hr.w9) (ab (i:=0)) (bW (aa (ab (i:=2)) (aa (ab (i:=3)) ae)))) (aO af bf (aO af bf (ab (i:=1)) (aH aM aA (ab (i:=2)) ag)) (aH af (bD.m bh) (aH af (bD.m bh) (ab (i:=3)) (ab (i:=2))) ag))) (aO af bf (aO af bf (ab (i:=1)) (aH aM aA (ab (i:=3)) ag)) (aH af (bD.m bh) (aH af (bD.m bh) (ab (i:=4)) (ab (i:=3))) ag))))),λds R h=>?_⟩
 obtain⟨n,ps,w,L,T,i,k,j,rfl,hm,h1,h2,h3,h4,h5,q⟩:=h;exact⟨_,rfl,trivial,_,rfl,trivial,_,rfl,trivial,o9,_,Fo hm,trivial,_,rfl,trivial,_,rfl,trivial,_,rfl,_,lg (i:=i+1) (by lia) (by lia),.inr ⟨trivial,_,rfl,trivial,_,rfl,_,rfl,trivial,_,rfl,_,lh (l:=k-i-1) (by lia) h4,_,rfl,trivial,
  _,rfl,trivial,_,rfl,trivial,_,rfl,_,lg (i:=k+1) (by lia) (by lia),.inr ⟨trivial,_,rfl,trivial,_,rfl,_,rfl,trivial,_,rfl,_,lh (l:=j-k-1) (by lia) h5,_,rfl,trivial,q⟩⟩⟩
theorem fb:aK ["partners","worth","table","i","j","numbers"] ["partners","worth","table","i","j"] (aw cm):=⟨rfl,rfl,rfl,by decide +kernel,rfl,by decide +kernel,by decide +kernel⟩
theorem pT {ee cf} (gN:D7 K mg ee cf) {cO bt} (fw:D6 K mg cO bt) (B:Bs3 mg):aF P w K mg base bB 2 ee cf ["partners","worth","table","i","j"] (dw P w true gG):=by
 have NH:aF P w K mg base bB 1 _ _ _ (dw P w true lD):= uA fw;refine sG gN.F fb (λds R ID=> by obtain⟨n,ps,w,L,T,i,j,e,_⟩ := ID;subst e;rfl) λcD A outer s H E hr=>⟨_,(ai (vm (i:=5) false ["k","worth","table","i","j"] [none,some 1,some 2,some 3,some 4] (by rfl) (by decide:(["k","worth","table","i","j"]:List Str).Nodup) rfl (λ_=>(bp (aO af bf (ab (i:=0)) (ab (i:=3))))) (λ_ _ _ _ _ _=>(ao (i:=0) (by decide:(["k","worth","table","i","j"]:List Str).Nodup))) (λ_ _ _ _ _ _=>(gx (aD af (bD.m gA) (ab (i:=0)) (ab (i:=4))))) (λ_ _ _ _ _ _=>(aI lD.mono NH (hr.mono (by decide)) fw.m fw.F.kp fw.b (aa (ab (i:=1)) (aa (ab (i:=2)) (aa (ab (i:=3)) (aa (ab (i:=0)) (aa (ab (i:=4)) ae))))))) fb.nd)
    (aj (aX (cu af (cB.m (wt rfl)) B.max tP (aa (aH aM aA (ab (i:=5)) (bF (aa (aO af bf (aO af bf (ab (i:=2)) (aH aM aA (ab (i:=3)) ag)) (aH af (bD.m bh) (aH af (bD.m bh) (ab (i:=4)) (ab (i:=3))) ag)) ae))) ae))))),λds R h=>?_⟩
 obtain⟨n,ps,w,L,T,i,j,rfl,ok,h1,h2,h3,q⟩:=h;have BK:=ok.sm;have hle:=ok.le;have hl:((lV ps i).filter λk=>decide (k<j)).length<=400:=Ts (Uy _ _) (Ts g9 BK);refine⟨_,rfl,trivial,_,rfl,_,HH rfl (by lia),.inr ⟨_,rfl,trivial,?_⟩⟩
 refine fH (λk=>decide (k<j)) (λk=>.int (w (i,k)+T (k-i-1) (i+1)+T (j-k-1) (k+1))) trivial (dB (Ts g9 (by lia))) (λk hk x0 o J ho j1 j2=>?_) ?_
 ·have hm:=eN.mp hk;obtain⟨g1,g2⟩:=ok.lt _ hm;dsimp only at g1 g2;refine⟨_,rfl,trivial,_,rfl,_,rfl,_,rfl,rB (λwM=>?_) (λwM=>j2 (by simp;lia) _)⟩
  have zd:k<j:=by lia
  have a1:=h3 (i+1) (by lia) (by lia)
  have a2:=h3 (k+1) (by lia) (by lia)
  exact⟨_,rfl,trivial,_,rfl,trivial,_,rfl,trivial,_,rfl,trivial,_,rfl,trivial,n,ps,w,L,T,i,k,j,rfl,hm,g1,zd,h2,by lia,by lia,trivial,ho,j1 (by simpa using zd) _⟩
 ·have a1:=h3 (i+1) (by lia) (by lia)
  refine⟨_,rfl,trivial,_,rfl,trivial,_,rfl,trivial,_,rfl,_,lg (i:=i+1) (by lia) (by lia),.inr ⟨trivial,_,rfl,trivial,_,rfl,_,rfl,trivial,_,rfl,_,lh (l:=j-i-1) (by lia) (by lia),trivial,FX,_,lO (by rw[Sg];show _+1<=_;lia),.inl ⟨nk iV rfl,trivial,_,yB,trivial,q⟩⟩⟩
theorem a5:aK ["row","worth","many","partners","table","i","j"] ["row","worth"] (aw bN):=⟨rfl,rfl,rfl,by decide +kernel,rfl,by decide +kernel,by decide +kernel⟩
theorem yr {h_ dO} (mz:D8 K mg h_ dO) {dz bT} (fA:D5 K mg dz bT) {d_ cc} (gL:D4 K mg d_ cc) {ee cf} (gN:D7 K mg ee cf) {cO bt} (fw:D6 K mg cO bt) (B:Bs3 mg):aF P w K mg base bB 3 h_ dO ["row","worth"] (dw P w true lF):=by
 have JS:aF P w K mg base bB 1 _ _ _ (dw P w true ia):= ot fA B;have NG:aF P w K mg base bB 1 _ _ _ (dw P w true tp):= uz gL B;have NK:aF P w K mg base bB 2 _ _ _ (dw P w true gG):= pT gN fw B;refine sG mz.F a5 (λds R IC=> by obtain⟨n,ps,w,e,_⟩ := IC;subst e;rfl) λcD A outer s H E hr=>⟨_,(ai (a8 (i:=2) (aO af bf (ab (i:=0)) ag) a5.nd)
    (ai (a8 (i:=3) (aI ia.mono JS (hr.mono (by decide)) fA.m fA.F.kp fA.b (aa (ab (i:=0)) ae)) a5.nd)
    (ai (vm (i:=4) true ["i"] [none] (by rfl) (by decide:(["i"]:List Str).Nodup) rfl (λ_=>(bz B.range (aa (aH aM aA (ab (i:=2)) ag) ae))) (λ_ _ _ _ _ _=>(ao (i:=0) (by decide:(["i"]:List Str).Nodup))) (λ_ _ _ _ _ _=>dc) (λ_ _ _ _ _ _=>(bF (aa ag ae))) a5.nd)
    (ai (di TX rfl (bp (aI tp.mono NG (hr.mono (by decide)) gL.m gL.F.kp gL.b (aa (ab (i:=2)) ae))) (dG (n:=2) rfl (aW (ao (i:=5) a5.nd) (aW (ao (i:=6) a5.nd) cM))) (aj (je (i:=4) true (λ_=>(aI gG.mono NK (hr.mono (by decide)) gN.m gN.F.kp gN.b (aa (ab (i:=3)) (aa (ab (i:=1)) (aa (ab (i:=4)) (aa (ab (i:=5)) (aa (ab (i:=6)) ae))))))) (λ_=>(ab (i:=5))))))
    (aj (jJ (i:=4))))))),λds R h=>?_⟩
 obtain⟨n,ps,w,rfl,ok,q⟩:=h;have hn:=ok.le;have hp:∀p∈ps,p.1<p.2:=λp hp=>(ok.lt p hp).1;refine⟨_,rfl,trivial,_,rfl,_,rfl,trivial,n,ps,rfl,ok,_,rfl,trivial,_,rfl,trivial,(n:Int)+1,rfl,by lia,by lia,trivial,?_⟩
 rw[show ((n:Int)+1).toNat=n+1 by lia]
 refine fH (λ_=>true) (λ_=>.lst [.int 0]) trivial (by rw[Tc];exact dB (by lia)) (λx hx x0 o J ho h1 _=>⟨trivial,FX,trivial,ho,h1 rfl _⟩) ?_
 rw[cN];refine⟨_,rfl,trivial,n,rfl,hn,_,rfl,trivial,?_⟩;refine⟨λidx β=>∃L x5 x6,β=[some (.val false (jG n ps)),some (.val false (wD ps w)),some (.val true (.int n)),some (.val true (wI n ps)),some (.own (iC n L (tW ps w))),x5,x6]/\u6 n idx L,⟨λ_=>1,_,_,rfl,qO⟩,?_,?_⟩
 ·rintro idx d β hd ⟨L,x5,x6,rfl,dn⟩;rw[Su]at hd;obtain⟨p,wL,rfl⟩:=SJ.mp hd;obtain⟨a,b,ha,hb,rfl,hL,Ig⟩:=tx dn wL;have eL:iC n L (tW ps w)=iC n (eP n a b) (tW ps w):=mK hL;have e0:eP n a b (n-1-a)=b+1:=by unfold eP;rw[if_neg (by lia),if_pos rfl]
  rw[eL];refine⟨_,rfl,rfl,_,_,rfl,_,_,rfl,rfl,⟨_,rfl⟩,_,rfl,_,_,_,_,rfl,rfl,by rw[Sg,Tc];exact HI rfl (show n-1-a<n+1 by lia),bx (show n-1-a<n+1 by lia),
   _,rfl,trivial,_,rfl,trivial,_,rfl,trivial,_,rfl,trivial,_,rfl,trivial,n,ps,w,eP n a b,tW ps w,n-1-a,n-a+b,rfl,ok,by lia,by lia,λa' h1 h2=>by unfold eP;rw[if_pos h1];exact Sj _,trivial,rfl,?_,?_⟩
  ·rw[e0];unfold jZ;rw[Sg,Tc];exact mL (by lia)
  ·refine⟨eP n a (b+1),some (.val true (.int ((n-1-a:Nat):Int))),some (.val true (.int ((n-a+b:Nat):Int))),?_,.inr ⟨a,b+1,ha,by lia,λ_ _=>rfl,Ig⟩⟩
   have ev:gg ps w (tW ps w) (n-1-a) (n-a+b)=tW ps w (b+1) (n-1-a):=by rw[eD hp,show n-1-a+b+1=n-a+b by lia]
   rw[ev,e0,AD ha hb];rfl
 ·rintro β ⟨L,x5,x6,rfl,dn⟩;rw[Sg]at dn;have e:iC n L (tW ps w)=dk n (tW ps w):=mK (v8 dn);rw[e];exact⟨_,rfl,q⟩
theorem pC:aK ["row"] ["row"] (aw eI):=⟨rfl,rfl,rfl,by decide +kernel,rfl,by decide +kernel,by decide +kernel⟩
theorem sF {gh c0} (gM:D9 K mg gh c0):aF P w K mg base bB 1 gh c0 ["row"] (dw P w true oG):=by
 refine sG gM.F pC (λds R IB=> by obtain⟨n,ps,e,_⟩ := IB;subst e;rfl) λcD A outer s H E hr=>⟨_,(aj (aX (Q6 (Nat.lt_of_succ_lt hr.w9) ["tie"] [none] (by rfl) (by decide:(["tie"]:List Str).Nodup) rfl (bp (aO af bf (ab (i:=0)) ag)) (λ_ _ _ _ _ _=>(ao (i:=0) (by decide:(["tie"]:List Str).Nodup))) (λ_ _ _ _ _ _=>dc) (λ_ _ _ _ _ _=>(ab (i:=0))) (λ_ _ _ _ _ _=>ag)))),λds R h=>?_⟩
 obtain⟨n,ps,rfl,ok,q⟩:=h;have BK:=ok.sm;refine⟨_,rfl,trivial,_,rfl,.inr ⟨_,rfl,trivial,?_⟩⟩;refine⟨λm β o=>m<=ps.length/\(∃x0,β=[x0])/\o=(ps.take m).map λp=>(tI p,D.int (w1 p)),⟨SH _,⟨_,rfl⟩,rfl⟩,?_,?_⟩
 ·rintro m d β o hd ⟨hm,⟨x0,rfl⟩,rfl⟩;rw[Su]at hd;obtain⟨p,hp,rfl⟩:=SJ.mp hd;have fz:=(Sz.mp hp).1;refine⟨_,rfl,tI p,rfl,rfl,Bn (Br ok.nd hp),?_,fz,⟨_,rfl⟩,?_⟩
  ·rw[Sg,SU];exact mL (by lia)
  ·rw[TR,hp,S9];rfl
 ·rintro β o ⟨_,⟨x0,rfl⟩,rfl⟩;rw[Sg,Ui];exact⟨trivial,trivial,q⟩
theorem pB:aK ["row"] ["row"] (aw eF):=⟨rfl,rfl,rfl,by decide +kernel,rfl,by decide +kernel,by decide +kernel⟩
theorem kR {jw ff} (lL:Gp K mg jw ff) {h_ dO} (mz:D8 K mg h_ dO) {dz bT} (fA:D5 K mg dz bT) {d_ cc} (gL:D4 K mg d_ cc) {ee cf} (gN:D7 K mg ee cf) {cO bt} (fw:D6 K mg cO bt) {gh c0} (gM:D9 K mg gh c0) (B:Bs3 mg):aF P w K mg base bB 4 jw ff ["row"] (dw P w true eV):=by
 have Rn:aF P w K mg base bB 3 _ _ _ (dw P w true lF):= yr mz fA gL gN fw B;have JT:aF P w K mg base bB 1 _ _ _ (dw P w true oG):= sF gM;refine sG lL.F pB (λds R IA=> by obtain⟨n,ps,e,_⟩ := IA;subst e;rfl) λcD A outer s H E hr=>⟨_,(aj (aX (aI lF.mono Rn (hr.mono (by decide)) mz.m mz.F.kp mz.b (aa (ab (i:=0)) (aa (aI oG.mono JT (hr.mono (by decide)) gM.m gM.F.kp gM.b (aa (ab (i:=0)) ae)) ae))))),λds R h=>?_⟩
 obtain⟨n,ps,rfl,ok,q⟩:=h;exact⟨_,rfl,trivial,_,rfl,trivial,n,ps,rfl,ok,trivial,n,ps,w1,rfl,ok,trivial,q⟩
end
end jO
namespace L2.Q
theorem vJ {l:List Int}{x:Int}:(qe (l++[x])).getD 0∈l++[x]/\∀y∈l++[x],y<=(qe (l++[x])).getD 0:=by
 cases l with
 |nil=>exact cv [] x
 |cons a l=>exact cv (l++[x]) a
theorem c9 {ps:List (Nat×Nat)}{w:Nat×Nat->Int}{T:Nat->Nat->Int}{i j:Nat}:
  (gg ps w T i j=T (j-i-1) (i+1)\/∃k,(i,k)∈ps/\k<j/\gg ps w T i j=w (i,k)+T (k-i-1) (i+1)+T (j-k-1) (k+1)) /\
  T (j-i-1) (i+1)<=gg ps w T i j/\∀k,(i,k)∈ps->k<j->w (i,k)+T (k-i-1) (i+1)+T (j-k-1) (k+1)<=gg ps w T i j:=by
 obtain⟨h1,h2⟩:=vJ (l:=((lV ps i).filter λk=>decide (k<j)).map λk=>w (i,k)+T (k-i-1) (i+1)+T (j-k-1) (k+1)) (x:=T (j-i-1) (i+1));refine⟨?_,h2 _ (by simp),λk hk hj=>h2 _ (T3 _ (Tj.mpr ⟨k,Ua.mpr ⟨eN.mpr hk,decide_eq_true hj⟩,rfl⟩))⟩
 rcases SO.mp h1 with h|h
 ·obtain⟨k,hk,e⟩:=Tj.mp h;obtain⟨q1,q2⟩:=Ua.mp hk;exact .inr ⟨k,eN.mp q1,of_decide_eq_true q2,e.symm⟩
 ·exact .inl (SF.mp h)
open PySem PySem.Spec PySem.SeqAt PyProof.Rows
section
end
section
end
section
variable {X:Cx}{C:Cfg}{γ:c6}{τ:aZ}{φ:aV}{T:List Nat}{scope:U8}{tg cz elt:Expr}{ifs:List Expr}{ι:cg}{pos:Pos}
theorem P_ (N':List Str)(lk:List (Option Nat))(L:gB X.env.scope.names X.N scope N' lk=true)(td:N'.Nodup)(hc:X.calm=true)(hi:uZ X C true tg cz ι)
  (oQ:∀a cl c s H ex,wC (aC X scope N' cl c s H ex) (C.u λc=>c=a) tg T γ) (lW:∀a cl c s H ex,rh (aC X scope N' cl c s H ex) (C.u λc=>c=a) true ifs τ)
  (ml:∀a cl c s H ex,PQ (aC X scope N' cl c s H ex) (C.u λc=>c=a) true elt φ) (hT:T.all (λi=>match lk[i]? with|some (some _)=>false|_=>true)=true:=by rfl)
  (hs:∀x,TB cz X.env x=pure x:=by intro _;rfl):PQ X C true (.ListComp elt [⟨tg,cz,ifs,0⟩] scope pos) (pK lk ι γ τ φ) :=
 Cz (pi:=true) (pc:=true) (pe:=true) (Links.of L) td hT hc hi oQ (λa cl c s H ex=>(lW a cl c s H ex).pt) (lW 0 [] 0 X.s₀ X.H₀ []).mono ml (oQ 0 [] 0 X.s₀ X.H₀ []).mono (ml 0 [] 0 X.s₀ X.H₀ []).mono hs
end
section
variable {X:Cx}{C:Cfg}{e a:Expr}{φ:aV}{p:Bool}{pos p2 p3 p4:Pos}{j:Nat}
theorem AX {te:TE}(he:PE X e te):PE X (.Subscript e (.Slice none none (some (.UnaryOp .USub (.Constant (.int 1) j p3) p4)) p2) pos) (λσ H Q=>te σ H λx H1=>∃a xs,x=.ref a/\H1 a=some (.lst xs)/\∀p,H1 p=none->Q (.ref p) (upd H1 p (.lst xs.reverse))):=by
 intro pins s σ H Q I h;refine Subscript_ (br (he pins s σ H _ I h) λv s1 ⟨x,H1,I1,r1,q1⟩=>?_);refine wpAny_Slice ?_;rw[evalPart_none];refine Sm (Sm ?_);rw[evalPart_some];refine br (CB (X:=X) (pos:=p4) w_ (a6 (i:=1) (j:=j) (pos:=p3)) pins s1 σ H1 (λv H'=>v=.int (-1)/\H'=H1) I1 ⟨1,rfl,rfl,rfl⟩) λu s3 ⟨y,H3,I3,r3,ey,eH⟩=>?_;subst ey eH;obtain⟨tk,rfl⟩:=(show ∃t,u=Value.int (-1) t from r3)
 have I4:Inv X pins σ H3 {s3 with heap:=s3.heap.push {cls:=.type "slice",data:=.fields #[.none,.none,.int (-1) tk]}}:=I3.kept (t':=s3.toks) λb ob q=>Sl _ q
 have F3:(s3.heap.push {cls:=.type "slice",data:=.fields #[.none,.none,.int (-1) tk]}).IsSliceOf s3.heap.objs.size .none .none (.int (-1) tk):=Heap.IsSliceOf.new ..
 generalize Qm:({s3 with heap:=s3.heap.push {cls:=.type "slice",data:=.fields #[.none,.none,.int (-1) tk]}}:Si)=s4 at I4 ⊢
 have L7:s4.heap.IsSliceOf s3.heap.objs.size .none .none (.int (-1) tk):=by rw[<- Qm];exact F3
 have main:∃T id,typeLookup (.type T) "__getitem__" = pure (some (.builtin id))/\s4.TypeIs v T/\S6 (model X.prog X.w) X.A (getItem v (.ref s3.heap.objs.size)) (EP X pins σ Q) X.xe s4:=by
  obtain⟨a,xs,rfl,hx,q⟩:=q1;cases (show v=Value.ref a from r1)
  obtain⟨its,r,ht,hz⟩:=I4.list (cE.of hx);have hlen:=r.length;refine⟨"list",_,WQ.lookup,ht.isList.typeIs,?_⟩;refine wpAny_getItem_list_slice ht.isList L7 .none .none (.int (-1) tk) (by simp) ?_ (by rw[SW] <;> lia)
  rw[HT.l3];refine⟨.ref s4.heap.objs.size,_,I4.laid (t':=s4.toks) (o:=.lst xs.reverse) (λb ob q=>Sl _ q) (Sj _) ?_,rfl,q _ (I4.bG.fresh (Sj _))⟩;exact⟨by rw[List.length_reverse];lia,_,0,by simpa using Vals.rev r,Tf _ rfl⟩
 obtain⟨T,id,hT,ht,hg⟩:=main;show S6 (model X.prog X.w) X.A (subscriptTail e (.Slice none none (some (.UnaryOp .USub (.Constant (.int 1) j p3) p4)) p2) v (.ref s3.heap.objs.size)) (EP X pins σ Q) X.xe s4;exact tail_any (ops:=[v,.ref s3.heap.objs.size]) ht hT hg (by with_unfolding_all rfl)
def Jr:D->Option D
 |.lst ds=>some (.lst ds.reverse)
 |_=>none
def G0 (φ:aV):aV:=λβ R=>φ β λx k β1=>∃d,Jr x=some d/\kN NL d k.wk λk'=>R d k' β1
theorem AR {j:Nat}(ha:PQ X C p a φ):PQ X C p (.Subscript a (.Slice none none (some (.UnaryOp .USub (.Constant (.int 1) j p3) p4)) p2) pos) (G0 φ) :=
 ⟨λβ R R' k h=>ha.mono β _ _ (λx kx β1 h=>by obtain⟨d,e,q⟩:=h;exact⟨d,e,q.mono λ_ z=>k _ _ _ z⟩) h,
  (AX ha.pe).pre λσ H Q h=>by
    obtain⟨β,own,s,h⟩:=h;refine tQ.of ha s h λd k β1 v H1 aB h o1 r1=>?_;obtain⟨d',e,q⟩:=h;have rr:=ay.aU zQ r1.rep;cases d with
    |lst ds =>
      cases e;obtain⟨c,vs,rfl,h1,n1,rs⟩:=rr;refine⟨c,vs,rfl,h1,λp hp=>?_⟩;have sm:au H1 (upd H1 p (.lst vs.reverse)):=au.new hp;have hw:¬ av C (Wn aB) k.wk p:=λz=>o1.sq.zF _ p z hp;have r2:ay X.prog X.w (av C (Wn aB) k.wk) (upd H1 p (.lst vs.reverse)) (.lst ds.reverse) (.ref p):=⟨p,_,rfl,ar,hw,(ah.rev rs).same sm⟩;obtain⟨k',q,r⟩:=KV.kN (Z:=(H,Wn own)) Cu r2 (λn=>hG (H:=H1) o1.sq.wN o1.sq.gK (λa z e=>o1.sn.d a z e) n ⟨p,_,rfl,ar,λz=>z hp,ah.flat n ((ah.rev rs).same sm)⟩) q;exact q _ _ aB (o1.same sm) r
    |_=>cases e⟩
end
section
variable {X:Cx}{C:Cfg}{a:Expr}{φ:aV}{p:Bool}
def Li (φ:aV):aZ:=λβ R=>φ β λd _ β'=>∃ds,d=.lst ds/\R (!ds.isEmpty) β'
theorem AN (ha:PQ X C p a φ)(he:∀whole,W6 a X.env whole=(do let v <- whole;VL a.pos;holding [v] (truthy v)):=by intro _;rfl):rE X C p a (Li φ) :=
 ⟨λβ R R' k h=>ha.mono β _ _ (λd kd β' h=>by obtain⟨b,e,q⟩:=h;exact⟨b,e,k _ _ q⟩) h,(xT ha.pe he).pre λσ H Q h=>by
  obtain⟨β,own,s,h⟩:=h;refine tQ.of ha s h λd k β' v H1 aB h o1 r1=>?_;obtain⟨ds,e,q⟩:=h;subst e;obtain⟨c,vs,rfl,h1,n1,rs⟩:=r1.rep;refine⟨!ds.isEmpty,.inl ⟨vs,cE.of h1,?_⟩,q H1 aB o1⟩;have:=rs.length;cases ds <;> cases vs <;> first|rfl|cases this⟩
end
def oD:Option Nat->D
 |none=>.bX
 |some k=>.int (k:Int)
def parts (i:Nat)(k:Option Nat)(j:Nat):List (Nat×Nat):=match k with
 |none=>[(i+1,j)]
 |some k=>[(i+1,k),(k+1,j)]
def fo (ps:List (Nat×Nat))(w:Nat×Nat->Int)(T:Nat->Nat->Int)(i j:Nat):List (Option Nat) :=
 ((lV ps i).filter λk=>decide (k<j)&&decide (w (i,k)+T (k-i-1) (i+1)+T (j-k-1) (k+1)=T (j-i) i)).map some++(if T (j-i-1) (i+1)=T (j-i) i then [none] else [])
def PU (ps:List (Nat×Nat))(w:Nat×Nat->Int)(T:Nat->Nat->Int)(i j:Nat):Option Nat->Prop
 |none=>T (j-i-1) (i+1)=T (j-i) i
 |some k=>(i,k)∈ps/\k<j/\w (i,k)+T (k-i-1) (i+1)+T (j-k-1) (k+1)=T (j-i) i
theorem f6 {ps:List (Nat×Nat)}{w:Nat×Nat->Int}{T:Nat->Nat->Int}{i j:Nat}{c:Option Nat}(h:c∈fo ps w T i j):PU ps w T i j c:=by
 unfold fo at h;rcases SO.mp h with h|h
 ·obtain⟨k,hk,rfl⟩:=Tj.mp h;obtain⟨h1,h2⟩:=Ua.mp hk;rw[Tu,decide_eq_true_eq,decide_eq_true_eq]at h2;exact⟨eN.mp h1,h2.1,h2.2⟩
 ·split at h
  ·next e=>rw[SF.mp h];exact e
  ·cases h
theorem qY {ps:List (Nat×Nat)}{w:Nat×Nat->Int}(hp:∀p∈ps,p.1<p.2){i j:Nat}(h:i<j):fo ps w (tW ps w) i j≠[]:=by
 have e:tW ps w (j-i) i=gg ps w (tW ps w) i j:=by rw[show j-i=(j-i-1)+1 by lia,eD hp,show i+(j-i-1)+1=j by lia]
 obtain⟨h1,_,_⟩:=c9 (ps:=ps) (w:=w) (T:=tW ps w) (i:=i) (j:=j);rw[<- e]at h1;unfold fo;intro z;obtain⟨z1,z2⟩:=List.append_eq_nil_iff.mp z;rcases h1 with q|⟨k,hk,hj,q⟩
 ·rw[if_pos q.symm]at z2;cases z2
 ·have:k∈(lV ps i).filter λk=>decide (k<j)&&decide (w (i,k)+tW ps w (k-i-1) (i+1)+tW ps w (j-k-1) (k+1)=tW ps w (j-i) i):=Ua.mpr ⟨eN.mpr hk,by rw[Tu,decide_eq_true_eq,decide_eq_true_eq];exact⟨hj,q.symm⟩⟩
  rw[List.map_eq_nil_iff.mp z1]at this;cases this
def cV (ps:List (Nat×Nat))(w:Nat×Nat->Int)(i j:Nat):Option Nat:=(fo ps w (tW ps w) i j).headD none
theorem eU {ps:List (Nat×Nat)}{w:Nat×Nat->Int}(hp:∀p∈ps,p.1<p.2){i j:Nat}(h:i<j):cV ps w i j∈fo ps w (tW ps w) i j:=by
 have:=qY (w:=w) hp h;unfold cV;cases q:fo ps w (tW ps w) i j with
 |nil=>exact absurd q this
 |cons a l=>simp
def mn (ps:List (Nat×Nat))(w:Nat×Nat->Int):Nat->Nat->Nat->List (Nat×Nat)
 |0,_,_=>[]
 |n+1,i,j=>if i<j then match cV ps w i j with
   |none=>mn ps w n (i+1) j
   |some k=>(i,k)::(mn ps w n (i+1) k++mn ps w n (k+1) j)
  else []
theorem da {ps:List (Nat×Nat)}{w:Nat×Nat->Int}(hp:∀p∈ps,p.1<p.2):∀{n m i j:Nat},j-i<=n->j-i<=m->mn ps w n i j=mn ps w m i j
 |0,0,_,_,_,_=>rfl
 |0,m+1,i,j,h,_=>by unfold mn;rw[if_neg (by omega)]
 |n+1,0,i,j,_,h=>by unfold mn;rw[if_neg (by omega)]
 |n+1,m+1,i,j,h1,h2=>by
  unfold mn
  by_cases h:i<j
  ·rw[if_pos h,if_pos h];have hm:=f6 (eU (w:=w) hp h);cases q:cV ps w i j with
   |none=>exact da hp (by omega) (by omega)
   |some k =>
    rw[q]at hm;have:=hp _ hm.1;dsimp only at this;have h3:=hm.2.1;dsimp only;rw[da hp (n:=n) (m:=m) (i:=i+1) (j:=k) (by omega) (by omega),da hp (n:=n) (m:=m) (i:=k+1) (j:=j) (by omega) (by omega)]
  ·rw[if_neg h,if_neg h]
def fv (ps:List (Nat×Nat))(w:Nat×Nat->Int)(i j:Nat):List (Nat×Nat):=mn ps w (j-i) i j
theorem lz {ps:List (Nat×Nat)}{w:Nat×Nat->Int}{i j:Nat}(h:¬ i<j):fv ps w i j=[]:=by
 unfold fv;rw[show j-i=0 by lia]
 rfl
theorem nh {ps:List (Nat×Nat)}{w:Nat×Nat->Int}(hp:∀p∈ps,p.1<p.2){i j:Nat}(h:i<j):fv ps w i j=match cV ps w i j with
  |none=>fv ps w (i+1) j
  |some k=>(i,k)::(fv ps w (i+1) k++fv ps w (k+1) j):=by
 unfold fv;rw[show j-i=(j-i-1)+1 by lia]
 conv=>lhs;unfold mn
 rw[if_pos h];have hm:=f6 (eU (w:=w) hp h);cases q:cV ps w i j with
 |none=>exact da hp (by lia) (by lia)
 |some k =>
  rw[q]at hm;have:=hp _ hm.1;dsimp only at this;have h3:=hm.2.1;dsimp only;rw[da hp (n:=j-i-1) (m:=k-(i+1)) (i:=i+1) (j:=k) (by lia) (by lia),da hp (n:=j-i-1) (m:=j-(k+1)) (i:=k+1) (j:=j) (by lia) (by lia)]
def qp (i:Nat):Option Nat->List (Nat×Nat)
 |none=>[]
 |some k=>[(i,k)]
theorem tm {ps:List (Nat×Nat)}{w:Nat×Nat->Int}(hp:∀p∈ps,p.1<p.2){i j:Nat}(h:i<j):fv ps w i j=qp i (cV ps w i j)++(parts i (cV ps w i j) j).flatMap λp=>fv ps w p.1 p.2:=by
 rw[nh hp h];cases cV ps w i j with
 |none=>simp[parts,qp]
 |some k=>simp[parts,qp]
theorem zq {ps:List (Nat×Nat)}{w:Nat×Nat->Int}(hp:∀p∈ps,p.1<p.2):∀l i j,j-i<=l->2*(fv ps w i j).length<=j-i:=by
 intro l
 induction l with
 |zero=>intro i j h;rw[lz (by lia)];exact SH _
 |succ l ih =>
  intro i j h
  by_cases aJ:i<j
  ·rw[nh hp aJ];have hm:=f6 (eU (w:=w) hp aJ);cases q:cV ps w i j with
   |none=>have:=ih (i+1) j (by lia);dsimp only;lia
   |some k =>
    rw[q]at hm;have h1:=hp _ hm.1;dsimp only at h1;have h3:=hm.2.1;have a1:=ih (i+1) k (by lia)
    have a2:=ih (k+1) j (by lia)
    dsimp only;rw[SM,S_];lia
  ·rw[lz aJ];exact SH _
def lC:FD:=λds R=>∃(i:Nat) (k:Option Nat) (j:Nat),ds=[.int i,oD k,.int j]/\R (.lst ((parts i k j).map wJ))
theorem lC.mono:du lC:=λds R R' k h=>by obtain⟨i,c,j,e,q⟩:=h;exact⟨i,c,j,e,k _ q⟩
def qL:FD:=λds R=>∃(n:Nat) (ps:List (Nat×Nat)) (w:Nat×Nat->Int) (T:Nat->Nat->Int) (i j:Nat),ds=[wI n ps,wD ps w,dk n T,.int i,.int j]/\oU n ps/\i<j/\j<=n/\R (.lst ((fo ps w T i j).map oD))
theorem qL.mono:du qL:=λds R R' k h=>by obtain⟨n,ps,w,T,i,j,e,h1,h2,h3,q⟩:=h;exact⟨n,ps,w,T,i,j,e,h1,h2,h3,k _ q⟩
def qK:FD:=λds R=>∃(n:Nat) (ps:List (Nat×Nat)) (w:Nat×Nat->Int) (i j:Nat),ds=[jG n ps,wD ps w,dk n (tW ps w),.int i,.int j]/\oU n ps/\i<=j/\j<=n/\R (xf (fv ps w i j))
theorem qK.mono:du qK:=λds R R' k h=>by obtain⟨n,ps,w,i,j,e,h1,h2,h3,q⟩:=h;exact⟨n,ps,w,i,j,e,h1,h2,h3,k _ q⟩
def CL (ps:List (Nat×Nat))(i j:Nat):D:=.tup [.int (tW ps w1 (j-i) i),xf (fv ps w1 i j)]
def eW:FD:=λds R=>∃(n:Nat) (ps:List (Nat×Nat)) (i j:Nat),ds=[jG n ps,.int i,.int j]/\oU n ps/\i<=j/\j<=n/\R (CL ps i j)
theorem eW.mono:du eW:=λds R R' k h=>by obtain⟨n,ps,i,j,e,h1,h2,h3,q⟩:=h;exact⟨n,ps,i,j,e,h1,h2,h3,k _ q⟩
def qH:FD:=λds R=>∃(n:Nat) (ps:List (Nat×Nat)),ds=[jG n ps]/\oU n ps/\R (CL ps 0 n)
theorem qH.mono:du qH:=λds R R' k h=>by obtain⟨n,ps,e,h1,q⟩:=h;exact⟨n,ps,e,h1,k _ q⟩
def rK (ws:List (Nat×Nat)):Nat:=(ws.map λp=>2*(p.2-p.1)+1).sum
theorem nO {a b:List (Nat×Nat)}:rK (a++b)=rK a+rK b:=by unfold rK;rw[S9,List.sum_append]
theorem Aq {a:List (Nat×Nat)}:rK a.reverse=rK a:=by
 unfold rK;rw[List.map_reverse];exact(List.reverse_perm _).sum_nat
theorem Fx {a b:Int}(h:rp a b):Jv (.int a) (.int b)=some (.int (a*b)):=by
 show (if rp a b then _ else _)=_
 rw[if_pos h]
end L2.Q
namespace jO
open PySem L2 L2.Q
section
variable {P:So}{w:SI}{K:PySem.W.Frag}{mg:Str->Option Sh}{base:Heap}
theorem l5:aK ["i","k","j"] ["i","k","j"] (aw c5):=⟨rfl,rfl,rfl,by decide +kernel,rfl,by decide +kernel,by decide +kernel⟩
theorem yp {jx fg} (tE:Gn K mg jx fg):aF P w K mg base bB 1 jx fg ["i","k","j"] (dw P w true lC):=by
 refine sG tE.F l5 (λds R Iz=> by obtain⟨i,k,j,e,_⟩ := Iz;subst e;rfl) λcD A outer s H E hr=>⟨_,(dF (bJ (aD af (bD.m Ba) (ab (i:=1)) sf) (aj (aX (bF (aa (bW (aa (aH aM aA (ab (i:=0)) ag) (aa (ab (i:=2)) ae))) ae)))) aS)
    (aj (aX (bF (aa (bW (aa (aH aM aA (ab (i:=0)) ag) (aa (ab (i:=1)) ae))) (aa (bW (aa (aH aM aA (ab (i:=1)) ag) (aa (ab (i:=2)) ae))) ae)))))),λds R h=>?_⟩
 obtain⟨i,k,j,rfl,q⟩:=h;cases k with
 |none=>exact⟨λ_=>False,⟨_,rfl,trivial,_,rfl,_,rfl,sW rfl ⟨_,rfl,trivial,_,rfl,trivial,_,rfl,trivial,o9,trivial,FX,trivial,q⟩⟩,λ_ z=>z.elim⟩
 |some k =>
  refine⟨λβ=>β=[some (.val false (.int i)),some (.val false (.int k)),some (.val false (.int j))],⟨_,rfl,trivial,_,rfl,_,rfl,iq rfl rfl⟩,?_⟩;rintro β rfl;exact⟨_,rfl,trivial,_,rfl,trivial,_,rfl,trivial,o9,trivial,_,rfl,trivial,_,rfl,trivial,_,rfl,trivial,o9,trivial,o9,trivial,q⟩
theorem cS:aK ["partners","worth","table","i","j","best","choices"] ["partners","worth","table","i","j"] (aw cn):=⟨rfl,rfl,rfl,by decide +kernel,rfl,by decide +kernel,by decide +kernel⟩
theorem Bk {jz fk} (tM:Gm K mg jz fk) {cO bt} (fw:D6 K mg cO bt) (B:Bs3 mg):aF P w K mg base bB 2 jz fk ["partners","worth","table","i","j"] (dw P w true qL):=by
 have NH:aF P w K mg base bB 1 _ _ _ (dw P w true lD):= uA fw;refine sG tM.F cS (λds R Iy=> by obtain⟨n,ps,w,T,i,j,e,_⟩ := Iy;subst e;rfl) λcD A outer s H E hr=>⟨_,(ai (a8 (i:=5) (aO af bf (aO af bf (ab (i:=2)) (ab (i:=3))) (aH af (bD.m bh) (ab (i:=4)) (ab (i:=3)))) cS.nd)
    (ai (vm (i:=6) true ["k","j","best","worth","table","i"] [none,some 4,some 5,some 1,some 2,some 3] (by rfl) (by decide:(["k","j","best","worth","table","i"]:List Str).Nodup) rfl (λ_=>(bp (aO af bf (ab (i:=0)) (ab (i:=3))))) (λ_ _ _ _ _ _=>(ao (i:=0) (by decide:(["k","j","best","worth","table","i"]:List Str).Nodup))) (λ_ _ _ _ _ _=>(gx (tX.t (oi (aD af (bD.m gA) (ab (i:=0)) (ab (i:=1))) (kh (aD af (bD.m (cC hr.units)) (aI lD.mono NH (hr.mono (by decide)) fw.m fw.F.kp fw.b (aa (ab (i:=3)) (aa (ab (i:=4)) (aa (ab (i:=5)) (aa (ab (i:=0)) (aa (ab (i:=1)) ae)))))) (ab (i:=2)))))))) (λ_ _ _ _ _ _=>(ab (i:=0))) cS.nd)
    (dF (bJ (aD af (bD.m (cC hr.units)) (aO af bf (aO af bf (ab (i:=2)) (aH aM aA (ab (i:=3)) ag)) (aH af (bD.m bh) (aH af (bD.m bh) (ab (i:=4)) (ab (i:=3))) ag)) (ab (i:=5))) (aj (c8 (i:=6) (λ_=>sf))) aS)
    (aj (jJ (i:=6)))))),λds R h=>?_⟩
 obtain⟨n,ps,w,T,i,j,rfl,ok,h1,h2,q⟩:=h;have BK:=ok.sm;have hle:=ok.le;refine⟨_,rfl,trivial,_,rfl,_,lg rfl (by lia),.inr ⟨trivial,_,rfl,trivial,_,rfl,_,rfl,_,lh (l:=j-i) (by lia) (by lia),?_⟩⟩
 refine⟨_,rfl,trivial,_,rfl,_,HH rfl (by lia),.inr ⟨_,rfl,trivial,?_⟩⟩
 refine fH (λk=>decide (k<j)&&decide (w (i,k)+T (k-i-1) (i+1)+T (j-k-1) (k+1)=T (j-i) i)) (λk=>.int (k:Int)) trivial (dB (Ts g9 (by lia))) (λk hk x0 o J ho j1 j2=>?_) ?_
 ·have hm:=eN.mp hk;obtain⟨g1,g2⟩:=ok.lt _ hm;dsimp only at g1 g2;refine⟨_,rfl,trivial,_,rfl,_,rfl,_,rfl,rB (λwM=>?_) (λwM=>iq rfl (j2 ?_ _))⟩
  ·have zd:k<j:=by lia
   refine⟨_,rfl,trivial,_,rfl,trivial,_,rfl,trivial,_,rfl,trivial,_,rfl,trivial,n,ps,w,(λi=>n+1-i),T,i,k,j,rfl,hm,g1,zd,h2,by show _<n+1-(i+1);lia,by show _<n+1-(k+1);lia,trivial,_,rfl,_,b7 _ _,_,rfl,rB (λe=>?_) (λe=>j2 ?_ _)⟩
   ·exact⟨_,rfl,trivial,ho,j1 (by rw[Tu,decide_eq_true_eq,decide_eq_true_eq];exact⟨zd,e⟩) _⟩
   ·rw[Bool.and_eq_false_iff];exact .inr (decide_eq_false e)
  ·rw[Bool.and_eq_false_iff];exact .inl (decide_eq_false (by lia))
 ·have eb:fo ps w T i j=((lV ps i).filter λk=>decide (k<j)&&decide (w (i,k)+T (k-i-1) (i+1)+T (j-k-1) (k+1)=T (j-i) i)).map some++(if T (j-i-1) (i+1)=T (j-i) i then [none] else []):=rfl
  have em:(((lV ps i).filter λk=>decide (k<j)&&decide (w (i,k)+T (k-i-1) (i+1)+T (j-k-1) (k+1)=T (j-i) i)).map λ(k:Nat)=>D.int (k:Int))=(((lV ps i).filter λk=>decide (k<j)&&decide (w (i,k)+T (k-i-1) (i+1)+T (j-k-1) (k+1)=T (j-i) i)).map some).map oD:=by rw[Tz];rfl
  have hl:(((lV ps i).filter λk=>decide (k<j)&&decide (w (i,k)+T (k-i-1) (i+1)+T (j-k-1) (k+1)=T (j-i) i)).map some).length<=400:=by rw[Sg];exact Ts (Uy _ _) (Ts g9 BK)
  rw[em];generalize ((lV ps i).filter λk=>decide (k<j)&&decide (w (i,k)+T (k-i-1) (i+1)+T (j-k-1) (k+1)=T (j-i) i)).map some=cs at eb hl ⊢
  refine⟨λβ=>β[6]?=some (some (.own (.lst ((fo ps w T i j).map oD)))),?_,λβ hβ=>⟨_,hβ,q⟩⟩;refine⟨_,rfl,trivial,_,rfl,trivial,_,rfl,_,lg (i:=i+1) (by lia) (by lia),.inr ⟨trivial,_,rfl,trivial,_,rfl,_,rfl,trivial,_,rfl,_,lh (l:=j-i-1) (by lia) (by lia),trivial,_,rfl,_,b7 _ _,_,rfl,rB (λe=>?_) (λe=>?_)⟩⟩
  ·rw[if_pos e]at eb;refine⟨⟨_,rfl⟩,trivial,_,rfl,by rw[Sg];exact mL (by lia),?_⟩
   rw[eb,S9];rfl
  ·rw[if_neg e,Uo]at eb;rw[eb];rfl
theorem aT:aK ["row","worth","table","i","j","partners","found","waiting","low","high","k"] ["row","worth","table","i","j"] (aw bO):=⟨rfl,rfl,rfl,by decide +kernel,rfl,by decide +kernel,by decide +kernel⟩
theorem Bi {mx gq} (wb:JV K mg mx gq) {dz bT} (fA:D5 K mg dz bT) {jz fk} (tM:Gm K mg jz fk) {cO bt} (fw:D6 K mg cO bt) {jx fg} (tE:Gn K mg jx fg) (B:Bs3 mg):aF P w K mg base bB 3 mx gq ["row","worth","table","i","j"] (dw P w true qK):=by
 have JS:aF P w K mg base bB 1 _ _ _ (dw P w true ia):= ot fA B;have Rr:aF P w K mg base bB 2 _ _ _ (dw P w true qL):= Bk tM fw B;have Rj:aF P w K mg base bB 1 _ _ _ (dw P w true lC):= yp tE;refine sG wb.F aT (λds R Iw=> by obtain⟨n,ps,w,i,j,e,_⟩ := Iw;subst e;rfl) λcD A outer s H E hr=>⟨_,(ai (a8 (i:=5) (aI ia.mono JS (hr.mono (by decide)) fA.m fA.F.kp fA.b (aa (ab (i:=0)) ae)) aT.nd)
    (ai (dJ (i:=6) (λ_=>(bF ae)) aT.nd)
    (ai (dJ (i:=7) (λ_=>(bF (aa (bW (aa (ab (i:=3)) (aa (ab (i:=4)) ae))) ae))) aT.nd)
    (ai (yf TX (AN (ab (i:=7))) (ai (sv (x_ (i:=7)) (dG (n:=2) rfl (aW (ao (i:=8) aT.nd) (aW (ao (i:=9) aT.nd) cM))))
    (aj (bJ (aD af (bD.m gA) (ab (i:=8)) (ab (i:=9))) (ai (a8 (i:=10) (aO af bf (aI qL.mono Rr (hr.mono (by decide)) tM.m tM.F.kp tM.b (aa (ab (i:=5)) (aa (ab (i:=1)) (aa (ab (i:=2)) (aa (ab (i:=8)) (aa (ab (i:=9)) ae)))))) ag) aT.nd)
    (dF (bJ (aD af (bD.m yj) (ab (i:=10)) sf) (aj (c8 (i:=6) (λ_=>(bW (aa (ab (i:=8)) (aa (ab (i:=10)) ae)))))) aS)
    (aj (mW (i:=7) (AR (aI lC.mono Rj (hr.mono (by decide)) tE.m tE.F.kp tE.b (aa (ab (i:=8)) (aa (ab (i:=10)) (aa (ab (i:=9)) ae))))))))) aS))))
    (aj (jJ (i:=6))))))),λds R h=>?_⟩
 obtain⟨n,ps,w,i,j,rfl,ok,h1,h2,q⟩:=h;have hn:=ok.le;have hp:∀p∈ps,p.1<p.2:=λp hp=>(ok.lt p hp).1;have R5:(fv ps w i j).length<=40:=by have:=zq (w:=w) hp (j-i) i j (Sj _);lia
 refine⟨_,rfl,trivial,n,ps,rfl,ok,SH _,trivial,_,rfl,trivial,_,rfl,trivial,o9,trivial,FX,trivial,?_⟩;refine⟨λm β=>∃(ws:List (Nat×Nat)) (fs:List (Nat×Nat)) (x8 x9 Aj:Option Q.B),β=[some (.val false (jG n ps)),some (.val false (wD ps w)),some (.val false (dk n (tW ps w))),some (.val false (.int i)),some (.val false (.int j)),some (.val true (wI n ps)),some (.own (xf fs)),some (.own (.lst (ws.map wJ))),x8,x9,Aj]/\(∀p∈ws,p.2<=n)/\rK ws=m/\m<=200/\fs++(ws.reverse.flatMap λp=>fv ps w p.1 p.2)=fv ps w i j,⟨_,[(i,j)],[],_,_,_,rfl,λp hp=>by rw[SF.mp hp];exact h2,rfl,by show 2*(j-i)+1+0<=200;lia,by simp⟩,?_⟩
 rintro m β ⟨ws,fs,x8,x9,Aj,rfl,hw,hm,hl,hf⟩;rcases List.eq_nil_or_concat ws with rfl|⟨rF,⟨l,h⟩,rfl⟩
 ·refine⟨_,rfl,_,rfl,iq rfl ?_⟩;have hf:fs=fv ps w i j:=by simpa using hf
  rw[<- hf]at q;exact⟨_,rfl,q⟩
 ·rw[List.concat_eq_append]at hw hm hf ⊢
  rw[nO]at hm;have RW:rF.length<=rK rF:=by
   unfold rK
   clear hw hm hf
   induction rF with
   |nil=>exact Sj _
   |cons a l ih=>rw[Ta,List.sum_cons,SM];lia
  have hm:rK rF+(2*(h-l)+1)=m:=hm;have hh:h<=n:=hw (l,h) (by simp)
  rw[Vy,List.reverse_singleton,List.singleton_append,List.flatMap_cons]at hf;refine⟨_,rfl,_,rfl,sW (by rw[S9];cases rF <;> rfl) ?_⟩
  rw[S9];refine⟨rF.map wJ,wJ (l,h),rfl,_,rfl,rfl,_,_,rfl,_,_,rfl,rfl,?_⟩;refine⟨_,rfl,trivial,_,rfl,_,rfl,_,rfl,rB (λCW=>?_) (λCW=>?_)⟩
  ·have CW:l<h:=by lia
   have BO:=qY (w:=w) hp CW;have OK:=tm (w:=w) hp CW;have mh:=f6 (eU (w:=w) hp CW);have BR:cV ps w l h=(fo ps w (tW ps w) l h).headD none:=rfl;cases hb:fo ps w (tW ps w) l h with
   |nil=>exact absurd hb BO
   |cons c cs =>
    rw[hb]at BR;have BR:cV ps w l h=c:=BR;rw[BR]at OK mh;rw[OK]at hf;have fin:∀(oR:List (Nat×Nat)) (Aj:Option Q.B),oR=fs++qp l c->∃m',m'<m/\∃(ws:List (Nat×Nat)) (fs:List (Nat×Nat)) (x8 x9 O8:Option Q.B),[some (Q.B.val false (jG n ps)),some (.val false (wD ps w)),some (.val false (dk n (tW ps w))),some (.val false (.int i)),some (.val false (.int j)),some (.val true (wI n ps)),some (.own (xf oR)),some (.own (.lst (rF.map wJ++(parts l c h).reverse.map wJ))),some (.val true (.int l)),some (.val true (.int h)),Aj]=[some (Q.B.val false (jG n ps)),some (.val false (wD ps w)),some (.val false (dk n (tW ps w))),some (.val false (.int i)),some (.val false (.int j)),some (.val true (wI n ps)),some (.own (xf fs)),some (.own (.lst (ws.map wJ))),x8,x9,O8]/\(∀p∈ws,p.2<=n)/\rK ws=m'/\m'<=200/\fs++(ws.reverse.flatMap λp=>fv ps w p.1 p.2)=fv ps w i j:=λoR Aj e=>by
     have RM:rK (parts l c h).reverse<2*(h-l)+1:=by
      rw[Aq];cases c with
      |none=>show 2*(h-(l+1))+1+0<_;lia
      |some k =>
       have:=hp _ mh.1;dsimp only at this;have h3:=mh.2.1;show 2*(k-(l+1))+1+(2*(h-(k+1))+1+0)<_;lia
     refine⟨rK (rF++(parts l c h).reverse),by rw[nO];lia,rF++(parts l c h).reverse,oR,_,_,_,by rw[S9],λp wL=>?_,rfl,by rw[nO];lia,?_⟩
     ·rcases SO.mp wL with z|z
      ·exact hw p (by simp[z])
      ·have z:=List.mem_reverse.mp z;cases c with
       |none=>rw[SF.mp z];exact hh
       |some k =>
        have h3:=mh.2.1;rcases Sr.mp z with rfl|z
        ·show k<=n;lia
        ·rw[SF.mp z];exact hh
     ·rw[<- hf,e,Vy,List.reverse_reverse,Vz];simp only[TM]
    refine⟨_,rfl,trivial,_,rfl,trivial,_,rfl,trivial,_,rfl,trivial,_,rfl,trivial,n,ps,w,tW ps w,l,h,rfl,ok,CW,hh,trivial,oD c,m7 (i:=0) rfl (by rw[hb];rfl),?_⟩
    cases c with
    |none =>
     refine⟨λβ=>β=[some (Q.B.val false (jG n ps)),some (.val false (wD ps w)),some (.val false (dk n (tW ps w))),some (.val false (.int i)),some (.val false (.int j)),some (.val true (wI n ps)),some (.own (xf fs)),some (.own (.lst (rF.map wJ))),some (.val true (.int l)),some (.val true (.int h)),some (.val true .bX)],⟨_,rfl,trivial,_,rfl,_,rfl,iq rfl rfl⟩,?_⟩;rintro β rfl;exact⟨⟨_,rfl⟩,_,rfl,trivial,_,rfl,trivial,_,rfl,trivial,l,none,h,rfl,_,rfl,.inl ⟨rfl,_,_,rfl,rfl,rfl,by rw[Sg];exact dB (show rF.length+1<=1000 by lia),fin fs _ (by simp[qp])⟩⟩
    |some k =>
     refine⟨λβ=>β=[some (Q.B.val false (jG n ps)),some (.val false (wD ps w)),some (.val false (dk n (tW ps w))),some (.val false (.int i)),some (.val false (.int j)),some (.val true (wI n ps)),some (.own (xf (fs++[(l,k)]))),some (.own (.lst (rF.map wJ))),some (.val true (.int l)),some (.val true (.int h)),some (.val true (.int k))],⟨_,rfl,trivial,_,rfl,_,rfl,sW rfl ⟨⟨_,rfl⟩,_,rfl,trivial,_,rfl,trivial,o9,trivial,_,rfl,?_,?_⟩⟩,?_⟩
     ·rw[Sg];have:=congrArg List.length hf;rw[S_]at this;exact mL (by lia)
     ·unfold xf;rw[S9];rfl
     ·rintro β rfl;exact⟨⟨_,rfl⟩,_,rfl,trivial,_,rfl,trivial,_,rfl,trivial,l,some k,h,rfl,_,rfl,.inl ⟨rfl,_,_,rfl,rfl,rfl,by rw[Sg];exact dB (show rF.length+2<=1000 by lia),fin (fs++[(l,k)]) _ rfl⟩⟩
  ·have CW:¬ l<h:=by lia
   rw[lz CW]at hf;exact⟨rK rF,by lia,rF,fs,_,_,_,rfl,λp wL=>hw p (by simp[wL]),rfl,by lia,by simpa using hf⟩
theorem j_:aK ["row","i","j","table"] ["row","i","j"] (aw fS):=⟨rfl,rfl,rfl,by decide +kernel,rfl,by decide +kernel,by decide +kernel⟩
theorem mY {qF jk} (uR:KD K mg qF jk) {jw ff} (lL:Gp K mg jw ff) {h_ dO} (mz:D8 K mg h_ dO) {dz bT} (fA:D5 K mg dz bT) {d_ cc} (gL:D4 K mg d_ cc) {ee cf} (gN:D7 K mg ee cf) {cO bt} (fw:D6 K mg cO bt) {gh c0} (gM:D9 K mg gh c0) {mx gq} (wb:JV K mg mx gq) {jz fk} (tM:Gm K mg jz fk) {jx fg} (tE:Gn K mg jx fg) (B:Bs3 mg):aF P w K mg base bB 5 qF jk ["row","i","j"] (dw P w true eW):=by
 have JR:aF P w K mg base bB 4 _ _ _ (dw P w true eV):= kR lL mz fA gL gN fw gM B;have Rq:aF P w K mg base bB 3 _ _ _ (dw P w true qK):= Bi wb fA tM fw tE B;have JT:aF P w K mg base bB 1 _ _ _ (dw P w true oG):= sF gM;refine sG uR.F j_ (λds R Iv=> by obtain⟨n,ps,i,j,e,_⟩ := Iv;subst e;rfl) λcD A outer s H E hr=>⟨_,(ai (bJ (g_ (mS ag (kn kP (ab (i:=1)) (kn kP (ab (i:=2)) (um kP (aO af bf (ab (i:=0)) ag)))))) vC aS)
    (ai (a8 (i:=3) (aI eV.mono JR (hr.mono (by decide)) lL.m lL.F.kp lL.b (aa (ab (i:=0)) ae)) j_.nd)
    (aj (aX (bW (aa (aO af bf (aO af bf (ab (i:=3)) (ab (i:=1))) (aH af (bD.m bh) (ab (i:=2)) (ab (i:=1)))) (aa (aI qK.mono Rq (hr.mono (by decide)) wb.m wb.F.kp wb.b (aa (ab (i:=0)) (aa (aI oG.mono JT (hr.mono (by decide)) gM.m gM.F.kp gM.b (aa (ab (i:=0)) ae)) (aa (ab (i:=3)) (aa (ab (i:=1)) (aa (ab (i:=2)) ae)))))) ae))))))),λds R h=>?_⟩
 obtain⟨n,ps,i,j,rfl,ok,h1,h2,q⟩:=h;have ej:(j:Int)-(i:Int)=((j-i:Nat):Int):=by lia
 refine⟨_,rfl,_,rfl,sW (decide_eq_true (by lia)) ⟨_,rfl,_,rfl,sW (decide_eq_true (by lia)) ⟨_,rfl,trivial,_,rfl,_,rfl,_,rfl,iq (by show (!decide _)=false;rw[decide_eq_true (show (j:Int)<=(n:Int) by lia)];rfl) ?_⟩⟩⟩
 exact⟨_,rfl,trivial,n,ps,rfl,ok,_,rfl,trivial,_,rfl,_,lg rfl (by lia),.inr ⟨trivial,_,rfl,trivial,_,rfl,_,rfl,_,lh (l:=j-i) ej (by lia),trivial,_,rfl,trivial,_,rfl,trivial,n,ps,rfl,ok,trivial,_,rfl,trivial,_,rfl,trivial,_,rfl,trivial,n,ps,w1,i,j,rfl,ok,h1,h2,trivial,o9,trivial,q⟩⟩
theorem nX:aK ["row"] ["row"] (aw dC):=⟨rfl,rfl,rfl,by decide +kernel,rfl,by decide +kernel,by decide +kernel⟩
theorem Bf {v7 nr} (Dc:NM K mg v7 nr) {qF jk} (uR:KD K mg qF jk) {jw ff} (lL:Gp K mg jw ff) {h_ dO} (mz:D8 K mg h_ dO) {dz bT} (fA:D5 K mg dz bT) {d_ cc} (gL:D4 K mg d_ cc) {ee cf} (gN:D7 K mg ee cf) {cO bt} (fw:D6 K mg cO bt) {gh c0} (gM:D9 K mg gh c0) {mx gq} (wb:JV K mg mx gq) {jz fk} (tM:Gm K mg jz fk) {jx fg} (tE:Gn K mg jx fg) (B:Bs3 mg):aF P w K mg base bB 6 v7 nr ["row"] (dw P w true qH):=by
 have NJ:aF P w K mg base bB 5 _ _ _ (dw P w true eW):= mY uR lL mz fA gL gN fw gM wb tM tE B;refine sG Dc.F nX (λds R Iu=> by obtain⟨n,ps,e,_⟩ := Iu;subst e;rfl) λcD A outer s H E hr=>⟨_,(aj (aX (aI eW.mono NJ (hr.mono (by decide)) uR.m uR.F.kp uR.b (aa (ab (i:=0)) (aa ag (aa (aO af bf (ab (i:=0)) ag) ae)))))),λds R h=>?_⟩
 obtain⟨n,ps,rfl,ok,q⟩:=h;exact⟨_,rfl,trivial,trivial,_,rfl,trivial,_,rfl,trivial,n,ps,0,n,rfl,ok,SH _,Sj _,trivial,q⟩
end
end jO
namespace L2
open PySem PySem.Spec PySem.SeqAt PyProof.Rows
def tL:List D->Option (List Bool)
 |[]=>some []
 |.bl b::ds=>(tL ds).map (b::·)
 |_::_=>none
theorem uT:∀{ds:List D} {bs:List Bool},tL ds=some bs->ds=bs.map D.bl
 |[],_,h=>by cases h;rfl
 |d::ds,bs,h=>by
  cases d with
  |bl b =>
   obtain⟨r,h1,rfl⟩:=SJ.mp (show (tL ds).map (b::·)=some bs from h)
   rw[uT h1];rfl
  |_=>cases h
theorem qR:∀bs:List Bool,tL (bs.map D.bl)=some bs
 |[]=>rfl
 |b::bs=>by show (tL (bs.map D.bl)).map (b::·)=_;rw[qR bs];rfl
def JA:List D->Option D
 |[d]=>d.Bw.bind λds=>(tL ds).map λbs=>.bl (bs.any id)
 |_=>none
theorem Ce (bs:List Bool):JA [.lst (bs.map D.bl)]=some (.bl (bs.any id)):=by
 show (tL (bs.map D.bl)).map _=_;rw[qR];rfl
section
variable {P:So}{w:SI}{W:Addr->Prop}{H:Hp}
theorem pI:∀{bs:List Bool} {vs:List V},ah P w W H (bs.map D.bl) vs->vs=bs.map V.bl
 |[],_,h=>h
 |b::bs,_,⟨v,r,e,h1,h2⟩=>by rw[e,show v=.bl b from h1,pI h2];rfl
end
theorem oZ:∀{bs:List Bool} {us:List Sh},Vals (bs.map V.bl) us->us=bs.map Value.bool
 |[],_,.nil=>rfl
 |b::bs,_,.cons r q=>by rw[Ta,<- oZ q,show _=Value.bool b from r]
variable {X:Cx}
theorem wy (hc:X.calm=true):cB X (.builtin "any") JA:=by
 intro pins s σ H xs us Q I r h;obtain⟨W,ds,d,hd,r1,e,q⟩:=h
 match ds,e with
 |[x],e =>
  obtain⟨es,e1,e2⟩:=Uc.mp (show x.Bw.bind _=some d from e)
  obtain⟨bs,e3,rfl⟩:=SJ.mp e2;rw[D.uE e1,uT e3]at r1;obtain⟨x,rfl,p,vs,rfl,h1,n1,q1⟩:=ik r1;obtain⟨u,rfl,ru⟩:=vals1 r;cases ru;rw[pI q1]at h1;obtain⟨its,r2,ht,hz⟩:=I.list (cE.of h1);obtain rfl:=oZ r2;obtain⟨ol,gl,_⟩:=id ht.isList;have lt:p<s.heap.objs.size:=SD gl;have Wk:=Walks.list (prog:=X.prog) (w:=X.w) (A:=X.A.in1) (I.ok.hd hc) s.heap.objs.size p (S5 lt) (bs.map Value.bool).toArray;refine call_any_walk (WN ht.isList ⟨s.heap.objs.size,_,_,_,_,_,λj=>bs.getD j false,rfl,Wk,⟨⟨_,Tf _ rfl,rfl,rfl⟩,ht.isList.push _⟩,λj v s' Q' E' hv hq=>?_,λh' tk k=>?_⟩)
  ·have hv:((bs.map Value.bool).toArray)[j]?=some v:=hv;rw[Vh,Su]at hv;obtain⟨b,hb,rfl⟩:=SJ.mp hv;have hq:Q' (bs.getD j false) s':=hq;rw[SN,hb]at hq;exact Uz hq
  ·have ea:((SV (bs.map Value.bool).toArray.size).any λj=>bs.getD j false)=bs.any id:=by
    rw[Vw,List.any_eq_true,List.any_eq_true];constructor
    ·rintro⟨j,hj,hb⟩;rw[SN]at hb;cases hg:bs[j]? with
     |none=>rw[hg]at hb;cases hb
     |some b=>rw[hg]at hb;exact⟨b,TU hg,hb⟩
    ·rintro⟨b,hb,ht⟩;obtain⟨j,hj⟩:=Vu hb;refine⟨j,?_,by rw[SN,hj];exact ht⟩
     rw[Tq];have:=(Sz.mp hj).1;simpa using this
   rw[ea];exact⟨.bl (bs.any id),H,I.kept (t':=tk) λb o e=>k b o (by
    have:=SD e;simp only[SF];exact S5 this) (Sl _ e),rfl,q _ _ (au.refl _) rfl⟩
namespace Q
section
variable {C:Cfg}{a b c:Expr}{p p' pos pos':Pos}
theorem yM {i:Int}{n:Nat}{acc:Array Sh}(h:ItemsOf (λk v=>∃t,v=Value.int (i+k*(-1)) t) acc n):Vals ((SV n).map λk:Nat=>V.int (i-(k:Int))) acc.toList:=by
 have key:∀(l:List Sh) (i:Int),(∀j v,l[j]?=some v->∃t,v=Value.int (i-((j:Nat):Int)) t)->Vals ((SV l.length).map λk:Nat=>V.int (i-(k:Int))) l:=λl=>by
  induction l with
  |nil=>intro i _;exact .nil
  |cons x r ih =>
   intro i h;rw[SM,List.range_succ_eq_map,Ta,Tz];obtain⟨t,rfl⟩:=h 0 x rfl;refine .cons ⟨t,rfl⟩ ?_;have:=ih (i-1) λj v e=>by
    obtain⟨t,e'⟩:=h (j+1) v (by simpa using e)
    exact⟨t,by rw[e'];congr 1;lia⟩
   refine(show (λk:Nat=>V.int (i-(k:Int))) ∘ Nat.succ=λk:Nat=>V.int (i-1-(k:Int)) from ?_)▸this
   funext k
   show V.int (i-((k+1:Nat):Int))=_
   congr 1
   lia
 have:=key acc.toList i λj v e=>by
  obtain⟨t,e'⟩:=h.2 j v (by simpa using e)
  exact⟨t,by rw[e',Int.mul_neg,Int.mul_one];rfl⟩
 rwa [Sv,h.1]at this
theorem l8 {ta:TA} (hc:X.calm=true) (Je:Gl X "list") (I9:X.mg "list" = none) (hg:Gl X "range") (hm:X.mg "range" = none) (ha:PA X [a,b,c] ta) (hs:SX [a,b,c] X.env=[(false,eval a X.env),(false,eval b X.env),(false,eval c X.env)]:=by rfl) (lX:SX [b,c] X.env=[(false,eval b X.env),(false,eval c X.env)]:=by rfl)
  (hl:SX [.Call (.Name "range" p) [a,b,c] [] pos] X.env=[(false,eval (.Call (.Name "range" p) [a,b,c] [] pos) X.env)]:=by rfl) :
  PE X (.Call (.Name "list" p') [.Call (.Name "range" p) [a,b,c] [] pos] [] pos') (λσ H Q=>ta σ H λvs H1=>∃i j:Int,vs=[.int i,.int j,.int (-1)]/\(-(2 ^ 62)<=i/\i<2 ^ 62/\-(2 ^ 62)<=j/\j<2 ^ 62)/\(i-j).toNat<=2 ^ 24/\∀p,H1 p=none->Q (.ref p) (upd H1 p (.lst ((SV (i-j).toNat).map λk:Nat=>V.int (i-(k:Int)))))):=by
 intro pins s σ H Q I h;refine U4 (eQ I Je I9 uU ?_ (by decide) (by decide))
 refine TN ?_ hl rfl;rw[hl];show S6 _ _ (spliced ((false,eval (.Call (.Name "range" p) [a,b,c] [] pos) X.env)::[])) _ _ s;refine Calls.spliced_cons ?_;refine U4 (eQ I hg hm Xl ?_ (by decide) (by decide))
 refine TN (br (ha pos pins s σ H _ I h) λus s1 h1=>?_) (by rw[hs,lX]) (by rw[lX];rfl)
 obtain⟨vs,H1,I1,r1,i,j,rfl,⟨q1,q2,q3,q4⟩,hz,q⟩:=h1;cases r1 with
 |cons r rr =>
 cases rr with
 |cons r' rr =>
 cases rr with
 |cons FY rr =>
 cases rr;obtain⟨t1,rfl⟩:=r;obtain⟨t2,rfl⟩:=r';obtain⟨t3,rfl⟩:=FY;refine call_range_3 (by decide) (Calls.spliced_nil ?_) (.inl (VQ (by decide +kernel)))
 have e2:UE i j (-1)=(((i-j).toNat:Nat):Int):=by rw[dU];split <;> lia
 refine call_list_range (n:=(i-j).toNat) (I.ok.hd hc) (IsRange.new ..) (mN q1 q2 q3 q4) e2 hz λh' tk acc c kp hS ha=>?_;have I2:=I1.kept (t':=s1.toks) (h':=s1.heap.push {cls:=.type "range",data:=.fields #[.int i t1,.int j t2,.int (-1) t3]}) λb o e=>Sl _ e;have fr:=I2.bG.fresh (Sj _);refine⟨.ref (s1.heap.push {cls:=.type "range",data:=.fields #[.int i t1,.int j t2,.int (-1) t3]}).objs.size,_,I2.laid (o:=.lst _) kp (Sj _) ⟨?_,acc.toList,c,yM ha,?_⟩,rfl,q _ fr⟩
 ·rw[Sg,Tc];exact hz
 ·simpa using hS
def vq (φs:bM):aV:=λβ R=>φs β λds _ β1=>∃i j:Int,ds=[.int i,.int j,.int (-1)]/\(-(2 ^ 62)<=i/\i<2 ^ 62/\-(2 ^ 62)<=j/\j<2 ^ 62)/\(i-j).toNat<=2 ^ 24/\R (.lst (n6 i (i-j).toNat)) .own β1
theorem mQ {P:So}{w:SI}{H:Hp}{i:Int}:∀(l:List Nat),aG P w H (l.map λk:Nat=>D.int (i-(k:Int))) (l.map λk:Nat=>V.int (i-(k:Int))) []
 |[]=>⟨rfl,rfl⟩
 |k::l=>⟨_,_,[],[],rfl,rfl,⟨rfl,rfl⟩,mQ l⟩
theorem l7 {φs:bM} {q:Bool} (hc:X.calm=true) (I9:X.mg "list" = none) (hm:X.mg "range" = none) (ha:oT X C q [a,b,c] φs) (Je:Gl X "list" := by rfl) (hg:Gl X "range" := by rfl) (hs:SX [a,b,c] X.env=[(false,eval a X.env),(false,eval b X.env),(false,eval c X.env)]:=by rfl) (lX:SX [b,c] X.env=[(false,eval b X.env),(false,eval c X.env)]:=by rfl)
  (hl:SX [.Call (.Name "range" p) [a,b,c] [] pos] X.env=[(false,eval (.Call (.Name "range" p) [a,b,c] [] pos) X.env)]:=by rfl):PQ X C q (.Call (.Name "list" p') [.Call (.Name "range" p) [a,b,c] [] pos] [] pos') (vq φs) :=
 ⟨λβ R R' k h=>ha.mono β _ _ (λds ks β1 h=>by obtain⟨i,j,e,h1,h2,q⟩:=h;exact⟨i,j,e,h1,h2,k _ _ _ q⟩) h,(l8 hc Je I9 hg hm ha.pa hs lX hl).pre λσ H Q h=>by
  obtain⟨β,own,s,h⟩:=h;refine rq.of ha s h λds ks β1 vs H1 aB h o1 r1=>?_;obtain⟨i,j,rfl,h1,h2,q⟩:=h;obtain⟨x,r,rfl,rx,y,r',rfl,ry,z,FY,rfl,rz,rr⟩:=r1.gz;cases (show x=V.int i from rx)
  cases (show y=V.int j from ry)
  cases (show z=V.int (-1) from rz)
  cases (show FY=[] from rr)
  refine⟨i,j,rfl,h1,h2,λp hp=>q _ _ aB (o1.same (au.new hp)) ⟨[p],⟨p,_,[],rfl,ar,rfl,mQ _⟩,by simp,λc hc=>?_⟩⟩
  rw[SF.mp hc];exact⟨Ti λz=>o1.sn.d p z hp,λz=>o1.sq.wN p z hp,Ti λz=>o1.sq.gK p z hp⟩⟩
end
end Q
end L2
namespace L2.Q
open PySem
section
variable {ps:List (Nat×Nat)}
theorem uc (hp:∀p∈ps,p.1<p.2):∀len i,0<=tW ps w1 len i
 |0,_=>Wu 0
 |l+1,i=>by
  rw[eD hp];have h:=(c9 (ps:=ps) (w:=w1) (T:=tW ps w1) (i:=i) (j:=i+l+1)).2.1;rw[show i+l+1-i-1=l by lia]at h
  exact V7 (uc hp l (i+1)) h
end
section
end
theorem gX {n d p:Nat}{x:Int}(hx:x=(p:Int))(h:p<=n):HT.jF n d (some x)=p:=by
 subst hx;rw[HT.gX];lia
theorem FC {ds:List D}{p:Nat}{x:Int}(hx:x=(p:Int))(h:p<=ds.length):cutD ds none (some x)=ds.take p:=by
 unfold cutD;rw[gX hx h];show (ds.drop 0).take (p-0)=_;simp
theorem FA {ds:List D}{p:Nat}{x:Int}(hx:x=(p:Int))(h:p<=ds.length):cutD ds (some x) none=ds.drop p:=by
 unfold cutD;rw[gX hx h];show (ds.drop p).take (ds.length-p)=_;rw[Ud (by simp)]
open PySem.Spec PySem.SeqAt PyProof.Rows
structure Gq (mg:Str->Option Sh):Prop extends Bs3 mg where
 any:mg "any" = none
theorem FL:TV "any" = some (.builtin "any"):=by decide +kernel
def js (l:List Int):D:=.lst (l.map D.int)
def gf (pp:List (List Int)):D:=.lst (pp.map js)
def tV (pp:List (List Int)):Prop:=pp.length<=200/\∀l∈pp,l.length<=200
def pA (n:Nat):List Int:=(SV (n+1)).map λk:Nat=>(n:Int)+1-(k:Int)
def rW (n:Nat)(pp:List (List Int)):Bool:=decide (pp.map (λl=>(l.length:Int))=pA n)
def Tp (pp:List (List Int))(l i:Nat):Int:=(pp.getD i []).getD l 0
def il (n:Nat)(ps:List (Nat×Nat))(w:Nat×Nat->Int)(pp:List (List Int)):Prop:=rW n pp=true/\(∀l∈pp,∀x∈l,0<=x)/\∀i j,i<j->j<=n->gg ps w (Tp pp) i j<=Tp pp (j-i) i
theorem AA {n:Nat}{pp:List (List Int)}(h:rW n pp=true):pp.length=n+1/\∀i,i<=n->(pp.getD i []).length=n+1-i:=by
 have h:=of_decide_eq_true h;have hl:pp.length=n+1:=by have:=congrArg List.length h;unfold pA at this;simpa using this
 refine⟨hl,λi hi=>?_⟩;have d9:i<pp.length:=by lia
 have e:pp[i]?=some pp[i]:=Sk d9;have:=congrArg (λl=>l[i]?) h;unfold pA at this;rw[Su,e,bx (by lia)]at this
 have this:((pp[i].length:Nat):Int)=(n:Int)+1-(i:Int):=S8 this;rw[SN,e];show pp[i].length=_;lia
theorem By {l:List Int}:js l=.lst (jZ l.length λk=>l.getD k 0):=by
 unfold js jZ
 congr 1
 apply Ue;intro k;rw[Su]
 by_cases hk:k<l.length
 ·rw[bx hk];show _=some (D.int (l.getD k 0));rw[SN,Sk hk];rfl
 ·rw[S7 (by lia),S7 (by rw[Sg,Tc];lia)];rfl
theorem AS {n:Nat}{pp:List (List Int)}(h:rW n pp=true):gf pp=dk n (Tp pp):=by
 obtain⟨h1,h2⟩:=AA h;unfold gf dk iC
 congr 1
 apply Ue;intro i;rw[Su]
 by_cases hi:i<n+1
 ·have d9:i<pp.length:=by lia
  have e:pp[i]?=some pp[i]:=Sk d9;rw[bx hi,e,Vv,By];have h3:=h2 i (by lia)
  have e2:pp.getD i []=pp[i]:=by rw[SN,e];rfl
  rw[e2]at h3;rw[h3];unfold Tp;rw[e2]
 ·rw[S7 (by lia),S7 (by rw[Sg,Tc];lia)];rfl
theorem f7 {ps:List (Nat×Nat)}{w:Nat×Nat->Int}{T:Nat->Nat->Int}{i j:Nat}{x:Int}:gg ps w T i j<=x↔T (j-i-1) (i+1)<=x/\∀k,(i,k)∈ps->k<j->w (i,k)+T (k-i-1) (i+1)+T (j-k-1) (k+1)<=x:=by
 obtain⟨h1,h2,h3⟩:=c9 (ps:=ps) (w:=w) (T:=T) (i:=i) (j:=j);constructor
 ·intro h;exact⟨V7 h2 h,λk hk hj=>V7 (h3 k hk hj) h⟩
 ·rintro⟨a,b⟩;rcases h1 with e|⟨k,hk,hj,e⟩
  ·rw[e];exact a
  ·rw[e];exact b k hk hj
theorem qd {n i j:Nat}:(i,j)∈gV n↔i<j/\j<=n:=by
 unfold gV dg;rw[List.mem_flatMap];constructor
 ·rintro⟨a,ha,h⟩;obtain⟨b,hb,e⟩:=Tj.mp h;have ha:=Tq.mp ha;have hb:=Tq.mp hb;obtain⟨e1,e2⟩:=Prod.mk.inj e;lia
 ·rintro⟨h1,h2⟩;refine⟨n-1-i,Tq.mpr (by lia),Tj.mpr ⟨j-i-1,Tq.mpr (by lia),?_⟩⟩
  exact Prod.ext (by show n-1-(n-1-i)=i;lia) (by show n-(n-1-i)+(j-i-1)=j;lia)
def qI:FD:=λds R=>∃(n:Nat) (pp:List (List Int)),ds=[gf pp,.int n]/\n<=40/\tV pp/\R (.bl (rW n pp))
theorem qI.mono:du qI:=λds R R' k h=>by obtain⟨n,pp,e,h1,h2,q⟩:=h;exact⟨n,pp,e,h1,h2,k _ q⟩
def lE:FD:=λds R=>∃(n:Nat) (ps:List (Nat×Nat)) (w:Nat×Nat->Int) (pp:List (List Int)),ds=[jG n ps,wD ps w,gf pp]/\oU n ps/\n<=40/\tV pp/\∀b:Bool,(b=true↔il n ps w pp)->R (.bl b)
theorem lE.mono:du lE:=λds R R' k h=>by obtain⟨n,ps,w,pp,e,h1,h2,h3,q⟩:=h;exact⟨n,ps,w,pp,e,h1,h2,h3,λb hb=>k _ (q b hb)⟩
def dX:FD:=λds R=>∃(n:Nat) (ps:List (Nat×Nat)) (pp:List (List Int)),ds=[jG n ps,gf pp]/\oU n ps/\n<=40/\tV pp/\∀b:Bool,(b=true↔il n ps w1 pp)->R (.bl b)
theorem dX.mono:du dX:=λds R R' k h=>by obtain⟨n,ps,pp,e,h1,h2,h3,q⟩:=h;exact⟨n,ps,pp,e,h1,h2,h3,λb hb=>k _ (q b hb)⟩
theorem xK {n:Nat}:n6 ((n:Int)+1) (n+1)=(pA n).map D.int:=by
 unfold n6 pA;rw[Tz];rfl
def kU (pp:List (List Int)):List Bool:=pp.flatMap λl=>l.map λx=>decide (x<0)
theorem pW {pp:List (List Int)}:(kU pp).any id=false↔∀l∈pp,∀x∈l,0<=x:=by
 unfold kU;rw[List.any_flatMap,List.any_eq_false];refine forall_congr' λl=>forall_congr' λ_=>?_;rw[Bool.not_eq_true,List.any_map,List.any_eq_false];refine forall_congr' λx=>forall_congr' λ_=>?_;simp only[Function.comp,id,decide_eq_true_eq];lia
theorem yy {pp:List (List Int)}(h:tV pp):∀m,(kU (pp.take m)).length<=200*pp.length:=by
 intro m;have:∀q:List (List Int),(∀l∈q,l.length<=200)->(kU q).length<=200*q.length:=λq=>by
  induction q with
  |nil=>intro _;exact Sj _
  |cons l q ih =>
   intro hq;have h1:=ih λx hx=>hq x (S0 _ hx);have h2:=hq l SY;unfold kU at *
   rw[List.flatMap_cons,S_,Sg,SM];lia
 have h1:=this (pp.take m) λl hl=>h.2 l (Vt hl);rw[SU]at h1;have:min m pp.length<=pp.length:=Nat.min_le_right _ _;lia
end L2.Q
namespace jO
open PySem L2 L2.Q
section
variable {P:So}{w:SI}{K:PySem.W.Frag}{mg:Str->Option Sh}{base:Heap}
theorem nY:aK ["paper","many"] ["paper","many"] (aw dD):=⟨rfl,rfl,rfl,by decide +kernel,rfl,by decide +kernel,by decide +kernel⟩
theorem Bg {jy fh} (tJ:Gk K mg jy fh) (B:Bs3 mg):aF P w K mg base bB 1 jy fh ["paper","many"] (dw P w true qI):=by
 refine sG tJ.F nY (λds R Ir=> by obtain⟨n,pp,e,_⟩ := Ir;subst e;rfl) λcD A outer s H E hr=>⟨_,(aj (aX (kq af (bD.m (cC hr.units)) (F0 ["numbers"] [none] (by rfl) (by decide:(["numbers"]:List Str).Nodup) rfl (bp (ab (i:=0))) (λ_ _ _ _ _ _=>(ao (i:=0) (by decide:(["numbers"]:List Str).Nodup))) (λ_ _ _ _ _ _=>dc) (λ_ _ _ _ _ _=>(cu af (cB.m wu) B.len FK (aa (ab (i:=0)) ae)))) (l7 rfl B.list B.range (aa (aH aM aA (ab (i:=1)) ag) (aa ag (aa (uo jB ag) ae))))))),λds R h=>?_⟩
 obtain⟨n,pp,rfl,hn,hb,q⟩:=h;have hlen:∀l:List Int,Jz [js l]=some (.int (l.length:Int)):=λl=>by show some (D.int (((l.map D.int).length:Nat):Int))=_;rw[Sg]
 refine⟨_,rfl,_,rfl,trivial,?_⟩;refine fH (λ_=>true) (λl=>.int (l.length:Int)) trivial (dB (by have:=hb.1;lia)) (λl hl y0 o J ho h1 _=>?_) ?_
 ·exact⟨_,rfl,trivial,_,hlen l,trivial,ho,h1 rfl _⟩
 rw[cN];refine⟨trivial,_,rfl,trivial,_,rfl,trivial,trivial,_,rfl,rfl,trivial,(n:Int)+1,0,rfl,⟨by lia,by lia,by lia,by lia⟩,by lia,?_⟩
 rw[show ((n:Int)+1-0).toNat=n+1 by lia,xK]
 have e:Fz (.lst (pp.map λl=>D.int (l.length:Int))) (.lst ((pA n).map D.int))=some (.bl (rW n pp)):=by
  have:=zJ (pp.map λl=>(l.length:Int)) (pA n);rw[Tz]at this;exact this
 exact⟨_,e,trivial,q⟩
theorem ck:aK ["row","worth","paper","partners","i","j"] ["row","worth","paper"] (aw cH):=⟨rfl,rfl,rfl,by decide +kernel,rfl,by decide +kernel,by decide +kernel⟩
theorem yq {mw gn} (v_:JU K mg mw gn) {jy fh} (tJ:Gk K mg jy fh) {dz bT} (fA:D5 K mg dz bT) {d_ cc} (gL:D4 K mg d_ cc) {ee cf} (gN:D7 K mg ee cf) {cO bt} (fw:D6 K mg cO bt) (B:Gq mg):aF P w K mg base bB 3 mw gn ["row","worth","paper"] (dw P w true lE):=by
 have Rl:aF P w K mg base bB 1 _ _ _ (dw P w true qI):= Bg tJ B.toBs3;have JS:aF P w K mg base bB 1 _ _ _ (dw P w true ia):= ot fA B.toBs3;have NG:aF P w K mg base bB 1 _ _ _ (dw P w true tp):= uz gL B.toBs3;have NK:aF P w K mg base bB 2 _ _ _ (dw P w true gG):= pT gN fw B.toBs3;refine sG v_.F ck (λds R Iq=> by obtain⟨n,ps,w,pp,e,_⟩ := Iq;subst e;rfl) λcD A outer s H E hr=>⟨_,(ai (bJ (tX.t (oh (g_ (jI (aI qI.mono Rl (hr.mono (by decide)) tJ.m tJ.F.kp tJ.b (aa (ab (i:=2)) (aa (aO af bf (ab (i:=0)) ag) ae))))) (jH (jI (cu af (cB.m (wy rfl)) B.any FL (aa (Og ["numbers","number"] [none,none] (by rfl) (by decide:(["numbers","number"]:List Str).Nodup) rfl (bp (ab (i:=2))) (λ_ _ _ _ _ _=>(ao (i:=0) (by decide:(["numbers","number"]:List Str).Nodup))) (λ_ _ _ _ _ _=>dc) (λ_ _ _ _ _ _=>(vx (i:=0))) (λ_ _ _ _ _ _=>(ao (i:=1) (by decide:(["numbers","number"]:List Str).Nodup))) (λ_ _ _ _ _ _=>dc) (λ_ _ _ _ _ _=>(kq af (bD.m gA) (ab (i:=1)) ag))) ae)))))) (aj (aX cX)) aS)
    (ai (a8 (i:=3) (aI ia.mono JS (hr.mono (by decide)) fA.m fA.F.kp fA.b (aa (ab (i:=0)) ae)) ck.nd)
    (ai (di TX rfl (bp (aI tp.mono NG (hr.mono (by decide)) gL.m gL.F.kp gL.b (aa (aO af bf (ab (i:=0)) ag) ae))) (dG (n:=2) rfl (aW (ao (i:=4) ck.nd) (aW (ao (i:=5) ck.nd) cM))) (aj (bJ (aD af (bD.m gA) (aO af bf (aO af bf (ab (i:=2)) (ab (i:=4))) (aH af (bD.m bh) (ab (i:=5)) (ab (i:=4)))) (aI gG.mono NK (hr.mono (by decide)) gN.m gN.F.kp gN.b (aa (ab (i:=3)) (aa (ab (i:=1)) (aa (ab (i:=2)) (aa (ab (i:=4)) (aa (ab (i:=5)) ae))))))) (aj (aX cX)) aS)))
    (aj (aX cX))))),λds R h=>?_⟩
 obtain⟨n,ps,w,pp,rfl,ok,hn,hb,q⟩:=h;refine⟨_,rfl,trivial,_,rfl,trivial,_,rfl,trivial,n,pp,rfl,hn,hb,_,rfl,?_⟩;cases Ic:rW n pp with
 |false=>exact sW rfl ⟨trivial,q false ⟨λz=>(nomatch z),λz=>by have:=z.1;rw[Ic]at this;cases this⟩⟩
 |true =>
  refine iq rfl ?_;obtain⟨F4,Kk⟩:=hb;have MI:=yy ⟨F4,Kk⟩;refine⟨_,rfl,_,rfl,trivial,?_⟩;refine⟨λa β o=>a<=pp.length/\(∃x0 x1,β=[x0,x1])/\o=(kU (pp.take a)).map D.bl,⟨SH _,⟨_,_,rfl⟩,rfl⟩,?_,?_⟩
  ·rintro a d β o hd ⟨ha,⟨x0,x1,rfl⟩,rfl⟩;rw[Su]at hd;obtain⟨l,hl,rfl⟩:=SJ.mp hd;have F8:=(Sz.mp hl).1;have Sa:=Kk l (TU hl);have et:pp.take (a+1)=pp.take a++[l]:=by rw[TR,hl];rfl
   have en:kU (pp.take (a+1))=kU (pp.take a)++l.map λx=>decide (x<0):=by
    rw[et];unfold kU;rw[Vz];simp
   refine⟨_,_,rfl,?_⟩;refine⟨λb β o=>b<=l.length/\(∃x1,β=[some (.val false (js l)),x1])/\o=(kU (pp.take a)++(l.take b).map λx=>decide (x<0)).map D.bl,⟨SH _,⟨_,rfl⟩,by simp⟩,?_,?_⟩
   ·rintro b d β o hd ⟨hb,⟨x1,rfl⟩,rfl⟩;rw[Su]at hd;obtain⟨x,hx,rfl⟩:=SJ.mp hd;have ji:=(Sz.mp hx).1;have QZ:l.take (b+1)=l.take b++[x]:=by rw[TR,hx];rfl
    refine⟨_,rfl,trivial,_,rfl,trivial,?_,ji,⟨_,rfl⟩,?_⟩
    ·rw[Sg,S_,Sg,SU];have:=MI a;rw[TH];lia
    ·rw[QZ];simp
   ·rintro β o ⟨_,⟨x1,rfl⟩,rfl⟩;refine⟨F8,⟨_,_,rfl⟩,?_⟩;rw[Sg,Ui,en]
  ·rintro β o ⟨_,⟨x0,x1,rfl⟩,rfl⟩;rw[Sg,Ui];refine⟨trivial,trivial,_,Ce _,_,rfl,?_⟩;cases IZ:(kU pp).any id with
   |true=>exact sW rfl ⟨trivial,q false ⟨λz=>(nomatch z),λz=>by rw[pW.mpr z.2.1]at IZ;cases IZ⟩⟩
   |false =>
    refine iq rfl ?_;have IZ:=pW.mp IZ;rw[AS Ic];refine⟨_,rfl,trivial,n,ps,rfl,ok,?_⟩;refine⟨_,rfl,trivial,_,rfl,trivial,n,rfl,by lia,_,rfl,trivial,?_⟩
    refine⟨λm β=>(∀s∈(gV n).take m,gg ps w (Tp pp) s.1 s.2<=Tp pp (s.2-s.1) s.1)/\∃x4 x5,β=[some (.val false (jG n ps)),some (.val false (wD ps w)),some (.val false (dk n (Tp pp))),some (.val true (wI n ps)),x4,x5],⟨λs hs=>(nomatch hs),_,_,rfl⟩,?_,?_⟩
    ·rintro m d β hd ⟨gF,x4,x5,rfl⟩;rw[Su]at hd;obtain⟨⟨i,j⟩,hs,rfl⟩:=SJ.mp hd;obtain⟨h1,h2⟩:=qd.mp (TU hs);have et:(gV n).take (m+1)=(gV n).take m++[(i,j)]:=by rw[TR,hs];rfl
     refine⟨_,rfl,rfl,_,_,rfl,_,_,rfl,rfl,?_⟩;refine⟨_,rfl,trivial,_,rfl,_,lg (i:=i) rfl (by lia),.inr ⟨trivial,_,rfl,trivial,_,rfl,_,rfl,_,lh (l:=j-i) (by lia) (by lia),trivial,?_⟩⟩
     refine⟨_,rfl,trivial,_,rfl,trivial,_,rfl,trivial,_,rfl,trivial,_,rfl,trivial,n,ps,w,(λi=>n+1-i),Tp pp,i,j,rfl,ok,h1,h2,λa _ _=>Sj _,_,rfl,_,rfl,rB (λfz=>?_) (λfz=>?_)⟩
     ·exact⟨trivial,q false ⟨λz=>(nomatch z),λz=>absurd (z.2.2 i j h1 h2) (by lia)⟩⟩
     ·refine⟨λs hs=>?_,_,_,rfl⟩;rw[et]at hs;rcases SO.mp hs with z|z
      ·exact gF s z
      ·rw[SF.mp z];dsimp only;lia
    ·rintro β ⟨gF,x4,x5,rfl⟩;rw[Sg,Ui]at gF;exact⟨trivial,q true ⟨λ_=>⟨Ic,IZ,λi j h1 h2=>gF (i,j) (qd.mpr ⟨h1,h2⟩)⟩,λ_=>rfl⟩⟩
theorem j8:aK ["row","paper"] ["row","paper"] (aw cG):=⟨rfl,rfl,rfl,by decide +kernel,rfl,by decide +kernel,by decide +kernel⟩
theorem pS {qE jj} (lM:KC K mg qE jj) {mw gn} (v_:JU K mg mw gn) {jy fh} (tJ:Gk K mg jy fh) {dz bT} (fA:D5 K mg dz bT) {d_ cc} (gL:D4 K mg d_ cc) {ee cf} (gN:D7 K mg ee cf) {cO bt} (fw:D6 K mg cO bt) {gh c0} (gM:D9 K mg gh c0) (B:Gq mg):aF P w K mg base bB 4 qE jj ["row","paper"] (dw P w true dX):=by
 have Rm:aF P w K mg base bB 3 _ _ _ (dw P w true lE):= yq v_ tJ fA gL gN fw B;have JT:aF P w K mg base bB 1 _ _ _ (dw P w true oG):= sF gM;refine sG lM.F j8 (λds R Ip=> by obtain⟨n,ps,pp,e,_⟩ := Ip;subst e;rfl) λcD A outer s H E hr=>⟨_,(aj (aX (aI lE.mono Rm (hr.mono (by decide)) v_.m v_.F.kp v_.b (aa (ab (i:=0)) (aa (aI oG.mono JT (hr.mono (by decide)) gM.m gM.F.kp gM.b (aa (ab (i:=0)) ae)) (aa (ab (i:=1)) ae)))))),λds R h=>?_⟩
 obtain⟨n,ps,pp,rfl,ok,hn,hb,q⟩:=h;exact⟨_,rfl,trivial,_,rfl,trivial,n,ps,rfl,ok,trivial,_,rfl,trivial,n,ps,w1,pp,rfl,ok,hn,hb,λb hb=>⟨trivial,q b hb⟩⟩
end
end jO
namespace L2.Q
open PySem PySem.Spec PySem.SeqAt PyProof.Rows
def cR (n:Nat)(T:Nat->Nat->Int):List (List Int):=(SV (n+1)).map λi=>(SV (n+1-i)).map λl=>T l i
section
variable {n:Nat}{T:Nat->Nat->Int}{ps qs:List (Nat×Nat)}{pp:List (List Int)}
theorem o4:gf (cR n T)=dk n T:=by
 unfold gf cR dk iC jZ;rw[Tz]
 congr 1
 refine Tw λi _=>?_;show js _=_;unfold js;rw[Tz];rfl
theorem Av {i:Nat}(h:i<=n):(cR n T).getD i []=(SV (n+1-i)).map λl=>T l i:=by
 unfold cR;rw[SN,bx (by lia)]
 rfl
theorem iy {i l:Nat}(h:i+l<=n):Tp (cR n T) l i=T l i:=by
 unfold Tp;rw[Av (by lia),SN,bx (by lia)]
 rfl
theorem Au:rW n (cR n T)=true:=by
 refine decide_eq_true ?_;unfold cR pA;rw[Tz];refine Tw λi hi=>?_;have:=Tq.mp hi;show (((SV (n+1-i)).map λl=>T l i).length:Int)=_;rw[Sg,Tc];lia
theorem iA (hn:n<=40):tV (cR n T):=by
 unfold cR tV;refine⟨by rw[Sg,Tc];lia,λl hl=>?_⟩
 obtain⟨i,_,rfl⟩:=Tj.mp hl;rw[Sg,Tc];lia
theorem xi (hp:∀p∈ps,p.1<p.2)(hT:∀l i,0<=T l i)(h:∀i j,i<j->j<=n->gg ps w1 T i j<=T (j-i) i):il n ps w1 (cR n T):=by
 refine⟨Au,λl hl x hx=>?_,λi j aJ hj=>?_⟩
 ·unfold cR at hl;obtain⟨i,_,rfl⟩:=Tj.mp hl;obtain⟨k,_,rfl⟩:=Tj.mp hx;exact hT _ _
 ·obtain⟨a,b⟩:=f7.mp (h i j aJ hj);rw[iy (by lia)]
  refine f7.mpr ⟨by rw[iy (by lia)];exact a,λk hk wM=>?_⟩
  have:=hp _ hk;dsimp only at this;rw[iy (by lia),iy (by lia)]
  exact b k hk wM
theorem Gs (h:∀l∈pp,∀x∈l,0<=x)(l i:Nat):0<=Tp pp l i:=by
 unfold Tp
 by_cases hi:i<pp.length
 ·rw[SN (l:=pp),Sk hi];show 0<=pp[i].getD l 0
  by_cases hl:l<pp[i].length
  ·rw[SN,Sk hl];exact h _ (Uu hi) _ (Uu hl)
  ·rw[SN,S7 (by lia)]
   exact Wu 0
 ·rw[SN (l:=pp),S7 (by lia)]
  exact Wu 0
theorem sA (hp:∀p∈ps,p.1<p.2)(h:il n ps w1 pp)(l:Nat):∀i,i+l<=n->tW ps w1 l i<=Tp pp l i:=by
 induction l using Wd with
 |ind l ih =>
  intro i hi;cases l with
  |zero=>exact Gs h.2.1 0 i
  |succ l =>
   obtain⟨a,b⟩:=f7.mp (h.2.2 i (i+l+1) (by lia) (by lia))
   rw[show i+l+1-i-1=l by lia,show i+l+1-i=l+1 by lia]at a
   rw[eD hp];refine f7.mpr ⟨?_,λk hk wM=>?_⟩
   ·rw[show i+l+1-i-1=l by lia]
    exact V7 (ih l (by lia) (i+1) (by lia)) a
   ·have MU:=hp _ hk;dsimp only at MU;have h1:=b k hk wM;have h2:=ih (k-i-1) (by lia) (i+1) (by lia)
    have h3:=ih (i+l+1-k-1) (by lia) (k+1) (by lia)
    rw[show i+l+1-i=l+1 by lia]at h1
    lia
theorem DM (hp:∀p∈ps,p.1<p.2)(l:Nat):∀i,2*tW ps w1 l i<=l:=by
 induction l using Wd with
 |ind l ih =>
  intro i;cases l with
  |zero=>exact Wu 0
  |succ l =>
   rw[eD hp];obtain⟨e|⟨k,hk,wM,e⟩,_,_⟩:=c9 (ps:=ps) (w:=w1) (T:=tW ps w1) (i:=i) (j:=i+l+1)
   ·rw[e];have:=ih (i+l+1-i-1) (by lia) (i+1)
    lia
   ·rw[e];have MU:=hp _ hk;dsimp only at MU;have h2:=ih (k-i-1) (by lia) (i+1)
    have h3:=ih (i+l+1-k-1) (by lia) (k+1)
    show 2*(1+_+_)<=_;lia
theorem jD (hp:∀p∈ps,p.1<p.2)(hq:∀p∈qs,p∈ps):il n qs w1 (cR n (tW ps w1)):=by
 refine xi (λp h=>hp p (hq p h)) (uc hp) λi j aJ _=>?_;obtain⟨l,rfl⟩:∃l,j=i+l+1:=⟨j-i-1,by lia⟩
 rw[show i+l+1-i=l+1 by lia,eD hp]
 obtain⟨_,h2,h3⟩:=c9 (ps:=ps) (w:=w1) (T:=tW ps w1) (i:=i) (j:=i+l+1);exact f7.mpr ⟨h2,λk hk wM=>h3 k (hq _ hk) wM⟩
theorem xm (hp:∀p∈ps,p.1<p.2)(hq:∀p∈qs,p∈ps)(l i:Nat):tW qs w1 l i<=tW ps w1 l i:=by
 have:=sA (λp h=>hp p (hq p h)) (jD (n:=i+l) hp hq) l i (Sj _)
 rwa [iy (Sj _)]at this
theorem DJ (hp:∀p∈ps,p.1<p.2)(hq:∀p∈qs,p∈ps):il n ps w1 (cR n (tW qs w1))↔cR n (tW qs w1)=cR n (tW ps w1):=by
 constructor
 ·intro h;unfold cR;refine Tw λi hi=>Tw λl hl=>?_;have hi:=Tq.mp hi;have hl:=Tq.mp hl;have h1:=sA hp h l i (by lia)
  rw[iy (by lia)]at h1
  exact Int.le_antisymm (xm hp hq l i) h1
 ·intro e;rw[e];exact jD hp λp h=>h
theorem vb (hp:∀p∈ps,p.1<p.2){t:Int}(ht:1<=t):il n ps w1 (cR n λl i=>t*tW ps w1 l i):=by
 refine xi hp (λl i=>Int.mul_nonneg (by lia) (uc hp l i)) λi j aJ _=>?_
 obtain⟨l,rfl⟩:∃l,j=i+l+1:=⟨j-i-1,by lia⟩
 have e:i+l+1-i=l+1:=by lia
 obtain⟨_,h2,h3⟩:=c9 (ps:=ps) (w:=w1) (T:=tW ps w1) (i:=i) (j:=i+l+1);rw[<- eD hp]at h2 h3;refine f7.mpr ⟨by rw[e]at h2 ⊢;exact Xd h2 (by lia),λk hk wM=>?_⟩
 rw[e];have h4:=Xd (h3 k hk wM) (show 0<=t by lia)
 refine V7 ?_ h4;rw[Int.mul_add,Int.mul_add];show 1+_+_<=t*1+_+_;lia
theorem xl (hp:∀p∈ps,p.1<p.2){b a:Nat}{x:Int}(h:b+a<=n)(hx:x<tW ps w1 a b){l:List Int}(hl:l[a]?=some x):¬ il n ps w1 ((cR n (tW ps w1)).take b++[l]++(cR n (tW ps w1)).drop (b+1)):=by
 intro h1;have h2:=sA hp h1 a b h;have hlen:(cR n (tW ps w1)).length=n+1:=by unfold cR;rw[Sg,Tc]
 have e:Tp ((cR n (tW ps w1)).take b++[l]++(cR n (tW ps w1)).drop (b+1)) a b=x:=by
  unfold Tp;rw[TM,SN (i:=b),Tr (by rw[SU];lia),SU,show b-min b (cR n (tW ps w1)).length=0 by lia]
  show l.getD a 0=x;rw[SN,hl];rfl
 lia
theorem oU.sub (ok:oU n ps)(h:qs.Sublist ps):oU n qs:=⟨λp hp=>ok.lt p (h.subset hp),h.nodup ok.nd,ok.le,Ts h.length_le ok.sm⟩
end
end L2.Q
namespace L2
open PySem PyProof.Rows
section
variable {X:Cx}
def Nl:D->D->Option D
 |.bl a,.bl b=>some (.bl (a==b))
 |_,_=>none
def Jt:D->D->Option D
 |.bl a,.bl b=>some (.bl (!(a==b)))
 |_,_=>none
theorem Bb:bD X (TQ .Is) Nl:=by
 intro pins s σ H x y v u Q I rx ry h;obtain⟨W,d1,d2,d,hd,r1,r2,e,q⟩:=h;cases d1 <;> try (cases e;done)
 cases d2 <;> try (cases e;done)
 cases e;cases r1;cases r2;cases rx;cases ry
 rename_i a b
 exact Sm (bA I (q _ _ (au.refl _) rfl) (by cases a <;> cases b <;> rfl))
theorem kO:bD X (TQ .IsNot) Jt:=by
 intro pins s σ H x y v u Q I rx ry h;obtain⟨W,d1,d2,d,hd,r1,r2,e,q⟩:=h;cases d1 <;> try (cases e;done)
 cases d2 <;> try (cases e;done)
 cases e;cases r1;cases r2;cases rx;cases ry
 rename_i a b
 exact Sm (bA I (q _ _ (au.refl _) rfl) (by cases a <;> cases b <;> rfl))
end
end L2
namespace jO
open PySem L2 L2.Q
def jl:FD:=λds R=>∃(n:Nat) (ps:List (Nat×Nat)),ds=[jG n ps,gf (cR n (tW ps w1))]/\oU n ps/\n<=40/\R (.bl true)
theorem jl.mono:du jl:=λds R R' k h=>by obtain⟨n,ps,e,h1,h2,q⟩:=h;exact⟨n,ps,e,h1,h2,k _ q⟩
theorem ET {l:List Int}{n:Nat}{x:Int}(hl:l.length=n+1)(h:l[n]?=some x):tH (js l) (.int (-1))=some (.int x):=by
 show mC (l.map D.int) (-1)=_;unfold mC;rw[Sg,hl];have e:rA (n+1) (-1)=some n:=by
  unfold rA;rw[if_neg (by lia),if_pos (by lia)]
  congr 1
  lia
 rw[e];show (l.map D.int)[n]?=_;rw[Su,h];rfl
def gY (n:Nat)(ps:List (Nat×Nat))(b:Nat):List Int:=(SV (n+1-b)).map λl=>tW ps w1 l b
theorem ua {n b:Nat}{ps:List (Nat×Nat)}(h:b<=n):(cR n (tW ps w1))[b]?=some (gY n ps b):=by unfold cR gY;rw[bx (by lia)]
theorem nZ {n b a:Nat}{ps:List (Nat×Nat)}(h:b+a<=n):(gY n ps b)[a]?=some (tW ps w1 a b):=by unfold gY;rw[bx (by lia)]
theorem yL {n b:Nat}{ps:List (Nat×Nat)}(h:b<=n):tH (gf (cR n (tW ps w1))) (.int (b:Int))=some (js (gY n ps b)):=m7 rfl (by rw[Su,ua h];rfl)
theorem HJ {n b a:Nat}{ps:List (Nat×Nat)}(h:b+a<=n):tH (js (gY n ps b)) (.int (a:Int))=some (.int (tW ps w1 a b)):=m7 rfl (by rw[Su,nZ h];rfl)
theorem fV {n b:Nat}{ps:List (Nat×Nat)}:(gY n ps b).length=n+1-b:=by unfold gY;rw[Sg,Tc]
theorem nR {n:Nat}{T:Nat->Nat->Int}:(cR n T).length=n+1:=by unfold cR;rw[Sg,Tc]
theorem tu {l:List Int}:jm (l.map D.int)=l.zipIdx.map λp:Int×Nat=>D.tup [.int (p.2:Int),.int p.1]:=by
 apply Ue;intro i
 by_cases hi:i<l.length
 ·have h1:i<(jm (l.map D.int)).length:=by rw[iW,Sg];exact hi
  obtain⟨b,hb,e⟩:=nu (Sk h1);rw[Sk h1,e,Su,List.getElem?_zipIdx];rw[Su]at hb;obtain⟨x,hx,rfl⟩:=SJ.mp hb;rw[hx];simp
 ·rw[S7 (by rw[iW,Sg];lia),S7 (by rw[Sg,List.length_zipIdx];lia)]
section
variable {P:So}{w:SI}{K:PySem.W.Frag}{mg:Str->Option Sh}{base:Heap}
theorem aQ:aK ["hand","row","table","many","line","k","begin","at"] ["hand","row","table"] (aw bH):=⟨rfl,rfl,rfl,by decide +kernel,rfl,by decide +kernel,by decide +kernel⟩
theorem Be {BZ uK} (Gb:O4 K mg BZ uK) {zt lB} (dT:D1 K mg zt lB) {qE jj} (lM:KC K mg qE jj) {mw gn} (v_:JU K mg mw gn) {jy fh} (tJ:Gk K mg jy fh) {dz bT} (fA:D5 K mg dz bT) {d_ cc} (gL:D4 K mg d_ cc) {ee cf} (gN:D7 K mg ee cf) {cO bt} (fw:D6 K mg cO bt) {gh c0} (gM:D9 K mg gh c0) {v7 nr} (Dc:NM K mg v7 nr) {qF jk} (uR:KD K mg qF jk) {jw ff} (lL:Gp K mg jw ff) {h_ dO} (mz:D8 K mg h_ dO) {mx gq} (wb:JV K mg mx gq) {jz fk} (tM:Gm K mg jz fk) {jx fg} (tE:Gn K mg jx fg) (B:Gq mg):aF P w K mg base bB 8 BZ uK ["hand","row","table"] (eE P w fe true jl):=by
 have GT:aF P w K mg base bB 1 _ _ _ (eE P w fe true bu):=iB (fZ dT.F);have Gi:aF P w K mg base bB 4 _ _ _ (dw P w true dX):=pS lM v_ tJ fA gL gN fw gM B;have Rk:aF P w K mg base bB 6 _ _ _ (dw P w true qH):=Bf Dc uR lL mz fA gL gN fw gM wb tM tE B.toBs3;have NJ:aF P w K mg base bB 5 _ _ _ (dw P w true eW):=mY uR lL mz fA gL gN fw gM wb tM tE B.toBs3;refine yt Gb.F aQ (λds R Io=> by obtain⟨n,ps,e,_⟩ := Io;subst e;rfl) λcD A outer s H E IO hr=>⟨_,(ai (a8 (i:=3) (aO af bf (ab (i:=1)) ag) aQ.nd)
    (ai (bJ (tX.t (oh (aD af (bD.m kO) (aI dX.mono Gi (hr.mono (by decide)) lM.m lM.F.kp lM.b (aa (ab (i:=1)) (aa (ab (i:=2)) ae))) cX) (jH (aD af (bD.m (iL hr.units)) (aO af bf (aO af bf (ab (i:=2)) ag) (uo jB ag)) (aO af bf (aI qH.mono Rk (hr.mono (by decide)) Dc.m Dc.F.kp Dc.b (aa (ab (i:=1)) ae)) ag))))) (aj (aX cX)) aS)
    (ai (di TX rfl (bp (ab (i:=2))) (ao (i:=4) aQ.nd) (aj (bJ (aD af (bD.m (iL hr.units)) (F0 ["at","number"] [none,none] (by rfl) (by decide:(["at","number"]:List Str).Nodup) rfl (AQ (xP B.enumerate (xQ (Ee (i:=4)) AK))) (λ_ _ _ _ _ _=>(dG (n:=2) rfl (aW (ao (i:=0) (by decide:(["at","number"]:List Str).Nodup)) (aW (ao (i:=1) (by decide:(["at","number"]:List Str).Nodup)) cM)))) (λ_ _ _ _ _ _=>(gx (g_ (mS ag (kn kP (ab (i:=1)) (um kP (aH af (bD.m Bc) (ab (i:=0)) ag))))))) (λ_ _ _ _ _ _=>(ab (i:=0)))) (bF ae)) (aj (aX cX)) aS)))
    (ai (di TX rfl (bz B.range (aa ag ae)) (ao (i:=5) aQ.nd) (ai (a8 (i:=6) (aY (ih:=0) bu.mono GT (hr.mono (by decide)) dT.m dT.F.kp dT.b (aa (aH aM aA (ab (i:=3)) ag) ae)) aQ.nd)
    (ai (a8 (i:=7) (aY (ih:=0) bu.mono GT (hr.mono (by decide)) dT.m dT.F.kp dT.b (aa (aH af (bD.m bh) (aH aM aA (ab (i:=3)) ag) (ab (i:=6))) ae)) aQ.nd)
    (ai (bJ (aD af (bD.m (iL hr.units)) (aO af bf (aI eW.mono NJ (hr.mono (by decide)) uR.m uR.F.kp uR.b (aa (ab (i:=1)) (aa (ab (i:=6)) (aa (aH aM aA (ab (i:=6)) (ab (i:=7))) ae)))) ag) (aO af bf (aO af bf (ab (i:=2)) (ab (i:=6))) (ab (i:=7)))) (aj (aX cX)) aS)
    (ai (dJ (i:=4) (λ_=>(iJ aM qW B.list uU (aa (aO af bf (ab (i:=2)) (ab (i:=6))) ae))) aQ.nd)
    (ai (su (i:=4) (λ_=>(aH af (bD.m bh) (aH af (bD.m bh) (aO af bf (ab (i:=4)) (ab (i:=7))) ag) (aY (ih:=0) bu.mono GT (hr.mono (by decide)) dT.m dT.F.kp dT.b (aa ag ae)))) (λ_=>(ab (i:=7))))
    (aj (bJ (aD af (bD.m kO) (aI dX.mono Gi (hr.mono (by decide)) lM.m lM.F.kp lM.b (aa (ab (i:=1)) (aa (aH aM aA (aH aM aA (xZ (ab (i:=2)) kl (ki (ab (i:=6)))) (bF (aa (ya (i:=4)) ae))) (xZ (ab (i:=2)) (ki (aH aM aA (ab (i:=6)) ag)) kl)) ae))) cX) (aj (aX cX)) aS))))))))
    (aj (aX cX)))))),λds R h=>?_⟩
 obtain⟨n,ps,rfl,ok,hn,q⟩:=h;have hp:∀p∈ps,p.1<p.2:=λp h=>(ok.lt p h).1;refine⟨_,rfl,trivial,_,rfl,?_⟩;refine⟨_,rfl,trivial,_,rfl,trivial,n,ps,cR n (tW ps w1),rfl,ok,hn,iA hn,λb hb=>?_⟩;obtain rfl:b=true:=hb.mpr (jD hp λ_ h=>h);refine⟨trivial,_,rfl,_,rfl,iq rfl ?_⟩;refine⟨_,rfl,trivial,_,yL (SH n),.inr ⟨trivial,_,rfl,rfl,_,ET fV (nZ (by show 0+n<=n;lia)),trivial,_,rfl,trivial,n,ps,rfl,ok,trivial,_,rfl,_,fP (d3 _),_,rfl,iq rfl ?_⟩⟩
 refine⟨_,rfl,_,rfl,trivial,?_⟩;refine⟨λ_ β=>∃x4 x5 x6 x7,β=[some (.hand fe),some (.val false (jG n ps)),some (.val false (gf (cR n (tW ps w1)))),some (.val true (.int n)),x4,x5,x6,x7],⟨_,_,_,_,rfl⟩,?_,?_⟩
 ·rintro i d β hd ⟨x4,x5,x6,x7,rfl⟩;rw[Su]at hd;obtain⟨l,hl,rfl⟩:=SJ.mp hd;have hi:i<n+1:=by have:=(Sz.mp hl).1;rwa [nR]at this
  obtain rfl:gY n ps i=l:=S8 ((ua (by lia)).symm.trans hl)
  refine⟨_,rfl,_,rfl,trivial,?_⟩;rw[tu];refine yE (λ_=>false) (λp:Int×Nat=>.int (p.2:Int)) trivial (by rw[List.length_zipIdx,fV];exact dB (by lia)) (λp wL y0 y1 o J' ho j1 j2=>?_) ?_
  ·obtain⟨x,k⟩:=p;have hx:=List.mk_mem_zipIdx_iff_getElem?.mp wL;have hk:k<n+1-i:=by have:=(Sz.mp hx).1;rwa [fV]at this
   obtain rfl:tW ps w1 k i=x:=S8 ((nZ (by lia)).symm.trans hx)
   have h1:=uc hp k i;have h2:=DM hp k i;exact⟨_,rfl,rfl,_,_,rfl,_,_,rfl,rfl,_,rfl,_,rfl,sW (decide_eq_true h1) ⟨_,rfl,trivial,_,rfl,_,rfl,_,rfl,iq (congrArg (!·) (decide_eq_true (show tW ps w1 k i<=(k:Int) / 2 by lia))) (j2 rfl _ _)⟩⟩
  rw[List.filter_eq_nil_iff.mpr λ_ _=>T4];exact⟨trivial,SH _,_,fP (b8 []),_,rfl,iq rfl ⟨_,_,_,_,rfl⟩⟩
 ·rintro β ⟨x4,x5,x6,x7,rfl⟩;refine⟨trivial,5,rfl,by decide,by decide,trivial,?_⟩
  refine⟨λ_ β=>∃x4 x5 x6 x7,β=[some (.hand fe),some (.val false (jG n ps)),some (.val false (gf (cR n (tW ps w1)))),some (.val true (.int n)),x4,x5,x6,x7],⟨_,_,_,_,rfl⟩,?_,?_⟩
  ·rintro k d β hd ⟨x4,x5,x6,x7,rfl⟩;obtain⟨_,rfl⟩:=bK hd;refine⟨rfl,_,rfl,trivial,_,rfl,trivial,rfl,trivial,(n:Int)+1,rfl,by lia,by lia,λb CZ ON=>?_⟩
   obtain⟨b,rfl⟩:=Int.eq_ofNat_of_zero_le CZ;refine⟨rfl,_,rfl,trivial,_,rfl,trivial,_,rfl,_,rfl,trivial,rfl,trivial,(n:Int)+1-(b:Int),rfl,by lia,by lia,λa QN OP=>?_⟩
   obtain⟨a,rfl⟩:=Int.eq_ofNat_of_zero_le QN;refine⟨_,rfl,trivial,_,rfl,trivial,_,rfl,trivial,_,rfl,_,rfl,trivial,n,ps,b,b+a,rfl,ok,by lia,by lia,?_⟩
   refine⟨trivial,_,rfl,trivial,_,rfl,trivial,_,rfl,_,yL (by lia),.inr ⟨trivial,_,rfl,_,HJ (by lia),.bl false,(by rw[Nat.add_sub_cancel_left];exact fP (d3 _)),_,rfl,iq rfl ?_⟩⟩
   refine⟨_,rfl,trivial,_,rfl,_,yL (by lia),.inr ⟨trivial,_,rfl,?_⟩⟩
   refine .inl ⟨iV (f:=λx=>x),trivial,?_⟩;refine⟨_,rfl,trivial,_,rfl,_,HJ (by lia),trivial,_,rfl,trivial,rfl,trivial,rfl,trivial,2,rfl,by decide,by decide,λe QF QE=>⟨_,rfl,trivial,⟨_,rfl⟩,_,rfl,_,(a:Int),a,rfl,rfl,?_,?_⟩⟩
   ·unfold rA;rw[if_pos (by lia),if_pos (by rw[Sg,fV];lia)]
    rfl
   obtain⟨l',sY⟩:∃l',l'=(gY n ps b).set a (tW ps w1 a b-1-e):=⟨_,rfl⟩;have eL:D.lst (((gY n ps b).map D.int).set a (D.int (tW ps w1 a b-1-e)))=js l':=by rw[sY];unfold js;rw[List.map_set]
   have F4:l'.length<=200:=by rw[sY,List.length_set,fV];lia
   obtain⟨T,hT⟩:∃T,T=cR n (tW ps w1):=⟨_,rfl⟩;have R6:T.length=n+1:=by rw[hT];exact nR
   have Qn:Kt (gf T) none (some (b:Int))=some (gf (T.take b)):=by
    show some (D.lst (cutD _ _ _))=_;rw[FC rfl (by rw[Sg];lia)];unfold gf;rw[VS]
   have lX:Kt (gf T) (some ((b:Int)+1)) none=some (gf (T.drop (b+1))):=by
    show some (D.lst (cutD _ _ _))=_;rw[FA (p:=b+1) (by lia) (by rw[Sg];lia)];unfold gf;rw[WH]
   have OP:zK (gf (T.take b)) (.lst [js l'])=some (gf (T.take b++[l'])):=by
    unfold gf;rw[S9];exact lO (by rw[Sg,SU];show _+1<=_;lia)
   have QM:zK (gf (T.take b++[l'])) (gf (T.drop (b+1)))=some (gf (T.take b++[l']++T.drop (b+1))):=by
    have h:=lO (a:=(T.take b++[l']).map js) (b:=(T.drop (b+1)).map js) (by rw[Sg,Sg,S_,SU,UW];show _+1+_<=_;lia)
    rw[<- S9]at h;exact h
   have hB:tV (T.take b++[l']++T.drop (b+1)):=by
    have ji:=iA (n:=n) (T:=tW ps w1) hn;rw[<- hT]at ji;refine⟨by rw[S_,S_,SU,UW];show _+1+_<=_;lia,λl hl=>?_⟩
    rcases SO.mp hl with h|h
    ·rcases SO.mp h with h|h
     ·exact ji.2 l (Vt h)
     ·rw[SF.mp h];exact F4
    ·exact ji.2 l (List.mem_of_mem_drop h)
   have IY:¬ il n ps w1 (T.take b++[l']++T.drop (b+1)):=by
    rw[hT];exact xl hp (a:=a) (x:=tW ps w1 a b-1-e) (by lia) (by lia) (by rw[sY,V4 (by rw[fV];lia)])
   rw[<- hT,eL];refine⟨_,rfl,trivial,_,rfl,_,rfl,_,rfl,_,Qn,.inr ⟨trivial,_,rfl,trivial,dB (by show 1<=_;lia),.inr ⟨_,OP,.inr ⟨trivial,_,rfl,_,rfl,trivial,_,rfl,_,rfl,_,lX,.inr ⟨_,QM,.inr ⟨trivial,n,ps,_,rfl,ok,hn,hB,λc hc=>?_⟩⟩⟩⟩⟩⟩
   obtain rfl:c=false:=by cases c with|false=>rfl|true=>exact absurd (hc.mp rfl) IY
   exact⟨trivial,_,rfl,_,rfl,iq rfl ⟨_,_,_,_,by rw[hT];rfl⟩⟩
  ·rintro β ⟨x4,x5,x6,x7,rfl⟩;exact⟨trivial,rfl,q⟩
end
end jO
namespace L2
open PySem PySem.Spec PySem.SeqAt PyProof.Rows Zp
section
variable {X:Cx}
theorem wQ {A:TF}{E:Sh->Si->Prop}{pins:List (Addr×Obj)}{σ:St}{H1:Hp}{s1:Si}{l1 l2:Addr}{xs ys:List V}{us:List Sh}{Q:Sh->Si->Prop}(I1:Inv X pins σ H1 s1)(rv:Vals [.ref l1,.ref l2] us)(g1:H1 l1=some (.lst xs))(g2:H1 l2=some (.lst ys))
  (q:∀h' z TI TO i1 i2,Zp.Apart z TI TO i1 i2 l1 l2->Wt h' z TI TO .none->UY h' TI (.ref i1) (.ref i2)->UY h' TO .none .none->h'.IsListIter i1 l1 0->h'.IsListIter i2 l2 0->Inv X pins σ H1 {s1 with heap:=h'}->(∀b∈[z,TI,TO,i1,i2],fx X pins H1 b)->Q (.ref z) {s1 with heap:=h'}) :
  S6 (model X.prog X.w) A (call (.type "zip") us) Q E s1:=by
 obtain⟨v1,v2,rfl,e1,e2⟩:∃v1 v2,us=[v1,v2]/\RelV (.ref l1) v1/\RelV (.ref l2) v2:=by
  cases rv with
  |cons a rr=>cases rr with
   |cons b rr=>cases rr;exact⟨_,_,rfl,a,b⟩
 cases e1;cases e2;have LJ:l1<s1.heap.objs.size:=I1.bG.lt g1;have LI:l2<s1.heap.objs.size:=I1.bG.lt g2;obtain⟨Qe,_,p1,_⟩:=I1.list (cE.of g1);obtain⟨qi,_,p2,_⟩:=I1.list (cE.of g2);refine call_zip_2 p1.isList p2.isList λh' y1 y2 y3 y4 y5 y6 y7=>?_;have I2:Inv X pins σ H1 {s1 with heap:=h'}:=I1.kept (t':=s1.toks) y7
 refine q h' _ _ _ _ _ ?_ y1 y2 y3 y4 y5 I2 λb hb=>?_
 ·generalize s1.heap.objs.size=n at LJ LI
  change (l1:Nat)<n at LJ
  change (l2:Nat)<n at LI
  refine⟨?_,λc hc=>?_,λc hc=>?_⟩
  ·have q:∀(i j:Nat),i≠j->(n+i:Nat)≠n+j:=λi j h z=>h (Nat.add_left_cancel z);simp only[S4,Sr,Tt,or_false,not_or,Tv,not_false_eq_true,and_true];exact⟨⟨q 4 2 (by decide),q 4 3 (by decide),q 4 0 (by decide),q 4 1 (by decide)⟩,⟨q 2 3 (by decide),q 2 0 (by decide),q 2 1 (by decide)⟩,⟨q 3 0 (by decide),q 3 1 (by decide)⟩,q 0 1 (by decide)⟩
  ·simp only[Sr,Tt,or_false]at hc;rcases hc with rfl|rfl|rfl|rfl <;> exact S5 (Td LJ (by first|exact Vl _ _|exact Sj _))
  ·simp only[Sr,Tt,or_false]at hc;rcases hc with rfl|rfl|rfl|rfl <;> exact S5 (Td LI (by first|exact Vl _ _|exact Sj _))
 ·have ji:s1.heap.objs.size<=b:=by
   simp only[Sr,Tt,or_false]at hb;rcases hb with rfl|rfl|rfl|rfl|rfl <;> first|exact Vl _ _|exact Sj _
  exact I1.vZ ji (I1.bG.fresh ji)
end
namespace Q
section
variable {X:Cx}{C:Cfg}{p:Bool}{a b:Expr}{φs:bM}{pp pos:Pos}{elts:List Expr}{kk:Nat}{DH:Pos}
def HQ (φs:bM):cg:=λβ R=>φs β λl ks β1=>∃as bs,l=[.lst as,.lst bs]/\R (gb as bs) (fu ks) β1
theorem AO (hm:X.mg "zip" = none) (ha:oT X C p [a,b] φs) (hg:Gl X "zip" := by rfl) (hs:SX [a,b] X.env=(false,eval a X.env)::SX [b] X.env:=by rfl) (lX:(UP pos (SX [b] X.env)).any (·.1)=false:=by rfl) :
  uZ X C p (.Tuple elts kk DH) (.Call (.Name "zip" pp) [a,b] [] pos) (HQ φs):=by
 refine⟨λβ R R' k q=>ha.mono β _ _ (λl ks β1 Im=> by obtain⟨as,bs,e,q⟩ := Im;exact⟨as,bs,e,k _ _ _ q⟩) q,λpins s σ H R I h=>?_⟩
 obtain⟨β,own,sq,h⟩:=h;refine Call_ (eQ I hg hm FI (TN (br (ha.pa pos pins s σ H _ I (rq.of ha sq h λds ks β' vs H1 aB h o1 r1=>(⟨ds,ks,β',aB,h,o1,r1.gz⟩:∃ds ks β' aB,(∃as bs,ds=[.lst as,.lst bs]/\∀J H' aN,Out X C σ H own p β' H' aN->tY X (av C (Wn aN) (fu ks)) J (gb as bs) H'->R J H')/\Out X C σ H own p β' H1 aB/\ah X.prog X.w (av C (Wn aB) (fu ks)) H1 ds vs)))
  λus s1 ⟨vs,H1,I1,rv,h⟩=>?_) hs lX))
 obtain⟨ds,ks,β',aB,⟨as,bs,rfl,q⟩,o1,r1⟩:=h;obtain⟨x,y,rfl,⟨l1,xs,rfl,g1,n1,w1⟩,⟨l2,ys,rfl,g2,n2,w2⟩⟩:=q_ r1;refine wQ I1 rv g1 g2 λh' z TI TO i1 i2 Ap y1 y2 y3 y4 y5 I2 fp=>?_;refine wpAny_pyIter_zip y1 ⟨_,_,_,_,H1,rfl,I2,xb Ap src_list src_list,⟨y1,y2,⟨_,_,y3⟩,y4,y5⟩,fp,?_⟩;exact q _ _ aB o1 (BC false g1 g2 (λ_=>n1) (λ_=>n2) w1 w2)
end
end Q
end L2
namespace jO
open PySem L2 L2.Q
theorem zip_rows {α:Type}{l:List α}{f g:α->Int}:gb (l.map λx=>D.int (f x)) (l.map λx=>D.int (g x))=l.map λx=>D.tup [.int (f x),.int (g x)]:=by
 induction l with
 |nil=>rfl
 |cons a l ih=>rw[Ta,Ta,Ta,<- ih];rfl
theorem B4 (t u:List Int):Um (js t).pd (js u).pd=decide (t=u):=lH t u
theorem Fs:∀(ts us:List (List Int)),Um (gf ts).pd (gf us).pd=decide (ts=us):=λts us=>by
 show Um (.list (D.sj (ts.map js))) (.list (D.sj (us.map js)))=_;rw[fX,fX];simp only[Um];exact gH B4 ts us
theorem pz (ts:List (List Int)):(gf ts).pd.canLay0=true/\(gf ts).pd.depth<=3:=mO λd hd=>by
 obtain⟨l,_,rfl⟩:=Tj.mp hd;exact b8 l
theorem Fy (ts us:List (List Int)):Fz (gf ts) (gf us)=some (.bl (decide (ts=us))):=tK (dS (pz ts)) (dS (pz us)) (Fs ts us)
section
variable {P:So}{w:SI}{K:PySem.W.Frag}{mg:Str->Option Sh}{base:Heap}
theorem aE:aK ["hand","row","table","many","ties","left","fewer","other","begin","times","greater"] ["hand","row","table"] (aw bI):=⟨rfl,rfl,rfl,by decide +kernel,rfl,by decide +kernel,by decide +kernel⟩
theorem Bj {B0 uL} (Ge:O3 K mg B0 uL) {zt lB} (dT:D1 K mg zt lB) {qE jj} (lM:KC K mg qE jj) {mw gn} (v_:JU K mg mw gn) {jy fh} (tJ:Gk K mg jy fh) {dz bT} (fA:D5 K mg dz bT) {d_ cc} (gL:D4 K mg d_ cc) {ee cf} (gN:D7 K mg ee cf) {cO bt} (fw:D6 K mg cO bt) {gh c0} (gM:D9 K mg gh c0) {jw ff} (lL:Gp K mg jw ff) {h_ dO} (mz:D8 K mg h_ dO) (B:Gq mg):aF P w K mg base bB 8 B0 uL ["hand","row","table"] (eE P w fe true jl):=by
 have GT:aF P w K mg base bB 1 _ _ _ (eE P w fe true bu):=iB (fZ dT.F);have Gi:aF P w K mg base bB 4 _ _ _ (dw P w true dX):=pS lM v_ tJ fA gL gN fw gM B;have JR:aF P w K mg base bB 4 _ _ _ (dw P w true eV):=kR lL mz fA gL gN fw gM B.toBs3;refine yt Ge.F aE (λds R Il=> by obtain⟨n,ps,e,_⟩ := Il;subst e;rfl) λcD A outer s H E IO hr=>⟨_,(ai (sv (ab (i:=1)) (dG (n:=2) rfl (aW (ao (i:=3) aE.nd) (aW (ao (i:=4) aE.nd) cM))))
    (ai (vm (i:=5) false ["tie","hand"] [none,some 0] (by rfl) (by decide:(["tie","hand"]:List Str).Nodup) rfl (λ_=>(bp (ab (i:=4)))) (λ_ _ _ _ _ _=>(ao (i:=0) (by decide:(["tie","hand"]:List Str).Nodup))) (λ_ _ _ _ _ _=>(gx (aD af (bD.m kQ) (aY (ih:=1) bu.mono GT (hr.mono (by decide)) dT.m dT.F.kp dT.b (aa ag ae)) ag))) (λ_ _ _ _ _ _=>(ab (i:=0))) aE.nd)
    (ai (a8 (i:=6) (bW (aa (ab (i:=3)) (aa (ab (i:=5)) ae))) aE.nd)
    (ai (a8 (i:=7) (aI eV.mono JR (hr.mono (by decide)) lL.m lL.F.kp lL.b (aa (ab (i:=6)) ae)) aE.nd)
    (ai (bJ (aD af (bD.m kO) (aI dX.mono Gi (hr.mono (by decide)) lM.m lM.F.kp lM.b (aa (ab (i:=6)) (aa (ab (i:=2)) ae))) cX) (aj (aX cX)) aS)
    (ai (di TX rfl (bz B.range (aa (aH aM aA (ab (i:=3)) ag) ae)) (ao (i:=8) aE.nd) (aj (bJ (aD af (bD.m (iL hr.units)) (F0 ["one","more"] [none,none] (by rfl) (by decide:(["one","more"]:List Str).Nodup) rfl (AO B.zip (aa (aO af bf (ab (i:=7)) (ab (i:=8))) (aa (aO af bf (ab (i:=2)) (ab (i:=8))) ae))) (λ_ _ _ _ _ _=>(dG (n:=2) rfl (aW (ao (i:=0) (by decide:(["one","more"]:List Str).Nodup)) (aW (ao (i:=1) (by decide:(["one","more"]:List Str).Nodup)) cM)))) (λ_ _ _ _ _ _=>(gx (aD af (bD.m kQ) (ab (i:=0)) (ab (i:=1))))) (λ_ _ _ _ _ _=>ag)) (bF ae)) (aj (aX cX)) aS)))
    (ai (bJ (aD af (bD.m (iL hr.units)) (aI dX.mono Gi (hr.mono (by decide)) lM.m lM.F.kp lM.b (aa (ab (i:=1)) (aa (ab (i:=7)) ae))) (kq af (bD.m (cC hr.units)) (ab (i:=7)) (ab (i:=2)))) (aj (aX cX)) aS)
    (ai (a8 (i:=9) (aH aM aA ag (aY (ih:=0) bu.mono GT (hr.mono (by decide)) dT.m dT.F.kp dT.b (aa ag ae))) aE.nd)
    (ai (vm (i:=10) false ["line","times"] [none,some 9] (by rfl) (by decide:(["line","times"]:List Str).Nodup) rfl (λ_=>(bp (ab (i:=2)))) (λ_ _ _ _ _ _=>(ao (i:=0) (by decide:(["line","times"]:List Str).Nodup))) (λ_ _ _ _ _ _=>dc) (λ_ _ _ _ _ _=>(P_ ["number","times"] [none,some 1] (by rfl) (by decide:(["number","times"]:List Str).Nodup) rfl (bp (ab (i:=0))) (λ_ _ _ _ _ _=>(ao (i:=0) (by decide:(["number","times"]:List Str).Nodup))) (λ_ _ _ _ _ _=>dc) (λ_ _ _ _ _ _=>(aH af (bD.m A9) (ab (i:=1)) (ab (i:=0)))))) aE.nd)
    (aj (aX (kq af (bD.m Bb) (aI dX.mono Gi (hr.mono (by decide)) lM.m lM.F.kp lM.b (aa (ab (i:=1)) (aa (ab (i:=10)) ae))) cX)))))))))))),λds R h=>?_⟩
 obtain⟨n,ps,rfl,ok,hn,q⟩:=h;have hp:∀p∈ps,p.1<p.2:=λp h=>(ok.lt p h).1;refine⟨_,rfl,_,rfl,rfl,_,_,rfl,_,_,rfl,rfl,?_⟩;refine⟨_,rfl,_,rfl,trivial,?_⟩;refine⟨λi β o=>i<=ps.length/\(∃x0,β=[x0,some (.hand fe)])/\∃qs:List (Nat×Nat),qs.Sublist (ps.take i)/\o=qs.map λp=>kD (tI p),⟨SH _,⟨_,rfl⟩,[],List.Sublist.refl _,rfl⟩,?_,?_⟩
 ·rintro i d β o hd ⟨hi,⟨x0,rfl⟩,qs,hq,rfl⟩;rw[Su]at hd;obtain⟨p,Ox,rfl⟩:=SJ.mp hd;have zf:=(Sz.mp Ox).1;have BK:(qs.map λp=>kD (tI p)).length<SG:=by
   have h1:=hq.length_le;have h2:=ok.sm;rw[SU]at h1;rw[Sg];exact mL (by lia)
  refine⟨rfl,trivial,rfl,trivial,3,rfl,by decide,by decide,λr h0 h1=>⟨trivial,_,rfl,_,rfl,?_⟩⟩
  by_cases Ih:0<r
  ·exact sW (decide_eq_true Ih) ⟨_,rfl,rfl,BK,zf,⟨_,rfl⟩,qs++[p],by rw[TR,Ox];exact hq.append (.refl _),by rw[S9];rfl⟩
  ·exact iq (decide_eq_false Ih) ⟨zf,⟨_,rfl⟩,qs,by rw[TR];exact hq.trans (List.sublist_append_left _ _),rfl⟩
 ·rintro β o ⟨_,⟨x0,rfl⟩,qs,hq,rfl⟩;rw[Sg,Ui]at hq;have N7:oU n qs:=ok.sub hq;have hs:∀p∈qs,p∈ps:=λp h=>hq.subset h;have RQ:∀p∈qs,p.1<p.2:=λp h=>hp p (hs p h);refine⟨⟨rfl,trivial⟩,_,rfl,trivial,_,rfl,trivial,dB (by show 2<=_;lia),.inr ?_⟩
  refine⟨_,rfl,trivial,n,qs,rfl,N7,?_⟩;rw[<- o4];refine⟨_,rfl,trivial,_,rfl,trivial,n,qs,cR n (tW ps w1),rfl,N7,hn,iA hn,λc hc=>?_⟩;obtain rfl:c=true:=hc.mpr (jD hp hs);refine⟨trivial,_,rfl,_,rfl,iq rfl ?_⟩;refine⟨_,rfl,trivial,_,rfl,trivial,(n:Int)+1,rfl,by lia,by lia,trivial,?_⟩
  rw[show ((n:Int)+1).toNat=n+1 by lia]
  refine⟨λ_ β=>∃x4 x5 x6 x8 x9 Aj,β=[some (.hand fe),some (.val false (jG n ps)),some (.val false (gf (cR n (tW ps w1)))),some (.val true (.int n)),x4,x5,x6,some (.val true (gf (cR n (tW qs w1)))),x8,x9,Aj],⟨_,_,_,_,_,_,rfl⟩,?_,?_⟩
  ·rintro b d β hd ⟨x4,x5,x6,x8,x9,Aj,rfl⟩;obtain⟨hb,rfl⟩:=bK hd;rw[Int.zero_add];refine⟨_,rfl,trivial,_,rfl,_,yL (by lia),.inr ⟨trivial,_,rfl,trivial,_,rfl,_,yL (by lia),.inr ⟨trivial,_,_,rfl,trivial,?_⟩⟩⟩
   have eZ:gb (List.map D.int (gY n qs b)) (List.map D.int (gY n ps b))=(SV (n+1-b)).map λl=>D.tup [.int (tW qs w1 l b),.int (tW ps w1 l b)]:=by
    unfold gY;rw[Tz,Tz];exact zip_rows
   rw[eZ];refine yE (λ_=>false) (λ_=>.int 1) trivial (by rw[Tc];exact dB (by lia)) (λl hl y0 y1 o J ho j1 j2=>?_) ?_
   ·exact⟨_,rfl,rfl,_,_,rfl,_,_,rfl,rfl,_,rfl,trivial,_,rfl,_,rfl,_,rfl,iq (decide_eq_false (by have:=xm hp hs l b;lia)) (j2 rfl _ _)⟩
   rw[List.filter_eq_nil_iff.mpr λ_ _=>T4];exact⟨trivial,SH _,_,fP (b8 []),_,rfl,iq rfl ⟨_,_,_,_,_,_,rfl⟩⟩
  ·rintro β ⟨x4,x5,x6,x8,x9,Aj,rfl⟩;refine⟨_,rfl,trivial,_,rfl,trivial,n,ps,cR n (tW qs w1),rfl,ok,hn,iA hn,λc hc=>?_⟩;obtain rfl:c=decide (cR n (tW qs w1)=cR n (tW ps w1)):=by
    have h:=hc.trans (DJ hp hs);cases c with
    |true=>exact(decide_eq_true (h.mp rfl)).symm
    |false=>exact(decide_eq_false λz=>by cases h.mpr z).symm
   refine⟨trivial,_,rfl,trivial,_,rfl,_,Fy _ _,_,fP (xB _),_,rfl,iq rfl ?_⟩;refine⟨trivial,rfl,trivial,rfl,trivial,9,rfl,by decide,by decide,λe QF QE=>⟨_,rfl,?_⟩⟩
   refine⟨_,rfl,_,rfl,trivial,?_⟩;refine fH (λ_=>true) (λl=>js (l.map λx=>(2+e)*x)) trivial (by rw[nR];exact dB (by lia)) (λl hl y0 o J ho h1 _=>?_) ?_
   ·refine⟨_,rfl,_,rfl,trivial,?_⟩;have e3:js (l.map λx=>(2+e)*x)=.lst (l.map λx=>.int ((2+e)*x)):=by unfold js;rw[Tz];rfl
    rw[e3]at h1;have RX:l.length<=200:=(iA (n:=n) (T:=tW ps w1) hn).2 l hl;refine fH (λ_=>true) (λx=>.int ((2+e)*x)) trivial (dB (by lia)) (λx hx z0 o2 J2 MG h2 _=>?_) ?_
    ·exact⟨_,rfl,trivial,_,rfl,_,Fx (.inl ⟨by lia,by lia⟩),trivial,MG,h2 rfl _⟩
    rw[cN];exact⟨trivial,ho,h1 rfl _⟩
   rw[cN];have eG:D.lst ((cR n (tW ps w1)).map λl=>js (l.map λx=>(2+e)*x))=gf (cR n λl i=>(2+e)*tW ps w1 l i):=by
    unfold gf cR;rw[Tz,Tz]
    congr 1
    refine Tw λi _=>?_;show js (List.map _ (List.map _ _))=js _;rw[Tz];rfl
   rw[eG];refine⟨_,rfl,trivial,_,rfl,trivial,n,ps,_,rfl,ok,hn,iA hn,λc hc=>?_⟩;obtain rfl:c=true:=hc.mpr (vb hp (by lia))
   exact⟨trivial,_,rfl,trivial,rfl,q⟩
end
section
variable {P:So}{w:SI}{K:PySem.W.Frag}{mg:Str->Option Sh}{base:Heap}
theorem iF:aK ["script","cell","hand","row","table"] ["script"] (aw kg):=⟨rfl,rfl,rfl,by decide +kernel,rfl,by decide +kernel,by decide +kernel⟩
def xv (K:PySem.W.Frag):Sp:=λvs H Q _=>∃(a:Addr) (ns:List Int),vs=[.ref a]/\cE K H a (ns.map V.int)/\ns.length<=63/\∀H',Q (.bl true) H'
def JL (β:Q.a7):Prop:=∃y0 y1 y2 y3 y4:Option Q.B,β=[y0,y1,y2,y3,y4]
theorem Eu {f:Addr} {fd:Tn} (F:Ah K "law" "law" kg f fd) (B:Gq mg) {qE jj} (lM:KC K mg qE jj) {mw gn} (v_:JU K mg mw gn) {jy fh} (tJ:Gk K mg jy fh) {dz bT} (fA:D5 K mg dz bT) {d_ cc} (gL:D4 K mg d_ cc) {ee cf} (gN:D7 K mg ee cf) {cO bt} (fw:D6 K mg cO bt) {gh c0} (gM:D9 K mg gh c0) {v7 nr} (Dc:NM K mg v7 nr) {qF jk} (uR:KD K mg qF jk) {jw ff} (lL:Gp K mg jw ff) {h_ dO} (mz:D8 K mg h_ dO) {mx gq} (wb:JV K mg mx gq) {jz fk} (tM:Gm K mg jz fk) {jx fg} (tE:Gn K mg jx fg) {QV Nc} (dH:Ru K mg QV Nc) {zt lB} (dT:D1 K mg zt lB) {C6 qD} (dA:D0 K mg C6 qD) {F_ v3} (dI:D2 K mg F_ v3) {Kq BY} (dR:D3 K mg Kq BY) {BZ uK} (Gb:O4 K mg BZ uK) {B0 uL} (Ge:O3 K mg B0 uL):aF P w K mg base bB 12 f fd ["script"] (xv K):=by
 have GH:aF P w K mg base bB 1 _ _ _ (dw P w true qJ):=Fl (Bh dH.F ⟨B.max,B.min,B.int⟩);have GT:aF P w K mg base bB 1 _ _ _ (eE P w fe true bu):=iB (fZ dT.F);have GR:aF P w K mg base bB 4 _ _ _ (eE P w fe true zu):=Et dR dT dA dI B.toBs;have JR:aF P w K mg base bB 4 _ _ _ (dw P w true eV):=kR lL mz fA gL gN fw gM B.toBs3;have Ri:aF P w K mg base bB 8 _ _ _ (eE P w fe true jl):=Be Gb dT lM v_ tJ fA gL gN fw gM Dc uR lL mz wb tM tE B;have Ro:aF P w K mg base bB 8 _ _ _ (eE P w fe true jl):=Bj Ge dT lM v_ tJ fA gL gN fw gM lL mz B;refine F.ok iF (λvs H Q E h=>?_) (λcD A outer s H vs Qk E hr h=>?_)
 ·obtain⟨a,ns,rfl,_⟩:=h;rfl
 ·obtain⟨a,ns,rfl,hS,hlen,k⟩:=h;have MT:∀b:Addr,¬ (λ_=>False) b:=λb z=>z;obtain⟨ψ,hb,hψ⟩:∃ψ,Q.u0 (mB bB P w K mg base _ "law" (aw kg) f cD A outer s H E).CG ⟨H,λ_=>False,true,λ_=>False⟩ (match (dQ kg)with | .For _ _ b _ _::_=>b|_=>[]) ψ /\
    ∀(c:Int) (x0 x2 x3 x4:Option Q.B),ψ {nx:=JL,rt:=λd _=>d=.bl true,bk:=JL,ct:=JL} [x0,some (.val true (.int c)),x2,x3,x4]:=by
   refine⟨_,(ai (AY (i:=2) fe MT (λ_=>(aI qJ.mono GH (hr.mono (by decide)) dH.m dH.F.kp dH.b (aa (ab (i:=1)) ae))) iF.nd)
    (ai (a8 (i:=3) (aY (ih:=2) zu.mono GR (hr.mono (by decide)) dR.m dR.F.kp dR.b ae) iF.nd)
    (dF (bJ (tX.t (oi (aD af (bD.m kQ) (aO af bf (ab (i:=3)) ag) ag) (kh (aD af (bD.m (cC hr.units)) (aY (ih:=2) bu.mono GT (hr.mono (by decide)) dT.m dT.F.kp dT.b (aa ag ae)) ag)))) (aj (a8 (i:=3) (bW (aa ag (aa (F0 ["tie"] [none] (by rfl) (by decide:(["tie"]:List Str).Nodup) rfl (bp (aO af bf (ab (i:=3)) ag)) (λ_ _ _ _ _ _=>(ao (i:=0) (by decide:(["tie"]:List Str).Nodup))) (λ_ _ _ _ _ _=>(gx (aD af (bD.m gA) (aO af bf (ab (i:=0)) ag) ag))) (λ_ _ _ _ _ _=>(ab (i:=0)))) ae))) iF.nd)) aS)
    (ai (a8 (i:=4) (aI eV.mono JR (hr.mono (by decide)) lL.m lL.F.kp lL.b (aa (ab (i:=3)) ae)) iF.nd)
    (aj (bJ (tX.t (oh (g_ (jI (aY (ih:=2) jl.mono Ri (hr.mono (by decide)) Gb.m Gb.F.kp Gb.b (aa (ab (i:=3)) (aa (ab (i:=4)) ae))))) (jH (g_ (jI (aY (ih:=2) jl.mono Ro (hr.mono (by decide)) Ge.m Ge.F.kp Ge.b (aa (ab (i:=3)) (aa (ab (i:=4)) ae)))))))) (aj (aX cX)) aS)))))),λc x0 x2 x3 x4=>?_⟩
   refine⟨_,rfl,trivial,c,rfl,λns hk=>⟨trivial,(by show 2<5;decide),ns,rfl,hk,?_⟩⟩
   refine⟨rfl,rfl,trivial,rfl,λn ts n0 n1 dr=>?_⟩;obtain⟨hl,tr,sr,nd⟩:=dr;obtain⟨m,ps,ok,en,R_,er⟩:=AH n0 (by lia) (by lia) tr nd
   rw[er];have hm:m<=40:=by lia
   refine⟨λβ=>∃(m:Nat) (ps:List (Nat×Nat)) (x4:Option Q.B),β=[x0,some (.val true (.int c)),some (.hand fe),some (.val true (jG m ps)),x4]/\oU m ps/\m<=40,?_,?_⟩
   ·refine⟨_,rfl,trivial,_,rfl,trivial,_,rfl,_,rfl,?_⟩
    by_cases OS:(14:Int)<(m:Int)
    ·refine sW (decide_eq_true OS) ⟨rfl,trivial,rfl,trivial,2,rfl,by decide,by decide,λr r0 r1=>⟨trivial,_,b7 r 0,_,rfl,?_⟩⟩
     by_cases Ih:r=0
     ·refine sW (decide_eq_true Ih) ⟨trivial,_,rfl,trivial,_,rfl,.inr ⟨_,rfl,trivial,?_⟩⟩;refine fH (λp:Nat×Nat=>decide (p.2<14)) (λp=>kD (tI p)) trivial (dB (by have:=ok.sm;lia)) (λp hp y0 o J ho j1 j2=>?_) ?_
      ·refine⟨_,rfl,trivial,_,rfl,trivial,_,rfl,_,rfl,?_⟩
       by_cases IU:(p.2:Int)<14
       ·exact sW (decide_eq_true IU) ⟨_,rfl,rfl,ho,j1 (decide_eq_true (by lia)) _⟩
       ·exact iq (decide_eq_false IU) (j2 (decide_eq_false (by lia)) _)
      refine⟨trivial,o9,14,ps.filter λp=>decide (p.2<14),_,rfl,⟨λp hp=>?_,ok.nd.sublist List.filter_sublist,by lia,Ts (Uy _ _) ok.sm⟩,by lia⟩
      obtain⟨h1,h2⟩:=Ua.mp hp;exact⟨(ok.lt p h1).1,of_decide_eq_true h2⟩
     ·exact iq (decide_eq_false Ih) ⟨m,ps,_,rfl,ok,hm⟩
    ·exact iq (decide_eq_false OS) ⟨m,ps,_,rfl,ok,hm⟩
   ·rintro β ⟨m,ps,x4,rfl,ok,hm⟩;refine⟨_,rfl,trivial,m,ps,rfl,ok,?_⟩;rw[<- o4];exact⟨rfl,_,rfl,trivial,_,rfl,trivial,rfl,trivial,m,ps,rfl,ok,hm,_,rfl,iq rfl ⟨rfl,_,rfl,trivial,_,rfl,trivial,rfl,trivial,m,ps,rfl,ok,hm,_,rfl,iq rfl ⟨_,_,_,_,_,rfl⟩⟩⟩
  refine⟨_,dh (xV TX rfl (oj (cL yo (si (b5 (cL om a6 a6) eM)) (pO uf (pv 0) ur (uq a6)))) (Q.ao (C:=⟨H,λ_=>False,true,λ_=>False⟩) (i:=1) iF.nd).pg hb.ps) (g6 (iI CC)),?_⟩;obtain⟨ms,em,hm⟩:=we ns none (some 4);refine⟨_,_,rfl,rfl,yb,(by show 1<=SG;decide),λp1 IV=>⟨_,rfl,_,rfl,a,_,rfl,(au.new IV).seq hS,λp2 Kf=>?_⟩⟩
  have P5:p1≠p2:=b_ ar Kf;refine⟨p1,p2,_,_,rfl,rfl,(by rw[ak P5];exact ar),ar,(by rw[em,Sg,TH,Vg];lia),λl hl=>⟨l,rfl,⟨_,cE.of ar⟩,?_⟩⟩
  rw[em];rw[em]at hl;have sm:au H (upd (upd (upd H p1 (.lst [V.int (10 ^ (18:Int).toNat)])) p2 (.lst (ms.map V.int))) l (.lst ([V.int (10 ^ (18:Int).toNat)]++ms.map V.int))):=((au.new IV).trans (au.new (by rw[em]at *;exact Kf))).trans (au.new hl)
  have ng:(upd (upd (upd H p1 (.lst [V.int (10 ^ (18:Int).toNat)])) p2 (.lst (ms.map V.int))) l (.lst ([V.int (10 ^ (18:Int).toNat)]++ms.map V.int))) l=some (.lst (((10 ^ (18:Int).toNat)::ms).map V.int)):=ar;generalize (upd (upd (upd H p1 (.lst [V.int (10 ^ (18:Int).toNat)])) p2 (.lst (ms.map V.int))) l (.lst ([V.int (10 ^ (18:Int).toNat)]++ms.map V.int)))=H1 at sm ng ⊢
  generalize ((10 ^ (18:Int).toNat)::ms)=cs at ng;let X:Cx:=(mB bB P w K mg base ["script","cell","hand","row","table"] "law" (aw kg) f cD A outer s H E).CG
  let C:Q.Cfg:=⟨H,λ_=>False,true,λ_=>False⟩
  have it:tY X (λ_=>False) (KA K l) (cs.map D.int) H1:=lj ng (λz=>z) (cb cs);have F2:=it (λb=>(λ_=>False) b\/H1 b=none) λb z=>z;have s':Q.bS P w C.z (L2.start ["script","cell","hand","row","table"] [.ref a]) H1 (UR 5 none) (λ_=>[]):=Ax (by rfl) sm
  generalize QG:cs.map D.int=ds at F2;have hint:∀d∈ds,∃c:Int,d=.int c:=λd hd=>by
   rw[<- QG]at hd;obtain⟨c,_,rfl⟩:=Tj.mp hd;exact⟨c,rfl⟩
  refine⟨λi m σ H'=>i<=ds.length/\m=ds.length-i/\∃β,Q.SB X C (H1,Q.Wn λ_=>[]) σ H' β/\JL β,⟨_,SH _,rfl,_,⟨_,s',Sn.refl⟩,⟨_,_,_,_,_,rfl⟩⟩,?_⟩;rintro i m σ2 H2 ⟨hi,rfl,β2,⟨a9,s2,n2⟩,⟨y0,y1,y2,y3,y4,rfl⟩⟩;obtain⟨cz,oA⟩:=F2 i H2 (n2.k.mono λb z=>z.imp (λIk=> by obtain⟨_,q⟩ := Ik;exact(nomatch q)) id)
  by_cases fz:i<ds.length
  ·right
   have hd:ds[i]?=some ds[i]:=Sk fz;obtain⟨go,yl⟩:=cz _ hd;obtain⟨c,hc⟩:=hint ds[i] (Uu fz);refine⟨go,λσ' H'=>∃β,Q.SB X C (H1,Q.Wn λ_=>[]) σ' H' β/\JL β,λσ' H' Ij=> by obtain⟨β',rX,sY⟩ := Ij;exact⟨_,by lia,fz,rfl,β',rX,sY⟩,λx H3 y=>?_⟩
   obtain⟨s3,r3⟩:=yl x H3 y;rw[hc]at r3;refine⟨a9,_,.int c,.own,s2.same s3,ay.flat rfl r3,λσ4 pR s4 w4 _=>?_⟩;exact⟨(H1,Q.Wn λ_=>[]),{nx:=JL,rt:=λd _=>d=.bl true,bk:=JL,ct:=JL},_,⟨pR,s4,Q.gW (n2.same s3) w4⟩,hψ c y0 y2 y3 y4,⟨λσ5 H5 β5 vj q5=>⟨β5,vj,q5⟩,λσ5 H5 β5 d5 v5 vj r5 q5=>by
    subst q5;cases (show v5=V.bl true from GU r5)
    exact k _,λσ5 H5 β5 vj q5=>k _,λσ5 H5 β5 vj q5=>⟨β5,vj,q5⟩⟩⟩
  ·left
   have e:i=ds.length:=by lia
   subst e;exact⟨oA (Sj _),k _⟩
end
theorem jt {α:Type}{P:List α->Prop}(h:∀a,P [a]):∀us:List α,us.length=1->P us:=λus e=>by
 obtain⟨a,rfl⟩:=List.length_eq_one_iff.mp e;exact h a
theorem sM {α:Type}{P:List α->Prop}(h:∀a b,P [a,b]):∀us:List α,us.length=2->P us:=λus e=>by
 cases us with
 |nil=>cases e
 |cons a us=>exact jt (P:=λus=>P (a::us)) (h a) us (V1 e)
theorem vQ {α:Type}{P:List α->Prop}(h:∀a b c,P [a,b,c]):∀us:List α,us.length=3->P us:=λus e=>by
 cases us with
 |nil=>cases e
 |cons a us=>exact sM (P:=λus=>P (a::us)) (h a) us (V1 e)
theorem LO {α:Type}{P:List α->Prop}(h:∀a b c d,P [a,b,c,d]):∀us:List α,us.length=4->P us:=λus e=>by
 cases us with
 |nil=>cases e
 |cons a us=>exact vQ (P:=λus=>P (a::us)) (h a) us (V1 e)
theorem Bz {α:Type}{P:List α->Prop}(h:∀a b c d e,P [a,b,c,d,e]):∀us:List α,us.length=5->P us:=λus e=>by
 cases us with
 |nil=>cases e
 |cons a us=>exact LO (P:=λus=>P (a::us)) (h a) us (V1 e)
abbrev vS (x:Str)(t:Nat):Sh:=.str x t
abbrev kE (P:Params)(x:Str)(t:Nat)(v:Sh):DictEntry:=⟨PyData.keyHash P x,.str x t,v⟩
abbrev kC (n:Str)(t l p r8 Qc PJ:Nat)(Pb Pa O_:Sh)(PH Qb Pm:Nat):Obj:={cls:=.type "code",data:=.fields #[vS n t,vS n (t+1),vS "/claim/cut.py" (t+2),.int l 0,.int p 0,.int 0 0,.int 0 0,.int 3 0,.ref r8,.bool true,.int Qc 0,.ref PJ,Pb,Pa,O_,.ref PH,.int Qb 0,.int l 0,vS "/claim/cut.py" Pm]}
abbrev Ka (st:Stmt)(x m:Str)(t c:Nat):Tn:=PySem.W.fnOf x x (jL st) (dQ st) (aw st) .none .none .none (vS m t) none (.ref c) .none
abbrev kF (st:Stmt)(x m:Str)(t c:Nat):Obj:={cls:=.type "function",data:=.func (Ka st x m t c)}
theorem zm {K:PySem.W.Frag}{x m:Str}{st:Stmt}{t c f:Nat}(l:K.lookup f=some (kF st x m t c))(cd:PySem.W.codeIn K (.ref c) x=true)(k:PySem.W.keepIn K (.ref f)=true):Ah K x x st f (Ka st x m t c):=Fq l cd k
theorem bU {K:PySem.W.Frag}{h:Heap}{mg:Str->Option Sh}{x m:Str}{st:Stmt}{t c f:Nat}{ps:List Str}(X:K.In h)(G:h.Ns UA mg)(l:K.lookup f=some (kF st x m t c))(cd:PySem.W.codeIn K (.ref c) x=true)(k:PySem.W.keepIn K (.ref f)=true)
  (a:PySem.W.nsIn K UA x=some (some (.ref f))) (b:∀us:List Sh,us.length=ps.length->bindArgs (Ka st x m t c) ⟨us,[]⟩=pure (ps.zip us)):Df K mg x st ps f (Ka st x m t c):=⟨zm l cd k,.all b,PySem.W.mg_of X G a⟩
def KK:Params->PySem.W.Frag:=λP=>[(3,{cls:=.type "dict",data:=.dict #[kE P "__name__" 165 (vS "law_archrow_k14_whole_papers_and_tables" 344),kE P "__doc__" 166 .none,kE P "__package__" 167 .none,kE P "__loader__" 168 (.builtin "__main__.__loader__#opaque"),kE P "__spec__" 169 .none,kE P "__annotations__" 170 (.ref 6),kE P "__builtins__" 171 (.ref 4),kE P "__file__" 173 (vS "/claim/cut.py" 172),kE P "__cached__" 174 .none,kE P "ArchError" 206 (.ref 24),kE P "NoStretch" 222 (.ref 37),kE P "stretches_rising" 230 (.ref 44),kE P "partners_of" 236 (.ref 49),kE P "parts_left" 245 (.ref 56),kE P "has_shape" 251 (.ref 61),kE P "greatest_table" 257 (.ref 66),kE P "paper_holds" 263 (.ref 71),kE P "number_with" 274 (.ref 78),kE P "least_number" 280 (.ref 83),kE P "best_choices" 286 (.ref 88),kE P "first_greatest" 303 (.ref 95),kE P "most_ties" 312 (.ref 102),kE P "most_of" 322 (.ref 109),kE P "table_of" 329 (.ref 116),kE P "paper_shows" 337 (.ref 123),kE P "one_each" 343 (.ref 128),kE P "_law_hand" 352 (.ref 135),kE P "_law_take" 361 (.ref 142),kE P "_law_arcs" 373 (.ref 149),kE P "_law_ties" 379 (.ref 154),kE P "_law_row" 387 (.ref 161),kE P "_law_table_right" 393 (.ref 166),kE P "_law_fewer_right" 399 (.ref 171),kE P "law" 405 (.ref 176)] 34}),
 (43,kC "stretches_rising" 225 7 1 40 181 41 .none .none .none 42 228 229),
 (44,kF bw "stretches_rising" "archrow.stretches" 223 43),
 (48,kC "partners_of" 231 9 1 45 181 46 .none .none .none 47 234 235),
 (49,kF cF "partners_of" "archrow.stretches" 223 48),
 (55,kC "parts_left" 237 15 3 50 181 51 .none (.ref 52) (.ref 53) 54 243 244),
 (56,kF c5 "parts_left" "archrow.stretches" 223 55),
 (60,kC "has_shape" 246 19 2 57 181 58 .none .none .none 59 249 250),
 (61,kF dD "has_shape" "archrow.stretches" 223 60),
 (65,kC "greatest_table" 252 21 2 62 181 63 .none .none .none 64 255 256),
 (66,kF bN "greatest_table" "archrow.stretches" 223 65),
 (70,kC "paper_holds" 258 28 3 67 181 68 .none .none .none 69 261 262),
 (71,kF cH "paper_holds" "archrow.stretches" 223 70),
 (77,kC "number_with" 264 36 5 72 181 73 .none (.ref 74) (.ref 75) 76 272 273),
 (78,kF cI "number_with" "archrow.stretches" 223 77),
 (82,kC "least_number" 275 38 5 79 181 80 .none .none .none 81 278 279),
 (83,kF cm "least_number" "archrow.stretches" 223 82),
 (87,kC "best_choices" 281 41 5 84 181 85 .none .none .none 86 284 285),
 (88,kF cn "best_choices" "archrow.stretches" 223 87),
 (94,kC "first_greatest" 287 47 5 89 181 90 .none (.ref 91) (.ref 92) 93 301 302),
 (95,kF bO "first_greatest" "archrow.stretches" 223 94),
 (101,kC "most_ties" 306 60 1 96 181 97 .none (.ref 98) (.ref 99) 100 310 311),
 (102,kF dC "most_ties" "archrow.kept" 304 101),
 (108,kC "most_of" 313 62 3 103 181 104 .none (.ref 105) (.ref 106) 107 320 321),
 (109,kF fS "most_of" "archrow.kept" 304 108),
 (115,kC "table_of" 323 67 1 110 181 111 .none (.ref 112) (.ref 113) 114 327 328),
 (116,kF eF "table_of" "archrow.kept" 304 115),
 (122,kC "paper_shows" 330 69 2 117 181 118 .none (.ref 119) (.ref 120) 121 335 336),
 (123,kF cG "paper_shows" "archrow.kept" 304 122),
 (127,kC "one_each" 338 71 1 124 181 125 .none .none .none 126 341 342),
 (128,kF eI "one_each" "archrow.kept" 304 127),
 (134,kC "_law_hand" 346 74 1 129 181 130 .none (.ref 131) (.ref 132) 133 350 351),
 (135,kF df "_law_hand" "law_archrow_k14_whole_papers_and_tables" 344 134),
 (141,kC "_law_take" 353 76 2 136 181 137 .none (.ref 138) (.ref 139) 140 359 360),
 (142,kF de "_law_take" "law_archrow_k14_whole_papers_and_tables" 344 141),
 (148,kC "_law_arcs" 362 83 2 143 181 144 .none (.ref 145) (.ref 146) 147 371 372),
 (149,kF eK "_law_arcs" "law_archrow_k14_whole_papers_and_tables" 344 148),
 (153,kC "_law_ties" 374 93 2 150 181 151 .none .none .none 152 377 378),
 (154,kF eJ "_law_ties" "law_archrow_k14_whole_papers_and_tables" 344 153),
 (160,kC "_law_row" 380 115 1 155 181 156 .none (.ref 157) (.ref 158) 159 385 386),
 (161,kF fT "_law_row" "law_archrow_k14_whole_papers_and_tables" 344 160),
 (165,kC "_law_table_right" 388 120 3 162 181 163 .none .none .none 164 391 392),
 (166,kF bH "_law_table_right" "law_archrow_k14_whole_papers_and_tables" 344 165),
 (170,kC "_law_fewer_right" 394 137 3 167 181 168 .none .none .none 169 397 398),
 (171,kF bI "_law_fewer_right" "law_archrow_k14_whole_papers_and_tables" 344 170),
 (175,kC "law" 400 152 1 172 181 173 .none .none .none 174 403 404),
 (176,kF kg "law" "law_archrow_k14_whole_papers_and_tables" 344 175)]
abbrev HK:PySem.W.Hook:=PySem.W.kHook KK [3,43,44,48,49,55,56,60,61,65,66,70,71,77,78,82,83,87,88,94,95,101,102,108,109,115,116,122,123,127,128,134,135,141,142,148,149,153,154,160,161,165,166,170,171,175,176] (λ_=>by kernel_rfl)
def view:So:={PySem.Challenge.pw_archrow_k14_whole_papers_and_tables with main:={PySem.Challenge.pw_archrow_k14_whole_papers_and_tables.main with body:=[top 1,top 2,top 4,top 5,top 6,top 7,top 8,top 9,top 10,top 11,top 12,top 13,top 15,top 16,top 17,top 18,top 19,top 21,top 22,top 23,top 24,top 25,top 26,top 27,top 28]}}
theorem left:PySem.W.LeftO PySem.Challenge.pw_archrow_k14_whole_papers_and_tables view [] (λs=>PySem.W.xlAt view [] s&&PySem.W.recOk (PySem.W.RowW.records PySem.Challenge.rw_archrow_k14_whole_papers_and_tables.row.toRowW) s) HK.obs HK.val 2314:=λw=>by kernel_rfl
theorem all_mk {l:PySem.W.OpenLaw} (w:SI) (mg:Str->Option Sh) (fa:Addr) (h:Heap) (X:(KK w.params).In h) (G:h.Ns UA mg) (QD:mg "law" = some (.ref fa))   :∃fd:Tn,(∀(s:Si) (v:Sh),BindsTo s fd ⟨[v],[]⟩ [("script",v)])/\∀base:Heap,(KK w.params).In base->base.Ns UA mg->aF l.prog w (KK w.params) mg base bB 12 fa fd ["script"] (xv (KK w.params)):=by
 have e:=QD.symm.trans (PySem.W.mg_of X G (v:=.ref 176) (by kernel_rfl))
 cases e;have Ht:=PySem.W.mg_none_of X G (n:="max") (by kernel_rfl)
 have Hr:=PySem.W.mg_none_of X G (n:="min") (by kernel_rfl)
 have Hv:=PySem.W.mg_none_of X G (n:="int") (by kernel_rfl)
 have Bv:=PySem.W.mg_none_of X G (n:="range") (by kernel_rfl)
 have yA:=PySem.W.mg_none_of X G (n:="sorted") (by kernel_rfl)
 have Hq:=PySem.W.mg_none_of X G (n:="set") (by kernel_rfl)
 have Hu:=PySem.W.mg_none_of X G (n:="len") (by kernel_rfl)
 have EA:=PySem.W.mg_none_of X G (n:="list") (by kernel_rfl)
 have oz:=PySem.W.mg_none_of X G (n:="isinstance") (by kernel_rfl)
 have Bu:=PySem.W.mg_none_of X G (n:="tuple") (by kernel_rfl)
 have Ho:=PySem.W.mg_none_of X G (n:="str") (by kernel_rfl)
 have EB:=PySem.W.mg_none_of X G (n:="bool") (by kernel_rfl)
 have Hm:=PySem.W.mg_none_of X G (n:="zip") (by kernel_rfl)
 have pX:=PySem.W.mg_none_of X G (n:="enumerate") (by kernel_rfl)
 have Hn:=PySem.W.mg_none_of X G (n:="sum") (by kernel_rfl)
 have Hw:=PySem.W.mg_none_of X G (n:="any") (by kernel_rfl)
 have B:=(⟨(⟨⟨⟨Ht,Hr,Hv,Bv,yA,Hq,Hu,EA⟩,oz,Bu,Ho,EB,Hm,pX⟩,Hn⟩:Bs3 mg),Hw⟩:Gq mg);exact⟨_,λs v=>.of_eq rfl,λbase _ _=>Eu (zm (x:="law") (m:="law_archrow_k14_whole_papers_and_tables") (st:=kg) (t:=344) (c:=175) (f:=176) (by kernel_rfl) (by kernel_rfl) (by kernel_rfl)) B (bU X G (x:="paper_shows") (m:="archrow.kept") (st:=cG) (t:=304) (c:=122) (f:=123) (ps:=["row","paper"]) (by kernel_rfl) (by kernel_rfl) (by kernel_rfl) (by kernel_rfl) (sM λ_ _=>rfl))
  (bU X G (x:="paper_holds") (m:="archrow.stretches") (st:=cH) (t:=223) (c:=70) (f:=71) (ps:=["row","worth","paper"]) (by kernel_rfl) (by kernel_rfl) (by kernel_rfl) (by kernel_rfl) (vQ λ_ _ _=>rfl))
  (bU X G (x:="has_shape") (m:="archrow.stretches") (st:=dD) (t:=223) (c:=60) (f:=61) (ps:=["paper","many"]) (by kernel_rfl) (by kernel_rfl) (by kernel_rfl) (by kernel_rfl) (sM λ_ _=>rfl))
  (bU X G (x:="partners_of") (m:="archrow.stretches") (st:=cF) (t:=223) (c:=48) (f:=49) (ps:=["row"]) (by kernel_rfl) (by kernel_rfl) (by kernel_rfl) (by kernel_rfl) (jt λ_=>rfl))
  (bU X G (x:="stretches_rising") (m:="archrow.stretches") (st:=bw) (t:=223) (c:=43) (f:=44) (ps:=["many"]) (by kernel_rfl) (by kernel_rfl) (by kernel_rfl) (by kernel_rfl) (jt λ_=>rfl))
  (bU X G (x:="least_number") (m:="archrow.stretches") (st:=cm) (t:=223) (c:=82) (f:=83) (ps:=["partners","worth","table","i","j"]) (by kernel_rfl) (by kernel_rfl) (by kernel_rfl) (by kernel_rfl) (Bz λ_ _ _ _ _=>rfl))
  (bU X G (x:="number_with") (m:="archrow.stretches") (st:=cI) (t:=223) (c:=77) (f:=78) (ps:=["worth","table","i","k","j"]) (by kernel_rfl) (by kernel_rfl) (by kernel_rfl) (by kernel_rfl) (Bz λ_ _ _ _ _=>rfl))
  (bU X G (x:="one_each") (m:="archrow.kept") (st:=eI) (t:=304) (c:=127) (f:=128) (ps:=["row"]) (by kernel_rfl) (by kernel_rfl) (by kernel_rfl) (by kernel_rfl) (jt λ_=>rfl))
  (bU X G (x:="most_ties") (m:="archrow.kept") (st:=dC) (t:=304) (c:=101) (f:=102) (ps:=["row"]) (by kernel_rfl) (by kernel_rfl) (by kernel_rfl) (by kernel_rfl) (jt λ_=>rfl))
  (bU X G (x:="most_of") (m:="archrow.kept") (st:=fS) (t:=304) (c:=108) (f:=109) (ps:=["row","i","j"]) (by kernel_rfl) (by kernel_rfl) (by kernel_rfl) (by kernel_rfl) (vQ λ_ _ _=>rfl))
  (bU X G (x:="table_of") (m:="archrow.kept") (st:=eF) (t:=304) (c:=115) (f:=116) (ps:=["row"]) (by kernel_rfl) (by kernel_rfl) (by kernel_rfl) (by kernel_rfl) (jt λ_=>rfl))
  (bU X G (x:="greatest_table") (m:="archrow.stretches") (st:=bN) (t:=223) (c:=65) (f:=66) (ps:=["row","worth"]) (by kernel_rfl) (by kernel_rfl) (by kernel_rfl) (by kernel_rfl) (sM λ_ _=>rfl))
  (bU X G (x:="first_greatest") (m:="archrow.stretches") (st:=bO) (t:=223) (c:=94) (f:=95) (ps:=["row","worth","table","i","j"]) (by kernel_rfl) (by kernel_rfl) (by kernel_rfl) (by kernel_rfl) (Bz λ_ _ _ _ _=>rfl))
  (bU X G (x:="best_choices") (m:="archrow.stretches") (st:=cn) (t:=223) (c:=87) (f:=88) (ps:=["partners","worth","table","i","j"]) (by kernel_rfl) (by kernel_rfl) (by kernel_rfl) (by kernel_rfl) (Bz λ_ _ _ _ _=>rfl))
  (bU X G (x:="parts_left") (m:="archrow.stretches") (st:=c5) (t:=223) (c:=55) (f:=56) (ps:=["i","k","j"]) (by kernel_rfl) (by kernel_rfl) (by kernel_rfl) (by kernel_rfl) (vQ λ_ _ _=>rfl))
  (bU X G (x:="_law_hand") (m:="law_archrow_k14_whole_papers_and_tables") (st:=df) (t:=344) (c:=134) (f:=135) (ps:=["cell"]) (by kernel_rfl) (by kernel_rfl) (by kernel_rfl) (by kernel_rfl) (jt λ_=>rfl))
  (bU X G (x:="_law_take") (m:="law_archrow_k14_whole_papers_and_tables") (st:=de) (t:=344) (c:=141) (f:=142) (ps:=["hand","many"]) (by kernel_rfl) (by kernel_rfl) (by kernel_rfl) (by kernel_rfl) (sM λ_ _=>rfl))
  (bU X G (x:="_law_arcs") (m:="law_archrow_k14_whole_papers_and_tables") (st:=eK) (t:=344) (c:=148) (f:=149) (ps:=["hand","many"]) (by kernel_rfl) (by kernel_rfl) (by kernel_rfl) (by kernel_rfl) (sM λ_ _=>rfl))
  (bU X G (x:="_law_ties") (m:="law_archrow_k14_whole_papers_and_tables") (st:=eJ) (t:=344) (c:=153) (f:=154) (ps:=["hand","many"]) (by kernel_rfl) (by kernel_rfl) (by kernel_rfl) (by kernel_rfl) (sM λ_ _=>rfl))
  (bU X G (x:="_law_row") (m:="law_archrow_k14_whole_papers_and_tables") (st:=fT) (t:=344) (c:=160) (f:=161) (ps:=["hand"]) (by kernel_rfl) (by kernel_rfl) (by kernel_rfl) (by kernel_rfl) (jt λ_=>rfl))
  (bU X G (x:="_law_table_right") (m:="law_archrow_k14_whole_papers_and_tables") (st:=bH) (t:=344) (c:=165) (f:=166) (ps:=["hand","row","table"]) (by kernel_rfl) (by kernel_rfl) (by kernel_rfl) (by kernel_rfl) (vQ λ_ _ _=>rfl))
  (bU X G (x:="_law_fewer_right") (m:="law_archrow_k14_whole_papers_and_tables") (st:=bI) (t:=344) (c:=170) (f:=171) (ps:=["hand","row","table"]) (by kernel_rfl) (by kernel_rfl) (by kernel_rfl) (by kernel_rfl) (vQ λ_ _ _=>rfl))⟩
end jO
abbrev PySem.W.Fast.tw14864861589988617219:PySem.Program:=PySem.Challenge.pw_archrow_k14_whole_papers_and_tables
theorem PySem.W.Fast.te14864861589988617219:PySem.Challenge.pw_archrow_k14_whole_papers_and_tables=PySem.W.Fast.tw14864861589988617219:=rfl
open PySem PySem.W PyProof.Rows
set_option maxRecDepth 100000 in
set_option maxHeartbeats 0 in
theorem PySem.Challenge.cw_archrow_k14_whole_papers_and_tables_holds : PySem.Challenge.rw_archrow_k14_whole_papers_and_tables.Holds := by
 w_on;o_law
 refine holds_open (q:=jO.view) (loose:=[]) (Xt:=λs=>xlAt jO.view [] s&&recOk (RowW.records PySem.Challenge.rw_archrow_k14_whole_papers_and_tables.row.toRowW) s) (XP:=XL jO.view []) (Yf:=jO.HK.obs) (Ya:=jO.HK.val) (YP:=λw h=>(jO.KK w.params).In h) (N:=2314) jO.left jO.HK.of jO.HK.keeps (λs e=>xl_of s (Bool.and_eq_true_iff.mp e).1) XL.keeps (by rfl) (by rfl) (by rfl) (λs e=>recFacts_of (Bool.and_eq_true_iff.mp e).2) (by rfl) (by first|assumption|decide +kernel) (by decide +kernel) ⟨rfl,rfl,rfl,rfl,rfl,by decide +kernel⟩ ?hw ?hc
 (case hw=>w_witness2)
 case hc =>
  exact L2.Ar (l:=PySem.Challenge.rw_archrow_k14_whole_papers_and_tables) (K:=jO.KK) (n:=63) (k:=12) (x:="script") (CX:=λ_=>L2.bB) (sp:=λw=>jO.xv (jO.KK w.params)) rfl (by decide) rfl ⟨rfl,by decide,by decide⟩ (λw h Y=>Y) jO.all_mk (λ_ _ a ns hl _ hS=>⟨a,ns,rfl,hS,hl,λ_=>rfl⟩) λ_ _ _ _ _ z=>z
#print axioms PySem.Challenge.cw_archrow_k14_whole_papers_and_tables_holds
