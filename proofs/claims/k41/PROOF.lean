import PyProof.Rows.All
import Wide.All
import OpenK.AllK
import Wide.FinOn
import Lean
import PyProof.EqAt
import PyProof.EqKinds
import PyProof.TupleCall
import PyProof.Rows.SortShell
import PyProof.Rows.SortWalk
import PyProof.CompFree
import PyProof.Rows.SortRuns
import PyProof.EqLayable
import PyProof.NeData
import PyProof.P3In
import PyProof.ZipIter
import PyProof.EnumMake
import PyProof.EnumFor
import PyProof.Rows.Range3
import PyProof.AttrMissSeq
import KE.KDictOf
import PyProof.Rows.SeqMore
import PyProof.StrCalls6
import PyProof.MeetsStr
import PyProof.Rows.StrStrike
import PyProof.StrBlock2
import PyProof.Rows.StrRules
import PyProof.Draws
import PyProof.StrWalks
import KE.IntBitsLaws
import PyProof.ListNew
import PyProof.ConsumeWalk
import PyProof.Rows.SeqMore2
import PyProof.Rows.CountFlat
import PyProof.TupleKey
import PyProof.DictRoadsH
import PyProof.Rows.DictMod
import PyProof.Rows.DictRows
import PySem.Challenge.RW_archrow_k41_shapes_counted
set_option Elab.async false
set_option linter.all false
set_option maxRecDepth 100000
set_option maxHeartbeats 4000000
set_option compiler.extract_closed false
open PySem renaming wpAny_bind->SN,Value->SO,Shared->SU,wpAny_pure->SV,Program->SW,sizeLine->S7,World->S_,starEach->Te,wpAny->Tn,sizeLine_eq->TF,foldedSetIterable->TL,FuncData->T7,bootBuiltins->Ub,Around->Ud,compareOp->Ul,sysModules->Um,wpAny_holding->Uu,wpAny_call_entry->UA,swapsWith->UB,wpAny_truthy_bool->UH,wpAny_newObj_type->UI,mainGlobals->UQ,Scope->UR,Comprehension->UX,backTo->UZ,NameKind->U1,wpAny_typeNameOfWhole_keyiter->U7,sliceBounds->U8,assignEach->U9,atKey->Vb,wpAny_standAt->Vc,behindInMarks->Vd,wpAny_rule->Vj,wpAny_mono->Vk,binaryOp->Vl,DictEntry->Vs,cLine->Vt,wpAny_typeNameOf_keyiter->Vy,attributeBase->Vz,arm_evalThenUse_ListComp->VA,wpAny_callSpecial?_slot->VI,tupleKeyHash->VM,wpAny_specialOf->VZ,wpAny_passesOwn->V0,codeAny_mono->V6,CmpOp->V8,wpAny_dictEntries->Wd,evalThenUse->We,Keyword->Wh,Builtin->Wi,wpAny_comprehension_free->Wm,wpAny_isInstance->Ws,wpAny_forIn_list->Wt,cellsFrom->Wu,standAt->Wy,getItem->Wz,codeAny->WB,letOwnedTupleGo->WJ,isSubtype_tuple_tuple->WN,keywordEach->WR,tupleKind->WT,wpAny_newList->WW,wpAny_attempt->WX,wpAny_tupleItemsOf->W3,wpAny_Call_Name_kw->W4,wpAny_assign_Name->W7,valueAt->W8,slot_list_getitem->W9,firstIterPos->W_,callerA->Xa,wpAny_execs_cons->Xk,wpAny_eqBool_int->Xl,wpAny_Dict_empty->Xm,seqIndex?->Xn,isTrue->Xo,eqIsQuiet->Xp,clausesOf->Xq,IsRangeIter->Xv,wpAny_loadPart'->Xx,wpAny_execs_nil->Xy,wpAny_dictEpoch->Xz,pyNext->XI,pyIter->XJ,newFunctionEnv->XM,call_meets->XN,backToKw->XO
open List renaming length_map->SS,getElem?_eq_some_iff->SY,mem_singleton->S3,map_cons->S4,mem_cons->S5,mem_append->S9,mem_cons_of_mem->Tc,getElem?_eq_getElem->Td,size_toArray->Tf,getElem?_map->Th,mem_map->Ti,mem_cons_self->Tr,drop_eq_getElem_cons->Ts,range->Tt,length_cons->Tv,length_append->Tw,mem_append_right->TM,nodup_cons->TN,map_append->TQ,length_range->TR,replicate->TX,mem_of_getElem?->TY,nodup_append->TZ,map_map->T1,lookup_cons->T3,nodup_nil->T4,map_congr_left->T5,pairwise_map->T8,append_assoc->Uc,find?_cons->Uh,length_take->Uj,getElem?_append_right->Uq,pairwise_cons->Us,mem_append_left->Ut,getElem?_range->Uv,mem_filter->Uy,length_singleton->Uz,zip_cons_cons->UC,not_mem_nil->UD,sum_cons->UE,take_of_length_le->UM,getElem?_eq_none->UN,getElem?_append_left->UO,append_nil->UP,take_add_one->UU,filterMap_cons->UY,mem_range->U3,filter_cons->U4,drop_length->U5,all_eq_true->U6,filter_append->Va,take_append_drop->Ve,pairwise_append->Vn,dropLast_concat->Vo,take_succ_cons->Vw,length_reverse->Vx,foldl_cons->VF,getElem?_set->VQ,ext_getElem?->VR,length_filter_le->VV,any_cons->VX,getLastD_concat->VY,of_mem_zip->V3,dropLast_concat_getLast->V4,set_set->V7,pairwise_iff_getElem->V_,reverse_cons->Wg,take_length->Wv,getElem_mem->Ww,drop_of_length_le->WE,mem_iff_getElem?->WO,length_replicate->WQ,drop_zero->WS,map_nil->Xf,find?_append->Xg,eraseIdxIfInBounds_toArray->Xj,cons_append->Xs,map_id->Xu,length_zip->XC,forIn_cons->XD
open Nat renaming le_refl->SX,zero_le->Tb,ne_of_lt->Tx,lt_of_lt_of_le->TH,le_trans->T_,lt_or_ge->UT,lt_irrefl->VB,le_succ->VJ,not_lt_zero->V2,zero_add->WD,add_assoc->WZ,sub_self->Xd,lt_succ_of_lt->Xe,min_le_left->XB
open PyProof.Rows renaming Keyed->S0,wpS_bind->S6,wpS_pure->S8,pendingOf->Tp,SortSt->Tu,arrOf->TC,wpS_forRange->Ua,setArr->Uo,wpS_mono->UG,seqObj->UK,callWith_type1->UL,SortKind->U0,wpS_modify->Vi,failedOf->VN,slot_tuple_getitem->VU,setPending->VW,wpS_get->V5,wpS_lift->Wr,envOfC->WA,IntsAre->WG,AllBare->WI,subscriptTail->WY,size_push'->W5,entry_list_sort->XA,sortedHeap_old->XG,slot_list_sort->XH,args_list_sort->XQ,Subscript_->XR
open PySem.Heap renaming get?_push_of_some->S1,lt_size->Ta,get?_push_size->TU,SameBut->Vr,get?_update_ne->WV
open Array renaming length_toList->Tj,getElem?_toList->To,toList_append->Uw,toList_push->Vg,getD_eq_getD_getElem?->Vh,perm_iff_toList_perm->Vq,getElem?_eq_none->VT,toList_zip->Wx,forIn_toList->W6,size_zip->XX
open Option renaming map_eq_some_iff->Tq,bind_eq_some_iff->Ui,map_eq_none_iff->VO,map_some->V1,bind_some->Xr
open PySem.NameKind renaming free->Tz,cell->T6
open Bool renaming and_eq_true->TB,false_eq_true->T9,false_ne_true->Uk,eq_iff_iff->UJ,not_true->VD,not_eq_false'->V9,not_eq_true'->Wj,eq_false_iff->Wl,or_eq_true->WM
open Option.some renaming inj->TJ,injEq->Wf
open Decidable renaming by_contra->TV
open PySem.PyData renaming eqv->Ue,canLay0->Up,depthAll->Ux,depth->US,canLayAll0->Vf,eqvAll->Wo
open PySem.PassesOwn renaming never->Ug
open PySem.SeqAt renaming canLay_of_shaped->Ur
open Int renaming toNat_natCast->UW,add_zero->WH,toNat_of_nonneg->WU,zero_add->Xh,le_refl->Xw
open Ne renaming symm->U_
open PySem.Obj renaming mapSeq->Vm
open False renaming elim->Vp
open PySem.Calls renaming call_function_entry->Vu,Name_function_global->XT
open PySem.Builtin.Slice renaming slicePlaces->Vv,sliceAdjust->Wc,sliceApplied->XW
open PySem.Builtin.Tuple renaming tupleExact->VC,tupleHashOf->Wa,tupleItemsOf->XU
open Sum renaming inl->VE,inr->Xc
open True renaming intro->VG
open Or renaming inl->VH
open PySem.Builtin.Range renaming rangeSize->VL
open Nat.succ renaming inj->VP
open PySem.Builtin.Str renaming subAt->VS,glued->Xi
open PySem.Code renaming compLoop->Wq,compStart->XS
open PySem.Str renaming ofString->WC
open List.Perm renaming of_eq->WK
open ForInStep renaming yield->WL
open PySem.Txt renaming contains->Xb
open PySem.Builtin.Dict_items renaming ownsTuple->XE
open Array.Perm renaming refl->XF
noncomputable section
namespace L2
open PySem PySem.Spec PyProof.Rows
def jz (s:Stmt):Arguments:=match s with
 |.FunctionDef _ a _ _ _ _ _ _ _ _=>a
 |_=>{posonlyargs:=[],args:=[],vararg:=none,kwonlyargs:=[],kw_defaults:=[],kwarg:=none,defaults:=[]}
def dU (s:Stmt):List Stmt:=match s with
 |.FunctionDef _ _ b _ _ _ _ _ _ _=>b
 |_=>[]
def aD (s:Stmt):UR:=match s with
 |.FunctionDef _ _ _ _ _ _ sc _ _ _=>sc
 |_=>{kind:=.function,names:=[],isGenerator:=false,isCoroutine:=false}
abbrev Key:=Sum Int Str
def lZ:Key->SO->Bool
 |.inl k,v=>Value.isInt k v
 |.inr x,v=>Value.isStrOf x v
def LH (w:S_):Key->Int
 |.inl k=>hashInt k
 |.inr x=>hashStr w x
theorem br:∀{k:Key} {v:SO},lZ k v=true->(∃i t,k=VE i/\v=Value.int i t)\/(∃x t,k=Xc x/\v=Value.str x t)
 |.inl i,v,h=>by
  obtain⟨t,e⟩:=Value.isInt_shape (k:=i) (v:=v) h;exact .inl ⟨i,t,rfl,e⟩
 |.inr x,v,h=>by
  obtain⟨t,e⟩:=Value.isStrOf_shape (x:=x) (v:=v) h;exact .inr ⟨x,t,rfl,e⟩
theorem vF (i:Int)(t:Tok):lZ (.inl i) (.int i t)=true:=by simp[lZ,Value.isInt]
theorem vE (x:Str)(t:Tok):lZ (.inr x) (.str x t)=true:=by simp[lZ,Value.isStrOf]
theorem Fe (a b:Int):decide ((VE a:Key)=VE b)=(a==b):=by
 by_cases e:a=b
 ·subst e;simp
 ·have h:¬ (VE a:Key)=VE b:=λq=>e (Sum.inl.inj q);rw[decide_eq_false h];exact(beq_eq_false_iff_ne.mpr e).symm
theorem Fb (a b:Str):decide ((Xc a:Key)=Xc b)=decide (a=b):=by
 by_cases e:a=b
 ·subst e;simp
 ·have h:¬ (Xc a:Key)=Xc b:=λq=>e (Sum.inr.inj q);rw[decide_eq_false h,decide_eq_false e]
theorem Fd (a:Int)(b:Str):decide ((VE a:Key)=Xc b)=false:=decide_eq_false (λq=>nomatch q)
theorem Fc (a:Str)(b:Int):decide ((Xc a:Key)=VE b)=false:=decide_eq_false (λq=>nomatch q)
def aZ (prog:SW)(w:S_):PySem.KeyKind prog w Key where
 is:=lZ
 hash:=LH w
 inj:=λv a b ha hb=>by
  rcases br ha with⟨i,t,rfl,rfl⟩|⟨x,t,rfl,rfl⟩
  ·rcases br hb with⟨j,u,rfl,e⟩|⟨y,u,rfl,e⟩
   ·injection e with e1 _;rw[e1]
   ·exact nomatch e
  ·rcases br hb with⟨j,u,rfl,e⟩|⟨y,u,rfl,e⟩
   ·exact nomatch e
   ·injection e with e1 _;rw[e1]
 byValue:=λk v h=>by
  rcases br h with⟨i,t,rfl,rfl⟩|⟨x,t,rfl,rfl⟩ <;> rfl
 pyHash:=λhv h=>by
  rcases br hv with⟨i,t,rfl,rfl⟩|⟨x,t,rfl,rfl⟩
  ·exact wpAny_pyHash_int h
  ·exact wpAny_pyHash_str h
 eqBool:=λhu hv h=>by
  rcases br hu with⟨i,t,rfl,rfl⟩|⟨x,t,rfl,rfl⟩
  ·rcases br hv with⟨j,u,rfl,rfl⟩|⟨y,u,rfl,rfl⟩
   ·rw[Fe]at h;exact Xl h
   ·rw[Fd]at h;exact SeqAt.EqAt.int_str i t y u _ _ _ _ h
  ·rcases br hv with⟨j,u,rfl,rfl⟩|⟨y,u,rfl,rfl⟩
   ·rw[Fc]at h;exact SeqAt.EqAt.str_int x t j u _ _ _ _ h
   ·rw[Fb]at h;exact wpAny_eqBool_str h
 «strs»:=λk x t v h=>by
  rcases br h with⟨i,u,rfl,e⟩|⟨y,u,rfl,e⟩
  ·exact nomatch e
  ·injection e with e1 _
   subst e1;cases v <;> rfl
theorem pj (prog:SW)(w:S_)(i:Int)(t:Tok):(aZ prog w).is (.inl i) (.int i t)=true:=vF i t
theorem ph (prog:SW)(w:S_)(x:Str)(t:Tok):(aZ prog w).is (.inr x) (.str x t)=true:=vE x t
inductive V where
 |bJ|bl (b:Bool)|int (i:Int)|str (x:Str)|zF (b:Array UInt8)|GD (b:UInt64)|ref (a:Addr)|ty (n:String)
 deriving DecidableEq
def RelV:V->SO->Prop
 |.bJ,u=>u=Value.none
 |.bl b,u=>u=Value.bool b
 |.int i,u=>∃t,u=Value.int i t
 |.str x,u=>∃t,u=Value.str x t
 |.zF b,u=>∃t,u=Value.bytes b t
 |.GD b,u=>∃t,u=Value.float b t
 |.ref a,u=>u=Value.ref a
 |.ty n,u=>u=Value.type n
abbrev Vals:List V->List SO->Prop:=Paired RelV
theorem Vals.length {xs:List V}{us:List SO}(r:Vals xs us):xs.length=us.length:=Paired.length r
theorem Vals.get:∀{xs:List V} {us:List SO} {i:Nat} {x:V},Vals xs us->xs[i]?=some x->∃u,us[i]?=some u/\RelV x u
 |_,_,_,_,.nil,e=>by simp at e
 |_,_,0,_,.cons r _,e=>by simp at e;subst e;exact⟨_,rfl,r⟩
 |_,_,i+1,x,.cons _ t,e=>by
  obtain⟨u,h1,h2⟩:=Vals.get (i:=i) (x:=x) t (by simpa using e)
  exact⟨u,by simpa using h1,h2⟩
theorem Vals.set {x:V}{u:SO}(r:RelV x u):∀{xs:List V} {us:List SO} (i:Nat),Vals xs us->Vals (xs.set i x) (us.set i u)
 |_,_,_,.nil=>.nil
 |_,_,0,.cons _ t=>.cons r t
 |_,_,i+1,.cons q t=>.cons q (Vals.set r i t)
theorem Vals.append:∀{xs ys:List V} {us ws:List SO},Vals xs us->Vals ys ws->Vals (xs++ys) (us++ws)
 |_,_,_,_,.nil,s=>s
 |_,_,_,_,.cons r t,s=>.cons r (Vals.append t s)
theorem Vals.take:∀{xs:List V} {us:List SO} (n:Nat),Vals xs us->Vals (xs.take n) (us.take n)
 |_,_,0,_=>.nil
 |_,_,_+1,.nil=>.nil
 |_,_,n+1,.cons r t=>.cons r (Vals.take n t)
theorem Vals.drop:∀{xs:List V} {us:List SO} (n:Nat),Vals xs us->Vals (xs.drop n) (us.drop n)
 |_,_,0,r=>r
 |_,_,_+1,.nil=>.nil
 |_,_,n+1,.cons _ t=>Vals.drop n t
def kK:Option V->Option SO->Prop
 |some v,some u=>RelV v u
 |none,none=>True
 |_,_=>False
def KV {κ:Type}:List (κ×V)->List (κ×SO)->Prop:=Paired λ(p:κ×V) (q:κ×SO)=>p.1=q.1/\RelV p.2 q.2
def kV:Key->V
 |.inl i=>.int i
 |.inr x=>.str x
inductive HO where
 |lst (xs:List V)
 |tup (xs:List V)
 |dK (kvs:List (Key×V))|dT (kvs:List (List Key×V))
 |set (S:Int->Bool) (n:Nat)
 |ins (C dx:Addr) (fs:List (Str×V))
 |own (x:Addr)
 |xd (fs:List (Str×V))
 |met (f x:Addr)
 |K6 (lo hi:Int)
 |um (o:Obj) (u:HO)
 |DK (ps:Array SO)
 |ext (φ:Heap->Prop)
abbrev Hp:=Addr->Option HO
def upd (H:Hp)(a:Addr)(o:HO):Hp:=λb=>if b=a then some o else H b
theorem ah {H:Hp}{a:Addr}{o:HO}:upd H a o a=some o:=by unfold upd;rw[if_pos rfl]
theorem ao {H:Hp}{a b:Addr}{o:HO}(h:b≠a):upd H a o b=H b:=by unfold upd;rw[if_neg h]
theorem CL {H:Hp}{a b:Addr}{o u:HO}(h:H a=some o)(h':H b=some u)(d:o≠u):a≠b:=by
 intro e;subst e;rw[h]at h';exact d (TJ h')
theorem cu {H:Hp}{a b:Addr}{o:HO}(h:H a=some o)(h':H b=none):a≠b:=by
 intro e;subst e;rw[h]at h';cases h'
section
variable (P:SW)(w:S_)
def bb (H:Hp)(h:Heap)(a:Addr):HO->Prop
 |.lst xs=>xs.length<=S7/\∃(its:List SO) (n:Nat),Vals xs its/\h.get? a=some {cls:=.type "list",data:=.seq its.toArray n}
 |.tup xs=>xs.length<=S7/\∃its:List SO,Vals xs its/\IsTup h a its.toArray
 |.dK kvs=>kvs.length<=S7/\(a==Um)=false/\∃vs,KV kvs vs/\h.DictOf (aZ P w) a vs
 |.dT kvs=>kvs.length<=S7/\(a==Um)=false/\∃xs:List (List Key×Addr×SO),
   Paired (λ(p:List Key×V) (q:List Key×Addr×SO)=>p.1=q.1/\H q.2.1=some (.tup (p.1.map kV))/\RelV p.2 q.2.2) kvs xs /\
   ∃o es ep,h.get? a=some o/\o.ExactDict/\o.data=.dict es ep/\es.toList=xs.map (entryOfKey (WT (aZ P w)))/\(xs.map (·.1)).Nodup
 |.set S n=>h.SetOf (intKind P w) a S n
 |.ins C dx fs=>H dx=some (.own a)/\fs.length<=1000/\dx≠a/\h.get? a=some (PySem.W.instObj C dx) /\
   ∃mA,h.Ns1 dx mA/\(∀f,kK (fs.lookup f) (mA f))/\PySem.Within mA (fs.map (·.1))
 |.own _=>∃o,h.get? a=some o
 |.xd fs=>∃mA,h.Ns1 a mA/\∀f,kK (fs.lookup f) (mA f)
 |.K6 lo hi=>∃t u v,h.get? a=some {cls:=.type "range",data:=.fields #[.int lo t,.int hi u,.int 1 v]}
 |.um o u=>h.get? a=some o/\bb H h a u
 |.DK ps=>h.get? a=some {cls:=.none,data:=.fields ps}
 |.met f x=>h.get? a=some (PySem.W.methodObj (.ref f) (.ref x))
 |.ext φ=>φ h/\(∃o,h.get? a=some o)/\∀h1 h2:Heap,φ h1->(∀o,h1.get? a=some o->h2.get? a=some o)->φ h2
def fW (H:Hp)(h:Heap):Prop:=∀a o,H a=some o->bb P w H h a o
end
section
variable {P:SW}{w:S_}{H H':Hp}{h h':Heap}{a:Addr}{o:HO}
theorem bb.lt (x:bb P w H h a o):a<h.objs.size:=by
 cases o with
 |lst xs=>obtain⟨_,_,_,_,e⟩:=x;exact Ta e
 |tup xs=>obtain⟨_,_,_,p⟩:=x;exact p.lt
 |dK kvs=>obtain⟨_,_,_,_,o,_,_,e,_⟩:=x;exact Ta e
 |dT kvs=>obtain⟨_,_,_,_,o,_,_,e,_⟩:=x;exact Ta e
 |set S n=>obtain⟨o,_,_,_,e,_⟩:=x;exact Ta e
 |ins C dx fs=>obtain⟨_,_,_,e,_⟩:=x;exact Ta e
 |own y=>obtain⟨_,e⟩:=x;exact Ta e
 |xd fs=>obtain⟨_,⟨_,_,_,e,_⟩,_⟩:=x;exact Ta e
 |K6 lo hi=>obtain⟨_,_,_,e⟩:=x;exact Ta e
 |um ob u=>obtain⟨e,_⟩:=x;exact Ta e
 |DK ps=>exact Ta (show h.get? a=some _ from x)
 |met f y=>exact Ta (show h.get? a=some _ from x)
 |ext φ=>obtain⟨_,⟨_,e⟩,_⟩:=x;exact Ta e
theorem Paired.EY {α β:Type}{F G:α->β->Prop}:∀{l₁:List α} {l₂:List β},Paired F l₁ l₂->(∀a b,F a b->G a b)->Paired G l₁ l₂
 |_,_,.nil,_=>.nil
 |_,_,.cons r t,f=>.cons (f _ _ r) (Paired.EY t f)
theorem bb.mU (x:bb P w H h a o)(k:∀b u,(b=a\/H b=some (.own a))->h.get? b=some u->h'.get? b=some u)
  (ho:∀b,H b=some (.own a)->H' b=some (.own a)) (ht:∀b xs,H b=some (.tup xs)->H' b=some (.tup xs)):bb P w H' h' a o:=by
 induction o with
 |lst xs=>obtain⟨z,its,n,r,e⟩:=x;exact⟨z,its,n,r,k _ _ (.inl rfl) e⟩
 |tup xs=>obtain⟨z,its,r,ob,e,c⟩:=x;exact⟨z,its,r,ob,k _ _ (.inl rfl) e,c⟩
 |dK kvs=>obtain⟨z,y,vs,r,ob,es,ep,e,c⟩:=x;exact⟨z,y,vs,r,ob,es,ep,k _ _ (.inl rfl) e,c⟩
 |dT kvs =>
  obtain⟨z,y,xs,r,ob,es,ep,e,c⟩:=x;exact⟨z,y,xs,Paired.EY r λp q z=>⟨z.1,ht _ _ z.2.1,z.2.2⟩,ob,es,ep,k _ _ (.inl rfl) e,c⟩
 |set S n=>obtain⟨ob,es,ep,t,e,c⟩:=x;exact⟨ob,es,ep,t,k _ _ (.inl rfl) e,c⟩
 |ins C dx fs =>
  obtain⟨d,z,ne,e,mA,⟨od,es,ep,e2,c⟩,r⟩:=x;exact⟨ho _ d,z,ne,k _ _ (.inl rfl) e,mA,⟨od,es,ep,k _ _ (.inr d) e2,c⟩,r⟩
 |own y=>obtain⟨ob,e⟩:=x;exact⟨ob,k _ _ (.inl rfl) e⟩
 |xd fs=>obtain⟨mA,⟨od,es,ep,e,c⟩,r⟩:=x;exact⟨mA,⟨od,es,ep,k _ _ (.inl rfl) e,c⟩,r⟩
 |K6 lo hi=>obtain⟨t,u,v,e⟩:=x;exact⟨t,u,v,k _ _ (.inl rfl) e⟩
 |um ob u ih=>obtain⟨e,q⟩:=x;exact⟨k _ _ (.inl rfl) e,ih q⟩
 |DK ps =>
  have e:h.get? a=some {cls:=.none,data:=.fields ps}:=x;show h'.get? a=some {cls:=.none,data:=.fields ps};exact k a _ (.inl rfl) e
 |met f y =>
  have e:h.get? a=some (PySem.W.methodObj (.ref f) (.ref y)):=x;show h'.get? a=some (PySem.W.methodObj (.ref f) (.ref y));exact k a _ (.inl rfl) e
 |ext φ=>obtain⟨p,⟨o,e⟩,st⟩:=x;exact⟨st _ _ p λo q=>k _ _ (.inl rfl) q,⟨o,k _ _ (.inl rfl) e⟩,st⟩
theorem fW.lt (x:fW P w H h)(e:H a=some o):a<h.objs.size:=(x a o e).lt
theorem fW.fresh (x:fW P w H h)(e:h.objs.size<=a):H a=none:=by
 cases q:H a with
 |none=>rfl
 |some u=>exact absurd (TH (x.lt q) e) (VB _)
theorem fW.kept (x:fW P w H h)(k:∀b u,h.get? b=some u->h'.get? b=some u):fW P w H h':=λa o e =>
 (x a o e).mU (λb u _ q=>k b u q) (λ_ q=>q) λ_ _ q=>q
theorem fW.laid (x:fW P w H h)(k:∀b u,h.get? b=some u->h'.get? b=some u)(hp:h.objs.size<=a)(new:bb P w (upd H a o) h' a o):fW P w (upd H a o) h':=λb u e=>by
 have hn:=x.fresh hp
 by_cases hb:b=a
 ·subst hb;rw[ah]at e;cases e;exact new
 ·rw[ao hb]at e;exact(x b u e).mU (λc v _ q=>k c v q) (λc q=>by rw[ao (cu q hn)];exact q) λc xs q=>by rw[ao (cu q hn)];exact q
end
def Rd (H:Hp)(a:Addr)(u:HO):Prop:=H a=some u\/∃o,H a=some (.um o u)
theorem Rd.ok {P:SW}{w:S_}{H:Hp}{h:Heap}{a:Addr}{u:HO}(r:Rd H a u)(x:fW P w H h):bb P w H h a u:=by
 rcases r with r|⟨o,r⟩
 ·exact x a u r
 ·obtain⟨_,q⟩:=x a _ r;exact q
def JH:Option HO->Prop
 |some (.lst _)=>True
 |some (.dK _)=>True
 |some (.dT _)=>True
 |some (.set _ _)=>True
 |some (.ins _ _ _)=>True
 |some (.ext _)=>True
 |_=>False
section
variable {P:SW}{w:S_}{H:Hp}{h h':Heap}{x e:Addr}{o':HO}
theorem fW.write (ok:fW P w H h)(mu:JH (H x))(he:e=x\/H e=some (.own x))(k:∀b u,b≠e->h.get? b=some u->h'.get? b=some u)(GB:∃u,h'.get? e=some u)
  (new:bb P w (upd H x o') h' x o'):fW P w (upd H x o') h':=λb u q=>by
 have HM:∀c y,H c=some (.own y)->c≠x:=λc y r z=>by subst z;rw[r]at mu;exact mu
 have Lq:∀c xs,H c=some (.tup xs)->c≠x:=λc xs r z=>by subst z;rw[r]at mu;exact mu
 by_cases hb:b=x
 ·subst hb;rw[ah]at q;cases q;exact new
 ·rw[ao hb]at q
  by_cases FG:b=e
  ·have q':H b=some (.own x):=by
    rcases he with z|z
    ·exact absurd (FG.trans z) hb
    ·rw[FG];exact z
   rw[q]at q';cases q';obtain⟨v,hv⟩:=GB;exact⟨v,by rw[FG];exact hv⟩
  ·refine(ok b u q).mU (λc v hc r=>k c v ?_ r) (λc r=>by rw[ao (HM c b r)];exact r) λc xs r=>by rw[ao (Lq c xs r)];exact r
   rcases hc with rfl|hc
   ·exact FG
   ·rintro rfl;rcases he with z|z
    ·exact HM c b hc z
    ·rw[hc]at z;cases z;exact hb rfl
end
structure Un (fs ex:List Addr)(H H':Hp)(h h':Heap):Prop where
 keep:∀b o,h.get? b=some o->H b=none->b∉fs->b∉ex->h'.get? b=some o
 slot:∀b o,h.get? b=some o->H b=none->b∈fs->b∉ex->∃sl,h'.get? b=some {o with slots:=sl}
 free:∀b o,h.get? b=some o->H b=none->b∉ex->H' b=none
 there:∀b o,h.get? b=some o->b∉ex->∃o',h'.get? b=some o'
 kZ:∀b xs,H b=some (.tup xs)->H' b=some (.tup xs)
 ku:∀b o u,H b=some (.um o u)->H' b=some (.um o u)
 k0:∀b ps,H b=some (.DK ps)->∃more,H' b=some (.DK (ps++more))
section
variable {fs ex:List Addr}{H H1:Hp}{h h1 h':Heap}{a x e:Addr}{o:HO}
theorem Un.any (u:Un fs ex H H1 h h1){b:Addr}{ob:Obj}(q:h.get? b=some ob)(n:H b=none)(hx:b∉ex):∃sl,h1.get? b=some {ob with slots:=sl}:=by
 by_cases hb:b∈fs
 ·exact u.slot b ob q n hb hx
 ·exact⟨ob.slots,u.keep b ob q n hb hx⟩
theorem Un.kept (k:∀b u,h.get? b=some u->h'.get? b=some u):Un fs ex H H h h' :=
 ⟨λb ob q _ _ _=>k b ob q,λb ob q _ _ _=>⟨ob.slots,k b ob q⟩,λ_ _ _ n _=>n,λb ob q _=>⟨ob,k b ob q⟩,λ_ _ q=>q,λ_ _ _ q=>q,λ_ ps q=>⟨#[],by rw[q];simp⟩⟩
theorem Un.refl:Un fs ex H H h h:=Un.kept λ_ _ q=>q
theorem Un.laid (k:∀b u,h.get? b=some u->h'.get? b=some u)(hp:h.objs.size<=a)(hn:H a=none):Un fs ex H (upd H a o) h h' where
 keep:=λb u q _ _ _=>k b u q
 slot:=λb u q _ _ _=>⟨u.slots,k b u q⟩
 free:=λb u q n _=>by rw[ao (Tx (TH (Ta q) hp))];exact n
 there:=λb u q _=>⟨u,k b u q⟩
 kZ:=λb xs q=>by rw[ao (cu q hn)];exact q
 ku:=λb u xs q=>by rw[ao (cu q hn)];exact q
 k0:=λb ps q=>⟨#[],by rw[ao (cu q hn),q];simp⟩
theorem Un.write (mu:JH (H x))(he:e=x\/H e=some (.own x))(k:∀b u,b≠e->h.get? b=some u->h'.get? b=some u)(GB:∃u,h'.get? e=some u):Un fs ex H (upd H x o) h h':=by
 have hx:∀b,H b=none->b≠x:=λb n z=>by subst z;rw[n]at mu;exact mu
 have hb:∀b,H b=none->b≠e:=λb n z=>by
  subst z;rcases he with r|r
  ·exact hx b n r
  ·rw[n]at r;cases r
 have hm:∀b u,H b=some u->¬ JH (some u)->b≠x:=λb u q nm z=>by subst z;rw[q]at mu;exact nm mu
 refine⟨λb u q n _ _=>k b u (hb b n) q,λb u q n _ _=>⟨u.slots,k b u (hb b n) q⟩,λb u q n _=>by rw[ao (hx b n)];exact n,λb u q _=>?_,
  λb xs q=>by rw[ao (hm b _ q λz=>z)];exact q,λb u xs q=>by rw[ao (hm b _ q λz=>z)];exact q,λb ps q=>⟨#[],by rw[ao (hm b _ q λz=>z),q];simp⟩⟩
 by_cases FG:b=e
 ·subst FG;exact GB
 ·exact⟨u,k b u FG q⟩
end
def JS (h:Heap)(H:Hp):List Addr:=(Tt h.objs.size).filter λa=>(H a).isSome
def nG (h:Heap)(H:Hp):Heap:=PySem.W.hideAll h (JS h H)
theorem vO (h:Heap)(H:Hp):(nG h H).objs.size=h.objs.size:=PySem.W.hideAll_size _ _
theorem yJ {h:Heap}{H:Hp}{b:Addr}{o:Obj}(e:h.get? b=some o)(n:H b=none):(nG h H).get? b=some o :=
 PySem.W.hideAll_get _ e λhm=>by
  have q:(H b).isSome=true:=(Uy.mp hm).2;rw[n]at q;simp at q
theorem Bg {h:Heap}{H:Hp}{b:Addr}{o:Obj}(e:(nG h H).get? b=some o):h.get? b=some o/\H b=none:=by
 have e':h.get? b=some o:=PySem.W.of_hideAll (JS h H) e;refine⟨e',?_⟩;cases q:H b with
 |none=>rfl
 |some x =>
  have hm:b∈JS h H:=Uy.mpr ⟨U3.mpr (Ta e'),by simp[q]⟩
  have z:(nG h H).get? b=none:=PySem.W.hideAll_none (JS h H) hm;rw[z]at e;cases e
structure Mod (K:PySem.W.Frag)(mg:Str->Option SO)(base:Heap):Prop where
 LG:K.In base
 glob:base.Ns UQ mg
 blt:∃mb,base.Ns builtinsNs mb/\∀x:Str,x≠"__name__" -> mb x=Ub x
 nolimit:base.NoLimit
structure Cx where
 prog:SW
 w:S_
 K:PySem.W.Frag
 mg:Str->Option SO
 base:Heap
 A:Ud
 N:List Str
 s₀:SU
 H₀:Hp
 env:Env
 outer:List Env
 stack:List Env
 ex:List Addr
 fn:Str->Bool
 calm:Bool
 pn:List (Addr×Obj)
 xe:SO->SU->Prop
def yS (l:List Env):List Addr:=l.filterMap (·.frame)
abbrev Cx.fs (X:Cx):List Addr:=yS X.outer
def Dn (sc:UR)(x:Str):Prop:=sc.names.lookup x=some .local\/sc.names.lookup x=some .cell\/sc.names.lookup x=some .free
def Loc (sc:UR)(x:Str):Prop:=sc.names.lookup x=some .local\/sc.names.lookup x=some .cell
def Look (env:Env)(h:Heap)(m:Str->Option SO)(x:Str)(u:SO):Prop :=
 (env.kindOf x=some .local/\m x=some u)\/((env.kindOf x=some .cell\/env.kindOf x=some .free)/\∃c,env.cells.lookup x=some c/\h.IsCell c (some u))
structure Cx.Ok (X:Cx):Prop where
 mod:Mod X.K X.mg X.base
 kind:X.env.scope.kind=.function
 glob:X.env.globals=UQ
 blt:X.env.builtins=builtinsNs
 above:X.s₀.heap.objs.size<=X.env.locals
 inj:∀x y c,X.env.cells.lookup x=some c->X.env.cells.lookup y=some c->x=y
 has:∀x,(X.env.kindOf x=some .cell\/X.env.kindOf x=some .free)->∃c,X.env.cells.lookup x=some c
 Jx:∀x c,X.fn x=true->X.env.cells.lookup x=some c->X.s₀.heap.objs.size<=c
 hd:X.calm=true->X.A.handled=none
 frames:X.A.frames=some X.stack
 JU:X.stack=X.outer\/(X.stack=X.env::X.outer/\X.env.frame=some X.env.locals)
 GF:∀b∈X.ex,b≠X.env.locals/\∀x c,X.env.cells.lookup x=some c->c≠b
 bs:∀b o,X.base.get? b=some o->X.s₀.heap.get? b=some o/\X.H₀ b=none
 z_:X.base.objs.size<=X.s₀.heap.objs.size
 vw:∀b o,X.base.get? b=some o->b∉X.ex
 vZ:∀b∈X.ex,b∉X.fs
 kq:X.s₀.heap.FunFrames X.base X.outer
 GC:∀b∈X.fs,X.H₀ b=none
structure Inv (X:Cx)(pins:List (Addr×Obj))(σ:List (Option V))(H:Hp)(s:SU):Prop where
 ok:X.Ok
 os:s.os=X.s₀.os
 bare:WI s.gens
 base:Un X.fs X.ex X.H₀ H X.s₀.heap s.heap
 loc:∃m,s.heap.Ns X.env.locals m/\∀(i:Nat) (x:Str) (v:V),X.N[i]?=some x->σ[i]?=some (some v)->Dn X.env.scope x->∃u,RelV v u/\Look X.env s.heap m x u
 cell:∀x c,X.env.cells.lookup x=some c->∃v,s.heap.IsCell c v
 free:H X.env.locals=none
 fE:∀x c,X.env.cells.lookup x=some c->H c=none
 pin:∀p∈X.pn++pins,s.heap.get? p.1=some p.2/\H p.1=none/\p.1≠X.env.locals/\p.1∉X.fs/\∀v,p.2.data≠.cell v
 a_:fW X.prog X.w H s.heap
 len:σ.length=X.N.length
section
variable {X:Cx}{pins:List (Addr×Obj)}{σ:List (Option V)}{H H':Hp}{s:SU}{h':Heap}
theorem Cx.Ok.EU (ok:X.Ok){b:Addr}{o:Obj}(e:X.base.get? b=some o):b∉X.fs:=λhb=>by
 have:=(ok.kq.mem hb).1;rw[e]at this;cases this
theorem Inv.bs (I:Inv X pins σ H s):∀b o,X.base.get? b=some o->s.heap.get? b=some o/\H b=none:=λb o e =>
 ⟨I.base.keep b o (I.ok.bs b o e).1 (I.ok.bs b o e).2 (I.ok.EU e) (I.ok.vw b o e),I.base.free b o (I.ok.bs b o e).1 (I.ok.bs b o e).2 (I.ok.vw b o e)⟩
theorem Inv.bk (I:Inv X pins σ H s):∀b o,X.base.get? b=some o->s.heap.get? b=some o:=λb o e=>(I.bs b o e).1
theorem Inv.mod (I:Inv X pins σ H s):Mod X.K X.mg X.base:=I.ok.mod
theorem Inv.pH (I:Inv X pins σ H s):X.K.In s.heap:=I.ok.mod.LG.keeps I.bk
theorem Inv.lt (I:Inv X pins σ H s):X.env.locals<s.heap.objs.size:=let ⟨_,hn,_⟩:=I.loc;hn.lt
theorem Inv.sz (I:Inv X pins σ H s):X.s₀.heap.objs.size<=s.heap.objs.size:=T_ I.ok.above (Nat.le_of_lt I.lt)
theorem Inv.Lr (I:Inv X pins σ H s){a:Addr}(h:s.heap.objs.size<=a):a∉X.fs:=λhb=>by
 obtain⟨_,o,ho,_⟩:=I.ok.kq.mem hb;exact absurd (TH (Ta ho) (T_ I.sz h)) (VB _)
theorem Inv.F3 (I:Inv X pins σ H s):∀x c,X.env.cells.lookup x=some c->c≠X.env.locals:=λx c e z=>by
 obtain⟨v,o,ho,hd⟩:=I.cell x c e;obtain⟨m,⟨o',es,ep,qG,C4,_⟩,_⟩:=I.loc;rw[z,qG]at ho;cases ho;rw[C4]at hd;cases hd
theorem Inv.kq (I:Inv X pins σ H s):s.heap.FunFrames X.base X.outer:=by
 have all:∀(l:List Env),(∀b∈yS l,b∈X.fs)->X.s₀.heap.FunFrames X.base l->s.heap.FunFrames X.base l:=by
  intro l
  induction l with
  |nil=>intro _ _;trivial
  |cons env r ih =>
   intro hs hl;obtain⟨hk,⟨L,o,hf,hn,ho,hd⟩,hr⟩:=hl;have hL:L∈X.fs:=hs L (by unfold yS;rw[UY,hf];exact Tr)
   obtain⟨sl,e⟩:=I.base.slot L o ho (I.ok.GC L hL) hL λz=>I.ok.vZ L z hL;exact⟨hk,⟨L,_,hf,hn,e,hd⟩,ih (λb hb=>hs b (by unfold yS;rw[UY,hf];exact Tc _ hb)) hr⟩
 exact all X.outer (λ_ hb=>hb) I.ok.kq
theorem Inv.stack (I:Inv X pins σ H s):s.heap.FunFrames X.base X.stack:=by
 rcases I.ok.JU with e|⟨e,hf⟩
 ·rw[e];exact I.kq
 ·rw[e];obtain⟨m,hn,_⟩:=I.loc;refine .cons (by rw[I.ok.kind];decide) hf hn ?_ I.kq
  exact Heap.get?_none_of_le (T_ I.ok.z_ I.ok.above)
theorem Inv.mS (I:Inv X pins σ H s):∀b∈yS X.stack,b∈X.env.locals::X.fs:=λb hb=>by
 rcases I.ok.JU with e|⟨e,hf⟩
 ·rw[e]at hb;exact Tc _ hb
 ·rw[e]at hb;unfold yS at hb;rw[UY,hf]at hb;exact hb
theorem Inv.mT (I:Inv X pins σ H s):∀b∈yS X.stack,H b=none:=λb hb=>by
 rcases S5.mp (I.mS b hb)with e|hb
 ·rw[e];exact I.free
 ·obtain⟨_,o,ho,_⟩:=I.ok.kq.mem hb;exact I.base.free b o ho (I.ok.GC b hb) λz=>I.ok.vZ b z hb
theorem Inv.step {g':Array GenState}{t':Nat}{d':Drawn}{ch:List Addr}(I:Inv X pins σ H s)
  (uh:∀b∈ch,(b∈X.ex\/X.s₀.heap.objs.size<=b)/\b≠X.env.locals/\(∀x c,X.env.cells.lookup x=some c->c≠b)/\∀p∈X.pn++pins,p.1≠b)
  (keep:∀b o,b≠X.env.locals->b∉X.fs->b∉ch->s.heap.get? b=some o->H b=none->h'.get? b=some o)
  (slot:∀b o,b≠X.env.locals->b∈X.fs->b∉ch->s.heap.get? b=some o->H b=none->∃sl,h'.get? b=some {o with slots:=sl}) (free:∀b o,b∉ch->s.heap.get? b=some o->H b=none->H' b=none)
  (there:∀b o,b∉ch->s.heap.get? b=some o->∃o',h'.get? b=some o')
  (kZ:∀b xs,H b=some (.tup xs)->H' b=some (.tup xs)) (ku:∀b o u,H b=some (.um o u)->H' b=some (.um o u)) (k0:∀b ps,H b=some (.DK ps)->∃more,H' b=some (.DK (ps++more)))
  (ns:∀m,s.heap.Ns X.env.locals m->h'.Ns X.env.locals m) (a_:fW X.prog X.w H' h') (hg:WI g') :
  Inv X pins σ H' {s with heap:=h',gens:=g',drawn:=d',toks:=t'}:=by
 have N7:∀b o,X.s₀.heap.get? b=some o->b≠X.env.locals:=λb o e=>Tx (TH (Ta e) I.ok.above);have J0:∀b o,X.s₀.heap.get? b=some o->b∉X.ex->b∉ch:=λb o e hx hb=>by
  rcases (uh b hb).1 with z|z
  ·exact hx z
  ·exact absurd (TH (Ta e) z) (VB _)
 have cellK:∀x c,X.env.cells.lookup x=some c->∀v,s.heap.IsCell c v->h'.IsCell c v:=λx c e v ji=>by
  obtain⟨o,ho,hd⟩:=ji;have HS:c∉ch:=λz=>(uh c z).2.2.1 x c e rfl
  by_cases hc:c∈X.fs
  ·obtain⟨sl,q⟩:=slot c o (I.F3 x c e) hc HS ho (I.fE x c e);exact⟨_,q,hd⟩
  ·exact⟨o,keep c o (I.F3 x c e) hc HS ho (I.fE x c e),hd⟩
 refine⟨I.ok,I.os,hg,⟨λb o e n hb hx=>?_,λb o e n hb hx=>?_,λb o e n hx=>?_,λb o e hx=>?_,λb xs e=>kZ b xs (I.base.kZ b xs e),λb o xs e=>ku b o xs (I.base.ku b o xs e),λb ps e=>?_⟩,?_,λx c e=>?_,?_,λx c e=>?_,λp hp=>?_,a_,I.len⟩
 ·exact keep b o (N7 b o e) hb (J0 b o e hx) (I.base.keep b o e n hb hx) (I.base.free b o e n hx)
 ·obtain⟨sl,e1⟩:=I.base.slot b o e n hb hx;obtain⟨Pz,e2⟩:=slot b _ (N7 b o e) hb (J0 b o e hx) e1 (I.base.free b o e n hx);exact⟨Pz,e2⟩
 ·obtain⟨o',e1⟩:=I.base.there b o e hx;exact free b o' (J0 b o e hx) e1 (I.base.free b o e n hx)
 ·obtain⟨o',e1⟩:=I.base.there b o e hx;exact there b o' (J0 b o e hx) e1
 ·obtain⟨m1,e1⟩:=I.base.k0 b ps e;obtain⟨m2,e2⟩:=k0 b _ e1;exact⟨m1++m2,by rw[e2,Array.append_assoc]⟩
 ·obtain⟨m,hn,hl⟩:=I.loc;refine⟨m,ns m hn,λi x v e1 e2 e3=>?_⟩;obtain⟨u,r,l⟩:=hl i x v e1 e2 e3;refine⟨u,r,?_⟩;rcases l with l|⟨k,c,e,z⟩
  ·exact .inl l
  ·exact .inr ⟨k,c,e,cellK x c e _ z⟩
 ·obtain⟨v,z⟩:=I.cell x c e;exact⟨v,cellK x c e v z⟩
 ·obtain⟨m,⟨o,_,_,ho,_⟩,_⟩:=I.loc;exact free _ o (λz=>(uh _ z).2.1 rfl) ho I.free
 ·obtain⟨v,o,ho,hd⟩:=I.cell x c e;exact free c o (λz=>(uh c z).2.2.1 x c e rfl) ho (I.fE x c e)
 ·obtain⟨e,n,ne,nf,d⟩:=I.pin p hp;have HS:p.1∉ch:=λz=>(uh p.1 z).2.2.2 p hp rfl;exact⟨keep p.1 p.2 ne nf HS e n,free p.1 p.2 HS e n,ne,nf,d⟩
theorem Inv.un {t':Nat}(I:Inv X pins σ H s)(u:Un X.fs [] H H' s.heap h')(a_:fW X.prog X.w H' h'):Inv X pins σ H' {s with heap:=h',toks:=t'}:=by
 obtain⟨m,⟨o,es,ep,ho,r⟩,_⟩:=id I.loc;obtain⟨sl,hL⟩:=u.any ho I.free (by simp)
 exact I.step (g':=s.gens) (d':=s.drawn) (ch:=[]) (λ_ z=>nomatch z) (λb o _ hb _ e n=>u.keep b o e n hb (by simp)) (λb o _ hb _ e n=>u.slot b o e n hb (by simp)) (λb o _ e n=>u.free b o e n (by simp)) (λb o _ e=>u.there b o e (by simp)) u.kZ u.ku u.k0 (λm' hm=>by
  obtain⟨o',oe,M9,qG,r'⟩:=hm;rw[ho]at qG;cases qG;exact⟨_,oe,M9,hL,r'⟩) a_ I.bare
theorem Inv.call {g':Array GenState}{t':Nat}{d':Drawn}{ch:List Addr}(I:Inv X pins σ H s)(u:Un (yS X.stack) ch H H' s.heap h')(a_:fW X.prog X.w H' h')(hg:WI g')
  (uh:∀b∈ch,(b∈X.ex\/X.s₀.heap.objs.size<=b)/\b≠X.env.locals/\(∀x c,X.env.cells.lookup x=some c->c≠b)/\∀p∈X.pn++pins,p.1≠b) :
  Inv X pins σ H' {s with heap:=h',gens:=g',drawn:=d',toks:=t'}:=by
 obtain⟨m,⟨o,es,ep,ho,r⟩,_⟩:=id I.loc;obtain⟨sl,hL⟩:=u.any ho I.free λz=>(uh _ z).2.1 rfl;exact I.step (ch:=ch) uh (λb o hL hb hc e n=>u.keep b o e n (λz=>(S5.mp (I.mS b z)).elim hL hb) hc) (λb o _ _ hc e n=>u.any e n hc) (λb o hc e n=>u.free b o e n hc) (λb o hc e=>u.there b o e hc) u.kZ u.ku u.k0 (λm' hm=>by
  obtain⟨o',oe,M9,qG,r'⟩:=hm;rw[ho]at qG;cases qG;exact⟨_,oe,M9,hL,r'⟩) a_ hg
theorem Inv.turned {t':Nat}{it:Addr}(I:Inv X pins σ H s)(k:∀b o,b≠it->s.heap.get? b=some o->h'.get? b=some o)(hn:H it=none)(hL:it≠X.env.locals)
  (h1:it∈X.ex\/X.s₀.heap.objs.size<=it) (h2:∀x c,X.env.cells.lookup x=some c->c≠it) (h3:∀p∈X.pn++pins,p.1≠it):Inv X pins σ H {s with heap:=h',toks:=t'}:=by
 have N6:∀b u,H b=some u->b≠it:=λb u e z=>by rw[z,hn]at e;cases e
 refine I.step (g':=s.gens) (d':=s.drawn) (ch:=[it]) (λb hb=>?_) (λb o _ _ hc e _=>k b o (λz=>hc (by simp[z])) e) (λb o _ _ hc e _=>⟨o.slots,k b o (λz=>hc (by simp[z])) e⟩) (λ_ _ _ _ n=>n)
  (λb o hc e=>⟨o,k b o (λz=>hc (by simp[z])) e⟩) (λ_ _ e=>e) (λ_ _ _ e=>e) (λb ps e=>⟨#[],by rw[e];simp⟩) (λm hm=>?_) (λb u e=>?_) I.bare
 ·have e:b=it:=by simpa using hb
  subst e;exact⟨h1,hL,h2,h3⟩
 ·obtain⟨o,es,ep,ho,r⟩:=hm;exact⟨o,es,ep,k _ o (U_ hL) ho,r⟩
 ·refine(I.a_ b u e).mU (λc v hc q=>k c v ?_ q) (λ_ q=>q) λ_ _ q=>q;rcases hc with z|z
  ·rw[z];exact N6 b u e
  ·exact N6 c _ z
theorem Inv.tok (I:Inv X pins σ H s)(t:Nat):Inv X pins σ H {s with toks:=t}:=I.un (h':=s.heap) (t':=t) Un.refl I.a_
theorem Inv.kept {t':Nat}(I:Inv X pins σ H s)(k:∀b u,s.heap.get? b=some u->h'.get? b=some u):Inv X pins σ H {s with heap:=h',toks:=t'}:=I.un (Un.kept k) (I.a_.kept k)
theorem Inv.laid {a:Addr}{o:HO}{t':Nat}(I:Inv X pins σ H s)(k:∀b u,s.heap.get? b=some u->h'.get? b=some u)(hp:s.heap.objs.size<=a)(new:bb X.prog X.w (upd H a o) h' a o):
  Inv X pins σ (upd H a o) {s with heap:=h',toks:=t'}:=I.un (Un.laid k hp (I.a_.fresh hp)) (I.a_.laid k hp new)
theorem Inv.write {x e:Addr}{o:HO}{t':Nat}(I:Inv X pins σ H s)(mu:JH (H x))(he:e=x\/H e=some (.own x))(k:∀b u,b≠e->s.heap.get? b=some u->h'.get? b=some u)(GB:∃u,h'.get? e=some u)
  (new:bb X.prog X.w (upd H x o) h' x o):Inv X pins σ (upd H x o) {s with heap:=h',toks:=t'}:=I.un (Un.write mu he k GB) (I.a_.write mu he k GB new)
theorem Inv.tR {CG:List (Addr×Obj)}(I:Inv X pins σ H s)(h:∀p∈CG,s.heap.get? p.1=some p.2/\H p.1=none/\p.1≠X.env.locals/\p.1∉X.fs/\∀v,p.2.data≠.cell v):Inv X CG σ H s :=
 ⟨I.ok,I.os,I.bare,I.base,I.loc,I.cell,I.free,I.fE,λp hp=>(S9.mp hp).elim (λz=>I.pin p (Ut _ z)) (h p),I.a_,I.len⟩
theorem o8 {N:List Str}(hN:N.Nodup){i j:Nat}{x:Str}(a:N[i]?=some x)(b:N[j]?=some x):i=j:=by
 obtain⟨h1,e1⟩:=SY.mp a;obtain⟨h2,e2⟩:=SY.mp b;exact(List.getElem_inj hN).mp (e1.trans e2.symm)
theorem ic {M:Model}{A:Ud}{E:SO->SU->Prop}{i:Nat}{x:Str}{v:V}{u:SO}{Q:Unit->SU->Prop}(I:Inv X pins σ H s)(hN:X.N.Nodup)(hi:X.N[i]?=some x)(hx:Loc X.env.scope x)(r:RelV v u)
  (h:∀s',Inv X pins (σ.set i (some v)) H s'->(∃a,Vr a s.heap s'.heap/\(a=X.env.locals\/X.env.cells.lookup x=some a))->Q () s') (hf:X.fn x=true\/X.env.scope.names.lookup x=some .local:=by first|exact .inl rfl|exact .inr rfl|assumption):Tn M A (storeName X.env x u) Q E s:=by
 obtain⟨m,hn,hl⟩:=id I.loc;have MU:(X.env.scope.kind==.class || (X.env.scope.kind==.module&&X.env.locals != X.env.globals))=false:=by rw[I.ok.kind];rfl
 have Je:i<σ.length:=by rw[I.len];exact(SY.mp hi).1
 have F3:=I.F3;have tracked:∀{a:Addr} {h':Heap},(∃o,s.heap.get? a=some o/\H a=none)->Vr a s.heap h'->fW X.prog X.w H h':=λ{a h'} ha hs b ob e=>by
  obtain⟨_,_,C2⟩:=ha;refine(I.a_ b ob e).mU (λc w' hc q=>(hs.2 c ?_).trans q) (λ_ q=>q) λ_ _ q=>q;rintro rfl;rcases hc with rfl|hc
  ·rw[C2]at e;cases e
  ·rw[C2]at hc;cases hc
 rcases hx with hk|hk
 ·refine wpAny_storeName_local hk hn (λh' Jc hs=>?_) MU;obtain⟨oL,_,_,QC,_⟩:=id hn;refine h _ ⟨I.ok,I.os,I.bare,⟨λb o e n hb hx=>?_,λb o e n hb hx=>?_,I.base.free,λb o e hx=>?_,I.base.kZ,I.base.ku,I.base.k0⟩,⟨_,Jc,λj y v' e1 e2 e3=>?_⟩,λy c e=>?_,I.free,I.fE,λp hp=>?_,tracked ⟨oL,QC,I.free⟩ hs,by simpa using I.len⟩ ⟨_,hs,.inl rfl⟩
  ·exact(hs.2 b (Tx (TH (Ta e) I.ok.above))).trans (I.base.keep b o e n hb hx)
  ·obtain⟨sl,e1⟩:=I.base.slot b o e n hb hx;exact⟨sl,(hs.2 b (Tx (TH (Ta e) I.ok.above))).trans e1⟩
  ·obtain⟨o',e1⟩:=I.base.there b o e hx;exact⟨o',(hs.2 b (Tx (TH (Ta e) I.ok.above))).trans e1⟩
  ·by_cases hj:j=i
   ·subst hj;rw[hi]at e1;cases e1;rw[List.getElem?_set_self Je]at e2;cases e2;exact⟨u,r,.inl ⟨hk,by simp⟩⟩
   ·rw[List.getElem?_set_ne (U_ hj)]at e2;obtain⟨u',r',q⟩:=hl j y v' e1 e2 e3;refine⟨u',r',?_⟩;rcases q with⟨k,e⟩|⟨k,c,e,z⟩
    ·refine .inl ⟨k,?_⟩;have:y≠x:=λe=>hj (o8 hN e1 (e▸hi));simp[this,e]
    ·exact .inr ⟨k,c,e,z.sameBut hs (F3 y c e)⟩
  ·obtain⟨w',z⟩:=I.cell y c e;exact⟨w',z.sameBut hs (F3 y c e)⟩
  ·obtain⟨e,n,ne,nf,d⟩:=I.pin p hp;exact⟨(hs.2 p.1 ne).trans e,n,ne,nf,d⟩
 ·have MQ:X.fn x=true:=by
   rcases hf with z|z
   ·exact z
   ·rw[z]at hk;cases hk
  obtain⟨c,hc⟩:=I.ok.has x (.inl hk);obtain⟨w',z⟩:=I.cell x c hc;refine wpAny_storeName_cell I.ok.kind hk hc z (λh' l9 hs=>?_);obtain⟨oc,yF,Mr⟩:=id z;refine h {s with heap:=h'} ⟨I.ok,I.os,I.bare,⟨λb o e n hb hx=>?_,λb o e n hb hx=>?_,I.base.free,λb o e hx=>?_,I.base.kZ,I.base.ku,I.base.k0⟩,⟨m,hn.sameBut hs (U_ (F3 x c hc)),λj y v' e1 e2 e3=>?_⟩,λy c' e=>?_,I.free,I.fE,λp hp=>?_,tracked ⟨oc,yF,I.fE x c hc⟩ hs,by simpa using I.len⟩ ⟨c,hs,.inr hc⟩
  ·exact(hs.2 b (Tx (TH (Ta e) (I.ok.Jx x c MQ hc)))).trans (I.base.keep b o e n hb hx)
  ·obtain⟨sl,e1⟩:=I.base.slot b o e n hb hx;exact⟨sl,(hs.2 b (Tx (TH (Ta e) (I.ok.Jx x c MQ hc)))).trans e1⟩
  ·obtain⟨o',e1⟩:=I.base.there b o e hx;exact⟨o',(hs.2 b (Tx (TH (Ta e) (I.ok.Jx x c MQ hc)))).trans e1⟩
  ·by_cases hj:j=i
   ·subst hj;rw[hi]at e1;cases e1;rw[List.getElem?_set_self Je]at e2;cases e2;exact⟨u,r,.inr ⟨.inl hk,c,hc,l9⟩⟩
   ·rw[List.getElem?_set_ne (U_ hj)]at e2;obtain⟨u',r',q⟩:=hl j y v' e1 e2 e3;refine⟨u',r',?_⟩;rcases q with q|⟨k,c',e,z'⟩
    ·exact .inl q
    ·refine .inr ⟨k,c',e,z'.sameBut hs ?_⟩;rintro rfl;exact hj (o8 hN e1 (I.ok.inj _ _ _ e hc▸hi))
  ·by_cases zZ:c'=c
   ·subst zZ;exact⟨_,l9⟩
   ·obtain⟨w2,z2⟩:=I.cell y c' e;exact⟨w2,z2.sameBut hs zZ⟩
  ·obtain⟨e,n,ne,nf,d⟩:=I.pin p hp;refine⟨(hs.2 p.1 ?_).trans e,n,ne,nf,d⟩;intro q;rw[q,yF]at e;have q':oc=p.2:=TJ e;exact d w' (by rw[<- q'];exact Mr)
theorem oC {M:Model}{A:Ud}{E:SO->SU->Prop}{i:Nat}{x:Str}{v:V}{u:SO}{Q:Unit->SU->Prop}(I:Inv X pins σ H s)(hN:X.N.Nodup)(hi:X.N[i]?=some x)(hx:Loc X.env.scope x)(r:RelV v u)
  (h:∀s',Inv X pins (σ.set i (some v)) H s'->Q () s') (hf:X.fn x=true\/X.env.scope.names.lookup x=some .local:=by first|exact .inl rfl|exact .inr rfl|assumption):Tn M A (storeName X.env x u) Q E s :=
 ic I hN hi hx r (λs' I' _=>h s' I') hf
theorem Inv.Di {s':SU}{ch:List Addr}(I:Inv X pins σ H s)(ho:s'.os=s.os)(u:Un (yS X.stack) ch H H' s.heap s'.heap)(a_:fW X.prog X.w H' s'.heap)(hg:WI s'.gens)
  (uh:∀b∈ch,(b∈X.ex\/X.s₀.heap.objs.size<=b)/\b≠X.env.locals/\(∀x c,X.env.cells.lookup x=some c->c≠b)/\∀p∈X.pn++pins,p.1≠b):Inv X pins σ H' s':=by
 obtain⟨h',g',d',t',o'⟩:=s';have e:o'=s.os:=ho;subst e;exact I.call (g':=g') (t':=t') (d':=d') u a_ hg uh
end
abbrev XK:=SO->Option Addr->Hp->Prop
abbrev St:=List (Option V)
abbrev VK:=V->Hp->Prop
abbrev TE:=St->Hp->VK->Prop
abbrev TT:=St->Hp->(Bool->Hp->Prop)->Prop
abbrev TA:=St->Hp->(List V->Hp->Prop)->Prop
structure Ends where
 nx:St->Hp->Prop
 rt:VK
 bk:St->Hp->Prop:=λ_ _=>False
 ct:St->Hp->Prop:=λ_ _=>False
abbrev TS:=Ends->St->Hp->Prop
def EP (X:Cx)(pins:List (Addr×Obj))(σ:St)(Q:VK)(u:SO)(s':SU):Prop:=∃v H',Inv X pins σ H' s'/\RelV v u/\Q v H'
def TP (X:Cx)(pins:List (Addr×Obj))(σ:St)(Q:Bool->Hp->Prop)(b:Bool)(s':SU):Prop:=∃H',Inv X pins σ H' s'/\Q b H'
def AP (X:Cx)(pins:List (Addr×Obj))(σ:St)(Q:List V->Hp->Prop)(us:List SO)(s':SU):Prop:=∃vs H',Inv X pins σ H' s'/\Vals vs us/\Q vs H'
def SP (X:Cx)(pins:List (Addr×Obj))(D:Ends)(f:Flow)(s':SU):Prop :=
 match f with
 |.next=>∃σ' H',Inv X pins σ' H' s'/\D.nx σ' H'
 |.brk=>∃σ' H',Inv X pins σ' H' s'/\D.bk σ' H'
 |.cont=>∃σ' H',Inv X pins σ' H' s'/\D.ct σ' H'
 |.ret u=>∃v σ' H',Inv X pins σ' H' s'/\RelV v u/\D.rt v H'
def PE (X:Cx)(e:Expr)(t:TE):Prop :=
 ∀(pins:List (Addr×Obj)) (s:SU) (σ:St) (H:Hp) (Q:VK),Inv X pins σ H s->t σ H Q->Tn (model X.prog X.w) X.A (eval e X.env) (EP X pins σ Q) X.xe s
def PT (X:Cx)(e:Expr)(t:TT):Prop :=
 ∀(pins:List (Addr×Obj)) (s:SU) (σ:St) (H:Hp) (Q:Bool->Hp->Prop),Inv X pins σ H s->t σ H Q->Tn (model X.prog X.w) X.A (Xo e X.env (eval e X.env)) (TP X pins σ Q) X.xe s
def PW (X:Cx)(e:Expr)(t:TT):Prop :=
 ∀(whole:Sem SO) (pins:List (Addr×Obj)) (s:SU) (σ:St) (H:Hp) (Q:Bool->Hp->Prop),Inv X pins σ H s->t σ H Q->Tn (model X.prog X.w) X.A (Xo e X.env whole) (TP X pins σ Q) X.xe s
theorem PW.pt {X:Cx}{e:Expr}{t:TT}(h:PW X e t):PT X e t:=h _
def PA (X:Cx)(es:List Expr)(t:TA):Prop :=
 ∀(pos:Pos) (pins:List (Addr×Obj)) (s:SU) (σ:St) (H:Hp) (Q:List V->Hp->Prop),Inv X pins σ H s->t σ H Q->Tn (model X.prog X.w) X.A (spliced (UZ pos (Te es X.env))) (AP X pins σ Q) X.xe s
def PS (X:Cx)(st:Stmt)(t:TS):Prop :=
 ∀(pins:List (Addr×Obj)) (s:SU) (σ:St) (H:Hp) (D:Ends),Inv X pins σ H s->t D σ H->Tn (model X.prog X.w) X.A (exec st X.env) (SP X pins D) X.xe s
def nU (X:Cx)(st:List Stmt)(t:TS):Prop :=
 ∀(pins:List (Addr×Obj)) (s:SU) (σ:St) (H:Hp) (D:Ends),Inv X pins σ H s->t D σ H->Tn (model X.prog X.w) X.A (execs st X.env) (SP X pins D) X.xe s
theorem bw {α:Type}{t:Sem α}{Q Q':α->SU->Prop}{M:Model}{A:Ud}{E:SO->SU->Prop}{s:SU}(h:Tn M A t Q E s)(hQ:∀a s,Q a s->Q' a s):Tn M A t Q' E s:=Vk h hQ λ_ _ x=>x
section
variable {X:Cx}
def DL (i:Nat):TE:=λσ H Q=>∃v,σ[i]?=some (some v)/\Q v H
def tC (v:V):TE:=λ_ H Q=>Q v H
theorem rC {i:Nat} {x:Str} {pos:Pos} (hN:X.N[i]?=some x) (hv:Dn X.env.scope x) (hd:(x==("__debug__" : Str))=false:=by decide) (ui:(x==("__classdict__" : Str))=false:=by decide):PE X (.Name x pos) (DL i):=by
 intro pins s σ H Q I h;obtain⟨v,e,h⟩:=h;obtain⟨m,hn,hl⟩:=I.loc;obtain⟨u,r,l⟩:=hl i x v hN e hv;have fin:EP X pins σ Q u s:=⟨v,H,I,r,h⟩;rcases l with⟨hk,hm⟩|⟨hk,c,hc,i8⟩
 ·exact wpAny_Name (wpAny_loadName_local I.ok.kind hk hn hm fin) hd
 ·rcases hk with hk|hk
  ·exact wpAny_Name (wpAny_loadName_cell I.ok.kind hk hc i8 fin) hd
  ·exact wpAny_Name (wpAny_loadName_free I.ok.kind hk hc i8 fin ui) hd
theorem aM {i j pos}:PE X (.Constant (.int i) j pos) (tC (.int i)):=λ_ _ _ H _ I h=>wpAny_Constant_int ⟨.int i,H,I.tok _,⟨_,rfl⟩,h⟩
theorem xN {b j pos}:PE X (.Constant (.bool b) j pos) (tC (.bl b)):=λ_ _ _ H _ I h=>Constant_bool ⟨.bl b,H,I,rfl,h⟩
theorem Ew {j pos}:PE X (.Constant .none j pos) (tC .bJ):=λ_ _ _ H _ I h=>Constant_none ⟨.bJ,H,I,rfl,h⟩
theorem xF {x j pos}:PE X (.Constant (.str x) j pos) (tC (.str x)):=λ_ _ _ H _ I h=>Calls.Constant_str ⟨.str x,H,I.tok _,⟨_,rfl⟩,h⟩
def Gl (X:Cx)(x:Str):Prop:=X.env.kindOf x=some .globalImplicit
theorem Bt {E:SO->SU->Prop}{pins:List (Addr×Obj)}{s:SU}{σ:St}{H:Hp}{x:Str}{u:SO}{pos:Pos}{Q:SO->SU->Prop}(I:Inv X pins σ H s)(hg:Gl X x)(hm:X.mg x=some u)(h:Q u s)
  (hd:(x==("__debug__" : Str))=false:=by decide):Tn (model X.prog X.w) X.A (eval (.Name x pos) X.env) Q E s :=
 XT I.ok.kind hg (Calls.loadGlobal_global (by rw[I.ok.glob];exact I.mod.glob.keeps I.bk) hm h) hd
theorem gh {E:SO->SU->Prop}{pins:List (Addr×Obj)}{s:SU}{σ:St}{H:Hp}{x:Str}{u:SO}{pos:Pos}{Q:SO->SU->Prop}(I:Inv X pins σ H s)(hg:Gl X x)(hm:X.mg x=none)(hv:Ub x=some u)(h:Q u s)
  (hn:x≠"__name__" := by decide) (hd:(x==("__debug__" : Str))=false:=by decide):Tn (model X.prog X.w) X.A (eval (.Name x pos) X.env) Q E s:=by
 obtain⟨mb,h1,h2⟩:=I.mod.blt;exact XT I.ok.kind hg (Calls.loadGlobal_builtin (by rw[I.ok.glob];exact I.mod.glob.keeps I.bk) hm (by rw[I.ok.blt];exact h1.keeps I.bk) ((h2 x hn).trans hv) h) hd
theorem AW {x:Str} {v:V} {u:SO} {pos:Pos} (hg:Gl X x) (hm:X.mg x=none) (hv:Ub x=some u) (r:RelV v u) (hn:x≠"__name__" := by decide) (hd:(x==("__debug__" : Str))=false:=by decide):PE X (.Name x pos) (tC v) :=
 λ_ _ _ H _ I h=>gh I hg hm hv ⟨v,H,I,r,h⟩ hn hd
variable {a b:Expr}{ta tb:TE}{pos:Pos}
theorem o9 (b:Expr){op:V8}(h:op≠.In)(h2:op≠.NotIn):Vd op b=false:=by
 have e1:(op==CmpOp.In)=false:=by cases op <;> first|rfl|exact absurd rfl h
 have e2:(op==CmpOp.NotIn)=false:=by cases op <;> first|rfl|exact absurd rfl h2
 cases b <;> simp[Vd,e1,e2]
def tB (t:TE):TT:=λσ H Q=>t σ H λx H1=>∃c,x=.bl c/\Q c H1
theorem Ej {e:Expr}{t:TE}(h:PE X e t)(he:∀whole,Xo e X.env whole=(do let v <- whole;Wy e.pos;holding [v] (truthy v)):=by intro _;rfl):PT X e (tB t):=by
 intro pins s σ H Q I hw;refine isTrue_plain (bw (h pins s σ H _ I hw) λv s1 ⟨x,H1,I1,r1,q1⟩=>?_) (he _);obtain⟨d,rfl,q⟩:=q1;cases r1;exact UH ⟨H1,I1,q⟩
variable {tA JT:TT}{rest:List Expr}
def KS (t u:TT):TT:=λσ H Q=>t σ H λc H1=>if c=true then u σ H1 Q else Q false H1
def Ph (t u:TT):TT:=λσ H Q=>t σ H λc H1=>if c=true then Q true H1 else u σ H1 Q
def KJ (t:TT):TT:=λσ H Q=>t σ H λc H1=>Q (!c) H1
theorem pw_and1 (ha:PT X a tA):PW X (.BoolOp .And [a] pos) tA:=by
 intro wh pins s σ H Q I h;refine isTrue_and (bw (ha pins s σ H Q I h) λc s1 e=>?_);cases c with
 |true=>exact isTrue_and_nil e
 |false=>exact e
theorem pw_or1 (ha:PT X a tA):PW X (.BoolOp .Or [a] pos) tA:=by
 intro wh pins s σ H Q I h;refine isTrue_or (bw (ha pins s σ H Q I h) λc s1 e=>?_);cases c with
 |false=>exact isTrue_or_nil e
 |true=>exact e
theorem pw_and (ha:PT X a tA)(hb:PW X (.BoolOp .And (b::rest) pos) JT):PW X (.BoolOp .And (a::b::rest) pos) (KS tA JT):=by
 intro wh pins s σ H Q I h;refine isTrue_and (bw (ha pins s σ H _ I h) λc s1 ⟨H1,I1,q1⟩=>?_);cases c with
 |true=>exact hb wh pins s1 σ H1 Q I1 q1
 |false=>exact⟨H1,I1,q1⟩
theorem pw_or (ha:PT X a tA)(hb:PW X (.BoolOp .Or (b::rest) pos) JT):PW X (.BoolOp .Or (a::b::rest) pos) (Ph tA JT):=by
 intro wh pins s σ H Q I h;refine isTrue_or (bw (ha pins s σ H _ I h) λc s1 ⟨H1,I1,q1⟩=>?_);cases c with
 |true=>exact⟨H1,I1,q1⟩
 |false=>exact hb wh pins s1 σ H1 Q I1 q1
theorem Ek (ha:PT X a tA):PT X (.UnaryOp .Not a pos) (KJ tA):=by
 intro pins s σ H Q I h;exact isTrue_not (ha pins s σ H (λc H1=>Q (!c) H1) I h)
def KI (ta tb:TE):TE:=λσ H Q=>ta σ H λx H1=>∃c,x=.bl c/\if c=true then Q (.bl true) H1 else tb σ H1 Q
theorem Eu {op}{t:TE}(h:PE X a t):PE X (.BoolOp op [a] pos) t:=λpins s σ H Q I hw=>BoolOp_one (h pins s σ H Q I hw)
theorem HC (ha:PE X a ta)(hb:PE X (.BoolOp .Or (b::rest) pos) tb):PE X (.BoolOp .Or (a::b::rest) pos) (KI ta tb):=by
 intro pins s σ H Q I h;refine BoolOp_or (bw (ha pins s σ H _ I h) λv s1 ⟨x,H1,I1,r1,q1⟩=>?_);obtain⟨c,rfl,q1⟩:=q1;cases r1;refine UH ?_;cases c with
 |false=>exact hb pins s1 σ H1 Q I1 q1
 |true=>exact⟨.bl true,H1,I1,rfl,q1⟩
def Pj (t:TT)(ta tb:TE):TE:=λσ H Q=>t σ H λc H1=>if c=true then ta σ H1 Q else tb σ H1 Q
theorem xH {c:Expr}(hc:PT X c tA)(ha:PE X a ta)(hb:PE X b tb):PE X (.IfExp c a b pos) (Pj tA ta tb):=by
 intro pins s σ H Q I h;refine wpAny_IfExp (bw (hc pins s σ H _ I h) λd s1 ⟨H1,I1,q1⟩=>?_);cases d with
 |true=>exact ha pins s1 σ H1 Q I1 q1
 |false=>exact hb pins s1 σ H1 Q I1 q1
end
def cK (K:PySem.W.Frag)(H:Hp)(a:Addr)(xs:List V):Prop :=
 Rd H a (.lst xs) \/
  ∃(o:Obj) (its:Array SO) (n:Nat),K.lookup a=some o/\o.cls=.type "list" /\ o.dict=none/\o.data=.seq its n/\its.size<=S7/\Vals xs its.toList
def og (K:PySem.W.Frag)(H:Hp)(a:Addr)(xs:List V):Prop :=
 Rd H a (.tup xs) \/
  ∃(o:Obj) (its:Array SO) (n:Nat),K.lookup a=some o/\o.cls=.type "tuple" /\ o.data=.seq its n/\its.size<=S7/\Vals xs its.toList
noncomputable def Nl:SO->Option V
 |.none=>some .bJ
 |.bool b=>some (.bl b)
 |.int i _=>some (.int i)
 |.str x _=>some (.str x)
 |.bytes b _=>some (.zF b)
 |.float b _=>some (.GD b)
 |.ref a=>some (.ref a)
 |.type n=>some (.ty n)
 |_=>none
theorem RelV.abs {x:V}{u:SO}(r:RelV x u):Nl u=some x:=by
 cases x with
 |bJ=>cases r;rfl
 |bl _=>cases r;rfl
 |int _=>obtain⟨t,rfl⟩:=r;rfl
 |str _=>obtain⟨t,rfl⟩:=r;rfl
 |zF _=>obtain⟨t,rfl⟩:=r;rfl
 |GD _=>obtain⟨t,rfl⟩:=r;rfl
 |ref _=>cases r;rfl
 |ty _=>cases r;rfl
theorem RelV.inj {x y:V}{u:SO}(r:RelV x u)(q:RelV y u):x=y:=TJ (r.abs.symm.trans q.abs)
theorem Vals.inj:∀{xs ys:List V} {us:List SO},Vals xs us->Vals ys us->xs=ys
 |_,_,_,.nil,.nil=>rfl
 |_,_,_,.cons r t,.cons r' t'=>by rw[r.inj r',Vals.inj t t']
section
variable {X:Cx}{pins:List (Addr×Obj)}{σ:St}{H:Hp}{s:SU}{a:Addr}{xs ys:List V}
theorem cK.of {K:PySem.W.Frag}(h:H a=some (.lst xs)):cK K H a xs:=.inl (.inl h)
theorem og.of {K:PySem.W.Frag}(h:H a=some (.tup xs)):og K H a xs:=.inl (.inl h)
theorem Inv.list (I:Inv X pins σ H s)(h:cK X.K H a xs):∃its:List SO,Vals xs its/\PlainL s.heap a its.toArray/\xs.length<=S7:=by
 rcases h with h|⟨o,its,n,hk,hc,hd,hs,hz,r⟩
 ·obtain⟨z,its,n,r,e⟩:=h.ok I.a_;exact⟨its,r,⟨_,n,e,rfl,rfl,rfl⟩,z⟩
 ·refine⟨its.toList,r,⟨o,n,I.pH a o hk,hc,hd,by simpa using hs⟩,?_⟩
  have e:=r.length;simp only[Tj]at e;lia
theorem Inv.tuple (I:Inv X pins σ H s)(h:og X.K H a xs):∃its:List SO,Vals xs its/\IsTup s.heap a its.toArray/\xs.length<=S7:=by
 rcases h with h|⟨o,its,n,hk,hc,hs,hz,r⟩
 ·obtain⟨z,its,r,p⟩:=h.ok I.a_;exact⟨its,r,p,z⟩
 ·refine⟨its.toList,r,⟨o,I.pH a o hk,hc,n,by simpa using hs⟩,?_⟩
  have e:=r.length;simp only[Tj]at e;lia
theorem Inv.yj (I:Inv X pins σ H s)(h:cK X.K H a xs)(h':cK X.K H a ys):xs=ys:=by
 obtain⟨its,r,⟨o,n,e,_,_,d⟩,_⟩:=I.list h;obtain⟨its',r',⟨o',n',e',_,_,d'⟩,_⟩:=I.list h';rw[e]at e';cases e';rw[d]at d';injection d' with d1 _
 have:its=its':=by simpa using congrArg Array.toList d1
 subst this;exact r.inj r'
end
noncomputable abbrev Cx.kX (X:Cx)(E:SO->SU->Prop):Cx:={X with xe:=E}
abbrev Cx.CJ (X:Cx):Cx:=X.kX λ_ _=>False
theorem Cx.Ok.kX {X:Cx}(ok:X.Ok)(E:SO->SU->Prop):(X.kX E).Ok :=
 ⟨ok.mod,ok.kind,ok.glob,ok.blt,ok.above,ok.inj,ok.has,ok.Jx,ok.hd,ok.frames,ok.JU,ok.GF,ok.bs,ok.z_,ok.vw,ok.vZ,ok.kq,ok.GC⟩
theorem Cx.Ok.fv {X:Cx}{E:SO->SU->Prop}(ok:(X.kX E).Ok):X.Ok :=
 ⟨ok.mod,ok.kind,ok.glob,ok.blt,ok.above,ok.inj,ok.has,ok.Jx,ok.hd,ok.frames,ok.JU,ok.GF,ok.bs,ok.z_,ok.vw,ok.vZ,ok.kq,ok.GC⟩
section
variable {X:Cx}{pins:List (Addr×Obj)}{σ:St}{H:Hp}{s:SU}{E:SO->SU->Prop}
theorem Inv.kX (I:Inv X pins σ H s)(E:SO->SU->Prop):Inv (X.kX E) pins σ H s:=⟨I.ok.kX E,I.os,I.bare,I.base,I.loc,I.cell,I.free,I.fE,I.pin,I.a_,I.len⟩
theorem Inv.fv (I:Inv (X.kX E) pins σ H s):Inv X pins σ H s:=⟨I.ok.fv,I.os,I.bare,I.base,I.loc,I.cell,I.free,I.fE,I.pin,I.a_,I.len⟩
theorem SP.fv {D:Ends}{f:Flow}{s':SU}(h:SP (X.kX E) pins D f s'):SP X pins D f s':=by
 cases f with
 |next=>obtain⟨σ',H',I,q⟩:=h;exact⟨σ',H',I.fv,q⟩
 |brk=>obtain⟨σ',H',I,q⟩:=h;exact⟨σ',H',I.fv,q⟩
 |cont=>obtain⟨σ',H',I,q⟩:=h;exact⟨σ',H',I.fv,q⟩
 |ret u=>obtain⟨v,σ',H',I,r,q⟩:=h;exact⟨v,σ',H',I.fv,r,q⟩
theorem nU.CJ {st:List Stmt}{t:TS}(h:nU X.CJ st t):nU X st t:=λpins s σ H D I hw =>
 Vk (h pins s σ H D (I.kX _) hw) (λ_ _ q=>q.fv) λ_ _ z=>Vp z
end
section
variable {X:Cx}{st:Stmt}{rest:List Stmt}{t u:TS}{e:Expr}{te:TE}{pos:Pos}
def G4:TS:=λD σ H=>D.nx σ H
def KG (t u:TS):TS:=λD σ H=>t {D with nx:=u D} σ H
theorem eX:nU X [] G4:=λ_ _ σ H _ I h=>Xy ⟨σ,H,I,h⟩
theorem aS (h1:PS X st t)(h2:nU X rest u):nU X (st::rest) (KG t u):=by
 intro pins s σ H D I h;refine Xk (bw (h1 pins s σ H {D with nx:=u D} I h) λf s1 q=>?_)
 cases f with
 |next =>
  obtain⟨σ',H',I',q⟩:=q;exact h2 pins s1 σ' H' D I' q
 |ret v=>exact q
 |brk=>exact q
 |cont=>exact q
theorem cj (h1:PS X st t):nU X [st] t:=by
 intro pins s σ H D I h;refine Xk (bw (h1 pins s σ H D I h) λf s1 q=>?_);cases f with
 |next=>exact Xy q
 |ret v=>exact q
 |brk=>exact q
 |cont=>exact q
theorem Inv.quiet {pins:List (Addr×Obj)}{σ:St}{H:Hp}{s:SU}(I:Inv X pins σ H s):interactive X.env=false:=by simp[interactive,I.ok.kind]
def G5 (te:TE):TS:=λD σ H=>te σ H λ_ H1=>D.nx σ H1
theorem tK (he:PE X e te)(hs:UB e none pos.line X.env=pure false:=by rfl):PS X (.Expr e pos) (G5 te):=by
 intro pins s σ H D I h;exact wpAny_Expr_any (bw (he pins s σ H _ I h) λv s1 Fu=>by obtain⟨x,H1,I1,r1,q1⟩:=Fu;exact⟨σ,H1,I1,q1⟩) I.quiet hs
def KH (te:TE):TS:=λD σ H=>te σ H D.rt
theorem eY (he:PE X e te):PS X (.Return (some e) pos) (KH te):=by
 intro pins s σ H D I h;exact wpAny_Return_some (bw (he pins s σ H _ I h) λv s1 Ft=>by obtain⟨x,H1,I1,r1,q1⟩:=Ft;exact⟨x,σ,H1,I1,r1,q1⟩)
def KO (c:TT)(t u:TS):TS:=λD σ H=>c σ H λb H1=>if b=true then t D σ H1 else u D σ H1
theorem jT {c:Expr}{a b:List Stmt}{tc:TT}(hc:PT X c tc)(ha:nU X a t)(hb:nU X b u):PS X (.If c a b pos) (KO tc t u):=by
 intro pins s σ H D I h;refine wpAny_If (bw (hc pins s σ H _ I h) λd s1 ⟨H1,I1,q1⟩=>?_);cases d with
 |true=>exact ha pins s1 σ H1 D I1 q1
 |false=>exact hb pins s1 σ H1 D I1 q1
def DM:TS:=λ_ _ _=>False
theorem vg {Po:List Stmt}:nU X Po DM:=λ_ _ _ _ _ _ h=>h.elim
end
abbrev TG:=V->St->Hp->(St->Hp->Prop)->Prop
abbrev Dp:=List V->St->Hp->(St->Hp->Prop)->Prop
def PG (X:Cx)(target:Expr)(t:TG):Prop :=
 ∀(pins:List (Addr×Obj)) (s:SU) (σ:St) (H:Hp) (v:V) (u:SO) (Q:St->Hp->Prop),Inv X pins σ H s->RelV v u->t v σ H Q ->
  Tn (model X.prog X.w) X.A (assign target X.env u) (λ_ s'=>∃σ' H',Inv X pins σ' H' s'/\Q σ' H') X.xe s
def Ds (X:Cx)(ts:List Expr)(t:Dp):Prop :=
 ∀(pins:List (Addr×Obj)) (s:SU) (σ:St) (H:Hp) (vs:List V) (us:List SO) (Q:St->Hp->Prop),Inv X pins σ H s->Vals vs us->t vs σ H Q ->
  Tn (model X.prog X.w) X.A (assignInOrder ((U9 ts X.env).map (·.2)) us) (λ_ s'=>∃σ' H',Inv X pins σ' H' s'/\Q σ' H') X.xe s
abbrev Gk:=V->V->V->Hp->(Hp->Prop)->Prop
def Gm (X:Cx)(t:Gk):Prop :=
 ∀(pins:List (Addr×Obj)) (s:SU) (σ:St) (H:Hp) (o i v:V) (ov iv u:SO) (Q:Hp->Prop),Inv X pins σ H s->RelV o ov->RelV i iv->RelV v u->t o i v H Q ->
  Tn (model X.prog X.w) X.A (setItem ov iv u) (λ_ s'=>∃H',Inv X pins σ H' s'/\Q H') X.xe s
section
variable {X:Cx}{pos:Pos}
def uk (i:Nat):TG:=λv σ H Q=>Q (σ.set i (some v)) H
theorem eZ {i:Nat}{x:Str}(hN:X.N.Nodup)(hi:X.N[i]?=some x)(hx:Loc X.env.scope x)(hf:X.fn x=true\/X.env.scope.names.lookup x=some .local:=by first|exact .inl rfl|exact .inr rfl|assumption):PG X (.Name x pos) (uk i):=by
 intro pins s σ H v u Q I r h;exact W7 (oC I hN hi hx r (λs' I'=>⟨_,H,I',h⟩) hf)
def FJ:Dp:=λvs σ H Q=>vs=[]/\Q σ H
def yQ (t:TG)(u:Dp):Dp:=λvs σ H Q=>∃v r,vs=v::r/\t v σ H λσ' H'=>u r σ' H' Q
theorem ni:Ds X [] FJ:=by
 intro pins s σ H vs us Q I r h;obtain⟨e,h⟩:=h;subst e;cases r;exact assignInOrder_nil ⟨σ,H,I,h⟩
theorem fB {e:Expr}{es:List Expr}{t:TG}{u:Dp}(h1:PG X e t)(h2:Ds X es u)
  (hs:(U9 (e::es) X.env).map (·.2)=assign e X.env::(U9 es X.env).map (·.2):=by rfl):Ds X (e::es) (yQ t u):=by
 intro pins s σ H vs us Q I r h;obtain⟨v,vr,e1,h⟩:=h;subst e1;cases r with
 |cons r rr =>
  rw[hs];refine assignInOrder_cons (bw (h1 pins s σ H _ _ _ I r h) λ_ s1 ⟨σ1,H1,I1,q1⟩=>?_);exact h2 pins s1 σ1 H1 _ _ Q I1 rr q1
def M1 (K:PySem.W.Frag)(n:Nat)(t:Dp):TG:=λv σ H Q=>∃a xs,v=.ref a/\og K H a xs/\xs.length=n/\t xs σ H Q
theorem rB {es:List Expr}{k:Nat}{t:Dp}{n:Nat}(hc:X.calm=true)(h:Ds X es t)
  (hn:(U9 es X.env).length=n:=by rfl) (C0:(U9 es X.env).findIdx? (·.1)=none:=by rfl):PG X (.Tuple es k pos) (M1 X.K n t):=by
 intro pins s σ H v u Q I r hw;obtain⟨a,xs,e1,hq,hl,hw⟩:=hw;subst e1;cases r;obtain⟨its,rv,ht,hz⟩:=I.tuple hq;refine assign_Tuple_tuple (I.ok.hd hc) ht (by simp[hn,<- hl,rv.length]) C0 λh' hx=>?_
 have I1:Inv X pins σ H {s with heap:=h'}:=I.kept (t':=s.toks) λb o e=>hx b o (Tx (Ta e)) e
 exact h pins _ σ H xs _ Q I1 (by simpa using rv) hw
def M3 (to ti:TE)(t:Gk):TG:=λv σ H Q=>to σ H λo H1=>ti σ H1 λi H2=>t o i v H2 λH3=>Q σ H3
theorem nj {o i:Expr}{to ti:TE}{t:Gk}(ho:PE X o to)(hi:PE X i ti)(hs:Gm X t)
  (ha:∀v,assign (.Subscript o i pos) X.env v=(do
   let ov <- holding [v] (eval o X.env)
   let iv <- holding [v,ov] (eval i X.env)
   Wy pos
   holding [v,ov,iv] (setItem ov iv v)
   release [v,ov,iv] []):=by intro _;rfl):PG X (.Subscript o i pos) (M3 to ti t):=by
 intro pins s σ H v u Q I r h;rw[ha];refine SN (Uu (bw (ho pins s σ H _ I h) λov s1 ⟨x,H1,I1,r1,q1⟩=>?_));refine SN (Uu (bw (hi pins s1 σ H1 _ I1 q1) λiv s2 ⟨y,H2,I2,r2,q2⟩=>?_));refine SN (Vc (SN (Uu (bw (hs pins s2 σ H2 x y v ov iv u _ I2 r1 r2 r q2) λ_ s3 ⟨H3,I3,q3⟩=>?_))));exact wpAny_release ⟨σ,H3,I3,q3⟩
def G8 (te:TE)(g:TG):TS:=λD σ H=>te σ H λx H1=>g x σ H1 D.nx
theorem gd {tg e:Expr}{te:TE}{g:TG}(he:PE X e te)(hg:PG X tg g)(hs:swapsWithSole [tg] e pos.line X.env=pure false:=by rfl)(hw:swappedStores [tg] e X.env=pure none:=by rfl)
  (h1:(U9 [tg] X.env).map (·.2)=[assign tg X.env]:=by rfl):PS X (.Assign [tg] e pos) (G8 te g):=by
 intro pins s σ H D I h;refine wpAny_Assign_stores (bw (he pins s σ H _ I h) λv s1 ⟨x,H1,I1,r1,q1⟩=>?_) hs hw;rw[h1];exact bw (hg pins s1 σ H1 x v _ I1 r1 q1) λ_ s2 q=>q
theorem cZ {i:Nat}{x:Str}{e:Expr}{te:TE}{pos':Pos}(hN:X.N.Nodup)(hi:X.N[i]?=some x)(hx:Loc X.env.scope x)(he:PE X e te)(hs:UB e (some (.Name x pos')) pos.line X.env=pure false:=by rfl)(hf:X.fn x=true\/X.env.scope.names.lookup x=some .local:=by first|exact .inl rfl|exact .inr rfl|assumption):
  PS X (.Assign [.Name x pos'] e pos) (G8 te (uk i)):=by
 intro pins s σ H D I h;refine wpAny_Assign_Name (bw (he pins s σ H _ I h) λv s1 ⟨y,H1,I1,r1,q1⟩=>?_) hs;exact oC I1 hN hi hx r1 (λs2 I2=>⟨_,H1,I2,q1⟩) hf
end
section
end
structure It where
 go:Nat->Hp->Prop
 GS:Nat->Hp->V->Hp->Prop
 stop:Nat->Hp->Prop
def dH (X:Cx)(pins:List (Addr×Obj))(H:Hp)(b:Addr):Prop :=
 H b=none/\b≠X.env.locals/\b∉X.fs/\(b∈X.ex\/X.s₀.heap.objs.size<=b)/\(∀x c,X.env.cells.lookup x=some c->c≠b)/\∀p∈X.pn++pins,p.1≠b
theorem Inv.vR {X:Cx}{pins:List (Addr×Obj)}{σ:St}{H H':Hp}{s:SU}{b:Addr}(I:Inv X pins σ H s)(hb:s.heap.objs.size<=b)(hn:H' b=none):dH X pins H' b:=by
 refine⟨hn,Nat.ne_of_gt (TH I.lt hb),I.Lr hb,.inr (T_ I.sz hb),λx c e z=>?_,λp hp z=>?_⟩
 ·obtain⟨v,q⟩:=I.cell x c e;exact absurd (TH q.lt (by rw[z];exact hb)) (VB _)
 ·exact absurd (TH (Ta (I.pin p hp).1) (by rw[z];exact hb)) (VB _)
structure Turn (P:SW)(w:S_)(K:PySem.W.Frag)(tg:Expr)(J:It)(fp:List Addr)(it:Addr)(tn:Nat->Heap->Prop):Prop where
 mem:it∈fp
 obj:∀i h,tn i h->∀b∈fp,∃o,h.get? b=some o/\∀v,o.data≠.cell v
 keep:∀i h h',tn i h->(∀b∈fp,∀o,h.get? b=some o->h'.get? b=some o)->tn i h'
 item:∀(X:Cx),X.prog=P->X.w=w->X.K=K->X.calm=true->∀(i:Nat) (pins:List (Addr×Obj)) (s:SU) (σ:St) (H:Hp) (E:SO->SU->Prop),Inv X pins σ H s->(∀b∈fp,dH X pins H b)->tn i s.heap->J.go i H ->
  Tn (model P w) X.A (XI (.ref it)) (λr s1=>∃u,r=some u /\
   Tn (model P w) X.A (WJ tg (.ref it) u) (λ_ s2=>∃x H',Inv X pins σ H' s2/\RelV x u/\J.GS i H x H'/\tn (i+1) s2.heap/\∀b∈fp,H' b=none) E s1) E s
 done:∀(X:Cx),X.prog=P->X.w=w->X.K=K->X.calm=true->∀(i:Nat) (pins:List (Addr×Obj)) (s:SU) (σ:St) (H:Hp) (E:SO->SU->Prop),Inv X pins σ H s->(∀b∈fp,dH X pins H b)->tn i s.heap->J.stop i H ->
  Tn (model P w) X.A (XI (.ref it)) (λr s1=>r=none/\Inv X pins σ H s1) E s
 self:∀(A:Ud) (i:Nat) (s:SU) (Q:SO->SU->Prop) (E:SO->SU->Prop),tn i s.heap->Q (.ref it) s->Tn (model P w) A (XJ (.ref it)) Q E s
abbrev TI:=St->Hp->(It->Hp->Prop)->Prop
def JF (X:Cx)(pins:List (Addr×Obj))(σ:St)(tg:Expr)(R:It->Hp->Prop)(wD:SO)(s2:SU):Prop :=
 ∃(it:Addr) (fp:List Addr) (tn:Nat->Heap->Prop) (J:It) (H':Hp),wD=.ref it/\Inv X pins σ H' s2/\Turn X.prog X.w X.K tg J fp it tn/\tn 0 s2.heap/\(∀b∈fp,dH X pins H' b)/\R J H'
def PI (X:Cx)(tg iter:Expr)(wi:TI):Prop :=
 ∀(pins:List (Addr×Obj)) (s:SU) (σ:St) (H:Hp) (R:It->Hp->Prop),Inv X pins σ H s->wi σ H R ->
  Tn (model X.prog X.w) X.A (eval iter X.env) (λv s1=>Tn (model X.prog X.w) X.A (XJ v) (JF X pins σ tg R) X.xe s1) X.xe s
theorem yO {M:Model}{A:Ud}{E:SO->SU->Prop}{s:SU}{tg:Expr}{it:Addr}{u:SO}{o:Obj}{n:String}{vs:Array SO}{Q:Unit->SU->Prop}(ho:s.heap.get? it=some o)(hc:o.cls=.type n)(hd:o.data=.fields vs)
  (hn:["enumerate","zip","dict_itemiterator","dict_reverseitemiterator","odict_iterator","itertools.zip_longest","itertools.pairwise"].contains n=false) (hQ:Q () s):Tn M A (WJ tg (.ref it) u) Q E s:=by
 unfold WJ;cases tg <;> first
  |exact SV hQ
  | (cases u <;> first
    |exact SV hQ
    | (refine SN (wpAny_load ho ?_)
       rw[hc,hd];show Tn M A (if (["enumerate","zip","dict_itemiterator","dict_reverseitemiterator","odict_iterator","itertools.zip_longest","itertools.pairwise"].contains n&&vs[0]?==some (rawInt _))=true then _ else _) Q E s
       rw[if_neg (by intro h;rw[hn,Bool.false_and]at h;cases h)]
       exact SV hQ))
def Kt (K:PySem.W.Frag)(a:Addr):It :=
 ⟨λi H=>∃xs x,cK K H a xs/\xs[i]?=some x,λi H x H'=>H'=H/\∀xs,cK K H a xs->xs[i]?=some x,λi H=>∃xs,cK K H a xs/\xs.length<=i⟩
def JI (lo:Int)(n:Nat):It:=⟨λi _=>i<n,λi H x H'=>H'=H/\x=.int (lo+i),λi _=>n<=i⟩
theorem uU {P:SW}{w:S_}{K:PySem.W.Frag}{tg:Expr}(a it:Addr):Turn P w K tg (Kt K a) [it] it (λi h=>h.IsListIter it a i) where
 mem:=by simp
 obj:=λi h st b hb=>by
  have e:b=it:=by simpa using hb
  subst e;obtain⟨o,e,c,d⟩:=st;exact⟨o,e,λv z=>by rw[d]at z;cases z⟩
 keep:=λi h h' st k=>st.at λo e=>k it (by simp) o e
 item:=by
  intro X hP hw hK hc i pins s σ H E I hf st hg;subst hP hw hK;obtain⟨xs,x,hq,hx⟩:=hg;obtain⟨its,rv,p,hz⟩:=I.list hq;obtain⟨u,hu,ru⟩:=rv.get hx;obtain⟨f0,f1,f2,f3,f4,f5⟩:=hf it (by simp)
  refine wpAny_pyNext_list_item st p.isList (x:=u) (by simpa using hu) λh' aC sb=>?_
  have I1:Inv X pins σ H {s with heap:=h'}:=I.turned (t':=s.toks) (λb o hb e=>(sb.2 b hb).trans e) f0 f1 f3 f4 f5
  obtain⟨o,e,c,d⟩:=id aC;exact⟨u,rfl,yO (s:={s with heap:=h'}) e c d (by decide) ⟨x,H,I1,ru,⟨rfl,λys hy=>by rw[I.yj hy hq];exact hx⟩,aC,λb hb=>(hf b hb).1⟩⟩
 done:=by
  intro X hP hw hK hc i pins s σ H E I hf st hg;subst hP hw hK;obtain⟨xs,hq,hx⟩:=hg;obtain⟨its,rv,p,hz⟩:=I.list hq;obtain⟨f0,f1,f2,f3,f4,f5⟩:=hf it (by simp)
  have hl:=rv.length;exact wpAny_pyNext_list_end (I.ok.hd hc) st p.isList (by simp;lia) λh' eb=>⟨rfl,I.turned (t':=s.toks) (λb o hb e=>eb b o hb e) f0 f1 f3 f4 f5⟩
 self:=λ_ _ _ _ _ st h=>wpAny_pyIter_listiter st h
theorem qR {P:SW}{w:S_}{K:PySem.W.Frag}{tg:Expr}(it:Addr)(lo:Int)(n:Nat):Turn P w K tg (JI lo n) [it] it (λi h=>Xv h it (lo+(i:Nat)*1) ((n:Int)-(i:Nat)) 1) where
 mem:=by simp
 obj:=λi h st b hb=>by
  have e:b=it:=by simpa using hb
  subst e;exact⟨_,st,λv z=>by
   have z':Data.fields _=Data.cell v:=z;cases z'⟩
 keep:=λi h h' st k=>k it (by simp) _ st
 item:=by
  intro X hP hw hK hc i pins s σ H E I hf st hg;subst hP hw hK;obtain⟨f0,f1,f2,f3,f4,f5⟩:=hf it (by simp)
  have W:=Walks.range (prog:=X.prog) (w:=X.w) (I.ok.hd hc) it lo 1 n;refine W.item i s _ _ hg st λv h' tk hv aC kk=>?_;obtain⟨t,rfl⟩:=hv;have I1:Inv X pins σ H {s with heap:=h',toks:=tk}:=I.turned (λb o hb e=>kk b o (by simpa using hb) e) f0 f1 f3 f4 f5
  refine⟨_,rfl,yO (s:={s with heap:=h',toks:=tk}) (n:="range_iterator") aC rfl rfl (by decide) ⟨.int (lo+i),H,I1,⟨t,?_⟩,⟨rfl,rfl⟩,aC,λb hb=>(hf b hb).1⟩⟩
  rw[Int.mul_one]
 done:=by
  intro X hP hw hK hc i pins s σ H E I hf st hg;subst hP hw hK;obtain⟨f0,f1,f2,f3,f4,f5⟩:=hf it (by simp)
  exact wpAny_pyNext_range_end (I.ok.hd hc) st (by have:n<=i:=hg;lia) λh' eb=>⟨rfl,I.turned (t':=s.toks) (λb o hb e=>eb b o hb e) f0 f1 f3 f4 f5⟩
 self:=λ_ _ _ _ _ st h=>wpAny_pyIter_rangeiter st h
section
variable {X:Cx}{tg:Expr}
def Iu (K:PySem.W.Frag)(tl:TE):TI:=λσ H R=>tl σ H λx H1=>∃a,x=.ref a/\(∃xs,cK K H1 a xs)/\R (Kt K a) H1
theorem nh {l:Expr}{tl:TE}(hl:PE X l tl):PI X tg l (Iu X.K tl):=by
 intro pins s σ H R I h;refine bw (hl pins s σ H _ I h) λv s1 ⟨x,H1,I1,r1,q1⟩=>?_;obtain⟨a,e,⟨xs,hq⟩,q⟩:=q1;subst e;cases r1;obtain⟨its,rv,p,hz⟩:=I1.list hq;refine wpAny_pyIter_list p.isList ?_;refine⟨s1.heap.objs.size,[s1.heap.objs.size],_,_,H1,rfl,I1.kept (t':=s1.toks) λb o e=>S1 _ e,uU a _,⟨_,TU _ rfl,rfl,rfl⟩,λb hb=>?_,q⟩;have e:b=s1.heap.objs.size:=by simpa using hb
 subst e;exact I1.vR (SX _) (I1.a_.fresh (SX _))
theorem oQ {pins:List (Addr×Obj)}{σ:St}{H:Hp}{s:SU}{R:It->Hp->Prop}{E:SO->SU->Prop}{lo hi:Int}{t u v:Tok}{tk:Nat}(I:Inv X pins σ H s)(h1:-(2 ^ 62)<=lo)(h2:lo<2 ^ 62)(h3:-(2 ^ 62)<=hi)(h4:hi<2 ^ 62)
  (q:R (JI lo (hi-lo).toNat) H):Tn (model X.prog X.w) X.A (XJ (.ref s.heap.objs.size)) (JF X pins σ tg R) E {s with heap:=s.heap.push {cls:=.type "range",data:=.fields #[.int lo t,.int hi u,.int 1 v]},toks:=tk}:=by
 refine wpAny_pyIter_range (IsRange.new ..) (small_one h1 h2 h3 h4) ?_;have I1:Inv X pins σ H {s with heap:=s.heap.push {cls:=.type "range",data:=.fields #[.int lo t,.int hi u,.int 1 v]},toks:=tk}:=I.kept λb o e=>S1 _ e
 refine⟨(s.heap.push {cls:=.type "range",data:=.fields #[.int lo t,.int hi u,.int 1 v]}).objs.size,[(s.heap.push {cls:=.type "range",data:=.fields #[.int lo t,.int hi u,.int 1 v]}).objs.size],_,_,H,rfl,
  I1.kept (t':=tk) λb o e=>S1 _ e,qR _ lo (hi-lo).toNat,?_,λb hb=>?_,q⟩
 ·have e1:lo+((0:Nat):Int)*1=lo:=by simp
  have e2:(((hi-lo).toNat:Nat):Int)-((0:Nat):Int)=VL lo hi 1:=by rw[rangeSize_one];split <;> lia
  show Xv _ _ (lo+((0:Nat):Int)*1) ((((hi-lo).toNat:Nat):Int)-((0:Nat):Int)) 1;rw[e1,e2];exact TU _ rfl
 ·have e:b=(s.heap.push {cls:=.type "range",data:=.fields #[.int lo t,.int hi u,.int 1 v]}).objs.size:=by simpa using hb
  subst e;exact I1.vR (SX _) (I1.a_.fresh (SX _))
def Ir (ta:TA):TI:=λσ H R=>ta σ H λvs H1=>∃j:Int,vs=[.int j]/\-(2 ^ 62)<=j/\j<2 ^ 62/\R (JI 0 j.toNat) H1
def Iq (ta:TA):TI:=λσ H R=>ta σ H λvs H1=>∃i j:Int,vs=[.int i,.int j]/\(-(2 ^ 62)<=i/\i<2 ^ 62/\-(2 ^ 62)<=j/\j<2 ^ 62)/\R (JI i (j-i).toNat) H1
theorem vm {a:Expr} {ta:TA} {p pos:Pos} (hg:Gl X "range") (hm:X.mg "range" = none) (ha:PA X [a] ta) (hs:Te [a] X.env=[(false,eval a X.env)]:=by rfl):PI X tg (.Call (.Name "range" p) [a] [] pos) (Ir ta):=by
 intro pins s σ H R I h;refine Call_ (gh I hg hm boot_range (UL (bw (ha pos pins s σ H _ I h) λus s1 ⟨vs,H1,I1,r1,q1⟩=>?_) hs rfl));obtain⟨j,e,q1,q2,q⟩:=q1;subst e;cases r1 with
 |cons r rr =>
  cases rr;obtain⟨t,rfl⟩:=r;exact call_range_1 (oQ I1 (by lia) (by lia) q1 q2 (by simpa using q))
theorem lP {a b:Expr} {ta:TA} {p pos:Pos} (hg:Gl X "range") (hm:X.mg "range" = none) (ha:PA X [a,b] ta) (hs:Te [a,b] X.env=[(false,eval a X.env),(false,eval b X.env)]:=by rfl) (rY:Te [b] X.env=[(false,eval b X.env)]:=by rfl) :
  PI X tg (.Call (.Name "range" p) [a,b] [] pos) (Iq ta):=by
 intro pins s σ H R I h;refine Call_ (gh I hg hm boot_range (UL (bw (ha pos pins s σ H _ I h) λus s1 ⟨vs,H1,I1,r1,q1⟩=>?_) (by rw[hs,rY]) (by rw[rY];rfl)))
 obtain⟨i,j,e,⟨q1,q2,q3,q4⟩,q⟩:=q1;subst e;cases r1 with
 |cons r rr =>
  cases rr with
  |cons r' rr =>
   cases rr;obtain⟨t,rfl⟩:=r;obtain⟨t',rfl⟩:=r';exact call_range_2 (oQ I1 q1 q2 q3 q4 q)
def KP (wi:TI)(g:TG)(tb:TS):TS:=λD σ H=>wi σ H λJ H1=>∃W:Nat->Nat->St->Hp->Prop,(∃m,W 0 m σ H1)/\∀i m σ H,W i m σ H ->
 (J.stop i H/\D.nx σ H)\/(J.go i H/\∃N:St->Hp->Prop,(∀σ' H',N σ' H'->∃m',m'<m/\W (i+1) m' σ' H')/\∀x H',J.GS i H x H'->g x σ H' λσ2 H2=>tb {D with nx:=N,ct:=N,bk:=D.nx} σ2 H2)
def jU (fp:List Addr)(h:Heap):List (Addr×Obj):=fp.filterMap λb=>(h.get? b).map λo=>(b,o)
theorem e_ {fp:List Addr}{h:Heap}{b:Addr}{o:Obj}(hb:b∈fp)(e:h.get? b=some o):(b,o)∈jU fp h:=List.mem_filterMap.mpr ⟨b,hb,by rw[e];rfl⟩
theorem vv {fp:List Addr}{h:Heap}{p:Addr×Obj}(hp:p∈jU fp h):p.1∈fp/\h.get? p.1=some p.2:=by
 obtain⟨b,hb,e⟩:=List.mem_filterMap.mp hp;cases q:h.get? b with
 |none=>rw[q]at e;cases e
 |some o =>
  rw[q]at e;have e':(b,o)=p:=TJ e;subst e';exact⟨hb,q⟩
theorem Inv.pinned {pins:List (Addr×Obj)}{σ:St}{H:Hp}{s:SU}{fp:List Addr}(I:Inv X pins σ H s)(hf:∀b∈fp,dH X pins H b)(ho:∀b∈fp,∃o,s.heap.get? b=some o/\∀v,o.data≠.cell v):Inv X (pins++jU fp s.heap) σ H s :=
 I.tR λp hp=>(S9.mp hp).elim (λz=>I.pin p (TM _ z)) λz=>by
  obtain⟨hb,e⟩:=vv z;obtain⟨f0,f1,f2,_⟩:=hf p.1 hb;obtain⟨o,e',d⟩:=ho p.1 hb;rw[e]at e';cases e';exact⟨e,f0,f1,f2,d⟩
theorem Inv.gB {pins pl:List (Addr×Obj)}{σ:St}{H:Hp}{s:SU}(I:Inv X (pins++pl) σ H s):Inv X pins σ H s:=I.tR λp hp=>I.pin p (TM _ (Ut _ hp))
theorem rg {iter:Expr}{body:List Stmt}{wi:TI}{g:TG}{tb:TS}{pos:Pos}(hp:PassesOwn (model X.prog X.w) X.A X.env X.xe)(hc:X.calm=true)(hi:PI X tg iter wi)(hg:PG X tg g)(hb:nU X body tb)
  (hs:∀x,TL iter X.env x=pure x:=by intro _;rfl):PS X (.For tg iter body [] pos) (KP wi g tb):=by
 intro pins s σ H D I h;refine wpAny_For (bw (hi pins s σ H _ I h) λv s1 h1=>bw h1 λwD s2 h2=>?_) hs;obtain⟨it,fp,tn,J,H2,e,I2,T,eD,f2,W,⟨m0,w0⟩,turn⟩:=h2;subst e;have qV:∀{H':Hp},(∀b∈fp,H' b=none)->∀b∈fp,dH X pins H' b:=λhn b hb=>⟨hn b hb,(f2 b hb).2⟩;refine codeAny_forLoop_any (λn s'=>∃i σ' H',Inv X pins σ' H' s'/\tn i s'.heap/\(∀b∈fp,H' b=none)/\W i n σ' H') ?_ m0 ⟨0,σ,H2,I2,eD,λb hb=>(f2 b hb).1,w0⟩;rintro n s3 ⟨i,σ3,H3,I3,jM,z5,w3⟩;rcases turn i n σ3 H3 w3 with⟨stop,qn⟩|⟨go,N,hN,step⟩
 ·refine V0 hp (bw (T.done X rfl rfl rfl hc i pins s3 σ3 H3 X.xe I3 (qV z5) jM stop) λr s4 ⟨hr,I4⟩=>?_);subst hr;exact Xy ⟨σ3,H3,I4,qn⟩
 ·refine V0 hp (bw (T.item X rfl rfl rfl hc i pins s3 σ3 H3 X.xe I3 (qV z5) jM go) λr s4 ⟨u,hr,h4⟩=>?_);subst hr;refine V0 hp (bw h4 λ_ s5 ⟨x,H5,I5,r5,y5,zV,Jm⟩=>?_);have Nv:=I5.pinned (qV Jm) (T.obj _ _ zV);refine V0 hp (bw (hg _ s5 σ3 H5 x u _ Nv r5 (step x H5 y5)) λ_ s6 ⟨σ6,H6,I6,q6⟩=>?_);refine V0 hp (bw (hb _ s6 σ6 H6 _ I6 q6) λf s7 q7=>?_);have again:∀{σ7:St} {H7:Hp},Inv X (pins++jU fp s5.heap) σ7 H7 s7->N σ7 H7->∃m,m<n/\∃i σ' H',Inv X pins σ' H' s7/\tn i s7.heap/\(∀b∈fp,H' b=none)/\W i m σ' H':=λ{σ7 H7} I7 n7=>by
   obtain⟨m',hm,w7⟩:=hN σ7 H7 n7;refine⟨m',hm,i+1,σ7,H7,I7.gB,T.keep _ _ _ zV λb hb o e=>(I7.pin (b,o) (TM _ (TM _ (e_ hb e)))).1,λb hb=>?_,w7⟩;obtain⟨o,e,d⟩:=T.obj _ _ zV b hb;exact(I7.pin (b,o) (TM _ (TM _ (e_ hb e)))).2.1
  cases f with
  |next=>obtain⟨σ7,H7,I7,n7⟩:=q7;exact again I7 n7
  |cont=>obtain⟨σ7,H7,I7,n7⟩:=q7;exact again I7 n7
  |brk=>obtain⟨σ7,H7,I7,q7⟩:=q7;exact⟨σ7,H7,I7.gB,q7⟩
  |ret v=>obtain⟨x7,σ7,H7,I7,r7,q7⟩:=q7;exact⟨x7,σ7,H7,I7.gB,r7,q7⟩
end
abbrev R2:=V->V->Hp->VK->Prop
def h9 (X:Cx)(f:SO->SO->Sem SO)(r:R2):Prop :=
 ∀(pins:List (Addr×Obj)) (s:SU) (σ:St) (H:Hp) (x y:V) (v u:SO) (Q:VK),Inv X pins σ H s->RelV x v->RelV y u->r x y H Q ->
  Tn (model X.prog X.w) X.A (f v u) (EP X pins σ Q) X.xe s
def JB (X:Cx)(f:SO->Sem SO)(r:V->Hp->VK->Prop):Prop :=
 ∀(pins:List (Addr×Obj)) (s:SU) (σ:St) (H:Hp) (x:V) (v:SO) (Q:VK),Inv X pins σ H s->RelV x v->r x H Q ->
  Tn (model X.prog X.w) X.A (f v) (EP X pins σ Q) X.xe s
def fq (X:Cx)(f:SO)(r:List V->Hp->VK->Prop):Prop :=
 ∀(pins:List (Addr×Obj)) (s:SU) (σ:St) (H:Hp) (xs:List V) (us:List SO) (Q:VK),Inv X pins σ H s->Vals xs us->r xs H Q ->
  Tn (model X.prog X.w) X.A (call f us) (EP X pins σ Q) X.xe s
def Nn (X:Cx)(r:V->Hp->(Bool->Hp->Prop)->Prop):Prop :=
 ∀(pins:List (Addr×Obj)) (s:SU) (σ:St) (H:Hp) (x:V) (v:SO) (Q:Bool->Hp->Prop),Inv X pins σ H s->RelV x v->r x H Q ->
  Tn (model X.prog X.w) X.A (truthy v) (TP X pins σ Q) X.xe s
def G2 (r:R2)(ta tb:TE):TE:=λσ H Q=>ta σ H λx H1=>tb σ H1 λy H2=>r x y H2 Q
def Pf (r:V->Hp->VK->Prop)(ta:TE):TE:=λσ H Q=>ta σ H λx H1=>r x H1 Q
def rI (C:Int->Int->Prop)(g:Int->Int->V):R2:=λx y H Q=>∃i j,x=.int i/\y=.int j/\C i j/\Q (g i j) H
def AB (g:Int->Int->V):R2:=λx y H Q=>∃i j,x=.int i/\y=.int j/\Q (g i j) H
def rU (g:Int->V):V->Hp->VK->Prop:=λx H Q=>∃i,x=.int i/\Q (g i) H
section
variable {X:Cx}{a b:Expr}{ta tb:TE}{pos:Pos}
theorem Ge (ha:PE X a ta)(hb:PE X b tb){pins:List (Addr×Obj)}{s:SU}{σ:St}{H:Hp}{R:V->V->Hp->Prop}(I:Inv X pins σ H s)
  (h:ta σ H λx H1=>tb σ H1 λy H2=>R x y H2) {Q:SO->SU->Prop} {f:SO->SO->Sem SO}
  (hf:∀v u s2 x y H2,Inv X pins σ H2 s2->RelV x v->RelV y u->R x y H2->Tn (model X.prog X.w) X.A (f v u) Q X.xe s2) :
  Tn (model X.prog X.w) X.A (eval a X.env) (λv s₁=>Tn (model X.prog X.w) X.A (eval b X.env) (λu s₂=>Tn (model X.prog X.w) X.A (f v u) Q X.xe s₂) X.xe s₁) X.xe s:=by
 refine bw (ha pins s σ H _ I h) λv s1 ⟨x,H1,I1,r1,q1⟩=>?_;refine bw (hb pins s1 σ H1 _ I1 q1) λu s2 ⟨y,H2,I2,r2,q2⟩=>?_;exact hf v u s2 x y H2 I2 r1 r2 q2
theorem bq {op:Operator}{r:R2}(ho:h9 X (Vl op) r)(ha:PE X a ta)(hb:PE X b tb):PE X (.BinOp a op b pos) (G2 r ta tb):=by
 intro pins s σ H Q I h;exact wpAny_BinOp (Ge ha hb I h λv u s2 x y H2 I2 rx ry q=>ho pins s2 σ H2 x y v u Q I2 rx ry q)
theorem CH {op:UnaryOp}{r:V->Hp->VK->Prop}(ho:JB X (unaryOp op) r)(ha:PE X a ta):PE X (.UnaryOp op a pos) (Pf r ta):=by
 intro pins s σ H Q I h;exact UnaryOp_ (bw (ha pins s σ H _ I h) λv s1 L4=>by obtain⟨x,H1,I1,r1,q1⟩:=L4;exact ho pins s1 σ H1 x v Q I1 r1 q1)
theorem JX {f:SO->SO->Sem SO}{C:Int->Int->Prop}{g:Int->Int->Int}
  (rule:∀(i j:Int) (t u:Tok) (s:SU) (Q:SO->SU->Prop) (E:SO->SU->Prop),C i j->Q (.int (g i j) s.toks) {s with toks:=s.toks+1}->Tn (model X.prog X.w) X.A (f (.int i t) (.int j u)) Q E s) :
  h9 X f (rI C λi j=>.int (g i j)):=by
 intro pins s σ H x y v u Q I rx ry h;obtain⟨i,j,rfl,rfl,hc,q⟩:=h;obtain⟨t,rfl⟩:=rx;obtain⟨t',rfl⟩:=ry;exact rule i j t t' s _ _ hc ⟨.int (g i j),H,I.tok _,⟨_,rfl⟩,q⟩
theorem HI {f:SO->SO->Sem SO}{g:Int->Int->Int}
  (rule:∀(i j:Int) (t u:Tok) (s:SU) (Q:SO->SU->Prop) (E:SO->SU->Prop),Q (.int (g i j) s.toks) {s with toks:=s.toks+1}->Tn (model X.prog X.w) X.A (f (.int i t) (.int j u)) Q E s) :
  h9 X f (AB λi j=>.int (g i j)):=by
 intro pins s σ H x y v u Q I rx ry h;obtain⟨i,j,rfl,rfl,q⟩:=h;obtain⟨t,rfl⟩:=rx;obtain⟨t',rfl⟩:=ry;exact rule i j t t' s _ _ ⟨.int (g i j),H,I.tok _,⟨_,rfl⟩,q⟩
theorem EG {f:SO->SO->Sem SO}{g:Int->Int->Bool}
  (rule:∀(i j:Int) (t u:Tok) (s:SU) (Q:SO->SU->Prop) (E:SO->SU->Prop),Q (.bool (g i j)) s->Tn (model X.prog X.w) X.A (f (.int i t) (.int j u)) Q E s) :
  h9 X f (AB λi j=>.bl (g i j)):=by
 intro pins s σ H x y v u Q I rx ry h;obtain⟨i,j,rfl,rfl,q⟩:=h;obtain⟨t,rfl⟩:=rx;obtain⟨t',rfl⟩:=ry;exact rule i j t t' s _ _ ⟨.bl (g i j),H,I,rfl,q⟩
def Cs (i j:Int):Prop:=0<=j/\j<=1000000/\i.natAbs<2 ^ 64
def iT (i j:Int):Prop:=(-(2 ^ 64)<i/\i<2 ^ 64)\/(-(2 ^ 64)<j/\j<2 ^ 64)
theorem iT.ok {i j:Int}(h:iT i j):IntMulOk i j:=by
 rcases h with⟨h1,h2⟩|⟨h1,h2⟩
 ·exact .of_left (intBits_le_64 h1 h2)
 ·exact .of_right (intBits_le_64 h1 h2)
theorem gg:h9 X (Vl .Add) (AB λi j=>.int (i+j)):=HI λ_ _ _ _ _ _ _ q=>add_int q
theorem e8:h9 X (Vl .Sub) (AB λi j=>.int (i-j)):=HI λ_ _ _ _ _ _ _ q=>sub_int q
theorem jZ:h9 X (Vl .Mult) (rI iT λi j=>.int (i*j)):=JX λ_ _ _ _ _ _ _ hc q=>mul_int q hc.ok
theorem iy:h9 X (Vl .Mod) (rI (λ_ j=>0<j) λi j=>.int (i % j)):=JX λi j _ _ _ _ _ hc q=>by
 have h1:(0:Int)<j:=hc;exact mod_int' (by lia) (by rw[Int.fmod_eq_emod_of_nonneg i (by lia)];exact q)
theorem EE:h9 X (Vl .Pow) (rI Cs λi j=>.int (i ^ j.toNat)):=JX λ_ _ _ _ _ _ _ hc q=>pow_int_small hc.1 hc.2.1 hc.2.2 q
theorem Pe {f:SO->Sem SO}{g:Int->Int}
  (rule:∀(i:Int) (t:Tok) (s:SU) (Q:SO->SU->Prop) (E:SO->SU->Prop),Q (.int (g i) s.toks) {s with toks:=s.toks+1}->Tn (model X.prog X.w) X.A (f (.int i t)) Q E s) :
  JB X f (rU λi=>.int (g i)):=by
 intro pins s σ H x v Q I rx h;obtain⟨i,rfl,q⟩:=h;obtain⟨t,rfl⟩:=rx;exact rule i t s _ _ ⟨.int (g i),H,I.tok _,⟨_,rfl⟩,q⟩
theorem wQ:JB X (unaryOp .USub) (rU λi=>.int (-i)):=Pe λ_ _ _ _ _ q=>neg_int q
end
def K1:V->V->Bool
 |.bJ,.bJ=>true | .bJ,.int _=>true | .int _,.bJ=>true | .bJ,.bl _=>true | .bl _,.bJ=>true | .bJ,.str _=>true | .str _,.bJ=>true
 |.int _,.int _=>true | .bl _,.bl _=>true | .str _,.str _=>true | .zF _,.zF _=>true
 |.int _,.str _=>true | .str _,.int _=>true | .bl _,.str _=>true | .str _,.bl _=>true
 |_,_=>false
def PJ:R2:=λx y H Q=>K1 x y=true/\Q (.bl (decide (x=y))) H
theorem BZ {i j:Int}:decide (V.int i=V.int j)=(i==j):=by
 rw[UJ];simp
theorem FU {i j:Bool}:decide (V.bl i=V.bl j)=(i==j):=by
 rw[UJ];simp
theorem BY {i j:Str}:decide (V.str i=V.str j)=(i==j):=by
 rw[UJ];simp
theorem B0 {i j:Array UInt8}:decide (V.zF i=V.zF j)=(i.toList==j.toList):=by
 rw[UJ];cases i;cases j;simp
section
variable {X:Cx}{a b c:Expr}{ta tb:TE}{pos:Pos}
theorem cb {pins:List (Addr×Obj)}{σ:St}{H:Hp}{s:SU}{Q:VK}{k k':Bool}(I:Inv X pins σ H s)(q:Q (.bl k) H)(e:k=k'):EP X pins σ Q (.bool k') s:=by
 subst e;exact⟨.bl k,H,I,rfl,q⟩
theorem HG:h9 X (Ul .Eq) PJ:=by
 intro pins s σ H x y v u Q I rx ry h;obtain⟨hs,q⟩:=h;cases x with
 |bJ =>
  cases rx;cases y with
  |bJ=>cases ry;exact PySem.EqNone.eq_none_none (cb I q (by simp))
  |bl j=>cases ry;exact PySem.EqNone.eq_none_bool (cb I q (by simp))
  |int j=>obtain⟨t',rfl⟩:=ry;exact PySem.EqNone.eq_none_int (cb I q (by simp))
  |str j=>obtain⟨t',rfl⟩:=ry;exact PySem.EqNone.eq_none_str (cb I q (by simp))
  |_=>exact absurd (show false=true from hs) Uk
 |bl i =>
  cases rx;cases y with
  |bJ=>cases ry;exact PySem.EqNone.eq_bool_none (cb I q (by simp))
  |bl j=>cases ry;exact eq_bool (cb I q FU)
  |str j=>obtain⟨t',rfl⟩:=ry;exact PySem.EqMixed.eq_bool_str (cb I q (by simp))
  |_=>exact absurd (show false=true from hs) Uk
 |int i =>
  obtain⟨t,rfl⟩:=rx;cases y with
  |bJ=>cases ry;exact PySem.EqNone.eq_int_none (cb I q (by simp))
  |int j=>obtain⟨t',rfl⟩:=ry;exact eq_int (cb I q BZ)
  |str j=>obtain⟨t',rfl⟩:=ry;exact PySem.EqMixed.eq_int_str (cb I q (by simp))
  |_=>exact absurd (show false=true from hs) Uk
 |str i =>
  obtain⟨t,rfl⟩:=rx;cases y with
  |bJ=>cases ry;exact PySem.EqNone.eq_str_none (cb I q (by simp))
  |bl j=>cases ry;exact PySem.EqMixed.eq_str_bool (cb I q (by simp))
  |int j=>obtain⟨t',rfl⟩:=ry;exact PySem.EqMixed.eq_str_int (cb I q (by simp))
  |str j=>obtain⟨t',rfl⟩:=ry;exact eq_str (cb I q BY)
  |_=>exact absurd (show false=true from hs) Uk
 |zF i =>
  obtain⟨t,rfl⟩:=rx;cases y with
  |zF j=>obtain⟨t',rfl⟩:=ry;exact PySem.W.eq_bytes (cb I q B0)
  |_=>exact absurd (show false=true from hs) Uk
 |_=>cases y <;> exact absurd (show false=true from hs) Uk
theorem HE:h9 X (Ul .Lt) (AB λi j=>.bl (decide (i<j))):=EG λ_ _ _ _ _ _ _ q=>lt_int q
theorem tW:h9 X (Ul .Gt) (AB λi j=>.bl (decide (j<i))):=EG λ_ _ _ _ _ _ _ q=>gt_int q
theorem HF:h9 X (Ul .GtE) (AB λi j=>.bl (decide (j<=i))):=EG λ_ _ _ _ _ _ _ q=>ge_int q
theorem EF:h9 X (Ul .Is) (λx y H Q=>y=.bJ/\Q (.bl (decide (x=.bJ))) H):=by
 intro pins s σ H x y v u Q I rx ry h;obtain⟨rfl,q⟩:=h;cases ry;refine is_none_gen (cb I q ?_);cases x <;> first
  | (cases rx;rfl)
  | (obtain⟨t,rfl⟩:=rx;rfl)
theorem j3 (b:Expr){op:V8}(h:op≠.In:=by decide)(h2:op≠.NotIn:=by decide):Vd op b=false:=by
 have e1:(op==CmpOp.In)=false:=by cases op <;> first|rfl|exact absurd rfl h
 have e2:(op==CmpOp.NotIn)=false:=by cases op <;> first|rfl|exact absurd rfl h2
 cases b <;> simp[Vd,e1,e2]
theorem AV {op:V8}{r:R2}(ho:h9 X (Ul op) r)(ha:PE X a ta)(hb:PE X b tb)(hm:Vd op b=false):PE X (.Compare a [op] [b] pos) (G2 r ta tb):=by
 intro pins s σ H Q I h;exact wpAny_Compare1 (Ge ha hb I h λv u s2 x y H2 I2 rx ry q=>ho pins s2 σ H2 x y v u Q I2 rx ry q) hm
def G0 (t:TE):TT:=λσ H Q=>t σ H λx H'=>∃k,x=.bl k/\Q k H'
theorem eW {op:V8}{r:R2}(ho:h9 X (Ul op) r)(ha:PE X a ta)(hb:PE X b tb)(hm:Vd op b=false):PT X (.Compare a [op] [b] pos) (G0 (G2 r ta tb)):=by
 intro pins s σ H Q I h;refine wpAny_isTrue_Compare1 (bw (ha pins s σ H _ I h) λv s1 ⟨x,H1,I1,r1,q1⟩=>bw (hb pins s1 σ H1 _ I1 q1) λu s2 ⟨y,H2,I2,r2,q2⟩ =>
  bw (ho pins s2 σ H2 x y v u _ I2 r1 r2 q2) λc s3 ⟨z,H3,I3,r3,k,e,q3⟩=>?_) hm
 subst e;cases r3;exact UH ⟨H3,I3,q3⟩
def JC (K:PySem.W.Frag)(x:V)(H:Hp)(k:Bool):Prop :=
 match x with
 |.bJ=>k=false
 |.bl b=>k=b
 |.int i=>k=(i != 0)
 |.str y=>y.length<=S7/\k=((y.length:Int) != 0)
 |.zF y=>y.size<=S7/\k=((y.size:Int) != 0)
 |.ref p=>(∃xs,cK K H p xs/\k=!xs.isEmpty)\/(∃xs,og K H p xs/\k=!xs.isEmpty)\/∃kvs,H p=some (.dK kvs)/\k=!kvs.isEmpty
 |_=>False
theorem rR {κ:Type}{kvs:List (κ×V)}{vs:List (κ×SO)}(r:KV kvs vs):(!vs.isEmpty)=!kvs.isEmpty:=by
 cases r <;> rfl
theorem kh {xs:List V}{its:List SO}(r:Vals xs its):(!its.toArray.isEmpty)=!xs.isEmpty:=by
 cases r <;> simp
theorem j9:(S7:Nat)<2 ^ 63:=by rw[TF];decide
theorem DJ:Nn X (λx H Q=>∃k,JC X.K x H k/\Q k H):=by
 intro pins s σ H x v Q I rx h;obtain⟨k,e,q⟩:=h;have hl:=j9;have hs:S7=16777216:=TF;cases x with
 |bJ =>
  cases rx;have e':k=false:=e;subst e';exact truthy_none ⟨H,I,q⟩
 |bl b =>
  cases rx;have e':k=b:=e;subst e';exact UH ⟨H,I,q⟩
 |int i =>
  obtain⟨t,rfl⟩:=rx;have e':k=(i != 0):=e;subst e';exact PySem.P.truthy_int ⟨H,I,q⟩
 |str y =>
  obtain⟨t,rfl⟩:=rx;obtain⟨hy,e'⟩:y.length<=S7/\k=((y.length:Int) != 0):=e;subst e';exact PySem.P.truthy_str (by lia) ⟨H,I.tok _,q⟩
 |zF y =>
  obtain⟨t,rfl⟩:=rx;obtain⟨hy,e'⟩:y.size<=S7/\k=((y.size:Int) != 0):=e;subst e';exact PySem.W.truthy_bytes (by lia) ⟨H,I.tok _,q⟩
 |ref p =>
  cases rx;have e':(∃xs,cK X.K H p xs/\k=!xs.isEmpty)\/(∃xs,og X.K H p xs/\k=!xs.isEmpty)\/∃kvs,H p=some (.dK kvs)/\k=!kvs.isEmpty:=e;rcases e' with⟨xs,hx,e'⟩|⟨xs,hx,e'⟩|⟨kvs,hx,e'⟩
  ·subst e';obtain⟨its,r,pl,hz⟩:=I.list hx;have hlen:=r.length;exact wpAny_truthy_list pl.isList (by simp only[Tf];lia) ⟨H,I.tok _,by rw[kh r];exact q⟩
  ·subst e';obtain⟨its,r,pl,hz⟩:=I.tuple hx;have hlen:=r.length;exact truthy_tuple pl (by simp only[Tf];lia) ⟨H,I.tok _,by rw[kh r];exact q⟩
  ·subst e';obtain⟨hz,hS,vs,r,m⟩:kvs.length<=S7/\(p==Um)=false/\∃vs,KV kvs vs/\s.heap.DictOf (aZ X.prog X.w) p vs:=I.a_ p _ hx;have hlen:kvs.length=vs.length:=Paired.length r;exact wpAny_truthy_dict hS m (by lia) ⟨H,I.tok _,by rw[rR r];exact q⟩
 |_=>exact(show False from e).elim
theorem xr (ha:PE X a ta)(he:∀whole,Xo a X.env whole=(do let v <- whole;Wy a.pos;holding [v] (truthy v))):
  PT X a (λσ H Q=>ta σ H λx H'=>∃k,JC X.K x H' k/\Q k H'):=by
 intro pins s σ H Q I h;exact isTrue_plain (bw (ha pins s σ H _ I h) λv s1 L3=>by obtain⟨x,H1,I1,r1,q1⟩:=L3;exact DJ pins s1 σ H1 x v Q I1 r1 q1) (he _)
theorem vals1 {x:V}{us:List SO}(r:Vals [x] us):∃u,us=[u]/\RelV x u:=by
 cases r with
 |cons r1 r2=>cases r2;exact⟨_,rfl,r1⟩
theorem vals2 {x y:V}{us:List SO}(r:Vals [x,y] us):∃u w',us=[u,w']/\RelV x u/\RelV y w':=by
 cases r with
 |cons r1 r2 =>
  cases r2 with
  |cons r3 r4=>cases r4;exact⟨_,_,rfl,r1,r3⟩
theorem wj (hc:X.calm=true):fq X (.builtin "max") (λxs H Q=>∃i j,xs=[.int i,.int j]/\Q (.int (if j>i then j else i)) H):=by
 intro pins s σ H xs us Q I r h;obtain⟨i,j,rfl,q⟩:=h;obtain⟨u,w',rfl,⟨t,rfl⟩,⟨t',rfl⟩⟩:=vals2 r;refine max_two_ints (I.ok.hd hc) λh' tk k=>⟨_,H,I.kept k,?_,q⟩
 by_cases hj:j>i
 ·rw[if_pos hj,if_pos hj];exact⟨_,rfl⟩
 ·rw[if_neg hj,if_neg hj];exact⟨_,rfl⟩
theorem wg (hc:X.calm=true):fq X (.builtin "min") (λxs H Q=>∃i j,xs=[.int i,.int j]/\Q (.int (if j<i then j else i)) H):=by
 intro pins s σ H xs us Q I r h;obtain⟨i,j,rfl,q⟩:=h;obtain⟨u,w',rfl,⟨t,rfl⟩,⟨t',rfl⟩⟩:=vals2 r;refine min_two_ints (I.ok.hd hc) λh' tk k=>⟨_,H,I.kept k,?_,q⟩
 by_cases hj:j<i
 ·rw[if_pos hj,if_pos hj];exact⟨_,rfl⟩
 ·rw[if_neg hj,if_neg hj];exact⟨_,rfl⟩
theorem mB:fq X (.type "int") (λxs H Q=>(∃i,xs=[.int i]/\Q (.int i) H)\/∃k,xs=[.bl k]/\Q (.int (if k then 1 else 0)) H):=by
 intro pins s σ H xs us Q I r h;rcases h with⟨i,rfl,q⟩|⟨k,rfl,q⟩
 ·obtain⟨u,rfl,t,rfl⟩:=vals1 r;exact call_int_int ⟨.int i,H,I,⟨_,rfl⟩,q⟩
 ·obtain⟨u,rfl,r1⟩:=vals1 r;cases r1;exact call_int_bool ⟨.int (if k then 1 else 0),H,I.tok _,⟨_,rfl⟩,q⟩
end
structure Gq (h:Heap)(x dx C:Addr)(mA:Str->Option SO):Prop where
 obj:h.get? x=some (PySem.W.instObj C dx)
 ns:h.Ns1 dx mA
 ne:dx≠x
theorem vB {h:Heap}{dx:Addr}{mA:Str->Option SO}(n:h.Ns1 dx mA):∃od,h.get? dx=some od/\∀name,PySem.W.lookIn name od=some (mA name):=by
 obtain⟨o,es,ep,ho,hd,hk,_,hm⟩:=n;refine⟨o,ho,λname=>?_⟩;have e:=hm name;unfold nsFind findBy at e;rw[<- Array.find?_toList]at e;unfold PySem.W.lookIn;rw[hd];dsimp only
 split
 ·rename_i y q
  rw[q]at e;exact congrArg some e
 ·rename_i q
  rw[q]at e;have a:es.toList.any (·.refKey)=false:=by
   rw[List.any_eq_false];intro y hy;obtain⟨z,t,ME⟩:=hk y (Array.mem_toList_iff.mp hy);simp[DictEntry.refKey,ME]
  have a':¬ es.toList.any (·.refKey)=true:=by rw[a];exact Uk
  rw[if_neg a'];exact congrArg some e
theorem Gq.look {h:Heap}{x dx C:Addr}{mA:Str->Option SO}(I:Gq h x dx C mA):∃od,PySem.W.InstAt h x (PySem.W.instObj C dx) C (some od)/\∀name,PySem.W.lookIn name od=some (mA name) :=
 let ⟨od,ho,hl⟩:=vB I.ns
 ⟨od,⟨I.obj,rfl,rfl,ho⟩,hl⟩
section
end
theorem kK.some_of {v:V}{o:Option SO}(r:kK (some v) o):∃u,o=some u/\RelV v u:=by
 cases o with
 |none=>exact(show False from r).elim
 |some u=>exact⟨u,rfl,r⟩
section
variable {P:SW}{w:S_}{H:Hp}{h:Heap}{a C dx:Addr}{fs:List (Str×V)}
theorem By (a_:fW P w H h)(e:H a=some (.ins C dx fs)):∃mA,Gq h a dx C mA/\(∀f,kK (fs.lookup f) (mA f))/\PySem.Within mA (fs.map (·.1))/\fs.length<=1000/\H dx=some (.own a):=by
 obtain⟨d,z,ne,ob,mA,n,r,q⟩:=(show bb P w H h a (.ins C dx fs) from a_ a _ e)
 exact⟨mA,⟨ob,n,ne⟩,r,q,z,d⟩
end
structure ND (K:PySem.W.Frag)(C:Addr):Prop where
 pg:PySem.W.plainGet K C Str.empty=true
 hd:PySem.W.hasDictIn K C=true
 po:PySem.W.plainOver K C=true
 sa:PySem.W.findIn K (.ref C) "__setattr__" = some (some (.builtin "object.__setattr__"))
theorem ND.get {K:PySem.W.Frag}{C:Addr}(c:ND K C)(f:Str):PySem.W.plainGet K C f=true:=c.pg
section
end
section
end
section
variable {X:Cx}{pins:List (Addr×Obj)}{σ:St}{H:Hp}{s:SU}{A:Ud}{E:SO->SU->Prop}{Q:SO->SU->Prop}{c:SO}{b:Bool}
inductive hJ (K:PySem.W.Frag) (H:Hp):V->SO->Prop where
 |bJ:hJ K H .bJ (.type "NoneType")
 |bl (x:Bool):hJ K H (.bl x) (.type "bool")
 |int (i:Int):hJ K H (.int i) (.type "int")
 |str (x:Str):hJ K H (.str x) (.type "str")
 |GD (x:UInt64):hJ K H (.GD x) (.type "float")
 |lst {a:Addr} {xs:List V} (e:H a=some (.lst xs)):hJ K H (.ref a) (.type "list")
 |um {a:Addr} {o:Obj} {xs:List V} (e:H a=some (.um o (.lst xs))):hJ K H (.ref a) (.type "list")
 |tup {a:Addr} {xs:List V} (e:H a=some (.tup xs)):hJ K H (.ref a) (.type "tuple")
 |dK {a:Addr} {kvs:List (Key×V)} (e:H a=some (.dK kvs)):hJ K H (.ref a) (.type "dict")
 |dT {a:Addr} {kvs:List (List Key×V)} (e:H a=some (.dT kvs)):hJ K H (.ref a) (.type "dict")
 |ins {a C dx:Addr} {fs:List (Str×V)} (e:H a=some (.ins C dx fs)) (cl:ND K C) (ha:PySem.W.findIn K (.ref C) "__class__" = some (some (.builtin "object.__class__")))
   (hn:PySem.W.specialIn K (.builtin "object.__class__") "__get__" = some (some (.builtin "getset_descriptor.__get__"))) (J_:PySem.W.takesIn K (.builtin "object.__class__")=some true)
   (hm:PySem.W.mroIn K C (.type "object")=some true):hJ K H (.ref a) (.ref C)
theorem vJ {x:V}{u t:SO}(I:Inv X pins σ H s)(rx:RelV x u)(ty:hJ X.K H x t)(e:PySem.W.kitOne X.K t c=some b)(h:∀tk,Q (.bool b) {s with toks:=tk}):
  Tn (model X.prog X.w) A (call (.builtin "isinstance") [u,c]) Q E s:=by
 cases ty with
 |bJ=>cases (show u=Value.none from rx);exact PySem.W.kia_one PySem.W.kitx_none I.pH VG e (λz=>nomatch z) h
 |bl y=>cases (show u=Value.bool y from rx);exact PySem.W.kia_one PySem.W.kitx_bool I.pH VG e (λz=>nomatch z) h
 |int i=>obtain⟨t,q⟩:=(show ∃t,u=Value.int i t from rx);cases q;exact PySem.W.kia_one PySem.W.kitx_int I.pH VG e (λz=>nomatch z) h
 |str y=>obtain⟨t,q⟩:=(show ∃t,u=Value.str y t from rx);cases q;exact PySem.W.kia_one PySem.W.kitx_str I.pH VG e (λz=>nomatch z) h
 |GD y=>obtain⟨t,q⟩:=(show ∃t,u=Value.float y t from rx);cases q;exact PySem.W.kia_one PySem.W.kitx_float I.pH VG e (λz=>nomatch z) h
 | @lst a xs ea =>
  cases (show u=Value.ref a from rx)
  obtain⟨_,_,n,_,h1⟩:=(show bb X.prog X.w H s.heap a (.lst xs) from I.a_ a _ ea)
  exact PySem.W.kia_one PySem.W.kitx_list I.pH ⟨_,h1,rfl⟩ e (λz=>nomatch z) h
 | @um a ob xs ea =>
  cases (show u=Value.ref a from rx)
  obtain⟨_,_,_,n,_,h1⟩:=(show bb X.prog X.w H s.heap a (.um ob (.lst xs)) from I.a_ a _ ea)
  exact PySem.W.kia_one PySem.W.kitx_list I.pH ⟨_,h1,rfl⟩ e (λz=>nomatch z) h
 | @tup a xs ea =>
  cases (show u=Value.ref a from rx)
  obtain⟨_,_,_,p⟩:=(show bb X.prog X.w H s.heap a (.tup xs) from I.a_ a _ ea)
  obtain⟨o,h1,h2,_⟩:=p;exact PySem.W.kia_one PySem.W.kitx_tuple I.pH ⟨o,h1,h2⟩ e (λz=>nomatch z) h
 | @dK a kvs ea =>
  cases (show u=Value.ref a from rx)
  obtain⟨_,_,vs,_,p⟩:=(show bb X.prog X.w H s.heap a (.dK kvs) from I.a_ a _ ea)
  obtain⟨o,es,ep,h1,h2,_⟩:=p;exact PySem.W.kia_one PySem.W.kitx_dict I.pH ⟨o,h1,h2.1⟩ e (λz=>nomatch z) h
 | @dT a kvs ea =>
  cases (show u=Value.ref a from rx)
  obtain⟨_,_,xs,_,o,es,ep,h1,h2,_⟩:=(show bb X.prog X.w H s.heap a (.dT kvs) from I.a_ a _ ea)
  exact PySem.W.kia_one PySem.W.kitx_dict I.pH ⟨o,h1,h2.1⟩ e (λz=>nomatch z) h
 | @ins a C dx fs ea cl ha hn J_ hm =>
  cases (show u=Value.ref a from rx)
  obtain⟨mA,O,_⟩:=By I.a_ ea;obtain⟨od,J,_⟩:=O.look;exact PySem.W.kia_one (PySem.W.kitx_own (cl.get _) cl.hd ha hn J_ hm) I.pH J e (λz=>nomatch z) h
end
structure cW (k:Nat)(A:Ud):Prop where
 hd:A.handled=none
 dp:A.depth+3*k+5<recursionLimit
 un:A.units+16*k+200<Vt
theorem cW.mono {j k:Nat}{A:Ud}(r:cW k A)(h:j<=k):cW j A:=⟨r.hd,by have:=r.dp;lia,by have:=r.un;lia⟩
theorem cW.deeper {k:Nat}{A:Ud}(r:cW (k+1) A)(env:Env):cW k (A.deeper env) :=
 ⟨r.hd,by have:=r.dp;show A.depth+1+3*k+5<_;lia,by have:=r.un;show A.units+3+16*k+200<_;lia⟩
theorem cW.depth {k:Nat}{A:Ud}(r:cW k A):A.depth<recursionLimit:=by have:=r.dp;lia
theorem cW.units {k:Nat}{A:Ud}(r:cW k A):A.units+64<Vt:=by have:=r.un;lia
def G3:TA:=λ_ H Q=>Q [] H
def Cv (ta:TE)(tr:TA):TA:=λσ H Q=>ta σ H λx H1=>tr σ H1 λxs H2=>Q (x::xs) H2
section
variable {X:Cx}{e:Expr}{es:List Expr}{te:TE}{t:TA}{pos:Pos}
theorem bu:PA X [] G3:=λ_ _ _ _ H Q I h=>Calls.spliced_nil ⟨[],H,I,.nil,h⟩
theorem aw (ha:PE X e te)(hr:PA X es t)(hs:Te (e::es) X.env=(false,eval e X.env)::Te es X.env:=by rfl):PA X (e::es) (Cv te t):=by
 intro pos pins s σ H Q I h;rw[hs];show Tn _ _ (spliced ((false,eval e X.env)::UZ pos (Te es X.env))) _ _ s;refine Calls.spliced_cons (bw (ha pins s σ H _ I h) λu s1 ⟨x,H1,I1,r1,q1⟩=>?_);exact bw (hr pos pins s1 σ H1 _ I1 q1) λus s2 ⟨xs,H2,I2,r2,q2⟩=>⟨x::xs,H2,I2,.cons r1 r2,q2⟩
def KD (t:TA):TE:=λσ H Q=>t σ H λxs H1=>xs.length<=S7/\∀p,H1 p=none->Q (.ref p) (upd H1 p (.tup xs))
def KN (t:TA):TE:=λσ H Q=>t σ H λxs H1=>xs.length<=S7/\∀p,H1 p=none->Q (.ref p) (upd H1 p (.lst xs))
theorem e7 {x1}(h:PA X es t):PE X (.Tuple es x1 pos) (KD t):=by
 intro pins s σ H Q I hq;refine wpAny_Tuple_spliced (bw (h pos pins s σ H _ I hq) λus s1 ⟨xs,H1,I1,r,z,q⟩=>⟨by rw[<- r.length];exact z,?_⟩)
 have hf:H1 s1.heap.objs.size=none:=I1.a_.fresh (SX _);refine⟨.ref s1.heap.objs.size,upd H1 s1.heap.objs.size (.tup xs),I1.laid (t':=s1.toks) (λb u e=>S1 _ e) (SX _) ?_,rfl,q _ hf⟩;exact⟨z,us,r,⟨_,TU _ rfl,rfl,_,rfl⟩⟩
theorem rD (h:PA X es t):PE X (.List es pos) (KN t):=by
 intro pins s σ H Q I hq;refine wpAny_List_spliced (bw (h pos pins s σ H _ I hq) λus s1 ⟨xs,H1,I1,r,z,q⟩=>⟨by rw[<- r.length];exact z,?_⟩)
 have hf:H1 s1.heap.objs.size=none:=I1.a_.fresh (SX _);refine⟨.ref s1.heap.objs.size,upd H1 s1.heap.objs.size (.lst xs),I1.laid (t':=s1.toks) (λb u e=>S1 _ e) (SX _) ?_,rfl,q _ hf⟩;exact⟨z,us,0,r,TU _ rfl⟩
end
abbrev Sp:=List V->Hp->VK->XK->Prop
abbrev Ad:=List Env->Hp->SU->XK->SO->SU->Prop
structure Cr (P:SW)(w:S_)(K:PySem.W.Frag)(mg:Str->Option SO)(base:Heap)(A:Ud)(outer:List Env)(s:SU)(H:Hp):Prop where
 frames:A.frames=some outer
 mod:Mod K mg base
 bs:∀b o,base.get? b=some o->s.heap.get? b=some o/\H b=none
 z_:base.objs.size<=s.heap.objs.size
 kq:s.heap.FunFrames base outer
 GC:∀b∈yS outer,H b=none
 a_:fW P w H s.heap
 bare:WI s.gens
def CE (outer:List Env)(P:SW)(w:S_)(H:Hp)(s:SU)(Q:VK)(u:SO)(s':SU):Prop :=
 ∃v H',s'.os=s.os/\WI s'.gens/\Un (yS outer) [] H H' s.heap s'.heap/\fW P w H' s'.heap/\RelV v u/\Q v H'
def CR (CX:Ad)(outer:List Env)(P:SW)(w:S_)(H:Hp)(s:SU)(Q:VK)(E:XK)(r:Result)(s':SU):Prop :=
 match r with
 |.ok (.ret u)=>CE outer P w H s Q u s'
 |.ok _=>False
 |.error e=>CX outer H s E e s'
structure bc (P:SW)(w:S_)(K:PySem.W.Frag)(mg:Str->Option SO)(base:Heap)(CX:Ad)(k:Nat)(f:Addr)(fd:T7)(ps:List Str)(sp:Sp):Prop where
 len:∀vs H Q E,sp vs H Q E->vs.length=ps.length
 run:∀(A:Ud) (outer:List Env) (s:SU) (H:Hp) (args:Args) (us:List SO) (vs:List V) (Q:VK) (E:XK),cW k A->Cr P w K mg base A outer s H->BindsTo s fd args (ps.zip us)->Vals vs us->sp vs H Q E ->
  WB (model P w) A (.call (.ref f) args) (CR CX outer P w H s Q E) s
section
variable {X:Cx}{pins:List (Addr×Obj)}{σ:St}{H:Hp}{s s':SU}
theorem Inv.M_ (I:Inv X pins σ H s):Cr X.prog X.w X.K X.mg X.base X.A X.stack s H :=
 ⟨I.ok.frames,I.ok.mod,I.bs,T_ I.ok.z_ I.sz,I.stack,I.mT,I.a_,I.bare⟩
theorem Inv.after {Q:VK}{u:SO}(I:Inv X pins σ H s)(h:CE X.stack X.prog X.w H s Q u s'):EP X pins σ Q u s':=by
 obtain⟨v,H',os,bare,un,a_,r,q⟩:=h;obtain⟨hh,g,d,t,PZ⟩:=s';obtain rfl:PZ=s.os:=os;exact⟨v,H',I.call (h':=hh) (g':=g) (d':=d) (t':=t) (ch:=[]) un a_ bare (λb z=>absurd z (by simp)),r,q⟩
end
def G7 (sp:Sp)(C7:List V)(E:XK)(t:TA):TE:=λσ H Q=>t σ H λvs H1=>sp (vs++C7) H1 Q E
def Binds (K:PySem.W.Frag)(fd:T7)(ps:List Str)(ds:List SO):Prop :=
 ∀(s:SU) (us:List SO),K.In s.heap->(us++ds).length=ps.length->BindsTo s fd ⟨us,[]⟩ (ps.zip (us++ds))
theorem Binds.all {K:PySem.W.Frag}{fd:T7}{ps:List Str}(h:∀us:List SO,us.length=ps.length->bindArgs fd ⟨us,[]⟩=pure (ps.zip us)):Binds K fd ps []:=λs us _ hl=>by
 rw[UP]at hl ⊢
 exact .of_eq (h us hl)
def Passes (CX:Ad)(X:Cx)(E:XK):Prop:=∀(pins:List (Addr×Obj)) (σ:St) (H:Hp) (s:SU) (e:SO) (s':SU),Inv X pins σ H s->CX X.stack H s E e s'->X.xe e s'
section
variable {X:Cx}{CX:Ad}{k:Nat}{f:Addr}{fd:T7}{ps:List Str}{sp:Sp}{C7:List V}{ds:List SO}{E:XK}{x:Str}{p pos:Pos}{e:Expr}{es:List Expr}{t:TA}
theorem Ed {pins:List (Addr×Obj)}{σ:St}{H:Hp}{s:SU}{Q:VK}{us:List SO}{vs:List V}(F:bc X.prog X.w X.K X.mg X.base CX k f fd ps sp)(hr:cW k X.A)(hb:Binds X.K fd ps ds)(hd:Vals C7 ds)(hx:Passes CX X E)
  (I:Inv X pins σ H s) (r:Vals vs us) (h:sp (vs++C7) H Q E):Tn (model X.prog X.w) X.A (call (.ref f) us) (EP X pins σ Q) X.xe s:=by
 have r2:Vals (vs++C7) (us++ds):=r.append hd;have hl:(us++ds).length=ps.length:=by rw[<- r2.length];exact F.len _ _ _ _ h
 refine wpAny_call (V6 (F.run X.A X.stack s H ⟨us,[]⟩ (us++ds) (vs++C7) Q E hr I.M_ (hb s us I.pH hl) r2 h) λr s' hq=>?_);cases r with
 |error e=>exact hx pins σ H s e s' I hq
 |ok fl =>
  cases fl with
  |ret u=>exact I.after hq
  |next=>exact Vp hq
  |brk=>exact Vp hq
  |cont=>exact Vp hq
theorem fM (F:bc X.prog X.w X.K X.mg X.base CX k f fd ps sp)(hr:cW k X.A)(hg:Gl X x)(hm:X.mg x=some (.ref f))(hk:PySem.W.keepIn X.K (.ref f)=true)(hb:Binds X.K fd ps ds)(hd:Vals C7 ds)(hx:Passes CX X E)
  (ha:PA X (e::es) t) (hdb:(x==("__debug__" : Str))=false:=by decide) (he:Te (e::es) X.env=(false,eval e X.env)::Te es X.env:=by rfl) (hpl:(UZ pos (Te es X.env)).any (·.1)=false:=by rfl) :
  PE X (.Call (.Name x p) (e::es) [] pos) (G7 sp C7 E t):=by
 intro pins s σ H Q I h;refine W4 (Bt I hg hm ?_ hdb);refine PySem.W.callWith_K (h₀:=X.base) I.ok.mod.LG hk (bw (ha pos pins s σ H _ I h) λus s1 ⟨vs,H1,I1,r,q⟩=>⟨I1.pH,?_⟩) he hpl;exact Ed F hr hb hd hx I1 r q
end
section
end
structure aY (N P:List Str)(sc:UR):Prop where
 kind:sc.kind=.function
 co:sc.isCoroutine=false
 gen:sc.isGenerator=false
 nd:N.Nodup
 pre:N.take P.length=P
 par:∀x∈P,sc.names.lookup x=some .local\/sc.names.lookup x=some .cell
 ET:∀y∈sc.names,y.2≠.free
theorem mkS{N P:List Str}{sc:UR}(h0:sc.kind=.function:=by rfl)(h1:sc.isCoroutine=false:=by rfl)(h2:sc.isGenerator=false:=by rfl)(h3:N.Nodup:=by decide +kernel)(h4:N.take P.length=P:=by rfl)(h5:∀x∈P,sc.names.lookup x=some .local\/sc.names.lookup x=some .cell:=by decide +kernel)(h6:∀y∈sc.names,y.2≠.free:=by decide +kernel):aY N P sc:=⟨h0,h1,h2,h3,h4,h5,h6⟩
theorem mC {kindOf:Str->Option U1}{x:Str}:∀{binds:List (Str×SO)} {m:Str->Option SO},(∀v,(x,v)∉binds)->bindL kindOf binds m x=m x
 |[],_,_=>rfl
 | (n,v)::r,m,h=>by
  unfold bindL;rw[mC λw hw=>h w (Tc _ hw)]
  split
  ·have:x≠n:=by rintro rfl;exact h v Tr
   simp[this]
  ·rfl
theorem mE {kindOf:Str->Option U1}{x:Str}:∀{binds:List (Str×SO)} {m:Str->Option SO},(∀v,(x,v)∉binds)->bindC kindOf binds m x=m x
 |[],_,_=>rfl
 | (n,v)::r,m,h=>by
  unfold bindC;rw[mE λw hw=>h w (Tc _ hw)]
  split
  ·rfl
  ·have:x≠n:=by rintro rfl;exact h v Tr
   simp[this]
theorem mD {kindOf:Str->Option U1}{x:Str}{v:SO}:∀{P:List Str} {vs:List SO} {i:Nat} {m:Str->Option SO},P.Nodup->P[i]?=some x->vs[i]?=some v->kindOf x=some .local ->
  bindL kindOf (P.zip vs) m x=some v
 |[],_,_,_,_,h,_,_=>by simp at h
 |_::_,[],_,_,_,_,h,_=>by simp at h
 |p::P,w::vs,0,m,nd,h1,h2,hk=>by
  simp at h1 h2;subst h1;subst h2;show bindL kindOf ((p,w)::P.zip vs) m p=_;unfold bindL;rw[mC λv hv=>(TN.mp nd).1 (V3 hv).1,if_pos hk];simp
 |p::P,w::vs,i+1,m,nd,h1,h2,hk=>by
  show bindL kindOf ((p,w)::P.zip vs) m x=_;unfold bindL;exact mD (i:=i) (TN.mp nd).2 (by simpa using h1) (by simpa using h2) hk
theorem mG {kindOf:Str->Option U1}{x:Str}{v:SO}:∀{P:List Str} {vs:List SO} {i:Nat} {m:Str->Option SO},P.Nodup->P[i]?=some x->vs[i]?=some v->kindOf x≠some .local ->
  bindC kindOf (P.zip vs) m x=some v
 |[],_,_,_,_,h,_,_=>by simp at h
 |_::_,[],_,_,_,_,h,_=>by simp at h
 |p::P,w::vs,0,m,nd,h1,h2,hk=>by
  simp at h1 h2;subst h1;subst h2;show bindC kindOf ((p,w)::P.zip vs) m p=_;unfold bindC;rw[mE λv hv=>(TN.mp nd).1 (V3 hv).1,if_neg hk];simp
 |p::P,w::vs,i+1,m,nd,h1,h2,hk=>by
  show bindC kindOf ((p,w)::P.zip vs) m x=_;unfold bindC;exact mG (i:=i) (TN.mp nd).2 (by simpa using h1) (by simpa using h2) hk
def start (N:List Str)(vs:List V):St:=vs.map some++TX (N.length-vs.length) none
noncomputable def ll (CX:Ad)(P:SW)(w:S_)(K:PySem.W.Frag)(mg:Str->Option SO)(base:Heap)(N:List Str)(qual:Str)(scope:UR)(f:Addr)(cd:SO)(A:Ud)(outer:List Env)(s:SU)(H:Hp)(E:XK):Cx where
 prog:=P
 w:=w
 K:=K
 mg:=mg
 base:=base
 A:=A.deeper (WA qual scope s.heap.objs.size f cd)
 N:=N
 s₀:=s
 H₀:=H
 env:=WA qual scope s.heap.objs.size f cd
 outer:=outer
 stack:=WA qual scope s.heap.objs.size f cd::outer
 ex:=[]
 calm:=true
 fn:=λ_=>true
 pn:=[]
 xe:=λe s'=>Tn (model P w) (A.deeper (WA qual scope s.heap.objs.size f cd)) (leaving (WA qual scope s.heap.objs.size f cd) e) (λ_ K5=>CX outer H s E e K5) (λe' K5=>CX outer H s E e' K5) s'
theorem qr {sc:UR}{n:Nat}{x:Str}(h:sc.names.lookup x=some .cell):∃c,(Wu n sc.names []).lookup x=some c:=by
 have q:=PySem.W.cellsFrom_some sc.names n [] (.inl h);exact Option.isSome_iff_exists.mp q
theorem vL {CX:Ad}{P:SW}{w:S_}{K:PySem.W.Frag}{mg:Str->Option SO}{base:Heap}{N ps:List Str}{qual:Str}{scope:UR}{f:Addr}{cd:SO}{A:Ud}{outer:List Env}{s s1:SU}{H:Hp}{E:XK}{us:List SO}{vs:List V}
  (S:aY N ps scope) (hd:A.handled=none) (e0:Cr P w K mg base A outer s H) (hl:vs.length=ps.length) (r:Vals vs us)
  (x:InCallC s s.heap.objs.size (bindL (WA qual scope s.heap.objs.size f cd).kindOf (ps.zip us) λ_=>none) (Wu (s.heap.objs.size+1) scope.names []) (bindC (WA qual scope s.heap.objs.size f cd).kindOf (ps.zip us) λ_=>none) s1) :
  Inv (ll CX P w K mg base N qual scope f cd A outer s H E) [] (start N vs) H s1:=by
 have hpl:ps.length<=N.length:=by have:=congrArg List.length S.pre;rw[Uj]at this;lia
 obtain⟨h1,tk,rfl,hk⟩:=x.done;have HQ:∀b:Addr,b∉(ll CX P w K mg base N qual scope f cd A outer s H E).ex:=λb z=>absurd (show b∈([]:List Addr) from z) (by simp)
 refine⟨⟨e0.mod,S.kind,rfl,rfl,SX _,λy z c h1 h2=>?_,λy hy=>?_,λy c _ h=>?_,λ_=>hd,Around.frames_deeper e0.frames,.inr ⟨rfl,rfl⟩,λb z=>absurd z (HQ b),e0.bs,e0.z_,λb _ _=>HQ b,λb z=>absurd z (HQ b),e0.kq,e0.GC⟩,
  rfl,e0.bare,Un.kept hk,⟨_,x.toInCall.ns,λi y v h1 h2 h3=>?_⟩,λy c h=>⟨_,x.cell y c h⟩,e0.a_.fresh (SX _),λy c h=>?_,λp hp=>absurd (show p∈([]:List (Addr×Obj)) from hp) (by simp),e0.a_.kept hk,?_⟩
 ·exact name_of_addr x.apart (PySem.mem_of_lookup h1) (PySem.mem_of_lookup h2)
 ·have hy:scope.names.lookup y=some .cell\/scope.names.lookup y=some .free:=hy;rcases hy with hy|hy
  ·exact qr hy
  ·exact absurd rfl (S.ET _ (PySem.mem_of_lookup hy))
 ·exact Nat.le_of_lt (x.above y c (PySem.mem_of_lookup h))
 ·have hi:i<vs.length:=by
   unfold start at h2
   by_cases hi:i<vs.length
   ·exact hi
   ·rw[Uq (by simpa using hi)]at h2
    rw[List.getElem?_replicate]at h2
    split at h2 <;> cases h2
  have ha:vs[i]?=some v:=by
   unfold start at h2;rw[UO (by simpa using hi),Th]at h2
   cases e:vs[i]? with
   |none=>rw[e]at h2;cases h2
   |some a=>rw[e]at h2;cases h2;rfl
  obtain⟨u,hu,rv⟩:=r.get ha;have hp:ps[i]?=some y:=by
   rw[<- S.pre,List.getElem?_take_of_lt (by lia)];exact h1
  have N9:ps.Nodup:=by rw[<- S.pre];exact S.nd.sublist (List.take_sublist _ _)
  refine⟨u,rv,?_⟩;rcases S.par y (TY hp)with k|k
  ·exact .inl ⟨k,mD N9 hp hu k⟩
  ·obtain⟨c,e⟩:=qr (n:=s.heap.objs.size+1) k;refine .inr ⟨.inl k,c,e,?_⟩;have q:=x.cell y c e;rw[mG N9 hp hu (by show scope.names.lookup y≠_;rw[k];decide)]at q
   exact q
 ·exact e0.a_.fresh (Nat.le_of_lt (x.above y c (PySem.mem_of_lookup h)))
 ·unfold start;show _=N.length;rw[Tw,SS,WQ];lia
theorem Jn {CX:Ad}{P:SW}{w:S_}{K:PySem.W.Frag}{mg:Str->Option SO}{base:Heap}{k:Nat}{f:Addr}{name qual:Str}{params:Arguments}{body:List Stmt}{scope:UR}{dV kV doc pm c8 ct oc:SO}{an od:Option Addr}
  {EC:Array (Option SO)} {N ps:List Str} {sp:Sp} (lk:K.lookup f=some ⟨oc,od,.func (PySem.W.fnOf name qual params body scope dV kV doc pm an c8 ct),EC⟩) (ui:PySem.W.codeIn K c8 qual=true) (S:aY N ps scope)
  (len:∀vs H Q E,sp vs H Q E->vs.length=ps.length)
  (km:∀(A:Ud) (outer:List Env) (s:SU) (H:Hp) (vs:List V) (Q:VK) (E:XK),cW k (A.deeper (WA qual scope s.heap.objs.size f c8))->sp vs H Q E ->
   ∃t,nU (ll CX P w K mg base N qual scope f c8 A outer s H E) body t/\t {nx:=λ_ H'=>Q .bJ H',rt:=Q} (start N vs) H) :
  bc P w K mg base CX (k+1) f (PySem.W.fnOf name qual params body scope dV kV doc pm an c8 ct) ps sp:=by
 refine⟨len,λA outer s H args us vs Q E hr e0 hb r l8=>?_⟩;have hl:=len _ _ _ _ l8;have KX:K.In s.heap:=e0.mod.LG.keeps λb o e=>(e0.bs b o e).1;have lim:s.heap.NoLimit:=e0.mod.nolimit.keeps λb o e=>(e0.bs b o e).1;have Jd:∀y∈ps.zip us,scope.names.lookup y.1=some .local\/(scope.names.lookup y.1=some .cell/\((Wu (s.heap.objs.size+1) scope.names []).lookup y.1).isSome=true):=λL0 hy=>by
  obtain⟨n,v⟩:=L0;rcases S.par n (V3 hy).1 with q|q
  ·exact .inl q
  ·exact .inr ⟨q,PySem.W.cellsFrom_some _ _ _ (.inl q)⟩
 refine codeAny_call_function hr.depth (KX _ _ lk) rfl S.co S.gen rfl (PySem.W.codeRec_of KX ui) (hb _ _ _ _ ?_);refine wpAny_newFunctionEnv_cells S.kind Jd λenv he s1 x=>?_;subst he;refine⟨lim.keeps x.toInCall.keep,codeAny_func ?_⟩;obtain⟨t,ht,hq⟩:=km A outer s H vs Q E (hr.deeper _) l8;have I:Inv (ll CX P w K mg base N qual scope f c8 A outer s H E) [] (start N vs) H s1:=vL S hr.hd e0 hl r x;refine Vk (ht [] s1 (start N vs) H _ I hq) (λfl s' hs=>?_) λe s' hs=>hs;have fin:∀{σ':St} {H':Hp} {v:V} {u:SO},Inv (ll CX P w K mg base N qual scope f c8 A outer s H E) [] σ' H' s'->RelV v u->Q v H'->CE outer P w H s Q u s' :=
  λ{σ' H' v u} J rv q=>⟨v,H',J.os,J.bare,J.base,J.a_,rv,q⟩
 cases fl with
 |ret u =>
  obtain⟨v,σ',H',J,rv,q⟩:=hs;exact fin J rv q
 |next =>
  obtain⟨σ',H',J,q⟩:=hs;exact fin (v:=V.bJ) (u:=Value.none) J rfl q
 |brk =>
  obtain⟨_,_,_,q⟩:=hs;exact Vp q
 |cont =>
  obtain⟨_,_,_,q⟩:=hs;exact Vp q
section
variable {X:Cx}{x:Str}{p pos:Pos}{e:Expr}{es:List Expr}{t:TA}{id T:String}{r:List V->Hp->VK->Prop}
def KQ (r:List V->Hp->VK->Prop)(t:TA):TE:=λσ H Q=>t σ H λvs H1=>r vs H1 Q
theorem jW (hc:fq X (.builtin id) r) (hg:Gl X x) (hm:X.mg x=none) (hv:Ub x=some (.builtin id)) (ha:PA X (e::es) t) (hn:x≠"__name__" := by decide) (hdb:(x==("__debug__" : Str))=false:=by decide)
  (he:Te (e::es) X.env=(false,eval e X.env)::Te es X.env:=by rfl) (hpl:(UZ pos (Te es X.env)).any (·.1)=false:=by rfl):PE X (.Call (.Name x p) (e::es) [] pos) (KQ r t):=by
 intro pins s σ H Q I h;refine W4 (gh I hg hm hv ?_ hn hdb);exact PyProof.Rows.callWith_builtin1 (bw (ha pos pins s σ H _ I h) λus s1 LZ=>by obtain⟨vs,H1,I1,r1,q1⟩:=LZ;exact hc pins s1 σ H1 vs us Q I1 r1 q1) he hpl
theorem vo (hc:fq X (.type T) r) (hg:Gl X x) (hm:X.mg x=none) (hv:Ub x=some (.type T)) (ha:PA X (e::es) t) (hn:x≠"__name__" := by decide) (hdb:(x==("__debug__" : Str))=false:=by decide)
  (he:Te (e::es) X.env=(false,eval e X.env)::Te es X.env:=by rfl) (hpl:(UZ pos (Te es X.env)).any (·.1)=false:=by rfl):PE X (.Call (.Name x p) (e::es) [] pos) (KQ r t):=by
 intro pins s σ H Q I h;refine W4 (gh I hg hm hv ?_ hn hdb);exact UL (bw (ha pos pins s σ H _ I h) λus s1 LY=>by obtain⟨vs,H1,I1,r1,q1⟩:=LY;exact hc pins s1 σ H1 vs us Q I1 r1 q1) he hpl
end
end L2
namespace HT
open PySem PyProof.Rows
def lexLt:List Int->List Int->Bool
 |[],[]=>false
 |[],_::_=>true
 |_::_,[]=>false
 |x::xs,y::ys=>if x=y then lexLt xs ys else decide (x<y)
theorem dz (x y:Int)(xs ys:List Int):lexLt (x::xs) (y::ys)=if x=y then lexLt xs ys else decide (x<y):=rfl
section
open PySem.SeqAt
open PySem.AutoSeq1 (wpAny_loadPart')
open PySem.MeetsSeq PySem.MeetsSeq2 PySem.MeetsSeq3
end
section
def n4 (n d:Nat):Option Int->Nat
 |none=>d
 |some v=>if v<0 then (v+(n:Int)).toNat else min v.toNat n
end
end HT
namespace L2
open PySem PySem.Spec PyProof.Rows
abbrev TO:=St->Hp->(Option Int->Hp->Prop)->Prop
def PO (X:Cx)(e:Option Expr)(t:TO):Prop :=
 ∀(pins:List (Addr×Obj)) (s:SU) (σ:St) (H:Hp) (Q:Option Int->Hp->Prop),Inv X pins σ H s->t σ H Q ->
  Tn (model X.prog X.w) X.A (evalPart e X.env) (λu s'=>∃o H',Inv X pins σ H' s'/\IsPart u o/\Q o H') X.xe s
def Ak:TO:=λ_ H Q=>Q none H
def G1 (t:TE):TO:=λσ H Q=>t σ H λx H1=>∃i,x=.int i/\Q (some i) H1
theorem intsAre_of {ns:List Int}:∀{us:List SO},Vals (ns.map V.int) us->WG us ns:=by
 induction ns with
 |nil=>intro us r;rw[Xf]at r;cases r;exact .nil
 |cons n ns ih =>
  intro us r;rw[S4]at r;cases r with
  |cons r1 r2 =>
   obtain⟨t,e⟩:=r1;subst e;exact .cons n t (ih r2)
section
variable {X:Cx}{e:Expr}{te:TE}{lo hi:Option Expr}{tl th:TO}{pos p2:Pos}
theorem AR:PO X none Ak:=by
 intro pins s σ H Q I h;rw[evalPart_none];exact SV ⟨none,H,I,.none,h⟩
theorem AQ (h:PE X e te):PO X (some e) (G1 te):=by
 intro pins s σ H Q I hw;rw[evalPart_some];refine bw (h pins s σ H _ I hw) λu s1 ⟨x,H1,I1,r1,q1⟩=>?_;obtain⟨i,rfl,q⟩:=q1;obtain⟨t,rfl⟩:=r1;exact⟨some i,H1,I1,.int i t,q⟩
def OY (X:Cx)(r:V->Option Int->Option Int->Hp->VK->Prop):Prop :=
 ∀(pins:List (Addr×Obj)) (s:SU) (σ:St) (H:Hp) (x:V) (v vl vu:SO) (lo hi:Option Int) (sl:Addr) (Q:VK),Inv X pins σ H s->RelV x v->s.heap.IsSliceOf sl vl vu .none->IsPart vl lo->IsPart vu hi->r x lo hi H Q ->
  ∃T id,typeLookup (.type T) "__getitem__" = pure (some (.builtin id))/\s.TypeIs v T/\Tn (model X.prog X.w) X.A (Wz v (.ref sl)) (EP X pins σ Q) X.xe s
def Pg (r:V->Option Int->Option Int->Hp->VK->Prop)(te:TE)(tl th:TO):TE:=λσ H Q=>te σ H λx H1=>tl σ H1 λl H2=>th σ H2 λu H3=>r x l u H3 Q
theorem xG {r:V->Option Int->Option Int->Hp->VK->Prop}(hr:OY X r)(he:PE X e te)(hl:PO X lo tl)(hu:PO X hi th):PE X (.Subscript e (.Slice lo hi none p2) pos) (Pg r te tl th):=by
 intro pins s σ H Q I h;refine XR (bw (he pins s σ H _ I h) λv s1 ⟨x,H1,I1,r1,q1⟩=>?_);refine wpAny_Slice (bw (hl pins s1 σ H1 _ I1 q1) λvl s2 ⟨l,H2,I2,pl,q2⟩=>bw (hu pins s2 σ H2 _ I2 q2) λvu s3 ⟨u,H3,I3,pu,q3⟩=>?_);rw[evalPart_none];refine SV ?_;have I4:Inv X pins σ H3 {s3 with heap:=s3.heap.push {cls:=.type "slice",data:=.fields #[vl,vu,.none]}}:=I3.kept (t':=s3.toks) λb ob q=>S1 _ q
 obtain⟨T,id,hT,ht,hg⟩:=hr pins {s3 with heap:=s3.heap.push {cls:=.type "slice",data:=.fields #[vl,vu,.none]}} σ H3 x v vl vu l u s3.heap.objs.size Q I4 r1 (Heap.IsSliceOf.new ..) pl pu q3
 show Tn (model X.prog X.w) X.A (WY e (.Slice lo hi none p2) v (.ref s3.heap.objs.size)) (EP X pins σ Q) X.xe {s3 with heap:=s3.heap.push {cls:=.type "slice",data:=.fields #[vl,vu,.none]}}
 exact tail_any (ops:=[.ref s3.heap.objs.size,v]) ht hT hg (by with_unfolding_all rfl)
def wd (xs:List V)(lo hi:Option Int):List V:=(xs.drop (HT.n4 xs.length 0 lo)).take (HT.n4 xs.length xs.length hi-HT.n4 xs.length 0 lo)
theorem ql (xs:List V)(lo hi:Option Int):(wd xs lo hi).length<=xs.length:=by
 unfold wd;rw[Uj,List.length_drop];lia
end
def qF (n:Nat)(i:Int):Option Nat:=if 0<=i then (if i<n then some i.toNat else none) else if -(n:Int)<=i then some (i+n).toNat else none
def lx {α:Type}(xs:List α)(i:Int):Option α:=(qF xs.length i).bind λj=>xs[j]?
theorem uc {n:Nat}{i:Int}{j:Nat}(h:qF n i=some j):Xn i n=some j/\j<n/\-(n:Int)<=i/\i<n:=by
 unfold qF at h
 by_cases h0:0<=i
 ·rw[if_pos h0]at h
  by_cases h1:i<n
  ·rw[if_pos h1]at h;have e:i.toNat=j:=TJ h;exact⟨by rw[seqIndex_of h0 h1,e],by lia,by lia,h1⟩
  ·rw[if_neg h1]at h;cases h
 ·rw[if_neg h0]at h
  by_cases h1:-(n:Int)<=i
  ·rw[if_pos h1]at h;have e:(i+n).toNat=j:=TJ h;exact⟨by rw[seqIndex_neg (by lia) h1,e],by lia,h1,by lia⟩
  ·rw[if_neg h1]at h;cases h
theorem uP {α:Type}{xs:List α}{i:Int}{v:α}(h:lx xs i=some v):∃j,Xn i xs.length=some j/\xs[j]?=some v/\j<xs.length/\-(xs.length:Int)<=i/\i<xs.length:=by
 unfold lx at h;cases e:qF xs.length i with
 |none=>rw[e]at h;cases h
 |some j =>
  rw[e]at h;obtain⟨h1,h2,h3,h4⟩:=uc e;exact⟨j,h1,h,h2,h3,h4⟩
def jC (b:Expr):Prop:=∀o i,subscripted b false o i=operate [o,i] (Wz o i)
def Du (X:Cx)(r:R2):Prop :=
 ∀(value slice:Expr) (pins:List (Addr×Obj)) (s:SU) (σ:St) (H:Hp) (x y:V) (v u:SO) (Q:VK),Inv X pins σ H s->RelV x v->RelV y u->r x y H Q ->
  subscripted slice false v u=operate [v,u] (Wz v u)->Tn (model X.prog X.w) X.A (WY value slice v u) (EP X pins σ Q) X.xe s
def Nt (X:Cx)(id:String)(r:V->List V->Hp->VK->Prop):Prop :=
 ∀(pins:List (Addr×Obj)) (s:SU) (σ:St) (H:Hp) (x:V) (xs:List V) (v:SO) (us:List SO) (Q:VK),Inv X pins σ H s->RelV x v->Vals xs us->r x xs H Q ->
  Tn (model X.prog X.w) X.A (call (.builtin id) (v::us)) (EP X pins σ Q) X.xe s
section
variable {X:Cx}{a b:Expr}{ta tb:TE}{pos:Pos}
theorem fC {r:R2}(hr:Du X r)(ha:PE X a ta)(hb:PE X b tb)(hs:jC b):PE X (.Subscript a b pos) (G2 r ta tb):=by
 intro pins s σ H Q I h;exact XR (Ge ha hb I h λv u s2 x y H2 I2 rx ry q=>hr a b pins s2 σ H2 x y v u Q I2 rx ry q (hs _ _))
def Hj (K:PySem.W.Frag):R2:=λx y H Q=>∃p xs i v,x=.ref p/\y=.int i/\cK K H p xs/\lx xs i=some v/\Q v H
def Hi (K:PySem.W.Frag):R2:=λx y H Q=>∃p xs i v,x=.ref p/\y=.int i/\og K H p xs/\lx xs i=some v/\Q v H
theorem cQ:Du X (Hj X.K):=by
 intro value slice pins s σ H x y v u Q I rx ry h hs;obtain⟨p,xs,i,z,rfl,rfl,hq,he,q⟩:=h;cases rx;obtain⟨t,rfl⟩:=ry;obtain⟨its,r,pl,hz⟩:=I.list hq;obtain⟨j,h1,h2,h3,h4,h5⟩:=uP he;obtain⟨w,ew,vc⟩:=r.get h2;have hl:=r.length;have hn:=j9;have fin:EP X pins σ Q w s:=⟨z,H,I,vc,q⟩
 by_cases h0:0<=i
 ·have hj:i.toNat=j:=by
   rw[seqIndex_of h0 h5]at h1;exact TJ h1
  exact item_listR pl.isList h0 (by lia) (by rw[hj];simpa using ew) fin hs
 ·have hj:(i+(its.toArray.size:Int)).toNat=j:=by
   rw[seqIndex_neg (by lia) h4]at h1
   rw[Tf,<- hl];exact TJ h1
  exact subscriptTail_builtinR (x:=w) pl.isList.typeIs W9.lookup
   (wpAny_getItem_list_neg (Q:=λr s'=>r=w/\EP X pins σ Q r s') pl.isList (by lia) (by rw[Tf] <;> lia) (by lia) (by rw[hj];simpa using ew) ⟨rfl,fin⟩) hs
theorem yu:Du X (Hi X.K):=by
 intro value slice pins s σ H x y v u Q I rx ry h hs;obtain⟨p,xs,i,z,rfl,rfl,hq,he,q⟩:=h;cases rx;obtain⟨t,rfl⟩:=ry;obtain⟨its,r,pl,hz⟩:=I.tuple hq;obtain⟨j,h1,h2,h3,h4,h5⟩:=uP he;obtain⟨w,ew,vc⟩:=r.get h2;have hl:=r.length;have hn:=j9;have fin:EP X pins σ Q w s:=⟨z,H,I,vc,q⟩;exact subscriptTail_builtinR (x:=w) pl.typeIs slot_tuple_getitem.lookup
  (getItem_tuple (j:=j) (Q:=λr s'=>r=w/\EP X pins σ Q r s') pl (by lia) (by lia) (by rw[Tf,<- hl];exact h1) (by simpa using ew) ⟨rfl,fin⟩) hs
theorem rK (its:List SO)(n j:Nat)(u:SO):Vm (·.setIfInBounds j u) {cls:=.type "list",data:=.seq its.toArray n}={cls:=.type "list",data:=.seq (its.set j u).toArray n}:=by
 simp[Vm]
theorem Inv.lst {pins:List (Addr×Obj)}{σ:St}{H:Hp}{s:SU}{p:Addr}{xs:List V}(I:Inv X pins σ H s)(h:H p=some (.lst xs)):
  ∃(its:List SO) (n:Nat),Vals xs its/\s.heap.get? p=some {cls:=.type "list",data:=.seq its.toArray n}/\xs.length<=S7:=by
 obtain⟨z,its,n,r,e⟩:=I.a_ p _ h;exact⟨its,n,r,e,z⟩
theorem Inv.EZ {pins:List (Addr×Obj)}{σ:St}{H:Hp}{s:SU}{p:Addr}{xs ys:List V}{its its':List SO}{n n':Nat}{f:Obj->Obj}(I:Inv X pins σ H s)(h:H p=some (.lst xs))
  (ho:s.heap.get? p=some {cls:=.type "list",data:=.seq its.toArray n}) (hf:f {cls:=.type "list",data:=.seq its.toArray n}={cls:=.type "list",data:=.seq its'.toArray n'}) (r:Vals ys its') (hz:ys.length<=S7) (t:Nat) :
  Inv X pins σ (upd H p (.lst ys)) {s with heap:=s.heap.update p f,toks:=t}:=by
 have e:(s.heap.update p f).get? p=some {cls:=.type "list",data:=.seq its'.toArray n'}:=by
  rw[Heap.get?_update_self f ho (by rw[hf] <;> rfl),hf]
 refine I.write (x:=p) (e:=p) (by rw[h];trivial) (.inl rfl) (λb u hb q=>(Heap.get?_update_other _ _ (U_ hb)).trans q) ⟨_,e⟩ ?_
 exact⟨hz,its',n',r,e⟩
def Hh:V->V->V->Hp->(Hp->Prop)->Prop:=λo i v H Q=>∃p xs k j,o=.ref p/\i=.int k/\H p=some (.lst xs)/\qF xs.length k=some j/\Q (upd H p (.lst (xs.set j v)))
theorem set_list:Gm X Hh:=by
 intro pins s σ H o i v ov iv u Q I ro ri rv h;obtain⟨p,xs,k,j,rfl,rfl,hp,hj,q⟩:=h;cases ro;obtain⟨t,rfl⟩:=ri;obtain⟨its,n,r,ho,hz⟩:=I.lst hp;obtain⟨h1,h2,h3,h4⟩:=uc hj;have hl:=r.length;have hn:=j9;have I':Inv X pins σ (upd H p (.lst (xs.set j v))) {s with heap:=s.heap.update p (Vm (·.setIfInBounds j u))} :=
  I.EZ hp ho (rK its n j u) (r.set rv j) (by rw[List.length_set];exact hz) s.toks
 by_cases h0:0<=k
 ·have hk:k.toNat=j:=by
   rw[seqIndex_of h0 h4]at h1;exact TJ h1
  exact PySem.W.ki_setAt ho h0 (by lia) (by rw[Tf,<- hl];exact h4) (by rw[hk];exact⟨_,I',q⟩)
 ·have hk:(k+(its.toArray.size:Int)).toNat=j:=by
   rw[seqIndex_neg (by lia) h3]at h1
   rw[Tf,<- hl];exact TJ h1
  exact PySem.W.ki_setBack ho (by lia) (by rw[Tf,<- hl];exact h3) (by lia) (by rw[hk];exact⟨_,I',q⟩)
theorem mX (lo hi:Option Int)(n:Nat):(U8 lo hi none n).1=((HT.n4 n 0 lo:Nat):Int)/\(U8 lo hi none n).2.1=((HT.n4 n n hi:Nat):Int)/\(U8 lo hi none n).2.2=1:=by
 refine⟨?_,?_,rfl⟩
 ·cases lo with
  |none=>simp[U8,HT.n4]
  |some i =>
   simp only[U8,HT.n4,Option.getD_none,show (1:Int)>0 by decide,if_true]
   by_cases h:i<0
   ·simp only[h,if_true] <;> lia
   ·simp only[h,if_false] <;> lia
 ·cases hi with
  |none=>simp[U8,HT.n4]
  |some i =>
   simp only[U8,HT.n4,Option.getD_none,show (1:Int)>0 by decide,if_true]
   by_cases h:i<0
   ·simp only[h,if_true] <;> lia
   ·simp only[h,if_false] <;> lia
theorem k_ (its:List SO)(lo hi:Option Int):slicePick its.toArray lo hi none=((its.drop (HT.n4 its.length 0 lo)).take (HT.n4 its.length its.length hi-HT.n4 its.length 0 lo)).toArray:=by
 obtain⟨h1,h2,h3⟩:=mX lo hi its.toArray.size;unfold slicePick;rw[h1,h2,h3];simp only[sliceRange_one,pick_run,Tf] <;> rfl
def K7 (K:PySem.W.Frag):V->Option Int->Option Int->Hp->VK->Prop:=λx lo hi H Q=>∃a xs,x=.ref a/\cK K H a xs/\∀p,H p=none->Q (.ref p) (upd H p (.lst (wd xs lo hi)))
theorem Ar:OY X (K7 X.K):=by
 intro pins s σ H x v vl vu lo hi sl Q I rx hs pl pu h;obtain⟨a,xs,rfl,hx,q⟩:=h;cases rx;obtain⟨its,r,ht,hz⟩:=I.list hx;have hlen:=r.length;refine⟨"list",_,W9.lookup,ht.isList.typeIs,?_⟩;refine wpAny_getItem_list_slice ht.isList hs pl pu .none (by simp) ?_ (by rw[Tf] <;> lia)
 rw[k_,<- hlen];refine⟨.ref s.heap.objs.size,_,I.laid (t':=s.toks) (o:=.lst (wd xs lo hi)) (λb ob q=>S1 _ q) (SX _) ?_,rfl,q _ (I.a_.fresh (SX _))⟩;exact⟨T_ (ql xs lo hi) hz,_,0,(r.drop (HT.n4 xs.length 0 lo)).take (HT.n4 xs.length xs.length hi-HT.n4 xs.length 0 lo),TU _ rfl⟩
theorem gX:fq X (.builtin "len") (λxs H Q=>∃p ys,xs=[.ref p]/\(cK X.K H p ys\/og X.K H p ys)/\Q (.int ys.length) H):=by
 intro pins s σ H xs us Q I r h;obtain⟨p,ys,rfl,hq,q⟩:=h;obtain⟨u,rfl,rx⟩:=vals1 r;cases rx;have hn:=j9;rcases hq with hq|hq
 ·obtain⟨its,r',pl,hz⟩:=I.list hq;have hlen:=r'.length;exact Calls.call_len_list pl.isList (by simp only[Tf] <;> lia) ⟨.int ys.length,H,I.tok _,⟨s.toks+1,by rw[Tf,hlen]⟩,q⟩
 ·obtain⟨its,r',pl,hz⟩:=I.tuple hq;have hlen:=r'.length;exact len_tuple pl (by simp only[Tf] <;> lia) ⟨.int ys.length,H,I.tok _,⟨s.toks+1,by rw[Tf,hlen]⟩,q⟩
theorem gW:fq X (.type "list") (λxs H Q=>∃p ys,xs=[.ref p]/\(cK X.K H p ys\/og X.K H p ys)/\∀l,H l=none->Q (.ref l) (upd H l (.lst ys))):=by
 intro pins s σ H xs us Q I r h;obtain⟨p,ys,rfl,hq,q⟩:=h;obtain⟨u,rfl,rx⟩:=vals1 r;cases rx;have fin:∀(its:List SO),Vals ys its->ys.length<=S7->∀(h':Heap) (c':Nat),(∀b o',s.heap.get? b=some o'->h'.get? b=some o') ->
   h'.get? s.heap.objs.size=some {cls:=.type "list",dict:=none,data:=.seq its.toArray c',slots:=#[]}->EP X pins σ Q (.ref s.heap.objs.size) {s with heap:=h'}:=λits r' hz h' c' kp e =>
  ⟨.ref s.heap.objs.size,_,I.laid (t':=s.toks) kp (SX _) (show bb X.prog X.w _ h' _ (.lst ys) from ⟨hz,its,c',r',e⟩),rfl,q _ (I.a_.fresh (SX _))⟩
 rcases hq with hq|hq
 ·obtain⟨its,r',pl,hz⟩:=I.list hq;have hlen:=r'.length;obtain⟨o,ho,hc,n,hd⟩:=pl.isList;exact call_list_seq p (.inl rfl) ho hc hd (λh' c' kp e=>fin its r' hz h' c' kp e) (by simp only[Tf] <;> lia)
 ·obtain⟨its,r',pl,hz⟩:=I.tuple hq;have hlen:=r'.length;obtain⟨o,ho,hc,n,hd⟩:=pl;exact call_list_seq p (.inr rfl) ho hc hd (λh' c' kp e=>fin its r' hz h' c' kp e) (by simp only[Tf] <;> lia)
def JQ (K:PySem.W.Frag)(T:String)(x:V)(H:Hp):Prop:=match x with
 |.str _=>T="str"
 |.int _=>T="int"
 |.ref p=>(T="list" /\ ∃xs,cK K H p xs)\/(T="tuple" /\ ∃o,K.lookup p=some o/\o.cls=.type "tuple" /\ o.dict=none) \/
   (T="dict" /\ ((∃kvs,H p=some (.dK kvs))\/∃kvs,H p=some (.dT kvs)))\/(T="set" /\ ∃S n,H p=some (.set S n))
 |_=>False
theorem wV {pins:List (Addr×Obj)}{σ:St}{H:Hp}{s:SU}{T:String}{x:V}{v:SO}(I:Inv X pins σ H s)(r:RelV x v)(ty:JQ X.K T x H):
  s.TypeIs v T/\∀a,v=.ref a->∃ob,s.heap.get? a=some ob/\ob.dict=none:=by
 cases x with
 |str z =>
  obtain⟨t,rfl⟩:=r;cases (show T="str" from ty)
  exact⟨typeIs_str s z t,λ_ e=>nomatch e⟩
 |int i =>
  obtain⟨t,rfl⟩:=r;cases (show T="int" from ty)
  exact⟨typeIs_int s i t,λ_ e=>nomatch e⟩
 |ref p =>
  cases r;rcases ty with⟨rfl,xs,hq⟩|⟨rfl,o,hk,hc,hd⟩|⟨rfl,hk⟩|⟨rfl,S,n,hk⟩
  ·obtain⟨its,_,pl,_⟩:=I.list hq;refine⟨pl.isList.typeIs,λa e=>?_⟩;cases e;obtain⟨o,n,e,c,hd,_⟩:=pl;exact⟨o,e,hd⟩
  ·refine⟨⟨o,I.pH p o hk,hc⟩,λa e=>?_⟩;cases e;exact⟨o,I.pH _ o hk,hd⟩
  ·have z:∃o,s.heap.get? p=some o/\o.ExactDict:=by
    rcases hk with⟨kvs,hk⟩|⟨kvs,hk⟩
    ·obtain⟨_,_,_,_,o,_,_,e,ex,_⟩:=I.a_ p _ hk;exact⟨o,e,ex⟩
    ·obtain⟨_,_,_,_,o,_,_,e,ex,_⟩:=I.a_ p _ hk;exact⟨o,e,ex⟩
   obtain⟨o,e,ex⟩:=z;refine⟨⟨o,e,ex.1⟩,λa e2=>?_⟩;cases e2;exact⟨o,e,ex.2.1⟩
  ·obtain⟨o,_,_,_,e,ex,_⟩:=I.a_ p _ hk;refine⟨⟨o,e,ex.1⟩,λa e2=>?_⟩;cases e2;exact⟨o,e,ex.2.1⟩
 |_=>exact Vp ty
def KR (K:PySem.W.Frag)(T:String)(r:V->List V->Hp->VK->Prop)(to:TE):TE:=λσ H Q=>to σ H λx H1=>JQ K T x H1/\r x [] H1 Q
def Pk (K:PySem.W.Frag)(T:String)(r:V->List V->Hp->VK->Prop)(to:TE)(t:TA):TE:=λσ H Q=>to σ H λx H1=>JQ K T x H1/\t σ H1 λxs H2=>r x xs H2 Q
variable {o e:Expr}{es:List Expr}{to:TE}{t:TA}{name:Str}{apos cpos:Pos}{T id:String}{r:V->List V->Hp->VK->Prop}
theorem Ex (pa:PlainAttrs T) (slot:Slot T name id) (LU:typeOf (.builtin id)=pure (.type "method_descriptor")) (hm:Nt X id r) (ho:PE X o to)
  (eT:Vz o name X.env (eval o X.env)=eval o X.env:=by rfl) (eR:(apos.endLine==cpos.line)=true:=by rfl):PE X (.Call (.Attribute o name apos) [] [] cpos) (KR X.K T r to):=by
 intro pins s σ H Q I h;refine wpAny_Call_method0_late eT eR (bw (ho pins s σ H _ I h) λv s1 ⟨x,H1,I1,r1,ty,q1⟩=>?_);obtain⟨h1,h2⟩:=wV I1 r1 ty;exact⟨T,id,pa,slot,LU,h1,h2,Calls.callWith_builtin rfl (PySem.evalArgs_none (hm pins s1 σ H1 x [] v [] Q I1 r1 .nil q1))⟩
theorem tS (pa:PlainAttrs T) (slot:Slot T name id) (LU:typeOf (.builtin id)=pure (.type "method_descriptor")) (hm:Nt X id r) (ho:PE X o to) (ha:PA X (e::es) t)
  (eT:Vz o name X.env (eval o X.env)=eval o X.env:=by rfl)
  (nH:((UZ cpos (Te (e::es) X.env)).all (λx=>!x.1)&&(XO cpos (WR [] X.env)).all (λx=>x.1.isSome)
   && decide ((e::es).length+([]:List Wh).length+(if ([]:List Wh).isEmpty then 0 else 1)<30))=true:=by rfl)
  (eR:(apos.endLine==cpos.line)=true:=by rfl) (hs:Te (e::es) X.env=(false,eval e X.env)::Te es X.env:=by rfl) (gj:(UZ cpos (Te es X.env)).any (·.1)=false:=by rfl) :
  PE X (.Call (.Attribute o name apos) (e::es) [] cpos) (Pk X.K T r to t):=by
 intro pins s σ H Q I h;refine wpAny_Call_method_late eT nH eR rfl (bw (ho pins s σ H _ I h) λv s1 ⟨x,H1,I1,r1,ty,q1⟩=>?_);obtain⟨h1,h2⟩:=wV I1 r1 ty;refine⟨T,id,pa,slot,LU,h1,h2,?_⟩;have hA:=ha cpos pins s1 σ H1 _ I1 q1;rw[hs]at hA ⊢
 refine Calls.callWith_builtin (by show (false || (UZ cpos (Te es X.env)).any (·.1))=false;rw[gj] <;> rfl) (Calls.evalArgs_plain ?_)
 exact bw hA λus s2 ⟨vs,H2,I2,r2,q2⟩=>hm pins s2 σ H2 x vs v us Q I2 r1 r2 q2
end
def Nu (X:Cx)(id:String)(r:V->List V->Hp->VK->Prop):Prop :=
 ∀(pins:List (Addr×Obj)) (s:SU) (σ:St) (H:Hp) (x:V) (xs:List V) (v:SO) (us:List SO) (Q:VK),Inv X pins σ H s->RelV x v->Vals xs us->r x xs H Q ->
  Tn (model X.prog X.w) X.A (call (.builtin id) (v::us)) (EP X pins σ Q) X.xe s
theorem Vals.one:∀{x:V} {us:List SO},Vals [x] us->∃u,us=[u]/\RelV x u
 |_,_,.cons r .nil=>⟨_,rfl,r⟩
theorem Vals.zero:∀{us:List SO},Vals [] us->us=[]
 |_,.nil=>rfl
theorem Vals.dropLast {xs:List V}{us:List SO}(h:Vals xs us):Vals xs.dropLast us.dropLast:=by
 induction h with
 |nil=>exact .nil
 |cons r t ih =>
  cases t with
  |nil=>exact .nil
  |cons q t'=>exact .cons r ih
theorem Vals.eraseIdx:∀{xs:List V} {us:List SO} (i:Nat),Vals xs us->Vals (xs.eraseIdx i) (us.eraseIdx i)
 |_,_,_,.nil=>.nil
 |_,_,0,.cons _ t=>t
 |_,_,i+1,.cons r t=>.cons r (Vals.eraseIdx i t)
theorem sj {α:Type}(l:List α):l.eraseIdx (l.length-1)=l.dropLast:=by
 induction l with
 |nil=>rfl
 |cons a r ih =>
  cases r with
  |nil=>rfl
  |cons b r =>
   have e:(a::b::r).length-1=((b::r).length-1)+1:=by
    have h1:(a::b::r).length=r.length+2:=rfl;have h2:(b::r).length=r.length+1:=rfl;lia
   rw[e,List.eraseIdx_cons_succ,ih]
   all_goals rfl
theorem lW {α:Type}:∀(l:List α) (i:Nat),(l.eraseIdx i).length<=l.length
 |[],_=>SX _
 |_::_,0=>VJ _
 |_::r,i+1=>Nat.succ_le_succ (lW r i)
section
variable {X:Cx}{pins:List (Addr×Obj)}{σ:St}{H:Hp}{s:SU}{l:Addr}{xs ys:List V}
theorem Inv.E4 {its its':List SO}{n:Nat}{f:Array SO->Array SO}{t':Nat}(I:Inv X pins σ H s)(hH:H l=some (.lst xs))
  (e:s.heap.get? l=some {cls:=.type "list",data:=.seq its.toArray n}) (hf:f its.toArray=its'.toArray) (hv:Vals ys its') (hz:ys.length<=S7) :
  Inv X pins σ (upd H l (.lst ys)) {s with heap:=s.heap.update l (Vm f),toks:=t'}:=by
 have q:=PySem.IsL.update e f;rw[hf]at q;refine I.write (x:=l) (e:=l) (by rw[hH];exact trivial) (.inl rfl) (λb' u hb hu=>(Heap.get?_update_other s.heap (Vm f) (U_ hb)).trans hu) ⟨_,q⟩ ?_
 exact⟨hz,its',_,hv,q⟩
theorem Inv.Ii {its:List SO}{t':Nat}(I:Inv X pins σ H s)(hv:Vals ys its)(hz:ys.length<=S7):
  Inv X pins σ (upd H s.heap.objs.size (.lst ys)) {s with heap:=s.heap.push {cls:=.type "list",data:=.seq its.toArray},toks:=t'} :=
 I.laid (λ_ _ q=>S1 _ q) (SX _) ⟨hz,its,0,hv,TU _ rfl⟩
theorem Inv.fresh (I:Inv X pins σ H s):H s.heap.objs.size=none:=I.a_.fresh (SX _)
theorem Inv.yi (I:Inv X pins σ H s)(hH:H l=some (.lst xs)):xs.length<=S7/\∃(its:List SO) (n:Nat),Vals xs its/\xs.length=its.length/\s.heap.get? l=some {cls:=.type "list",data:=.seq its.toArray n}:=by
 obtain⟨z,its,n,r,e⟩:=I.a_ l _ hH;exact⟨z,its,n,r,r.length,e⟩
end
section
variable {X:Cx}
def tF:V->List V->Hp->VK->Prop:=λx vs H Q=>∃l xs y,x=.ref l/\vs=[y]/\H l=some (.lst xs)/\xs.length<S7/\Q .bJ (upd H l (.lst (xs++[y])))
theorem iB:Nu X "list.append" tF:=by
 intro pins s σ H x vs v us Q I rx rv h;obtain⟨l,xs,y,rfl,rfl,hH,hz,q⟩:=h;cases rx;obtain⟨u,rfl,ru⟩:=rv.one;obtain⟨z,its,n,r,hl,e⟩:=I.yi hH;refine XN F.slot_list_append ⟨_,e,rfl⟩ F.entry_list_append (F.args_list_append_2 _ _) (PySem.list_append l its.toArray n u (by rw[Tf];lia)) ⟨e,?_⟩
 refine⟨.bJ,_,I.E4 (its':=its++[u]) hH e (by simp) (r.append (.cons ru .nil)) ?_,rfl,q⟩
 rw[Tw,Uz];lia
def K8:V->List V->Hp->VK->Prop:=λx vs H Q=>∃l xs y,x=.ref l/\vs=[]/\H l=some (.lst xs)/\xs[xs.length-1]?=some y/\Q y (upd H l (.lst xs.dropLast))
theorem EX:Nu X "list.pop" K8:=by
 intro pins s σ H x vs v us Q I rx rv h;obtain⟨l,xs,y,rfl,rfl,hH,hy,q⟩:=h;cases rx;have Qt:=rv.zero;subst Qt;obtain⟨z,its,n,r,hl,e⟩:=I.yi hH;obtain⟨u,hu,ru⟩:=r.get hy;have Qm:its.toArray[its.toArray.size-1]?=some u:=by
  show its.toArray[its.length-1]?=some u;rw[<- To,<- hl];exact hu
 refine XN F.slot_list_pop ⟨_,e,rfl⟩ F.entry_list_pop (F.args_list_pop_1 _) (MeetsSeq.list_pop_last l its.toArray n u Qm (by rw[Tf];lia)) ⟨e,?_⟩
 refine⟨y,_,I.E4 (its':=its.dropLast) hH e ?_ r.dropLast ?_,ru,q⟩
 ·show its.toArray.eraseIdxIfInBounds (its.toArray.size-1)=its.dropLast.toArray;rw[Tf,Xj,sj]
 ·rw[List.length_dropLast];lia
def Ef:V->List V->Hp->VK->Prop:=λx vs H Q=>∃l xs i k y,x=.ref l/\vs=[.int i]/\H l=some (.lst xs)/\-(2 ^ 63)<=i/\i<2 ^ 63/\Xn i xs.length=some k/\xs[k]?=some y/\Q y (upd H l (.lst (xs.eraseIdx k)))
theorem yh:Nu X "list.pop" Ef:=by
 intro pins s σ H x vs v us Q I rx rv h;obtain⟨l,xs,i,k,y,rfl,rfl,hH,h1,h2,hk,hy,q⟩:=h;cases rx;obtain⟨u,rfl,ru⟩:=rv.one;obtain⟨t,rfl⟩:=ru;obtain⟨z,its,n,r,hl,e⟩:=I.yi hH;obtain⟨w,hw,vc⟩:=r.get hy;refine XN F.slot_list_pop ⟨_,e,rfl⟩ F.entry_list_pop (F.args_list_pop_2 _ _)
  (MeetsSeq.list_pop_at l its.toArray n i t k w (fitsIndex_both h1 h2) (by rw[Tf,<- hl];exact hk) (by rw[<- To];exact hw) (by rw[Tf];lia)) ⟨e,?_⟩
 refine⟨y,_,I.E4 (its':=its.eraseIdx k) hH e ?_ (r.eraseIdx k) ?_,vc,q⟩
 ·show its.toArray.eraseIdxIfInBounds k=(its.eraseIdx k).toArray;rw[Xj]
 ·have:=lW xs k;lia
def La:R2:=λx y H Q=>∃l b xs zs,x=.ref l/\y=.ref b/\H l=some (.lst xs)/\H b=some (.lst zs)/\xs.length+zs.length<=S7/\∀p,H p=none->Q (.ref p) (upd H p (.lst (xs++zs)))
theorem xW:h9 X (Vl .Add) La:=by
 intro pins s σ H x y v u Q I rx ry h;obtain⟨l,b,xs,zs,rfl,rfl,hH,hB,hz,q⟩:=h;cases rx;cases ry;obtain⟨z,its,n,r,hl,e⟩:=I.yi hH;obtain⟨z2,Il,n2,r2,Su,e2⟩:=I.yi hB;refine PySem.P.add_list e e2 ?_ (by rw[Tf,Tf];lia)
 have ea:its.toArray++Il.toArray=(its++Il).toArray:=by simp
 rw[ea];exact⟨.ref _,_,I.Ii (t':=s.toks) (r.append r2) (by rw[Tw];lia),rfl,q _ I.fresh⟩
end
section
end
section
end
end L2
namespace O7
open PySem PySem.W PySem.Calls PyProof.Rows
theorem jf {P:Params}{h:Heap}:∀(ns:List Int) (vs:List SO),WellAll P h vs (ns.map WData.int)->WG vs ns:=by
 intro ns
 induction ns with
 |nil =>
  intro vs w;rw[Xf]at w;cases w;exact .nil
 |cons n ns ih =>
  intro vs w;rw[S4]at w;cases w with
  |cons a b =>
   cases a;exact .cons _ _ (ih _ b)
theorem u9 {l:OpenLaw}{n:Nat}(hn:l.most=some n){P:Params}{h:Heap}{args:List WData}{vals:List SO}
  (BF:l.row.toRowW.claim.pre args=true) (LQ:WellAll P h vals args) :
  ∃a vs ns,vals=[Value.ref a]/\args=[WData.list (ns.map WData.int)]/\h.get? a=some {cls:=.type "list",data:=.seq vs.toArray}/\WG vs ns/\ns.length<=n:=by
 have Qv:WShape.hasAll [] args [.list .int]=true:=(pre_splitW BF).1;have hc:l.pre.holds [] {args:=args}=true:=(pre_splitW BF).2;obtain⟨d,r,rfl,h1,h2⟩:=hasAllW_cons Qv;obtain rfl:=hasAllW_nil h2;obtain⟨xs,rfl,h3⟩:=hasW_list h1;obtain⟨ns,rfl⟩:=items_int h3;have hlen:ns.length<=n:=by
  unfold OpenLaw.pre at hc;have h4:(WTm.not (.lt (.lit (.int (n:Int))) (.len (.arg 0)))).holds [] {args:=[.list (ns.map .int)]}=true:=by
   have h4:=(holds_andW hc).1;rw[hn]at h4;exact h4
  have h5:=condW_of h4 (w_not (w_lt w_lit (w_len_list (w_arg rfl))));rw[SS]at h5;refine Nat.le_of_not_lt λq=>?_;have q':(n:Int)<((ns.length:Nat):Int):=by lia
  first
   | (rw[decide_eq_true q']at h5;exact absurd h5 (by decide))
   | (simp at h5;lia)
 cases LQ with
 |cons w1 w2 =>
  cases w2;cases w1 with
  |list ho sg=>exact⟨_,_,ns,rfl,rfl,ho,jf ns _ sg,hlen⟩
theorem vh (l:OpenLaw)(args:List WData):l.row.toRowW.claim.post args (.bool true) args=true :=
 postW_of (r:=l.row.toRowW) (X:=(true==true))
  (show WShape.has [] (.bool true) .bool=true by first|rfl|decide|simp[WShape.has,WShape.arms,WShape.armsAll])
  (show (WTm.eq .res (.lit (.bool true))).value [] {args:=args,res:=some (.bool true),after:=args}=some (.bool (true==true)) from w_eq_bool (w_res rfl) w_lit) rfl
theorem qu {l:OpenLaw}{n:Nat}{q:SW}{loose:List Str}{XP:(Str->Option SO)->Heap->Prop}{YP:S_->Heap->Prop}{d:DefRec}
  (hn:l.most=some n) (MT:d.params.defaults=[])
  (call:∀(w:S_) (s₀ s₁:SU) (mg mb:Str->Option SO) (fa:Addr) (o:Obj) (pm cd doc:SO) (a:Addr) (vs:List SO) (ns:List Int),
   Ground q loose [] XP w s₀ mg mb s₁.heap->YP w s₁.heap ->
   s₁.heap.get? fa=some o->o.data=.func (docDef d.name d.params d.body d.scope pm cd doc)->s₁.heap.CodeRec cd d.name->mg d.name=some (.ref fa) ->
   s₁.heap.get? a=some {cls:=.type "list",data:=.seq vs.toArray}->WG vs ns->ns.length<=n->s₁.gens=#[] ->
   WB (model l.prog w) Xa (.call (.ref fa) ⟨[.ref a],[]⟩) (λr s'=>r=.ok (.ret (.bool true))/\OldK s₁.heap s'.heap/\s'.os=s₁.os/\WI s'.gens) s₁) :
  WalkO q loose XP YP l.row.toRowW d [] (λf vs=>PySem.call f vs):=by
 intro w s₀ s₁ mg mb G Y fa o pm cd doc dV kV ho hd ui hD Mu hg args vals as BF QN So LQ MB;obtain rfl:dV=.none:=Dflts.none hD MT;obtain rfl:kV=.none:=Dflts.noKw hD;obtain⟨a,vs,ns,rfl,rfl,Fy,hints,hlen⟩:=u9 hn BF LQ;refine enter_call (V6 (call w s₀ s₁ mg mb fa o pm cd doc a vs ns G Y ho (fd_plain hd) ui Mu Fy hints hlen hg) λr s' hq=>?_);obtain⟨rfl,h2,h3,h4⟩:=hq;exact⟨.inl ⟨.bool true,.bool true,[],rfl,λ_=>rfl,.bool true,vh l _,λ_=>⟨List.Pairwise.nil,λ_ hm=>(nomatch hm)⟩⟩,h2,h3,h4⟩
section
end
end O7
namespace L2
open PySem PySem.Spec PyProof.Rows
theorem lF:∀{vs:List SO} {ns:List Int},WG vs ns->Vals (ns.map V.int) vs
 |_,_,.nil=>.nil
 |_,_,.cons n t h=>.cons ⟨t,rfl⟩ (lF h)
def Gn (H:Hp):Prop:=∀b,H b=none\/∃o xs,H b=some (.um o (.lst xs))
theorem yo {P:SW}{w:S_}{K:PySem.W.Frag}{mg mb:Str->Option SO}{CX:Ad}{k:Nat}{fa a:Addr}{fd:T7}{x:Str}{sp:Sp}{s₁:SU}{vs:List SO}{ns:List Int}
  (KX:K.In s₁.heap) (Gx:s₁.heap.Ns UQ mg) (hb:s₁.heap.Ns builtinsNs mb) (Q4:∀x:Str,x≠"__name__" -> mb x=Ub x) (MC:s₁.heap.NoLimit) (hg:s₁.gens=#[])
  (ha:s₁.heap.get? a=some {cls:=.type "list",data:=.seq vs.toArray}) (hi:WG vs ns) (hl:ns.length<=S7) (hr:cW k Xa)
  (F:∀base:Heap,K.In base->base.Ns UQ mg->bc P w K mg base CX k fa fd [x] sp) (Jj:∀(s:SU) (u:SO),BindsTo s fd ⟨[u],[]⟩ [(x,u)])
  (l8:∀H:Hp,Gn H->cK K H a (ns.map V.int)->sp [.ref a] H (λv _=>v=.bl true) λ_ _ _=>False)
  (MZ:∀H e s',CX [] H s₁ (λ_ _ _=>False) e s'->False) :
  WB (model P w) Xa (.call (.ref fa) ⟨[.ref a],[]⟩) (λr s'=>r=.ok (.ret (.bool true))/\OldK s₁.heap s'.heap/\s'.os=s₁.os/\WI s'.gens) s₁:=by
 have rv:=lF hi;have Lz:=hi.length;have core:∀H:Hp,Gn H->cK K H a (ns.map V.int)->fW P w H s₁.heap->(∀b,H b≠none->b=a)->(H a≠none->K.lookup a=none) ->
   WB (model P w) Xa (.call (.ref fa) ⟨[.ref a],[]⟩) (λr s'=>r=.ok (.ret (.bool true))/\OldK s₁.heap s'.heap/\s'.os=s₁.os/\WI s'.gens) s₁:=by
  intro H hO hS a_ hA hK;have uN:∀{b:Addr} {o:Obj},s₁.heap.get? b=some o->H b=none->(nG s₁.heap H).get? b=some o:=λe n=>yJ e n;have HQ:∀{b:Addr} {o:Obj} {es:Array Vs} {ep:Nat},s₁.heap.get? b=some o->o.data=.dict es ep->H b=none:=λ{b o es ep} e d=>by
   cases q:H b with
   |none=>rfl
   |some u =>
    have e':b=a:=hA b (by rw[q];simp)
    subst e';rw[ha]at e;cases e;have d':Data.seq vs.toArray _=Data.dict es ep:=d;cases d'
  have JY:∀{b:Addr} {m:Str->Option SO},s₁.heap.Ns b m->(nG s₁.heap H).Ns b m:=λ{b m} ⟨o,es,ep,e,d,r⟩=>⟨o,es,ep,uN e (HQ e d),d,r⟩;have ON:K.In (nG s₁.heap H):=λb o e=>uN (KX b o e) (by
   cases q:H b with
   |none=>rfl
   |some u =>
    have e':b=a:=hA b (by rw[q];simp)
    subst e';rw[hK (by rw[q];simp)]at e;cases e)
  have hM:Mod K mg (nG s₁.heap H):=⟨ON,JY Gx,⟨mb,JY hb,Q4⟩,let ⟨mc,h1,h2⟩:=MC;⟨mc,JY h1,h2⟩⟩
  have e0:Cr P w K mg (nG s₁.heap H) Xa [] s₁ H:=⟨rfl,hM,λb o e=>Bg e,Nat.le_of_eq (vO _ _),trivial,λb hb=>absurd (show b∈([]:List Addr) from hb) (by simp),a_,.of_eq hg⟩
  refine V6 ((F _ ON (JY Gx)).run Xa [] s₁ H ⟨[.ref a],[]⟩ [.ref a] [.ref a] _ _ hr e0 (Jj s₁ (.ref a)) (.cons rfl .nil) (l8 H hO hS)) λr s' h=>?_;cases r with
  |error e=>exact(MZ H e s' h).elim
  |ok fl =>
   cases fl with
   |next=>exact Vp h
   |brk=>exact Vp h
   |cont=>exact Vp h
   |ret u =>
    obtain⟨v,H',os,bare,un,Mq,r',q⟩:=h;have q':v=.bl true:=q;subst q';obtain rfl:u=Value.bool true:=r';refine⟨rfl,OldK.of_keep λb o e=>?_,os,bare⟩;cases q:H b with
    |none=>exact un.keep b o e q (by intro z;exact absurd (show b∈([]:List Addr) from z) (by simp)) (by simp)
    |some u =>
     rcases hO b with z|⟨ob,xs,z⟩
     ·rw[q]at z;cases z
     ·have z2:=un.ku b ob _ z;obtain⟨e1,_⟩:=a_ b _ z;obtain⟨e2,_⟩:=Mq b _ z2;rw[e]at e1;cases e1;exact e2
 cases hk:K.lookup a with
 |some o =>
  have e:=KX a o hk;rw[ha]at e;cases e;refine core (λ_=>none) (λ_=>.inl rfl) (.inr ⟨_,vs.toArray,_,hk,rfl,rfl,rfl,by rw[Tf,Lz];exact hl,by simpa using rv⟩) (λb u z=>by have z':(none:Option HO)=some u:=z;cases z') (λb z=>absurd rfl z) λz=>absurd rfl z
 |none =>
  refine core (λb=>if b=a then some (.um {cls:=.type "list",data:=.seq vs.toArray} (.lst (ns.map V.int))) else none) (λb=>?_) (.inl (.inr ⟨{cls:=.type "list",data:=.seq vs.toArray},if_pos rfl⟩)) (λb u z=>?_) (λb z=>?_) λ_=>hk
  ·by_cases hb:b=a
   ·exact .inr ⟨_,_,if_pos hb⟩
   ·exact .inl (if_neg hb)
  ·by_cases hb:b=a
   ·have z':=(if_pos hb).symm.trans z;cases z';subst hb;exact⟨ha,by rw[SS];exact hl,vs,_,rv,ha⟩
   ·have z':=(if_neg hb).symm.trans z;cases z'
  ·by_cases hb:b=a
   ·exact hb
   ·exact absurd (if_neg hb) z
theorem Ah {l:PySem.W.OpenLaw}{n k:Nat}{q:SW}{loose:List Str}{XP:(Str->Option SO)->Heap->Prop}{YP:S_->Heap->Prop}{d:DefRec}{K:Params->PySem.W.Frag}{CX:S_->Ad}{sp:S_->Sp}{x:Str}
  (hn:l.most=some n) (Gy:n<=S7) (MT:d.params.defaults=[]) (hr:cW k Xa)
  (hY:∀(w:S_) (h:Heap),YP w h->(K w.params).In h)
  (F:∀(w:S_) (mg:Str->Option SO) (fa:Addr) (h:Heap),(K w.params).In h->h.Ns UQ mg->mg d.name=some (.ref fa) ->
   ∃fd:T7,(∀(s:SU) (u:SO),BindsTo s fd ⟨[u],[]⟩ [(x,u)]) /\
    ∀base:Heap,(K w.params).In base->base.Ns UQ mg->bc l.prog w (K w.params) mg base (CX w) k fa fd [x] (sp w))
  (l8:∀(w:S_) (H:Hp) (a:Addr) (ns:List Int),ns.length<=n->Gn H->cK (K w.params) H a (ns.map V.int)->sp w [.ref a] H (λv _=>v=.bl true) λ_ _ _=>False)
  (MZ:∀(w:S_) (H:Hp) (s:SU) (e:SO) (s':SU),CX w [] H s (λ_ _ _=>False) e s'->False) :
  PySem.W.WalkO q loose XP YP l.row.toRowW d [] (λf vs=>PySem.call f vs):=by
 refine O7.qu hn MT λw s₀ s₁ mg mb fa o pm cd doc a vs ns G Y ho hd ui Mu Fy hints hlen hg=>?_;have KX:=hY w _ Y;obtain⟨fd,hb,hF⟩:=F w mg fa _ KX G.T.g Mu;exact yo KX G.T.g G.T.b G.T.builtins G.T.nolimit hg Fy hints (T_ hlen Gy) hr hF hb (λH hO hS=>l8 w H a ns hlen hO hS) λH e s'=>MZ w H s₁ e s'
abbrev cY:Ad:=λ_ _ _ _ _ _=>False
abbrev E0:XK:=λ_ _ _=>False
theorem lR {X:Cx}:Passes cY X E0:=λ_ _ _ _ _ _ _ h=>h.elim
structure Ab (K:PySem.W.Frag)(x qual:Str)(st:Stmt)(f:Addr)(fd:T7):Prop where
 ex:∃(oc:SO) (od:Option Addr) (kV doc pm:SO) (an:Option Addr) (c8 ct:SO) (EC:Array (Option SO)),
  fd=PySem.W.fnOf x qual (jz st) (dU st) (aD st) .none kV doc pm an c8 ct/\K.lookup f=some ⟨oc,od,.func fd,EC⟩/\PySem.W.codeIn K c8 qual=true
 kp:PySem.W.keepIn K (.ref f)=true
section
variable {P:SW}{w:S_}{K:PySem.W.Frag}{mg:Str->Option SO}{base:Heap}
theorem Ab.ok {x qual:Str}{st:Stmt}{f:Addr}{fd:T7}{N ps:List Str}{k:Nat}{sp:Sp}(F:Ab K x qual st f fd)(S:aY N ps (aD st))(len:∀vs H Q E,sp vs H Q E->vs.length=ps.length)
  (km:∀(c8:SO) (A:Ud) (outer:List Env) (s:SU) (H:Hp) (vs:List V) (Q:VK) (E:XK),cW k (A.deeper (WA qual (aD st) s.heap.objs.size f c8))->sp vs H Q E ->
   ∃t,nU (ll cY P w K mg base N qual (aD st) f c8 A outer s H E).CJ (dU st) t/\t {nx:=λ_ H'=>Q .bJ H',rt:=Q} (start N vs) H):bc P w K mg base cY (k+1) f fd ps sp:=by
 obtain⟨oc,od,kV,doc,pm,an,c8,ct,EC,rfl,lk,ui⟩:=F.ex;refine Jn lk ui S len λA outer s H vs Q E hr l8=>?_;obtain⟨t,h,q⟩:=km c8 A outer s H vs Q E hr l8;exact⟨t,h.CJ,q⟩
theorem FK {x qual:Str}{st:Stmt}{f:Addr}{oc:SO}{od an:Option Addr}{EC:Array (Option SO)}{kV doc pm c8 ct:SO}(l:K.lookup f=some ⟨oc,od,.func (PySem.W.fnOf x qual (jz st) (dU st) (aD st) .none kV doc pm an c8 ct),EC⟩)
  (c:PySem.W.codeIn K c8 qual=true) (k:PySem.W.keepIn K (.ref f)=true):Ab K x qual st f (PySem.W.fnOf x qual (jz st) (dU st) (aD st) .none kV doc pm an c8 ct):=⟨⟨oc,od,kV,doc,pm,an,c8,ct,EC,rfl,l,c⟩,k⟩
end
section
variable {X:Cx}
theorem pv (i:Nat){x:Str}{pos:Pos}(hN:X.N[i]?=some x:=by rfl)(hv:Dn X.env.scope x:=by first|exact VH rfl|exact Or.inr (VH rfl)|exact Or.inr (Or.inr rfl))(hd:(x==("__debug__" : Str))=false:=by decide)
  (ui:(x==("__classdict__" : Str))=false:=by decide):PE X (.Name x pos) (DL i):=rC hN hv hd ui
end
def au (H H':Hp):Prop:=∀b o,H b=some o->H' b=some o
theorem au.refl (H:Hp):au H H:=λ_ _ h=>h
theorem au.trans {H H1 H2:Hp}(a:au H H1)(b:au H1 H2):au H H2:=λc o h=>b c o (a c o h)
theorem au.free {H H':Hp}(e:au H H'){l:Addr}(h:H' l=Option.none):H l=Option.none:=by
 cases q:H l with
 |none=>rfl
 |some o =>
  rw[e l o q]at h;cases h
theorem au.seq {K:PySem.W.Frag}{H H':Hp}{a:Addr}{xs:List V}(e:au H H')(h:cK K H a xs):cK K H' a xs:=by
 rcases h with (h|⟨o,h⟩)|h
 ·exact .inl (.inl (e _ _ h))
 ·exact .inl (.inr ⟨o,e _ _ h⟩)
 ·exact .inr h
structure Nm (X:Cx)(i:Nat)(x:Str):Prop where
 a:X.N[i]?=some x
 b:Dn X.env.scope x
 c:(x==("__debug__" : Str))=false
 d:(x==("__classdict__" : Str))=false
theorem rH {X:Cx}{i:Nat}{x:Str}(a:X.N[i]?=some x:=by rfl)(b:Dn X.env.scope x:=by first|exact .inl rfl|exact .inr (.inl rfl)|exact .inr (.inr rfl))(c:(x==("__debug__" : Str))=false:=by decide)(d:(x==("__classdict__" : Str))=false:=by decide):Nm X i x:=⟨a,b,c,d⟩
theorem du {X:Cx}{i:Nat}{x:Str}{pos:Pos}(h:Nm X i x):PE X (.Name x pos) (DL i):=rC h.a h.b h.c h.d
section
variable {X:Cx}{a b c:Expr}{ta tb:TE}{pos:Pos}
def qE (i j:Int):Prop:=0<j/\j.natAbs.log2<9000
theorem qE.of {i j:Int}(h0:0<j)(h:j<2 ^ 200):qE i j:=by
 refine⟨h0,?_⟩;have h2:j.natAbs<2 ^ 200:=by lia
 have:=(Nat.log2_lt (n:=j.natAbs) (k:=200) (by lia)).mpr h2
 lia
theorem o4:h9 X (Vl .FloorDiv) (rI qE λi j=>.int (i / j)):=JX λi j _ _ _ _ _ hc q=>by
 have h1:(0:Int)<j:=hc.1;exact floordiv_int (by lia) (by rw[Int.fdiv_eq_ediv_of_nonneg i (by lia)];exact q) (.inl (PyProof.noPylong_of_log2 hc.2))
def Dt (X:Cx)(ops:List V8)(rs:List Expr)(t:V->TE):Prop :=
 ∀(pos:Pos) (pins:List (Addr×Obj)) (s:SU) (σ:St) (H:Hp) (x:V) (v:SO) (Q:VK),Inv X pins σ H s->RelV x v->t x σ H Q ->
  Tn (model X.prog X.w) X.A (compareChain pos v ops (evalEach rs X.env)) (EP X pins σ Q) X.xe s
def sQ (X:Cx)(ops:List V8)(rs:List Expr)(t:V->TT):Prop :=
 ∀(pos:Pos) (pins:List (Addr×Obj)) (s:SU) (σ:St) (H:Hp) (x:V) (v:SO) (Q:Bool->Hp->Prop),Inv X pins σ H s->RelV x v->t x σ H Q ->
  Tn (model X.prog X.w) X.A (testChain pos v ops (evalEach rs X.env)) (TP X pins σ Q) X.xe s
variable {op zX:V8}{ops:List V8}{rs:List Expr}{r:R2}{t:V->TE}{tt:V->TT}
theorem F4 (ho:h9 X (Ul op) r)(hb:PE X b tb):Dt X [op] [b] (λx σ H Q=>tb σ H λy H2=>r x y H2 Q):=by
 intro pos pins s σ H x v Q I rx h;exact chain_last (bw (hb pins s σ H _ I h) λu s1 ji=>by obtain⟨y,H1,I1,r1,q1⟩:=ji;exact ho pins s1 σ H1 x y v u Q I1 rx r1 q1)
theorem Cd (ho:h9 X (Ul op) r)(hb:PE X b tb)(hc:Dt X (zX::ops) (c::rs) t):
  Dt X (op::zX::ops) (b::c::rs) (λx σ H Q=>tb σ H λy H2=>r x y H2 λz H3=>∃k,z=.bl k/\(if k=true then t y σ H3 Q else Q (.bl false) H3)):=by
 intro pos pins s σ H x v Q I rx h;refine chain_link (bw (hb pins s σ H _ I h) λu s1 ⟨y,H1,I1,r1,q1⟩=>bw (ho pins s1 σ H1 x y v u _ I1 rx r1 q1) λd s3 fV=>?_);obtain⟨z,H3,I3,r3,k,e,q3⟩:=fV;subst e;cases r3;refine UH ?_;cases k with
 |false=>exact ite_ff ⟨.bl false,H3,I3,rfl,q3⟩
 |true=>exact ite_tt (hc pos pins s3 σ H3 y u Q I3 r1 q3)
theorem vn {jY jX:V8}(ha:PE X a ta)(hc:Dt X (jY::jX::ops) (b::c::rs) t)(hm:lastMarks (jY::jX::ops) (b::c::rs)=false:=by with_unfolding_all rfl):
  PE X (.Compare a (jY::jX::ops) (b::c::rs) pos) (λσ H Q=>ta σ H λx H1=>t x σ H1 Q):=by
 intro pins s σ H Q I h;exact Compare_chain (bw (ha pins s σ H _ I h) λv s1 yC=>by obtain⟨x,H1,I1,r1,q1⟩:=yC;exact hc pos pins s1 σ H1 x v Q I1 r1 q1) hm
theorem Cc (ho:h9 X (Ul op) r)(hb:PE X b tb):sQ X [op] [b] (λx σ H Q=>tb σ H λy H2=>r x y H2 λz H3=>∃k,z=.bl k/\Q k H3):=by
 intro pos pins s σ H x v Q I rx h;refine test_last (bw (hb pins s σ H _ I h) λu s1 ⟨y,H1,I1,r1,q1⟩=>bw (ho pins s1 σ H1 x y v u _ I1 rx r1 q1) λd s3 ki=>?_);obtain⟨z,H3,I3,r3,k,e,q3⟩:=ki;subst e;cases r3;exact UH ⟨H3,I3,q3⟩
theorem zA (ho:h9 X (Ul op) r)(hb:PE X b tb)(hc:sQ X (zX::ops) (c::rs) tt):
  sQ X (op::zX::ops) (b::c::rs) (λx σ H Q=>tb σ H λy H2=>r x y H2 λz H3=>∃k,z=.bl k/\(if k=true then tt y σ H3 Q else Q false H3)):=by
 intro pos pins s σ H x v Q I rx h;refine test_link (bw (hb pins s σ H _ I h) λu s1 ⟨y,H1,I1,r1,q1⟩=>bw (ho pins s1 σ H1 x y v u _ I1 rx r1 q1) λd s3 rT=>?_);obtain⟨z,H3,I3,r3,k,e,q3⟩:=rT;subst e;cases r3;refine UH ?_;cases k with
 |false=>exact ite_ff ⟨H3,I3,q3⟩
 |true=>exact ite_tt (hc pos pins s3 σ H3 y u Q I3 r1 q3)
theorem zE:fq X (.builtin "isinstance") (λxs H Q=>∃x n t k,xs=[x,.ty n]/\hJ X.K H x t/\PySem.W.kitOne X.K t (.type n)=some k/\Q (.bl k) H):=by
 intro pins s σ H xs us Q I r h;obtain⟨x,n,t,k,rfl,ty,e,q⟩:=h;obtain⟨u,w',rfl,r1,r2⟩:=vals2 r;cases r2;exact vJ I r1 ty e λtk=>⟨.bl k,H,I.tok _,rfl,q⟩
end
theorem Ga:Ub "max" = some (.builtin "max"):=by decide +kernel
theorem F_:Ub "min" = some (.builtin "min"):=by decide +kernel
theorem zG:Ub "int" = some (.type "int"):=by decide +kernel
theorem Cg:Ub "bool" = some (.type "bool"):=by decide +kernel
theorem uL:Ub "list" = some (.type "list"):=by decide +kernel
theorem eU:Ub "sorted" = some (.builtin "sorted"):=by decide +kernel
theorem Gb:Ub "isinstance" = some (.builtin "isinstance"):=by decide +kernel
theorem fH:Ub "len" = some (.builtin "len"):=by decide +kernel
theorem Im {c A B:Prop}[Decidable c](hc:c)(h:A):if decide c=true then A else B:=by
 rw[if_pos (decide_eq_true hc)];exact h
theorem Io {c A B:Prop}[Decidable c](hc:¬ c)(h:B):if decide c=true then A else B:=by
 rw[if_neg (by simp[hc])]
 exact h
theorem yw {c A B:Prop}[Decidable c](h1:c->A)(h2:¬ c->B):if decide c=true then A else B:=by
 by_cases h:c
 ·exact Im h (h1 h)
 ·exact Io h (h2 h)
theorem au.new {H:Hp}{p:Addr}{o:HO}(n:H p=none):au H (L2.upd H p o):=λb u e=>by rw[ao (cu e n)];exact e
section
variable {X:Cx}{st:Stmt}{rest:List Stmt}{t u:TS}
def KL (t u:TS):TS:=λD σ H=>∃Pm:St->Hp->Prop,t {D with nx:=Pm} σ H/\∀σ' H',Pm σ' H'->u D σ' H'
theorem AH (h1:PS X st t)(h2:nU X rest u):nU X (st::rest) (KL t u):=by
 intro pins s σ H D I h;obtain⟨Pm,h,hn⟩:=h;refine Xk (bw (h1 pins s σ H {D with nx:=Pm} I h) λf s1 q=>?_)
 cases f with
 |next =>
  obtain⟨σ',H',I',q⟩:=q;exact h2 pins s1 σ' H' D I' (hn _ _ q)
 |ret v=>exact q
 |brk=>exact q
 |cont=>exact q
end
theorem HB:Cs 10 18:=⟨by decide,by decide,by decide⟩
section
theorem ju {a:Int}{b:Int}(h:0<b):0<=a % b/\a % b<b:=⟨Int.emod_nonneg a (by lia),Int.emod_lt_of_pos a h⟩
end
noncomputable def az (X:Cx)(scope:UR)(N':List Str)(cl:List (Str×Addr))(C:Addr)(s:SU)(H:Hp)(ex:List Addr):Cx :=
 {X with N:=N',s₀:=s,H₀:=H,env:=compEnvC scope cl C X.env,outer:=X.stack,stack:=X.stack,ex:=ex,fn:=λ_=>false,pn:=[],xe:=λ_ _=>False}
theorem gm {env:Env}:∀(names:List (Str×U1)) (cs:List (Str×Addr)),(∀x,(x,Tz)∈names->∃c,env.cells.lookup x=some c) ->
  (∀x c,cs.lookup x=some c->env.cells.lookup x=some c) ->
  ∃cl,(forIn names cs λ(p:Str×U1) (cs:List (Str×Addr))=>do
   if p.2==.free then do
    let a <- cellOf env p.1
    pure (WL ((p.1,a)::cs))
   else pure (WL cs):Sem (List (Str×Addr)))=pure cl /\
   (∀x,((x,Tz)∈names\/(∃c,cs.lookup x=some c))->∃c,cl.lookup x=some c)/\∀x c,cl.lookup x=some c->env.cells.lookup x=some c
 |[],cs,_,FF=>⟨cs,rfl,λx h=>h.elim (λz=>nomatch z) id,FF⟩
 | (n,k)::names,cs,hf,FF=>by
  by_cases hk:k=.free
  ·subst hk;obtain⟨c,hc⟩:=hf n (Tr ..);obtain⟨cl,e,h1,h2⟩:=gm names ((n,c)::cs) (λx hx=>hf x (Tc _ hx)) (λx c' hx=>by
    rw[T3]at hx;cases q:x==n with
    |true=>rw[q]at hx;cases hx;rw[eq_of_beq q];exact hc
    |false=>rw[q]at hx;exact FF x c' hx)
   refine⟨cl,?_,λx hx=>h1 x ?_,h2⟩
   ·rw[XD];have ec:cellOf env n=pure c:=by unfold cellOf;rw[hc]
    simp only[beq_self_eq_true,if_true,ec];exact e
   ·rcases hx with hx|⟨c',hx⟩
    ·rcases S5.mp hx with z|z
     ·cases z;exact .inr ⟨c,by simp⟩
     ·exact .inl z
    ·right
     rw[T3];cases q:x==n with
     |true=>exact⟨c,rfl⟩
     |false=>exact⟨c',hx⟩
  ·obtain⟨cl,e,h1,h2⟩:=gm names cs (λx hx=>hf x (Tc _ hx)) FF;refine⟨cl,?_,λx hx=>h1 x ?_,h2⟩
   ·rw[XD];have hb:(k==Tz)=false:=by simpa using hk
    simp only[hb,T9,if_false];exact e
   ·rcases hx with hx|hx
    ·rcases S5.mp hx with z|z
     ·cases z;exact absurd rfl hk
     ·exact .inl z
    ·exact .inr hx
theorem eh {env:Env}{scope:UR}(h:∀x,(x,Tz)∈scope.names->∃c,env.cells.lookup x=some c):
  ∃cl,closureFor scope env=pure cl/\(∀x,(x,Tz)∈scope.names->∃c,cl.lookup x=some c)/\∀x c,cl.lookup x=some c->env.cells.lookup x=some c:=by
 obtain⟨cl,e,h1,h2⟩:=gm scope.names [] h (λx c z=>by simp at z)
 refine⟨cl,?_,λx hx=>h1 x (.inl hx),h2⟩;unfold closureFor;refine Eq.trans ?_ (congrArg (· >>= pure) e);rfl
structure Links (X:Cx)(scope:UR)(N':List Str)(lk:List (Option Nat)):Prop where
 kind:scope.kind=.function
 rG:∀x∈scope.names,x.2≠.cell
 names:∀x∈scope.names,x.2=.local->scope.names.lookup x.1=some .local
 free:∀x,(x,Tz)∈scope.names->X.env.kindOf x=some .cell\/X.env.kindOf x=some .free
 len:lk.length=N'.length
 link:∀(i j:Nat),lk[i]?=some (some j)->∃x,N'[i]?=some x/\X.N[j]?=some x/\(x,Tz)∈scope.names/\scope.names.lookup x=some .free
noncomputable def fb (outer:List (Str×U1))(N:List Str)(scope:UR)(N':List Str)(lk:List (Option Nat)):Bool :=
 (scope.kind==.function)&&scope.names.all (λx=>x.2 != .cell&&(x.2 != .local || scope.names.lookup x.1==some .local)&&(x.2 != .free || outer.lookup x.1==some .cell || outer.lookup x.1==some .free)) &&
 lk.length==N'.length&&(Tt lk.length).all λi=>match lk[i]? with
  |some (some j)=>match N'[i]? with
   |some x=>N[j]?==some x&&scope.names.contains (x,.free)&&scope.names.lookup x==some .free
   |none=>false
  |_=>true
theorem Links.of {X:Cx}{scope:UR}{N':List Str}{lk:List (Option Nat)}(h:fb X.env.scope.names X.N scope N' lk=true):Links X scope N' lk:=by
 simp only[fb,TB]at h;obtain⟨⟨⟨h1,h2⟩,h3⟩,h4⟩:=h;rw[U6]at h2 h4;refine⟨by simpa using h1,λx hx=>?_,λx hx hl=>?_,λx hx=>?_,by simpa using h3,λi j aE=>?_⟩
 ·have:=h2 x hx;simp only[TB]at this;simpa using this.1.1
 ·have:=h2 x hx;simp only[TB]at this;have q:=this.1.2;rw[hl]at q;simpa using q
 ·have:=h2 _ hx;simp only[TB]at this;have q:=this.2;simp only[WM]at q;rcases q with (q|q)|q
  ·simp at q
  ·exact .inl (show X.env.scope.names.lookup x=some .cell by simpa using q)
  ·exact .inr (show X.env.scope.names.lookup x=some .free by simpa using q)
 ·have hi:i<lk.length:=(SY.mp aE).1;have q:=h4 i (U3.mpr hi);rw[aE]at q;simp only at q;cases e:N'[i]? with
  |none=>rw[e]at q;simp at q
  |some x =>
   rw[e]at q;simp only[TB]at q;obtain⟨⟨q1,q2⟩,q3⟩:=q;exact⟨x,rfl,by simpa using q1,by simpa using q2,by simpa using q3⟩
noncomputable def bR (lk:List (Option Nat))(σ:St):St:=lk.map λl=>match l with|some j=>(match σ[j]? with|some v=>v|none=>none)|none=>none
theorem b_ {env:Env}:∀{names:List (Str×U1)} {x:Str},names.lookup x=some .free ->
  (names.map λ(n,k)=>if (k==Tz&&env.scope.kind==.function&&env.kindOf n==some .cell) then (n,T6) else (n,k)).lookup x=some .cell \/
  (names.map λ(n,k)=>if (k==Tz&&env.scope.kind==.function&&env.kindOf n==some .cell) then (n,T6) else (n,k)).lookup x=some .free
 |[],_,h=>by simp at h
 | (n,k)::r,x,h=>by
  have ih:=@b_ env r x;show List.lookup x ((if (k==Tz&&env.scope.kind==.function&&env.kindOf n==some .cell)=true then (n,T6) else (n,k))::_)=_ \/
   List.lookup x ((if (k==Tz&&env.scope.kind==.function&&env.kindOf n==some .cell)=true then (n,T6) else (n,k))::_)=_
  cases hx:x==n with
  |true =>
   simp only[T3,hx]at h;cases h
   by_cases hc:(Tz==Tz&&env.scope.kind==.function&&env.kindOf n==some .cell)=true
   ·rw[if_pos hc];left;simp[T3,hx]
   ·rw[if_neg hc];right;simp[T3,hx]
  |false =>
   simp only[T3,hx]at h
   by_cases hc:(k==Tz&&env.scope.kind==.function&&env.kindOf n==some .cell)=true
   ·rw[if_pos hc];simp only[T3,hx];exact ih h
   ·rw[if_neg hc];simp only[T3,hx];exact ih h
theorem c5 {env:Env}:∀{names:List (Str×U1)} {x:Str} {k:U1},(k=.cell\/k=.free)->(∀y∈names,y.2≠.cell) ->
  (names.map λ(n,k)=>if (k==Tz&&env.scope.kind==.function&&env.kindOf n==some .cell) then (n,T6) else (n,k)).lookup x=some k->(x,Tz)∈names
 |[],_,_,_,_,h=>by simp at h
 | (n,k')::r,x,k,hk,hc,h=>by
  have ih:=@c5 env r x k hk (λy hy=>hc y (Tc _ hy));have h':List.lookup x ((if (k'==Tz&&env.scope.kind==.function&&env.kindOf n==some .cell)=true then (n,T6) else (n,k'))::(r.map λ(n,k)=>if (k==Tz&&env.scope.kind==.function&&env.kindOf n==some .cell) then (n,T6) else (n,k)))=some k:=h
  have Kg:=hc (n,k') (Tr ..)
  by_cases BJ:(k'==Tz&&env.scope.kind==.function&&env.kindOf n==some .cell)=true
  ·rw[if_pos BJ]at h';simp only[TB,beq_iff_eq]at BJ;cases hx:x==n with
   |true=>rw[eq_of_beq hx,BJ.1.1];exact Tr ..
   |false=>rw[T3,hx]at h';exact Tc _ (ih h')
  ·rw[if_neg BJ]at h';cases hx:x==n with
   |true =>
    rw[T3,hx]at h';have e:k'=k:=by simpa using h'
    subst e;rcases hk with hk|hk
    ·exact absurd hk Kg
    ·rw[eq_of_beq hx,hk];exact Tr ..
   |false=>rw[T3,hx]at h';exact Tc _ (ih h')
section
variable {X:Cx}{pins:List (Addr×Obj)}{σ:St}{H:Hp}{s:SU}{scope:UR}{N':List Str}{lk:List (Option Nat)}{cl:List (Str×Addr)}{ex:List Addr}
theorem yz {h':Heap}{t':Nat}(I:Inv X pins σ H s)(L:Links X scope N' lk)(hex:∀b∈ex,dH X pins H b)(BH:∀b∈ex,∃o,s.heap.get? b=some o)
  (h_:∀x,(x,Tz)∈scope.names->∃c,cl.lookup x=some c) (kT:∀x c,cl.lookup x=some c->X.env.cells.lookup x=some c)
  (hn:h'.Ns s.heap.objs.size (λ_=>none)) (hk:∀b o,s.heap.get? b=some o->h'.get? b=some o) :
  Inv (az X scope N' cl s.heap.objs.size s H ex) [] (bR lk σ) H {s with heap:=h',toks:=t'}:=by
 obtain⟨m,hm,hl⟩:=I.loc;have Kk:∀b∈ex,b≠s.heap.objs.size:=λb hb=>by
  obtain⟨o,e⟩:=BH b hb;exact Tx (Ta e)
 refine⟨⟨I.ok.mod,L.kind,I.ok.glob,I.ok.blt,SX _,λx y c h1 h2=>I.ok.inj x y c (kT _ _ h1) (kT _ _ h2),λx hx=>?_,λx c z=>(nomatch z),I.ok.hd,I.ok.frames,.inl rfl,
  λb hb=>⟨Kk b hb,λx c e=>(hex b hb).2.2.2.2.1 x c (kT _ _ e)⟩,I.bs,T_ I.ok.z_ I.sz,λb o e z=>?_,λb hb z=>?_,I.stack,I.mT⟩,
  rfl,I.bare,Un.kept hk,⟨_,hn,λi x v h1 h2 h3=>?_⟩,λx c e=>?_,I.a_.fresh (SX _),λx c e=>I.fE x c (kT _ _ e),λp hp=>absurd (show p∈([]:List (Addr×Obj)) from hp) (by simp),I.a_.kept hk,?_⟩
 ·have CZ:(relabel scope X.env).names.lookup x=some .cell\/(relabel scope X.env).names.lookup x=some .free:=hx;rcases CZ with q|q
  ·exact h_ x (c5 (.inl rfl) L.rG q)
  ·exact h_ x (c5 (.inr rfl) L.rG q)
 ·obtain⟨f0,f1,f2,f3,_⟩:=hex b z;rcases f3 with q|q
  ·exact I.ok.vw b o e q
  ·have h1:=Ta e;have h2:=I.ok.z_;exact absurd (TH h1 (T_ h2 q)) (VB _)
 ·obtain⟨f0,f1,f2,f3,_⟩:=hex b hb;rcases S5.mp (I.mS b z)with q|q
  ·exact f1 q
  ·exact f2 q
 ·have hi:∃j,lk[i]?=some (some j)/\σ[j]?=some (some v):=by
   have jx:(bR lk σ)[i]?=some (some v):=h2;unfold bR at jx;rw[Th]at jx;cases e:lk[i]? with
   |none=>rw[e]at jx;cases jx
   |some l =>
    cases l with
    |none=>rw[e]at jx;cases jx
    |some j =>
     rw[e]at jx;cases e2:σ[j]? with
     |none=>simp[e2]at jx
     |some w' =>
      simp only[V1,e2,Wf]at jx;subst jx;exact⟨j,rfl,e2⟩
  obtain⟨j,hj,hσ⟩:=hi;obtain⟨y,e1,e2,e3,e4⟩:=L.link i j hj;have M7:x=y:=by
   have n_:N'[i]?=some x:=h1;rw[e1]at n_;exact(TJ n_).symm
  subst M7;have Fm:Dn X.env.scope x:=by
   rcases L.free x e3 with q|q
   ·exact .inr (.inl q)
   ·exact .inr (.inr q)
  obtain⟨u,ru,lu⟩:=hl j x v e2 hσ Fm;refine⟨u,ru,.inr ⟨?_,?_⟩⟩
  ·exact b_ e4
  ·rcases lu with⟨k,_⟩|⟨_,c,hc,z⟩
   ·rcases L.free x e3 with q|q <;> (rw[k]at q;cases q)
   ·obtain⟨c',l9⟩:=h_ x e3;have:=kT x c' l9;rw[hc]at this;cases this;obtain⟨o,ho,hd⟩:=z;exact⟨c,l9,o,hk _ _ ho,hd⟩
 ·obtain⟨v,o,ho,hd⟩:=I.cell x c (kT _ _ e);exact⟨v,o,hk _ _ ho,hd⟩
 ·show (bR lk σ).length=N'.length;unfold bR;rw[SS,L.len]
theorem yA {s':SU}{σ':St}{H':Hp}{pl:List (Addr×Obj)}{C:Addr}{h'':Heap}(I:Inv X pins σ H s)(hex:∀b∈ex,dH X pins H b)
  (J:Inv (az X scope N' cl s.heap.objs.size s H ex) pl σ' H' s') (hs:Vr s.heap.objs.size s'.heap h''):Inv X pins σ H' {s' with heap:=h''}:=by
 have hC:H' s.heap.objs.size=none:=J.free;have u:=J.base;refine I.Di (ch:=ex) (s':={s' with heap:=h''}) J.os ?_ ?_ J.bare (λb hb=>?_)
 ·have kk:∀b o,b≠s.heap.objs.size->s'.heap.get? b=some o->h''.get? b=some o:=λb o hb e=>(hs.2 b hb).trans e;have ne:∀b o,s.heap.get? b=some o->b≠s.heap.objs.size:=λb o e=>Tx (Ta e);refine⟨λb o e n hb hx=>kk b _ (ne b o e) (u.keep b o e n hb hx),λb o e n hb hx=>?_,u.free,λb o e hx=>?_,u.kZ,u.ku,u.k0⟩
  ·obtain⟨sl,q⟩:=u.slot b o e n hb hx;exact⟨sl,kk b _ (ne b o e) q⟩
  ·obtain⟨o',q⟩:=u.there b o e hx;exact⟨o',kk b _ (ne b o e) q⟩
 ·intro b o e;have hb:b≠s.heap.objs.size:=λz=>by rw[z]at e;rw[hC]at e;cases e
  refine(J.a_ b o e).mU (λc v hc q=>(hs.2 c ?_).trans q) (λ_ q=>q) λ_ _ q=>q;rcases hc with z|z
  ·rw[z];exact hb
  ·intro z';rw[z']at z;rw[hC]at z;cases z
 ·obtain⟨f0,f1,f2,f3,f4,f5⟩:=hex b hb;exact⟨f3,f1,f4,f5⟩
end
noncomputable def jI (g:UX)(after:Sem Fin->Sem Fin)(e:Expr)(d:Nat)(it acc:SO)(env:Env):Sem Fin:=do
 Wy g.iter.pos
 match <- XI it with
 |none=>pure (.done .next)
 |some v =>
  WJ g.target it v
  assign g.target env v
  let mut ok:=true
  for c in g.ifs do
   if ok then ok <- Xo c env (eval c env)
  if ok then after (again (.compLoop e d it acc env)) else again (.compLoop e d it acc env)
noncomputable def nv (e:Expr)(d:Nat)(g':UX)(acc:SO)(env:Env)(k:Sem Fin):Sem Fin:=do
 let x <- eval g'.iter env
 Wy g'.iter.pos
 let x <- TL g'.iter env x
 let _ <- runOwn (.compStart e (d+1) (<- holding [x] (XJ x)) acc env) env
 k
def s_ (t:Sem Unit)(k:Sem Fin):Sem Fin:=do
 t
 k
def uB (elt:Expr)(acc:SO)(env:Env):Sem Unit:=do let _ <- call (.builtin "list.append") [acc,<- eval elt env]
structure ft (e:Expr)(d:Nat)(g:UX)(acc:SO)(env:Env)(after:Sem Fin->Sem Fin):Prop where
 turn:∀it,compTurn e d it acc env=jI g after e d it acc env
 cl:(Xq e)[d]?=some g
 sync:g.is_async=0
 quiet:∀it,(Wq e d it acc env).quiet=true
 under:∀(A:Ud) it,A.under (Wq e d it acc env)=A
 DG:∀(A:Ud) it,A.under (XS e d it acc env)=A
 EU:∀it,(Wq e d it acc env).isFrame=false
 HP:∀it,(XS e d it acc env).isFrame=false
section
variable {elt tg wX bz lh:Expr}{ifs lj:List Expr}{sc:UR}{pos:Pos}{acc:SO}{env:Env}
theorem qq:ft (.ListComp elt [⟨tg,bz,ifs,0⟩] sc pos) 0 ⟨tg,bz,ifs,0⟩ acc env (s_ (uB elt acc env)) :=
 ⟨λ_=>rfl,rfl,rfl,λ_=>rfl,λ_ _=>rfl,λ_ _=>rfl,λ_=>rfl,λ_=>rfl⟩
theorem F8:ft (.ListComp elt [⟨tg,bz,ifs,0⟩,⟨wX,lh,lj,0⟩] sc pos) 0 ⟨tg,bz,ifs,0⟩ acc env (nv (.ListComp elt [⟨tg,bz,ifs,0⟩,⟨wX,lh,lj,0⟩] sc pos) 0 ⟨wX,lh,lj,0⟩ acc env) :=
 ⟨λ_=>rfl,rfl,rfl,λ_=>rfl,λ_ _=>rfl,λ_ _=>rfl,λ_=>rfl,λ_=>rfl⟩
theorem F7:ft (.ListComp elt [⟨tg,bz,ifs,0⟩,⟨wX,lh,lj,0⟩] sc pos) 1 ⟨wX,lh,lj,0⟩ acc env (s_ (uB elt acc env)) :=
 ⟨λ_=>rfl,rfl,rfl,λ_=>rfl,λ_ _=>rfl,λ_ _=>rfl,λ_=>rfl,λ_=>rfl⟩
end
def w6:TT:=λ_ H Q=>Q true H
def mI (X:Cx)(ifs:List Expr)(t:TT):Prop :=
 ∀(pins:List (Addr×Obj)) (s:SU) (σ:St) (H:Hp) (Q:Bool->Hp->Prop),Inv X pins σ H s->t σ H Q ->
  Tn (model X.prog X.w) X.A (forIn ifs true λc r=>if r=true then do let ok <- Xo c X.env (eval c X.env);pure (WL ok) else pure (WL r)) (TP X pins σ Q) X.xe s
theorem tH {X:Cx}:mI X [] w6:=λ_ _ _ H _ I h=>wpAny_tests_nil ⟨H,I,h⟩
theorem AG {X:Cx}{c:Expr}{t:TT}(h:PT X c t):mI X [c] t:=λpins s σ H Q I q=>wpAny_tests_one (h pins s σ H Q I q)
abbrev iP:=(St->Hp->Prop)->St->Hp->Prop
def kM (X:Cx)(after:Sem Fin->Sem Fin)(t:iP):Prop :=
 ∀(pins:List (Addr×Obj)) (s:SU) (σ:St) (H:Hp) (N:St->Hp->Prop) (k:Sem Fin) (Q:Fin->SU->Prop) (E:SO->SU->Prop),Inv X pins σ H s->t N σ H ->
  (∀σ' H' s',Inv X pins σ' H' s'->N σ' H'->Tn (model X.prog X.w) X.A k Q E s')->Tn (model X.prog X.w) X.A (after k) Q E s
theorem fO {X:Cx}(hx:X.xe=λ_ _=>False){α:Type}{t:Sem α}{Q:α->SU->Prop}{E:SO->SU->Prop}{s:SU}(h:Tn (model X.prog X.w) X.A t Q X.xe s):Tn (model X.prog X.w) X.A t Q E s :=
 Vk h (λ_ _ q=>q) λe s q=>by rw[hx]at q;exact q.elim
def df (J:It)(g:TG)(tt:TT)(ta:iP)(End:St->Hp->Prop):St->Hp->Prop:=λσ H =>
 ∃W:Nat->Nat->St->Hp->Prop,(∃m,W 0 m σ H)/\∀i m σ H,W i m σ H->(J.stop i H/\End σ H) \/
  (J.go i H/\∃N:St->Hp->Prop,(∀σ' H',N σ' H'->∃m',m'<m/\W (i+1) m' σ' H')/\∀x H',J.GS i H x H'->g x σ H' λσ2 H2=>tt σ2 H2 λb H3=>if b=true then ta N σ2 H3 else N σ2 H3)
section
variable {X:Cx}{e:Expr}{d:Nat}{g:UX}{acc:SO}{after:Sem Fin->Sem Fin}{tg:TG}{tt:TT}{ta:iP}
theorem we (hx:X.xe=λ_ _=>False)(hc:X.calm=true)(F:ft e d g acc X.env after)(hg:PG X g.target tg)(ht:mI X g.ifs tt)(ha:kM X after ta)
  {it:Addr} {fp:List Addr} {tn:Nat->Heap->Prop} {J:It} (T:Turn X.prog X.w X.K g.target J fp it tn) {pins:List (Addr×Obj)} {σ:St} {H:Hp} {s:SU} {End:St->Hp->Prop}
  (I:Inv X pins σ H s) (st:tn 0 s.heap) (hf:∀b∈fp,dH X pins H b) (h:df J tg tt ta End σ H) :
  WB (model X.prog X.w) X.A (.compLoop e d (.ref it) acc X.env) (λr s'=>r=.ok .next/\∃σ' H',Inv X pins σ' H' s'/\End σ' H') s:=by
 obtain⟨W,⟨m0,w0⟩,turn⟩:=h;have qV:∀{H':Hp},(∀b∈fp,H' b=none)->∀b∈fp,dH X pins H' b:=λhn b hb=>⟨hn b hb,(hf b hb).2⟩;refine codeAny_loop (F.quiet _) (λn s'=>∃i σ' H',Inv X pins σ' H' s'/\tn i s'.heap/\(∀b∈fp,H' b=none)/\W i n σ' H') (λn s3 hI=>?_) m0 ⟨0,σ,H,I,st,λb hb=>(hf b hb).1,w0⟩;obtain⟨i,σ3,H3,I3,jM,z5,w3⟩:=hI;rw[F.under];have FE:(model X.prog X.w).den (.compLoop e d (.ref it) acc X.env)=(jI g after e d (.ref it) acc X.env).onRaise (λx=>do noteFrame x X.env;theTreesLotGoes x):=by
  rw[<- F.turn];show (if (Wq e d (.ref it) acc X.env).isFrame then _ else _)=_
  rw[F.EU];rfl
 rw[FE];refine wpAny_noted ?_;unfold jI;rcases turn i n σ3 H3 w3 with⟨stop,qn⟩|⟨go,N,hN,step⟩
 ·refine SN (Vc (SN (bw (T.done X rfl rfl rfl hc i pins s3 σ3 H3 _ I3 (qV z5) jM stop) λr s4 fV=>?_)));obtain⟨hr,I4⟩:=fV;subst hr;exact SV ⟨rfl,σ3,H3,I4,qn⟩
 ·refine SN (Vc (SN (bw (T.item X rfl rfl rfl hc i pins s3 σ3 H3 _ I3 (qV z5) jM go) λr s4 ki=>?_)));obtain⟨u,hr,h4⟩:=ki;subst hr;refine SN (bw h4 λ_ s5 rT=>?_);obtain⟨x,H5,I5,r5,y5,zV,Jm⟩:=rT;have Nv:=I5.pinned (qV Jm) (T.obj _ _ zV);refine SN (bw (fO hx (hg _ s5 σ3 H5 x u _ Nv r5 (step x H5 y5))) λ_ s6 Iy=>?_);obtain⟨σ6,H6,I6,q6⟩:=Iy;refine SN (bw (fO hx (ht _ s6 σ6 H6 _ I6 q6)) λok s7 Qr=>?_);obtain⟨H7,I7,q7⟩:=Qr;have zO:∀{σ8:St} {H8:Hp} {s8:SU},Inv X (pins++jU fp s5.heap) σ8 H8 s8->N σ8 H8->∃m,m<n/\∃i σ' H',Inv X pins σ' H' s8/\tn i s8.heap/\(∀b∈fp,H' b=none)/\W i m σ' H':=λ{σ8 H8 s8} I8 n8=>by
   obtain⟨m',hm,w8⟩:=hN σ8 H8 n8;refine⟨m',hm,i+1,σ8,H8,I8.gB,T.keep _ _ _ zV λb hb o e=>(I8.pin (b,o) (TM _ (TM _ (e_ hb e)))).1,λb hb=>?_,w8⟩;obtain⟨o,e,d⟩:=T.obj _ _ zV b hb;exact(I8.pin (b,o) (TM _ (TM _ (e_ hb e)))).2.1
  cases ok with
  |false=>exact SV ⟨rfl,zO I7 (by simpa using q7)⟩
  |true =>
   exact ha _ s7 σ6 H7 N _ _ _ I7 (by simpa using q7) λσ8 H8 s8 I8 n8=>SV ⟨rfl,zO I8 n8⟩
theorem gk (hx:X.xe=λ_ _=>False)(hc:X.calm=true)(F:ft e d g acc X.env after)(hg:PG X g.target tg)(ht:mI X g.ifs tt)(ha:kM X after ta)
  {it:Addr} {fp:List Addr} {tn:Nat->Heap->Prop} {J:It} (T:Turn X.prog X.w X.K g.target J fp it tn) {pins:List (Addr×Obj)} {σ:St} {H:Hp} {s:SU} {End:St->Hp->Prop}
  (I:Inv X pins σ H s) (st:tn 0 s.heap) (hf:∀b∈fp,dH X pins H b) (h:df J tg tt ta End σ H) :
  WB (model X.prog X.w) X.A (.compStart e d (.ref it) acc X.env) (λr s'=>r=.ok .next/\∃σ' H',Inv X pins σ' H' s'/\End σ' H') s:=by
 have lp:=we hx hc F hg ht ha T I st hf h;refine codeAny_of_tree ?_;rw[F.DG];have FE:(model X.prog X.w).den (.compStart e d (.ref it) acc X.env)=(compStart e d (.ref it) acc X.env).onRaise (λx=>do noteFrame x X.env;Wy theWindowsPlace):=by
  show (if (XS e d (.ref it) acc X.env).isFrame then _ else _)=_
  rw[F.HP];rfl
 rw[FE];refine wpAny_notedAt ?_;unfold compStart;rw[F.cl];simp only[Option.elim_some,F.sync];show Tn _ _ (ask >>= _) _ _ s;refine SN (wpAny_askSetting (wpAny_ite ?_))
 split
 ·first
   |exact SN (SV (SV (And.intro (F.quiet _) lp)))
   |exact SV (And.intro (F.quiet _) lp)
 ·have h2:∀(E:SO->SU->Prop),Tn (model X.prog X.w) X.A (XJ (.ref it)) (λJ7 s'=>(Wq e d J7 acc X.env).quiet=true/\WB (model X.prog X.w) X.A (.compLoop e d J7 acc X.env) (λr s'=>r=.ok .next/\∃σ' H',Inv X pins σ' H' s'/\End σ' H') s') E s :=
   λE=>T.self X.A 0 s _ E st ⟨F.quiet _,lp⟩
  first
   |exact SN (Vj (SN (Vc (SN (Vk (h2 _) (λJ7 s' h'=>SV h') λ_ _ x=>x)))))
   | (refine SN (Vj ?_);exact SN (Vc (SN (Vk (h2 _) (λJ7 s' h'=>SV h') λ_ _ x=>x))))
theorem A5 {g':UX}{wi:TI}(hx:X.xe=λ_ _=>False)(hc:X.calm=true)(F:ft e (d+1) g' acc X.env after)(hi:PI X g'.target g'.iter wi)(hg:PG X g'.target tg)(ht:mI X g'.ifs tt)(ha:kM X after ta)
  (hs:∀x,TL g'.iter X.env x=pure x:=by intro _;rfl) :
  kM X (nv e d g' acc X.env) (λN σ H=>wi σ H λJ H1=>df J tg tt ta N σ H1):=by
 intro pins s σ H N k Q E I h hk;unfold nv;refine SN (bw (fO hx (hi pins s σ H _ I h)) λx s1 h1=>?_);refine SN (Vc (SN (wpAny_of_eq (hs x) ?_)));refine SN (Uu (bw (fO hx h1) λwD s2 h2=>?_));obtain⟨it,fp,tn,J,H2,e1,I2,T,eD,f2,hl⟩:=h2;subst e1;refine SN (wpAny_runOwn (V6 (gk hx hc F hg ht ha T I2 eD f2 hl) λr s' hr=>?_));obtain⟨rfl,σ',H',I',q⟩:=hr;exact hk σ' H' s' I' q
theorem eI {elt:Expr}{te:TE}{a:Addr}(hx:X.xe=λ_ _=>False)(he:PE X elt te):
  kM X (s_ (uB elt (.ref a) X.env)) (λN σ H=>te σ H λv H1=>∃xs,H1 a=some (.lst xs)/\xs.length<S7/\N σ (upd H1 a (.lst (xs++[v])))):=by
 intro pins s σ H N k Q E I h hk;unfold s_ uB;refine SN (SN (bw (fO hx (he pins s σ H _ I h)) λu s1 Qq=>?_));obtain⟨v,H1,I1,r1,xs,hH,hz,q⟩:=Qq;refine SN (bw (fO hx <| iB (X:=X) pins s1 σ H1 (.ref a) [v] (.ref a) [u] (λw' H'=>N σ H') I1 rfl (.cons r1 .nil) ⟨a,xs,v,rfl,rfl,hH,hz,q⟩) λ_ s2 Qp=>?_)
 obtain⟨_,H2,I2,_,q2⟩:=Qp;exact SV (hk σ H2 s2 I2 q2)
end
section
variable {X:Cx}{e:Expr}
structure kO (X:Cx)(bH:Sem SO)(o:HO):Prop where
 ok:∀(pins:List (Addr×Obj)) (s:SU) (σ:St) (H:Hp) (Q:SO->SU->Prop) (E:SO->SU->Prop),Inv X pins σ H s ->
  (∀a s',s.heap.objs.size<=a->H a=none->(∀b o,s.heap.get? b=some o->s'.heap.get? b=some o)->Inv X pins σ (upd H a o) s'->Q (.ref a) s')->Tn (model X.prog X.w) X.A bH Q E s
theorem eM:kO X (newList []) (.lst []) :=
 ⟨λpins s σ H Q E I h=>UI (h _ _ (SX _) I.fresh (λb o e=>S1 _ e) (I.Ii (its:=[]) (t':=s.toks) .nil (Tb _)))⟩
theorem Inv.sameBut {pins:List (Addr×Obj)}{σ:St}{H:Hp}{s:SU}{C:Addr}{h':Heap}(I:Inv X pins σ H s)(f:dH X pins H C)(hs:Vr C s.heap h'):Inv X pins σ H {s with heap:=h'}:=by
 obtain⟨f0,f1,f2,f3,f4,f5⟩:=f;exact I.turned (t':=s.toks) (λb o hb e=>(hs.2 b hb).trans e) f0 f1 f3 f4 f5
end
end L2
namespace ST
open PySem PySem.SetTable
def dZ (m:Nat)(p:Probe):Probe:=advance {mask:=m,place:=#[],dummies:=#[],finger:=0,led:=true,moves:=0,plain:=true} p
def Pp (m:Nat)(h:Int):Probe:=probeStart {mask:=m,place:=#[],dummies:=#[],finger:=0,led:=true,moves:=0,plain:=true} h
noncomputable def NX (m:Nat)(h:Int):Nat->Probe
 |0=>Pp m h
 |n+1=>dZ m (NX m h n)
def NJ (m:Nat)(h:Int)(n:Nat):Nat:=(NX m h n).j
abbrev g (xs:Array Nat)(i:Nat):Nat:=xs.getD i 0
def Ry (xs:Array Nat):Prop:=∀i j,i<j->j<xs.size->g xs i<g xs j
def O1 (t:SetTable)(x:Nat):Prop:=∃i,i<t.place.size/\g t.place i=x
structure WF (t:SetTable)(hs:List Int):Prop where
 SH:t.dummies=#[]
 sz:t.place.size=hs.length
 R5:Ry t.place
 SK:∀i,i<t.place.size->g t.place i<=t.mask
 P9:∃j,3<=j/\t.mask=2 ^ j-1
 room:t.place.size<=t.mask
 R6:∀i h,hs[i]?=some h->∃n,NJ t.mask h n=g t.place i/\∀k,k<n->O1 t (NJ t.mask h k)
instance (t:SetTable):DecidablePred (O1 t):=λx=>decidable_of_iff (∃i,i<t.place.size/\g t.place i=x) Iff.rfl
end ST
namespace TS
open PySem PyProof.Rows
def cm:Bool->S0->Array S0->Nat->Nat->Nat->StateT Tu Sem (Option Nat):=sortPriv% PySem.Builtin.gallop
def gL:Array S0->Array S0->StateT Tu Sem (Array S0):=sortPriv% PySem.Builtin.mergeLo
def gM:Array S0->Array S0->StateT Tu Sem (Array S0):=sortPriv% PySem.Builtin.mergeHi
abbrev cq (st:Tu)(g:Nat):Tu:=SortSt.mk' (kindOf st) (TC st) (Tp st) g (VN st)
theorem si (left:Bool)(key:S0)(arr:Array S0)(base n hint:Nat):cm left key arr base n hint=(do
  let ask:=λ(at_:Nat)=>(do
   let z <- elem' arr (base+at_)
   if left then lt' z key else return (<- lt' key z).map (!·):StateT Tu Sem (Option Bool))
  let mut before:=0
  let mut step:=1
  let mut u:=0
  let mut v:=0
  let some up <- ask hint|return none
  if up then
   let room:=n-hint
   for _ in [0:n] do
    if step >= room then break
    let some on <- ask (hint+step)|return none
    if !on then break
    before:=step
    step:=2*step+1
   u:=hint+before+1
   v:=hint+min step room
  else
   let room:=hint+1
   for _ in [0:n] do
    if step >= room then break
    let some hit <- ask (hint-step)|return none
    if hit then break
    before:=step
    step:=2*step+1
   u:=hint+1-min step room
   v:=hint-before
  for _ in [0:n] do
   if u >= v then break
   let mid:=u+(v-u) / 2
   let some on <- ask mid|return none
   if on then u:=mid+1 else v:=mid
  return some v):=rfl
theorem pq (p q:Array S0):gL p q=(do
  rule "list.sort.merge-lo"
  let all:=p.size+q.size
  let rest:=λ(to:Array S0) (i j:Nat)=>to++p.extract i p.size++q.extract j q.size
  let tail:=λ(to:Array S0) (i j:Nat)=>to++q.extract j q.size++p.extract i p.size
  let mut to:Array S0:=#[<- elem' q 0]
  let mut i:=0
  let mut j:=1
  if j==q.size then return rest to i j
  if i+1==p.size then return tail to i j
  let mut mg:=gallopOf (<- get)
  for _ in [0:all] do
   let mut m:=0
   let mut n:=0
   for _ in [0:all] do
    let some DF <- lt' (<- elem' q j) (<- elem' p i)|return rest to i j
    if DF then
     to:=to.push (<- elem' q j);j:=j+1;n:=n+1;m:=0
     if j==q.size then return rest to i j
     if n >= mg then break
    else
     to:=to.push (<- elem' p i);i:=i+1;m:=m+1;n:=0
     if i+1==p.size then return tail to i j
     if m >= mg then break
   rule "list.sort.gallop"
   mg:=mg+1
   for _ in [0:all] do
    if mg>1 then mg:=mg-1
    modify λst=>cq st mg
    let some k <- cm false (<- elem' q j) p i (p.size-i) 0|return rest to i j
    m:=k
    if k>0 then
     to:=to++p.extract i (i+k);i:=i+k
     if i+1==p.size then return tail to i j
     if i==p.size then return rest to i j
    to:=to.push (<- elem' q j);j:=j+1
    if j==q.size then return rest to i j
    let some k <- cm true (<- elem' p i) q j (q.size-j) 0|return rest to i j
    n:=k
    if k>0 then
     to:=to++q.extract j (j+k);j:=j+k
     if j==q.size then return rest to i j
    to:=to.push (<- elem' p i);i:=i+1
    if i+1==p.size then return tail to i j
    if m<7&&n<7 then break
   mg:=mg+1
   modify λst=>cq st mg
  unsupported "internal:list.sort.merge-bound"):=rfl
theorem pA (p q:Array S0):gM p q=(do
  rule "list.sort.merge-hi"
  let all:=p.size+q.size
  let rest:=λ(to:Array S0) (i j:Nat)=>p.extract 0 i++q.extract 0 j++to.reverse
  let tail:=λ(to:Array S0) (i j:Nat)=>q.extract 0 j++p.extract 0 i++to.reverse
  let mut i:=p.size-1
  let mut j:=q.size
  let mut to:Array S0:=#[<- elem' p i]
  if i==0 then return rest to i j
  if j==1 then return tail to i j
  let mut mg:=gallopOf (<- get)
  for _ in [0:all] do
   let mut m:=0
   let mut n:=0
   for _ in [0:all] do
    let some DF <- lt' (<- elem' q (j-1)) (<- elem' p (i-1))|return rest to i j
    if DF then
     i:=i-1;to:=to.push (<- elem' p i);m:=m+1;n:=0
     if i==0 then return rest to i j
     if m >= mg then break
    else
     j:=j-1;to:=to.push (<- elem' q j);n:=n+1;m:=0
     if j==1 then return tail to i j
     if n >= mg then break
   rule "list.sort.gallop"
   mg:=mg+1
   for _ in [0:all] do
    if mg>1 then mg:=mg-1
    modify λst=>cq st mg
    let some h <- cm false (<- elem' q (j-1)) p 0 i (i-1)|return rest to i j
    let k:=i-h
    m:=k
    if k>0 then
     to:=to++(p.extract h i).reverse;i:=h
     if i==0 then return rest to i j
    j:=j-1;to:=to.push (<- elem' q j)
    if j==1 then return tail to i j
    let some h <- cm true (<- elem' p (i-1)) q 0 j (j-1)|return rest to i j
    let k:=j-h
    n:=k
    if k>0 then
     to:=to++(q.extract h j).reverse;j:=h
     if j==1 then return tail to i j
     if j==0 then return rest to i j
    i:=i-1;to:=to.push (<- elem' p i)
    if i==0 then return rest to i j
    if m<7&&n<7 then break
   mg:=mg+1
   modify λst=>cq st mg
  unsupported "internal:list.sort.merge-bound"):=rfl
theorem pC (i:Nat):mergeAt' i=(do
  let st <- get
  let (some (sa,na,pw),some (sb,nb,_)):=((Tp st)[i]?,(Tp st)[i+1]?)|unsupported "internal:list.sort.pending"
  set (VW st (((Tp st).setIfInBounds i (sa,na+nb,pw)).eraseIdxIfInBounds (i+1)))
  let some k <- cm false (<- elem' (TC st) sb) (TC st) sa na 0|return false
  let (sa,na):=(sa+k,na-k)
  if na==0 then return true
  let some nb <- cm true (<- elem' (TC st) (sa+na-1)) (TC st) sb nb (nb-1)|return false
  if nb==0 then return true
  let x:=(TC st).extract sa sb
  let y:=(TC st).extract sb (sb+nb)
  let got <- if na<=nb then gL x y else gM x y
  modify λs2=>Uo s2 (got.toList.zipIdx.foldl (λa (p,j)=>a.setIfInBounds (sa+j) p) (TC s2))
  return (VN (<- get)).isNone):=rfl
structure bZ (c:S0->S0->Bool):Prop where
 Jy:∀x y,c x y=true->c y x=false
 N4:∀x y z,c x z=true->c x y=true\/c y z=true
def le (c:S0->S0->Bool)(x y:S0):Prop:=c y x=false
section
variable {c:S0->S0->Bool}
theorem bZ.refl (O:bZ c)(x:S0):le c x x:=by
 cases h:c x x
 ·exact h
 ·exact O.Jy _ _ h
theorem bZ.trans (O:bZ c){x y z:S0}(h1:le c x y)(h2:le c y z):le c x z:=by
 cases h:c z x
 ·exact h
 ·rcases O.N4 _ y _ h with q|q
  ·exact absurd (q.symm.trans h2) (by simp)
  ·exact absurd (q.symm.trans h1) (by simp)
theorem bZ.of_lt (O:bZ c){x y:S0}(h:c x y=true):le c x y:=O.Jy _ _ h
def el (a:Array S0)(i:Nat):S0:=a.getD i (Value.none,Value.none)
theorem gU {a:Array S0}{i:Nat}(h:i<a.size):a[i]?=some (el a i):=by
 rw[getElem?_pos a i h,el,Vh,getElem?_pos a i h];rfl
theorem uC {a:Array S0}{i:Nat}{x:S0}(h:a[i]?=some x):el a i=x:=by
 rw[el,Vh,h];rfl
theorem dD {a b:Array S0}{i j:Nat}(h:a[i]?=b[j]?):el a i=el b j:=by
 rw[el,el,Vh,Vh,h]
def SR (c:S0->S0->Bool)(a:Array S0)(lo hi:Nat):Prop:=∀i j,lo<=i->i<=j->j<hi->le c (el a i) (el a j)
def eC (prog:SW)(w:S_)(A:Ud)(E:SO->SU->Prop)(s:SU)(κ:U0)(c:S0->S0->Bool)(S:S0->Prop):Prop :=
 ∀(x y:S0) (st:Tu) (Q:Option Bool->Tu->Prop),S x->S y->kindOf st=κ->Q (some (c x y)) st->wpS (model prog w) A E s (lt' x y) Q st
end
section
variable {prog:SW}{w:S_}{A:Ud}{E:SO->SU->Prop}{s:SU}{κ:U0}{c:S0->S0->Bool}{S:S0->Prop}
theorem aL {a:Array S0}{i:Nat}{Q:S0->Tu->Prop}{st:Tu}(h:i<a.size)(q:Q (el a i) st):wpS (model prog w) A E s (elem' a i) Q st:=by
 rw[elem'_eq,gU h];exact S8 q
def dE (c:S0->S0->Bool)(left:Bool)(key:S0)(a:Array S0)(base i:Nat):Bool:=if left=true then c (el a (base+i)) key else !c key (el a (base+i))
theorem Ce (O:bZ c){left:Bool}{key:S0}{a:Array S0}{base n i j:Nat}(hs:SR c a base (base+n))(aE:i<=j)(hj:j<n)(h:dE c left key a base j=true):dE c left key a base i=true:=by
 have hl:=hs (base+i) (base+j) (by lia) (by lia) (by lia)
 unfold dE at *
 cases left with
 |true =>
  rw[if_pos rfl]at *
  rcases O.N4 _ (el a (base+i)) _ h with q|q
  ·exact absurd (q.symm.trans hl) (by simp)
  ·exact q
 |false =>
  rw[if_neg (by simp)]at *
  rw[Wj]at *
  exact O.trans hl h
theorem gx (L:eC prog w A E s κ c S){left:Bool}{key:S0}{a:Array S0}{base n i:Nat}{Q:Option Bool->Tu->Prop}{st:Tu}(hk:kindOf st=κ)(hK:S key)(hA:∀i,i<n->S (el a (base+i)))(hn:base+n<=a.size)(hi:i<n)
  (h:Q (some (dE c left key a base i)) st):wpS (model prog w) A E s (do
   let z <- elem' a (base+i)
   if left then lt' z key else return (<- lt' key z).map (!·):StateT Tu Sem (Option Bool)) Q st:=by
 refine S6 (aL (by lia) ?_)
 unfold dE at h;cases left with
 |true =>
  rw[if_pos rfl]at *
  exact L _ _ st Q (hA i hi) hK hk h
 |false =>
  rw[if_neg (by simp)]at *
  exact S6 (L _ _ st _ hK (hA i hi) hk (S8 h))
theorem da (O:bZ c)(L:eC prog w A E s κ c S){left:Bool}{key:S0}{a:Array S0}{base n hint:Nat}{Q:Option Nat->Tu->Prop}{st:Tu}(hk:kindOf st=κ)(hK:S key)(hA:∀i,i<n->S (el a (base+i)))(hn:base+n<=a.size)
  (hs:SR c a base (base+n)) (hh:hint<n) (h:∀k,k<=n->(∀i,i<k->dE c left key a base i=true)->(∀i,k<=i->i<n->dE c left key a base i=false)->Q (some k) st) :
  wpS (model prog w) A E s (cm left key a base n hint) Q st:=by
 rw[si];dsimp only;have up:∀{i j},i<=j->j<n->dE c left key a base j=true->dE c left key a base i=true:=λh1 h2 h3=>Ce O hs h1 h2 h3;refine S6 (gx L hk hK hA hn hh ?_);dsimp only;have dn:∀{i j},i<=j->j<n->dE c left key a base i=false->dE c left key a base j=false:=λ{i j} h1 h2 h3=>by
  cases q:dE c left key a base j
  ·rfl
  ·rw[up h1 h2 q]at h3;exact absurd h3 (by simp)
 cases wF:dE c left key a base hint with
 |true =>
  rw[if_pos rfl];refine S6 (UG (Ua (I:=λx r aC=>aC=st/\∃be dZ,r=(none,be,dZ)/\hint+be<n/\be<dZ/\x+1<=dZ/\dE c left key a base (hint+be)=true)
   (Q:=λr aC=>aC=st/\∃be dZ,r=(none,be,dZ)/\hint+be<n/\be<dZ/\dE c left key a base (hint+be)=true/\(n-hint<=dZ\/(hint+dZ<n/\dE c left key a base (hint+dZ)=false))) ?_ ?_ ?_) ?_)
  ·rintro x r aC _ hx ⟨rfl,be,dZ,rfl,h1,h2,h3,h4⟩;dsimp only
   by_cases hr:dZ >= n-hint
   ·rw[if_pos hr];exact S8 ⟨rfl,be,dZ,rfl,h1,h2,h4,.inl hr⟩
   ·rw[if_neg hr];refine S6 (gx L hk hK hA hn (by omega) ?_)
    dsimp only;cases hb:dE c left key a base (hint+dZ)with
    |true =>
     rw[if_neg (by simp)]
     exact S8 ⟨rfl,dZ,_,rfl,by omega,by omega,by omega,hb⟩
    |false =>
     rw[if_pos (by simp)]
     exact S8 ⟨rfl,be,dZ,rfl,h1,h2,h4,.inr ⟨by omega,hb⟩⟩
  ·rintro r aC ⟨rfl,be,dZ,rfl,h1,h2,h3,h4⟩;exact⟨rfl,be,dZ,rfl,h1,h2,h4,.inl (by omega)⟩
  ·exact⟨rfl,0,1,rfl,by omega,by omega,by omega,wF⟩
  rintro r aC ⟨e0,be,dZ,rfl,h1,h2,h4,h5⟩;rw[e0];dsimp only;have g1:∀i,i<hint+be+1->dE c left key a base i=true:=λi hi=>up (j:=hint+be) (by omega) h1 h4
  have g2:∀i,hint+min dZ (n-hint)<=i->i<n->dE c left key a base i=false:=λi hi jj=>by
   rcases h5 with q|⟨q1,q2⟩
   ·omega
   ·exact dn (i:=hint+dZ) (by omega) jj q2
  refine S6 (UG (Ua (I:=λx r aC=>aC=st/\∃u v,r=(none,u,v)/\u<=v/\v<=n/\v-u<=n-x/\(∀i,i<u->dE c left key a base i=true)/\(∀i,v<=i->i<n->dE c left key a base i=false))
   (Q:=λr aC=>aC=st/\∃v,r=(none,v,v)/\v<=n/\(∀i,i<v->dE c left key a base i=true)/\(∀i,v<=i->i<n->dE c left key a base i=false)) ?_ ?_ ?_) ?_)
  ·rintro x r aC _ hx ⟨rfl,u,v,rfl,h1,h2,h3,h4,h5⟩;dsimp only
   by_cases IA:u >= v
   ·rw[if_pos IA];obtain rfl:u=v:=by omega
    exact S8 ⟨rfl,u,rfl,h2,h4,h5⟩
   ·rw[if_neg IA];refine S6 (gx L hk hK hA hn (by omega) ?_)
    dsimp only;cases hb:dE c left key a base (u+(v-u) / 2)with
    |true =>
     rw[if_pos rfl];exact S8 ⟨rfl,_,v,rfl,by omega,h2,by omega,λi hi=>up (j:=u+(v-u) / 2) (by omega) (by omega) hb,h5⟩
    |false =>
     rw[if_neg (by simp)]
     exact S8 ⟨rfl,u,_,rfl,by omega,by omega,by omega,h4,λi hi jj=>dn (i:=u+(v-u) / 2) (by omega) (by omega) hb⟩
  ·rintro r aC ⟨rfl,u,v,rfl,h1,h2,h3,h4,h5⟩;obtain rfl:u=v:=by omega
   exact⟨rfl,u,rfl,h2,h4,h5⟩
  ·exact⟨rfl,_,_,rfl,by omega,by omega,by omega,by assumption,by assumption⟩
  ·rintro r aC ⟨rfl,v,rfl,h2,h4,h5⟩;exact S8 (h v h2 h4 h5)
 |false =>
  rw[if_neg (by simp)]
  refine S6 (UG (Ua (I:=λx r aC=>aC=st/\∃be dZ,r=(none,be,dZ)/\be<=hint/\be<dZ/\x+1<=dZ/\dE c left key a base (hint-be)=false)
   (Q:=λr aC=>aC=st/\∃be dZ,r=(none,be,dZ)/\be<=hint/\be<dZ/\dE c left key a base (hint-be)=false/\(hint+1<=dZ\/(dZ<=hint/\dE c left key a base (hint-dZ)=true))) ?_ ?_ ?_) ?_)
  ·rintro x r aC _ hx ⟨rfl,be,dZ,rfl,h1,h2,h3,h4⟩;dsimp only
   by_cases hr:dZ >= hint+1
   ·rw[if_pos hr];exact S8 ⟨rfl,be,dZ,rfl,h1,h2,h4,.inl hr⟩
   ·rw[if_neg hr];refine S6 (gx L hk hK hA hn (by omega) ?_)
    dsimp only;cases hb:dE c left key a base (hint-dZ)with
    |true =>
     rw[if_pos rfl];exact S8 ⟨rfl,be,dZ,rfl,h1,h2,h4,.inr ⟨by omega,hb⟩⟩
    |false =>
     rw[if_neg (by simp)]
     exact S8 ⟨rfl,dZ,_,rfl,by omega,by omega,by omega,hb⟩
  ·rintro r aC ⟨rfl,be,dZ,rfl,h1,h2,h3,h4⟩;exact⟨rfl,be,dZ,rfl,h1,h2,h4,.inl (by omega)⟩
  ·exact⟨rfl,0,1,rfl,by omega,by omega,by omega,wF⟩
  rintro r aC ⟨e0,be,dZ,rfl,h1,h2,h4,h5⟩;rw[e0];dsimp only;have g1:∀i,i<hint+1-min dZ (hint+1)->dE c left key a base i=true:=λi hi=>by
   rcases h5 with q|⟨q1,q2⟩
   ·omega
   ·exact up (j:=hint-dZ) (by omega) (by omega) q2
  have g2:∀i,hint-be<=i->i<n->dE c left key a base i=false:=λi hi jj=>dn (i:=hint-be) hi jj h4;refine S6 (UG (Ua (I:=λx r aC=>aC=st/\∃u v,r=(none,u,v)/\u<=v/\v<=n/\v-u<=n-x/\(∀i,i<u->dE c left key a base i=true)/\(∀i,v<=i->i<n->dE c left key a base i=false))
   (Q:=λr aC=>aC=st/\∃v,r=(none,v,v)/\v<=n/\(∀i,i<v->dE c left key a base i=true)/\(∀i,v<=i->i<n->dE c left key a base i=false)) ?_ ?_ ?_) ?_)
  ·rintro x r aC _ hx ⟨rfl,u,v,rfl,h1,h2,h3,h4,h5⟩;dsimp only
   by_cases IA:u >= v
   ·rw[if_pos IA];obtain rfl:u=v:=by omega
    exact S8 ⟨rfl,u,rfl,h2,h4,h5⟩
   ·rw[if_neg IA];refine S6 (gx L hk hK hA hn (by omega) ?_)
    dsimp only;cases hb:dE c left key a base (u+(v-u) / 2)with
    |true =>
     rw[if_pos rfl];exact S8 ⟨rfl,_,v,rfl,by omega,h2,by omega,λi hi=>up (j:=u+(v-u) / 2) (by omega) (by omega) hb,h5⟩
    |false =>
     rw[if_neg (by simp)]
     exact S8 ⟨rfl,u,_,rfl,by omega,by omega,by omega,h4,λi hi jj=>dn (i:=u+(v-u) / 2) (by omega) (by omega) hb⟩
  ·rintro r aC ⟨rfl,u,v,rfl,h1,h2,h3,h4,h5⟩;obtain rfl:u=v:=by omega
   exact⟨rfl,u,rfl,h2,h4,h5⟩
  ·exact⟨rfl,_,_,rfl,by omega,by omega,by omega,by assumption,by assumption⟩
  ·rintro r aC ⟨rfl,v,rfl,h2,h4,h5⟩;exact S8 (h v h2 h4 h5)
end
section
variable {c:S0->S0->Bool}{p q:Array S0}{t:List S0}{i j:Nat}
theorem tf {a:Array S0}{i:Nat}(h:i<a.size):a.toList.take (i+1)=a.toList.take i++[el a i]:=by
 have e:a.toList[i]?=some (el a i):=by rw[To];exact gU h
 rw[List.take_succ,e];rfl
theorem uE {a:Array S0}{i:Nat}(h:i<a.size):a.toList.drop i=el a i::a.toList.drop (i+1):=by
 have hl:i<a.toList.length:=by rw[Tj];exact h
 have e:a.toList[i]=el a i:=by
  have h1:=Td hl;rw[To,gU h]at h1;exact(TJ h1).symm
 rw[Ts hl,e]
structure Mg (c:S0->S0->Bool)(p q:Array S0)(t:List S0)(i j:Nat):Prop where
 hi:i<=p.size
 hj:j<=q.size
 perm:t.Perm (p.toList.take i++q.toList.take j)
 d3:t.Pairwise (le c)
 ap:∀x∈t,∀k,i<=k->k<p.size->le c x (el p k)
 aq:∀x∈t,∀k,j<=k->k<q.size->le c x (el q k)
def Gd (c:S0->S0->Bool)(p q:Array S0)(t:List S0):Prop:=t.Perm (p.toList++q.toList)/\t.Pairwise (le c)
theorem oE {x:S0}(h:t.Pairwise (le c))(hx:∀y∈t,le c y x):(t++[x]).Pairwise (le c):=by
 rw[Vn];exact⟨h,List.pairwise_singleton _ _,λy hy z hz=>by rw[S3.mp hz];exact hx y hy⟩
theorem Mg.iY (m:Mg c p q t i j)(hj:j<q.size)(sq:SR c q 0 q.size)(hle:∀k,i<=k->k<p.size->le c (el q j) (el p k)):Mg c p q (t++[el q j]) i (j+1) where
 hi:=m.hi
 hj:=hj
 perm:=by
  rw[tf hj,<- Uc];exact m.perm.append_right _
 d3:=oE m.d3 λy hy=>m.aq y hy j (SX _) hj
 ap:=λx hx k h1 h2=>by
  rcases S9.mp hx with h|h
  ·exact m.ap x h k h1 h2
  ·rw[S3.mp h];exact hle k h1 h2
 aq:=λx hx k h1 h2=>by
  rcases S9.mp hx with h|h
  ·exact m.aq x h k (by lia) h2
  ·rw[S3.mp h];exact sq j k (by lia) (by lia) h2
theorem Mg.iZ (m:Mg c p q t i j)(hi:i<p.size)(sp:SR c p 0 p.size)(hle:∀k,j<=k->k<q.size->le c (el p i) (el q k)):Mg c p q (t++[el p i]) (i+1) j where
 hi:=hi
 hj:=m.hj
 perm:=by
  rw[tf hi];refine(m.perm.append_right _).trans ?_;rw[Uc,Uc];exact List.Perm.append_left _ List.perm_append_comm
 d3:=oE m.d3 λy hy=>m.ap y hy i (SX _) hi
 ap:=λx hx k h1 h2=>by
  rcases S9.mp hx with h|h
  ·exact m.ap x h k (by lia) h2
  ·rw[S3.mp h];exact sp i k (by lia) (by lia) h2
 aq:=λx hx k h1 h2=>by
  rcases S9.mp hx with h|h
  ·exact m.aq x h k h1 h2
  ·rw[S3.mp h];exact hle k h1 h2
theorem fG {a:Array S0}{i k:Nat}(h:i+k<a.size):(a.toList.drop i).take (k+1)=(a.toList.drop i).take k++[el a (i+k)]:=by
 have e:(a.toList.drop i)[k]?=some (el a (i+k)):=by rw[List.getElem?_drop,To];exact gU h
 rw[List.take_succ,e];rfl
theorem Mg.gD (m:Mg c p q t i j)(sp:SR c p 0 p.size):∀(k:Nat),i+k<=p.size->(∀x,x<k->∀y,j<=y->y<q.size->le c (el p (i+x)) (el q y))->Mg c p q (t++(p.toList.drop i).take k) (i+k) j
 |0,_,_=>by simpa using m
 |k+1,h,hle=>by
  have m':=Mg.gD m sp k (by lia) λx hx=>hle x (by lia)
  rw[fG (by lia),<- Uc,<- WZ]
  exact m'.iZ (by lia) sp (hle k (by lia))
theorem Mg.gC (m:Mg c p q t i j)(sq:SR c q 0 q.size):∀(k:Nat),j+k<=q.size->(∀x,x<k->∀y,i<=y->y<p.size->le c (el q (j+x)) (el p y))->Mg c p q (t++(q.toList.drop j).take k) i (j+k)
 |0,_,_=>by simpa using m
 |k+1,h,hle=>by
  have m':=Mg.gC m sq k (by lia) λx hx=>hle x (by lia)
  rw[fG (by lia),<- Uc,<- WZ]
  exact m'.iY (by lia) sq (hle k (by lia))
theorem Mg.full (m:Mg c p q t p.size q.size):Gd c p q t:=by
 refine⟨?_,m.d3⟩;have h:=m.perm;rw[UM (by rw[Tj];lia),UM (by rw[Tj];lia)]at h
 exact h
theorem cf (a:Array S0)(i j:Nat):(a.extract i j).toList=(a.toList.drop i).take (j-i):=by
 rw[Array.toList_extract,List.extract_eq_take_drop]
theorem qd {a:Array S0}{i j:Nat}(h:a.size<=i):(a.toList.drop i).take (j-i)=[]:=by
 rw[WE (by rw[Tj];exact h)]
 simp
theorem Mg.done {to:Array S0}(m:Mg c p q to.toList i j)(sp:SR c p 0 p.size)(sq:SR c q 0 q.size)(h:i=p.size\/j=q.size):Gd c p q (to++p.extract i p.size++q.extract j q.size).toList:=by
 rw[Uw,Uw,cf,cf];rcases h with rfl|rfl
 ·rw[qd (SX _),UP];have m':=m.gC sq (q.size-j) (by have:=m.hj;lia) λx hx y h1 h2=>by lia
  rw[show j+(q.size-j)=q.size by have:=m.hj;lia]at m'
  exact m'.full
 ·rw[qd (a:=q) (SX _),UP];have m':=m.gD sp (p.size-i) (by have:=m.hi;lia) λx hx y h1 h2=>by lia
  rw[show i+(p.size-i)=p.size by have:=m.hi;lia]at m'
  exact m'.full
theorem Mg.tail {to:Array S0}(O:bZ c)(m:Mg c p q to.toList i j)(sp:SR c p 0 p.size)(sq:SR c q 0 q.size)(h:i+1=p.size)(hl:∀y,y<q.size->c (el q y) (el p (p.size-1))=true):Gd c p q (to++q.extract j q.size++p.extract i p.size).toList:=by
 rw[Uw,Uw,cf,cf];have m':=m.gC sq (q.size-j) (by have:=m.hj;lia) λx hx y h1 h2=>by
  rw[show y=p.size-1 by lia]
  exact O.of_lt (hl _ (by lia))
 rw[show j+(q.size-j)=q.size by have:=m.hj;lia]at m'
 have m2:=m'.gD sp (p.size-i) (by have:=m.hi;lia) λx hx y h1 h2=>by lia
 rw[show i+(p.size-i)=p.size by have:=m.hi;lia]at m2
 exact m2.full
theorem uR (to a:Array S0)(i k:Nat):(to++a.extract i (i+k)).toList=to.toList++(a.toList.drop i).take k:=by
 rw[Uw,cf,show i+k-i=k by lia]
theorem Mg.start (O:bZ c)(sp:SR c p 0 p.size)(sq:SR c q 0 q.size)(hq:0<q.size)(hp:0<p.size)(h:c (el q 0) (el p 0)=true):Mg c p q [el q 0] 0 1:=by
 have m:Mg c p q [] 0 0:=⟨Tb _,Tb _,(by simp),.nil,(λx hx=>by cases hx),(λx hx=>by cases hx)⟩
 exact m.iY hq sq λk _ hk=>O.trans (O.of_lt h) (sp 0 k (by lia) (by lia) hk)
end
structure iS (st aC:Tu):Prop where
 kind:kindOf aC=kindOf st
 arr:TC aC=TC st
 pend:Tp aC=Tp st
 fail:VN aC=VN st
theorem iS.refl (st:Tu):iS st st:=⟨rfl,rfl,rfl,rfl⟩
theorem iS.C6 {st aC:Tu}(e:iS st aC)(g:Nat):iS st (cq aC g):=⟨e.kind,e.arr,e.pend,e.fail⟩
abbrev RI:=Array S0×Nat×Nat×Nat×Nat
abbrev RG:=Array S0×Nat×Nat×Nat×Nat×Nat
abbrev RO:=Array S0×Nat×Nat×Nat
noncomputable def Lx (p q t:Array S0)(i j mg m n:Nat):StateT Tu Sem (ForInStep (Option (Array S0)×RG)):=do
 let z <- elem' p i
 if (i+1+1==p.size)=true then pure (.done (some (t.push z++q.extract j++p.extract (i+1)),t.push z,i+1,j,mg,m,n))
 else if (decide (m<7)&&decide (n<7))=true then pure (.done (none,t.push z,i+1,j,mg,m,n)) else pure (.yield (none,t.push z,i+1,j,mg,m,n))
noncomputable def Ly (p q t:Array S0)(i j mg m n:Nat):StateT Tu Sem (ForInStep (Option (Array S0)×RG)):=do
 let y <- elem' q j
 if (j+1==q.size)=true then pure (.done (some (t.push y++p.extract i++q.extract (j+1)),t.push y,i,j+1,mg,m,n))
 else do
  let x <- elem' p i
  let r <- cm true x q (j+1) (q.size-(j+1)) 0
  match r with
  |some k=>if k>0 then (if (j+1+k==q.size)=true then pure (.done (some (t.push y++q.extract (j+1) (j+1+k)++p.extract i++q.extract (j+1+k)),t.push y++q.extract (j+1) (j+1+k),i,j+1+k,mg,m,k))
    else Lx p q (t.push y++q.extract (j+1) (j+1+k)) i (j+1+k) mg m k) else Lx p q (t.push y) i (j+1) mg m k
  |_=>pure (.done (some (t.push y++p.extract i++q.extract (j+1)),t.push y,i,j+1,mg,m,n))
noncomputable def Ih (p q t:Array S0)(i j mg m n:Nat):StateT Tu Sem (ForInStep (Option (Array S0)×RG)):=do
 modify λst=>cq st mg
 let y <- elem' q j
 let r <- cm false y p i (p.size-i) 0
 match r with
 |some k=>if k>0 then (if (i+k+1==p.size)=true then pure (.done (some (t++p.extract i (i+k)++q.extract j++p.extract (i+k)),t++p.extract i (i+k),i+k,j,mg,k,n))
   else if (i+k==p.size)=true then pure (.done (some (t++p.extract i (i+k)++p.extract (i+k)++q.extract j),t++p.extract i (i+k),i+k,j,mg,k,n))
   else Ly p q (t++p.extract i (i+k)) (i+k) j mg k n) else Ly p q t i j mg k n
 |_=>pure (.done (some (t++p.extract i++q.extract j),t,i,j,mg,m,n))
def Qa (p q:Array S0)(s:Option (Array S0)×RG):StateT Tu Sem (ForInStep (Option (Array S0)×RG)):=if s.2.2.2.2.1>1 then Ih p q s.2.1 s.2.2.1 s.2.2.2.1 (s.2.2.2.2.1-1) s.2.2.2.2.2.1 s.2.2.2.2.2.2 else Ih p q s.2.1 s.2.2.1 s.2.2.2.1 s.2.2.2.2.1 s.2.2.2.2.2.1 s.2.2.2.2.2.2
noncomputable def Ig (p q:Array S0)(mg:Nat)(s:Option (Array S0)×RI):StateT Tu Sem (ForInStep (Option (Array S0)×RI)):=do
 let y <- elem' q s.2.2.2.1
 if (s.2.2.2.1+1==q.size)=true then pure (.done (some (s.2.1.push y++p.extract s.2.2.1++q.extract (s.2.2.2.1+1)),s.2.1.push y,s.2.2.1,s.2.2.2.1+1,0,s.2.2.2.2.2+1))
 else if s.2.2.2.2.2+1 >= mg then pure (.done (none,s.2.1.push y,s.2.2.1,s.2.2.2.1+1,0,s.2.2.2.2.2+1)) else pure (.yield (none,s.2.1.push y,s.2.2.1,s.2.2.2.1+1,0,s.2.2.2.2.2+1))
noncomputable def Ie (p q:Array S0)(mg:Nat)(s:Option (Array S0)×RI):StateT Tu Sem (ForInStep (Option (Array S0)×RI)):=do
 let x <- elem' p s.2.2.1
 if (s.2.2.1+1+1==p.size)=true then pure (.done (some (s.2.1.push x++q.extract s.2.2.2.1++p.extract (s.2.2.1+1)),s.2.1.push x,s.2.2.1+1,s.2.2.2.1,s.2.2.2.2.1+1,0))
 else if s.2.2.2.2.1+1 >= mg then pure (.done (none,s.2.1.push x,s.2.2.1+1,s.2.2.2.1,s.2.2.2.2.1+1,0)) else pure (.yield (none,s.2.1.push x,s.2.2.1+1,s.2.2.2.1,s.2.2.2.2.1+1,0))
noncomputable def Lw (p q:Array S0)(mg:Nat)(s:Option (Array S0)×RI):StateT Tu Sem (ForInStep (Option (Array S0)×RI)):=do
 let y <- elem' q s.2.2.2.1
 let x <- elem' p s.2.2.1
 let r <- lt' y x
 match r with
 |some DF=>if DF=true then Ig p q mg s else Ie p q mg s
 |_=>pure (.done (some (s.2.1++p.extract s.2.2.1++q.extract s.2.2.2.1),s.2.1,s.2.2.1,s.2.2.2.1,s.2.2.2.2.1,s.2.2.2.2.2))
noncomputable def Oa (p q:Array S0)(s:Option (Array S0)×RO):StateT Tu Sem (ForInStep (Option (Array S0)×RO)):=do
 let s1 <- forIn [:p.size+q.size] ((none,s.2.1,s.2.2.1,s.2.2.2.1,0,0):Option (Array S0)×RI) λ_ r=>Lw p q s.2.2.2.2 r
 match s1.1 with
 |some r=>pure (.done (some r,s1.2.1,s1.2.2.1,s1.2.2.2.1,s.2.2.2.2))
 |none=>do
  liftM (rule "list.sort.gallop")
  let s2 <- forIn [:p.size+q.size] ((none,s1.2.1,s1.2.2.1,s1.2.2.2.1,s.2.2.2.2+1,s1.2.2.2.2.1,s1.2.2.2.2.2):Option (Array S0)×RG) λ_ r=>Qa p q r
  match s2.1 with
  |some r=>pure (.done (some r,s2.2.1,s2.2.2.1,s2.2.2.2.1,s2.2.2.2.2.1))
  |none=>do
   modify λst=>cq st (s2.2.2.2.2.1+1)
   pure (.yield (none,s2.2.1,s2.2.2.1,s2.2.2.2.1,s2.2.2.2.2.1+1))
theorem pz (p q:Array S0):gL p q=(do
  liftM (rule "list.sort.merge-lo")
  let y <- elem' q 0
  if (1==q.size)=true then pure (#[y]++p.extract 0++q.extract 1)
  else if (0+1==p.size)=true then pure (#[y]++q.extract 1++p.extract 0)
  else do
   let st <- get
   let s <- forIn [:p.size+q.size] ((none,#[y],0,1,gallopOf st):Option (Array S0)×RO) λ_ s=>Oa p q s
   match s.1 with
   |some r=>pure r
   |none=>liftM (unsupported "internal:list.sort.merge-bound" : Sem (Array S0))):=by
 rw[pq];dsimp only;refine congrArg (bind _) (funext λ_=>?_);refine congrArg (bind _) (funext λy=>?_);refine congrArg (ite _ _) (congrArg (ite _ _) ?_);refine congrArg (bind _) (funext λy=>?_);refine congr (congrArg bind (congrArg _ (funext λ_=>funext λs=>?_))) (funext λs=>?_)
 ·refine congr (congrArg bind (congrArg _ (funext λ_=>funext λs=>?_))) (funext λs=>?_)
  ·rfl
  ·cases s.1
   ·refine congrArg (bind _) (funext λ_=>?_);refine congr (congrArg bind (congrArg _ (funext λ_=>funext λs=>?_))) (funext λs=>?_)
    ·rfl
    ·cases s.1 <;> rfl
   ·rfl
 ·cases s.1 <;> rfl
section
variable {prog:SW}{w:S_}{A:Ud}{E:SO->SU->Prop}{s:SU}{κ:U0}{c:S0->S0->Bool}{S:S0->Prop}{p q:Array S0}
theorem wJ {st:Tu}{Q:ForInStep (Option (Array S0)×RG)->Tu->Prop}{t:Array S0}{i j mg m n:Nat}(O:bZ c)(sp:SR c p 0 p.size)(sq:SR c q 0 q.size)(hl:∀y,y<q.size->c (el q y) (el p (p.size-1))=true)(m3:Mg c p q t.toList i j)(hi:i+1<p.size)(g3:∀y,j<=y->y<q.size->le c (el p i) (el q y))
  (hd:∀out r,Gd c p q out.toList->Q (.done (some out,r)) st) (hn:∀t' m n,Mg c p q t'.toList (i+1) j->i+1+1<p.size->Q (.done (none,t',i+1,j,mg,m,n)) st/\Q (.yield (none,t',i+1,j,mg,m,n)) st):wpS (model prog w) A E s (Lx p q t i j mg m n) Q st:=by
 refine S6 (aL (by lia) ?_)
 have m4:Mg c p q (t.push (el p i)).toList (i+1) j:=by
  rw[Vg];exact m3.iZ (by lia) sp g3
 by_cases e5:(i+1+1==p.size)=true
 ·rw[if_pos e5];exact S8 (hd _ _ (m4.tail O sp sq (by simpa using e5) hl))
 rw[if_neg e5];have h5:i+1+1≠p.size:=by simpa using e5
 obtain⟨h6,h7⟩:=hn (t.push (el p i)) m n m4 (by lia)
 split
 ·exact S8 h6
 ·exact S8 h7
theorem wK {st:Tu}{Q:ForInStep (Option (Array S0)×RG)->Tu->Prop}{t:Array S0}{i j mg m n:Nat}(O:bZ c)(L:eC prog w A E s κ c S)(hk:kindOf st=κ)(Sp:∀i,i<p.size->S (el p i))(Sq:∀i,i<q.size->S (el q i))(sp:SR c p 0 p.size)(sq:SR c q 0 q.size)(hl:∀y,y<q.size->c (el q y) (el p (p.size-1))=true)(m1:Mg c p q t.toList i j)(hi:i+1<p.size)(hj:j<q.size)(g1:∀y,i<=y->y<p.size->le c (el q j) (el p y))
  (hd:∀out r,Gd c p q out.toList->Q (.done (some out,r)) st) (hn:∀t' j' m n,Mg c p q t'.toList (i+1) j'->i+1+1<p.size->j<j'->j'<q.size->Q (.done (none,t',i+1,j',mg,m,n)) st/\Q (.yield (none,t',i+1,j',mg,m,n)) st):wpS (model prog w) A E s (Ly p q t i j mg m n) Q st:=by
 refine S6 (aL hj ?_);have m2:Mg c p q (t.push (el q j)).toList i (j+1):=by
  rw[Vg];exact m1.iY hj sq g1
 by_cases e3:(j+1==q.size)=true
 ·rw[if_pos e3];exact S8 (hd _ _ (m2.done sp sq (.inr (by simpa using e3))))
 rw[if_neg e3];have h3:j+1≠q.size:=by simpa using e3
 refine S6 (aL (by lia) (S6 (da O L hk (Sp _ (by lia)) (λx hx=>Sq _ (by lia)) (by lia) (λa b h1 h2 h3=>sq a b (by lia) h2 (by lia)) (by lia) λk k1 k2 k3=>?_)))
 have g3:∀y,j+1+k<=y->y<q.size->le c (el p i) (el q y):=λy h1 h2=>by
  have:=k3 (y-(j+1)) (by lia) (by lia)
  unfold dE at this;rw[if_pos rfl,show j+1+(y-(j+1))=y by lia]at this
  exact this
 dsimp only
 by_cases qH:k>0
 ·rw[if_pos qH];have m3:Mg c p q (t.push (el q j)++q.extract (j+1) (j+1+k)).toList i (j+1+k):=by
   rw[uR];exact m2.gC sq k (by lia) λx hx y h1 h2=>O.trans (O.of_lt (show c (el q (j+1+x)) (el p i)=true from k2 x hx)) (sp _ y (by lia) h1 h2)
  by_cases e4:(j+1+k==q.size)=true
  ·rw[if_pos e4];exact S8 (hd _ _ (m3.done sp sq (.inr (by simpa using e4))))
  rw[if_neg e4];have h4:j+1+k≠q.size:=by simpa using e4
  exact wJ O sp sq hl m3 hi g3 hd λt' m n h1 h2=>hn t' _ m n h1 h2 (by lia) (by lia)
 ·rw[if_neg qH];exact wJ O sp sq hl m2 hi (λy h1 h2=>g3 y (by lia) h2) hd λt' m n h1 h2=>hn t' _ m n h1 h2 (by lia) (by lia)
theorem DB {st:Tu}{Q:ForInStep (Option (Array S0)×RG)->Tu->Prop}{t:Array S0}{i j mg m n:Nat}(O:bZ c)(L:eC prog w A E s κ c S)(hk:kindOf st=κ)(Sp:∀i,i<p.size->S (el p i))(Sq:∀i,i<q.size->S (el q i))(sp:SR c p 0 p.size)(sq:SR c q 0 q.size)(hl:∀y,y<q.size->c (el q y) (el p (p.size-1))=true)(m0:Mg c p q t.toList i j)(hi:i+1<p.size)(hj:j<q.size)
  (hd:∀out r,Gd c p q out.toList->Q (.done (some out,r)) (cq st mg)) (hn:∀t' i' j' m n,Mg c p q t'.toList i' j'->i'+1<p.size->j'<q.size->i+j<i'+j'->Q (.done (none,t',i',j',mg,m,n)) (cq st mg)/\Q (.yield (none,t',i',j',mg,m,n)) (cq st mg)):wpS (model prog w) A E s (Ih p q t i j mg m n) Q st:=by
 refine S6 (Vi (S6 (aL hj (S6 (da O L hk (Sq _ hj) (λx hx=>Sp _ (by lia)) (by lia) (λa b h1 h2 h3=>sp a b (by lia) h2 (by lia)) (by lia) λk k1 k2 k3=>?_)))))
 have g0:∀x,x<k->le c (el p (i+x)) (el q j):=λx hx=>by
  have:=k2 x hx;unfold dE at this;rw[if_neg (by simp),Wj]at this
  exact this
 have g1:∀y,i+k<=y->y<p.size->le c (el q j) (el p y):=λy h1 h2=>by
  have:=k3 (y-i) (by lia) (by lia)
  unfold dE at this;rw[if_neg (by simp),V9,show i+(y-i)=y by lia]at this
  exact O.of_lt this
 have Sw:i+k<p.size:=by
  rcases UT (i+k) p.size with eQ|MO
  ·exact eQ
  ·have h1:=g0 (p.size-1-i) (by lia)
   rw[show i+(p.size-1-i)=p.size-1 by lia]at h1
   exact absurd ((hl j hj).symm.trans h1) (by simp)
 dsimp only
 by_cases qH:k>0
 ·rw[if_pos qH];have m1:Mg c p q (t++p.extract i (i+k)).toList (i+k) j:=by
   rw[uR];exact m0.gD sp k (by lia) λx hx y h1 h2=>O.trans (g0 x hx) (sq j y (by lia) h1 h2)
  by_cases e1:(i+k+1==p.size)=true
  ·rw[if_pos e1];exact S8 (hd _ _ (m1.tail O sp sq (by simpa using e1) hl))
  rw[if_neg e1];have n_:i+k+1≠p.size:=by simpa using e1
  rw[if_neg (by simp;lia)]
  exact wK O L hk Sp Sq sp sq hl m1 (by lia) hj g1 hd λt' j' m n h1 h2 h3 h4=>hn t' _ j' m n h1 h2 h4 (by lia)
 ·rw[if_neg qH];exact wK O L hk Sp Sq sp sq hl m0 hi hj (λy h1 h2=>g1 y (by lia) h2) hd λt' j' m n h1 h2 h3 h4=>hn t' _ j' m n h1 h2 h4 (by lia)
theorem DA {st:Tu}{Q:ForInStep (Option (Array S0)×RI)->Tu->Prop}{t:Array S0}{i j mg ma na:Nat}(O:bZ c)(L:eC prog w A E s κ c S)(hk:kindOf st=κ)(Sp:∀i,i<p.size->S (el p i))(Sq:∀i,i<q.size->S (el q i))(sp:SR c p 0 p.size)(sq:SR c q 0 q.size)(hl:∀y,y<q.size->c (el q y) (el p (p.size-1))=true)(m:Mg c p q t.toList i j)(hi:i+1<p.size)(hj:j<q.size)
  (hd:∀out r,Gd c p q out.toList->Q (.done (some out,r)) st) (hn:∀t' i' j' m n,Mg c p q t'.toList i' j'->i'+1<p.size->j'<q.size->i+j<i'+j'->Q (.done (none,t',i',j',m,n)) st/\Q (.yield (none,t',i',j',m,n)) st):wpS (model prog w) A E s (Lw p q mg (none,t,i,j,ma,na)) Q st:=by
 unfold Lw Ig Ie;dsimp only;refine S6 (aL hj (S6 (aL (by lia) (S6 (L _ _ st _ (Sq _ hj) (Sp _ (by lia)) hk ?_)))))
 dsimp only;cases hc:c (el q j) (el p i)with
 |true =>
  rw[if_pos rfl];refine S6 (aL hj ?_);have m1:Mg c p q (t.push (el q j)).toList i (j+1):=by
   rw[Vg];exact m.iY hj sq λk h1 h2=>O.trans (O.of_lt hc) (sp i k (by lia) h1 h2)
  by_cases e3:(j+1==q.size)=true
  ·rw[if_pos e3];exact S8 (hd _ _ (m1.done sp sq (.inr (by simpa using e3))))
  rw[if_neg e3];have h3:j+1≠q.size:=by simpa using e3
  obtain⟨h6,h7⟩:=hn _ _ _ 0 (na+1) m1 hi (by lia) (by lia)
  split
  ·exact S8 h6
  ·exact S8 h7
 |false =>
  rw[if_neg (by simp)]
  refine S6 (aL (by lia) ?_)
  have m1:Mg c p q (t.push (el p i)).toList (i+1) j:=by
   rw[Vg];exact m.iZ (by lia) sp λk h1 h2=>O.trans (show le c (el p i) (el q j) from hc) (sq j k (by lia) h1 h2)
  by_cases e3:(i+1+1==p.size)=true
  ·rw[if_pos e3];exact S8 (hd _ _ (m1.tail O sp sq (by simpa using e3) hl))
  rw[if_neg e3];have h3:i+1+1≠p.size:=by simpa using e3
  obtain⟨h6,h7⟩:=hn _ _ _ (ma+1) 0 m1 (by lia) hj (by lia)
  split
  ·exact S8 h6
  ·exact S8 h7
theorem qN (O:bZ c)(L:eC prog w A E s κ c S){Q:Array S0->Tu->Prop}{st:Tu}(hk:kindOf st=κ)(Sp:∀i,i<p.size->S (el p i))(Sq:∀i,i<q.size->S (el q i))(sp:SR c p 0 p.size)(sq:SR c q 0 q.size)
  (hp:0<p.size) (hq:0<q.size) (hf:c (el q 0) (el p 0)=true) (hl:∀y,y<q.size->c (el q y) (el p (p.size-1))=true) (h:∀to aC,iS st aC->Gd c p q to.toList->Q to aC) :
  wpS (model prog w) A E s (gL p q) Q st:=by
 rw[pz];refine S6 (Wr (Vj ⟨rfl,?_⟩));refine S6 (aL hq ?_);have m0:Mg c p q (#[el q 0]:Array S0).toList 0 1:=Mg.start O sp sq hq hp hf
 by_cases h1:(1==q.size)=true
 ·rw[if_pos h1];exact S8 (h _ st (iS.refl st) (m0.done sp sq (.inr (by simpa using h1))))
 rw[if_neg h1]
 by_cases h2:(0+1==p.size)=true
 ·rw[if_pos h2];exact S8 (h _ st (iS.refl st) (m0.tail O sp sq (by simpa using h2) hl))
 rw[if_neg h2];refine S6 (V5 ?_);refine S6 (UG (Ua
  (I:=λx r aC=>iS st aC/\∃to i j mg,r=(none,to,i,j,mg)/\Mg c p q to.toList i j/\i+1<p.size/\j<q.size/\x<i+j)
  (Q:=λr aC=>iS st aC/\∃out r',r=(some out,r')/\Gd c p q out.toList) ?_ ?_ ?_) ?_)
 ·rintro x r aC _ hx ⟨e,to,i,j,mg,rfl,m,hi,hj,hb⟩;unfold Oa;dsimp only;refine S6 (UG (Ua
   (I:=λy r aC=>iS st aC/\∃to i j m n,r=(none,to,i,j,m,n)/\Mg c p q to.toList i j/\i+1<p.size/\j<q.size/\x+min y 1<i+j)
   (Q:=λr aC=>iS st aC/\((∃out r',r=(some out,r')/\Gd c p q out.toList)\/∃to i j m n,r=(none,to,i,j,m,n)/\Mg c p q to.toList i j/\i+1<p.size/\j<q.size/\x+1<i+j)) ?_ ?_ ?_) ?_)
  ·rintro y r eD _ hy ⟨e2,to,i,j,ma,na,rfl,m,hi,hj,hb⟩;exact DA O L (e2.kind.trans hk) Sp Sq sp sq hl m hi hj (λout r h=>⟨e2,.inl ⟨_,_,rfl,h⟩⟩) λt' i' j' m n h1 h2 h3 h4=>⟨⟨e2,.inr ⟨_,_,_,_,_,rfl,h1,h2,h3,by lia⟩⟩,⟨e2,_,_,_,_,_,rfl,h1,h2,h3,by lia⟩⟩
  ·rintro r eD ⟨e2,to,i,j,ma,na,rfl,m,hi,hj,hb⟩;exact⟨e2,.inr ⟨_,_,_,_,_,rfl,m,hi,hj,by lia⟩⟩
  ·exact⟨e,_,_,_,_,_,rfl,m,hi,hj,by lia⟩
  rintro r eD ⟨e2,⟨out,r',rfl,g⟩|⟨to,i,j,ma,na,rfl,m,hi,hj,hb⟩⟩
  ·exact S8 ⟨e2,_,_,rfl,g⟩
  dsimp only;refine S6 (Wr (Vj ⟨rfl,?_⟩));refine S6 (UG (Ua
   (I:=λy r aC=>iS st aC/\∃to i j mg m n,r=(none,to,i,j,mg,m,n)/\Mg c p q to.toList i j/\i+1<p.size/\j<q.size/\x+1<i+j)
   (Q:=λr aC=>iS st aC/\((∃out r',r=(some out,r')/\Gd c p q out.toList)\/∃to i j mg m n,r=(none,to,i,j,mg,m,n)/\Mg c p q to.toList i j/\i+1<p.size/\j<q.size/\x+1<i+j)) ?_ ?_ ?_) ?_)
  ·rintro y r eD _ hy ⟨e2,to,i,j,mg,ma,na,rfl,m,hi,hj,hb⟩;show wpS (model prog w) A E s (if mg>1 then Ih p q to i j (mg-1) ma na else Ih p q to i j mg ma na) _ eD
   split <;> exact DB O L (e2.kind.trans hk) Sp Sq sp sq hl m hi hj (λout r h=>⟨e2.C6 _,.inl ⟨_,_,rfl,h⟩⟩) λt' i' j' m n h1 h2 h3 h4=>⟨⟨e2.C6 _,.inr ⟨_,_,_,_,_,_,rfl,h1,h2,h3,by lia⟩⟩,⟨e2.C6 _,_,_,_,_,_,_,rfl,h1,h2,h3,by lia⟩⟩
  ·rintro r eD ⟨e2,to,i,j,mg,ma,na,rfl,m,hi,hj,hb⟩;exact⟨e2,.inr ⟨_,_,_,_,_,_,rfl,m,hi,hj,hb⟩⟩
  ·exact⟨e2,_,_,_,_,_,_,rfl,m,hi,hj,hb⟩
  rintro r eD ⟨e2,⟨out,r',rfl,g⟩|⟨to,i,j,mg,ma,na,rfl,m,hi,hj,hb⟩⟩
  ·exact S8 ⟨e2,_,_,rfl,g⟩
  dsimp only;refine S6 (Vi (S8 ⟨e2.C6 _,_,_,_,_,rfl,m,hi,hj,by lia⟩))
 ·rintro r aC ⟨e,to,i,j,mg,rfl,m,hi,hj,hb⟩
  exfalso
  rw[show max 0 (p.size+q.size)=p.size+q.size by lia]at hb
  lia
 ·exact⟨iS.refl st,_,_,_,_,rfl,m0,by simp at h2;lia,by simp at h1;lia,by lia⟩
 ·rintro r aC ⟨e,out,r',rfl,g⟩;exact S8 (h _ aC e g)
end
section
variable {c:S0->S0->Bool}{p q:Array S0}{t:List S0}{i j:Nat}
structure Mh (c:S0->S0->Bool)(p q:Array S0)(t:List S0)(i j:Nat):Prop where
 hi:i<=p.size
 hj:j<=q.size
 perm:t.Perm (p.toList.drop i++q.toList.drop j)
 d3:t.Pairwise (le c)
 ap:∀x∈t,∀k,k<i->le c (el p k) x
 aq:∀x∈t,∀k,k<j->le c (el q k) x
theorem mw {a:Array S0}{i:Nat}(h0:0<i)(h:i<=a.size):a.toList.drop (i-1)=el a (i-1)::a.toList.drop i:=by
 rw[uE (by lia),show i-1+1=i by lia]
theorem Mh.iZ (m:Mh c p q t i j)(h0:0<i)(sp:SR c p 0 p.size)(hle:∀k,k<j->le c (el q k) (el p (i-1))):Mh c p q (el p (i-1)::t) (i-1) j where
 hi:=by have:=m.hi;lia
 hj:=m.hj
 perm:=by
  rw[mw h0 m.hi];exact m.perm.cons _
 d3:=Us.mpr ⟨λx hx=>m.ap x hx _ (by lia),m.d3⟩
 ap:=λx hx k hk=>by
  rcases S5.mp hx with rfl|h
  ·exact sp k (i-1) (by lia) (by lia) (by have:=m.hi;lia)
  ·exact m.ap x h k (by lia)
 aq:=λx hx k hk=>by
  rcases S5.mp hx with rfl|h
  ·exact hle k hk
  ·exact m.aq x h k hk
theorem Mh.iY (m:Mh c p q t i j)(h0:0<j)(sq:SR c q 0 q.size)(hle:∀k,k<i->le c (el p k) (el q (j-1))):Mh c p q (el q (j-1)::t) i (j-1) where
 hi:=m.hi
 hj:=by have:=m.hj;lia
 perm:=by
  rw[mw h0 m.hj];exact(m.perm.cons _).trans List.perm_middle.symm
 d3:=Us.mpr ⟨λx hx=>m.aq x hx _ (by lia),m.d3⟩
 ap:=λx hx k hk=>by
  rcases S5.mp hx with rfl|h
  ·exact hle k hk
  ·exact m.ap x h k hk
 aq:=λx hx k hk=>by
  rcases S5.mp hx with rfl|h
  ·exact sq k (j-1) (by lia) (by lia) (by have:=m.hj;lia)
  ·exact m.aq x h k (by lia)
theorem lG {a:Array S0}{i k:Nat}(h0:k<i)(h:i<=a.size):(a.toList.drop (i-(k+1))).take (k+1)=el a (i-(k+1))::(a.toList.drop (i-k)).take k:=by
 rw[uE (by lia),show i-(k+1)+1=i-k by lia,Vw]
theorem Mh.w5 (m:Mh c p q t i j)(sp:SR c p 0 p.size):∀(k:Nat),k<=i->(∀x,i-k<=x->x<i->∀y,y<j->le c (el q y) (el p x))->Mh c p q ((p.toList.drop (i-k)).take k++t) (i-k) j
 |0,_,_=>by simpa using m
 |k+1,h,hle=>by
  have m':=Mh.w5 m sp k (by lia) λx h1 h2=>hle x (by lia) h2
  rw[lG (by lia) m.hi,Xs]
  exact m'.iZ (by lia) sp λy hy=>hle _ (by lia) (by lia) y hy
theorem Mh.wZ (m:Mh c p q t i j)(sq:SR c q 0 q.size):∀(k:Nat),k<=j->(∀x,j-k<=x->x<j->∀y,y<i->le c (el p y) (el q x))->Mh c p q ((q.toList.drop (j-k)).take k++t) i (j-k)
 |0,_,_=>by simpa using m
 |k+1,h,hle=>by
  have m':=Mh.wZ m sq k (by lia) λx h1 h2=>hle x (by lia) h2
  rw[lG (by lia) m.hj,Xs]
  exact m'.iY (by lia) sq λy hy=>hle _ (by lia) (by lia) y hy
theorem Mh.gD (m:Mh c p q t i j)(sp:SR c p 0 p.size){h:Nat}(hh:h<=i)(hle:∀x,h<=x->x<i->∀y,y<j->le c (el q y) (el p x)):Mh c p q ((p.toList.drop h).take (i-h)++t) h j:=by
 have m':=m.w5 sp (i-h) (by lia) λx h1 h2=>hle x (by lia) h2
 rw[show i-(i-h)=h by lia]at m'
 exact m'
theorem Mh.gC (m:Mh c p q t i j)(sq:SR c q 0 q.size){h:Nat}(hh:h<=j)(hle:∀x,h<=x->x<j->∀y,y<i->le c (el p y) (el q x)):Mh c p q ((q.toList.drop h).take (j-h)++t) i h:=by
 have m':=m.wZ sq (j-h) (by lia) λx h1 h2=>hle x (by lia) h2
 rw[show j-(j-h)=h by lia]at m'
 exact m'
theorem Mh.full (m:Mh c p q t 0 0):Gd c p q t:=⟨m.perm,m.d3⟩
theorem HD (a b to:Array S0)(i j:Nat):(a.extract 0 i++b.extract 0 j++to.reverse).toList=(a.toList.drop 0).take (i-0)++((b.toList.drop 0).take (j-0)++to.toList.reverse):=by
 rw[Uw,Uw,cf,cf,Array.toList_reverse,Uc]
theorem Mh.done {to:Array S0}(m:Mh c p q to.toList.reverse i j)(sp:SR c p 0 p.size)(sq:SR c q 0 q.size)(h:i=0\/j=0):Gd c p q (p.extract 0 i++q.extract 0 j++to.reverse).toList:=by
 rw[HD];rcases h with rfl|rfl
 ·have m':=m.gC sq (h:=0) (Tb _) λx _ _ y hy=>by lia
  exact(m'.gD sp (h:=0) (Tb _) λx _ hx=>by lia).full
 ·have m':=m.gC sq (h:=0) (Tb _) λx _ hx=>by lia
  exact(m'.gD sp (h:=0) (Tb _) λx _ hx y hy=>by lia).full
theorem Mh.tail {to:Array S0}(O:bZ c)(m:Mh c p q to.toList.reverse i j)(sp:SR c p 0 p.size)(sq:SR c q 0 q.size)(h:j=1)(hf:c (el q 0) (el p 0)=true):Gd c p q (q.extract 0 j++p.extract 0 i++to.reverse).toList:=by
 rw[HD];subst h;have m':=m.gD sp (h:=0) (Tb _) λx _ hx y hy=>by
  obtain rfl:y=0:=by lia
  exact O.trans (O.of_lt hf) (sp 0 x (by lia) (by lia) (by have:=m.hi;lia))
 exact(m'.gC sq (h:=0) (Tb _) λx _ _ y hy=>by lia).full
theorem gI (to:Array S0)(x:S0):(to.push x).toList.reverse=x::to.toList.reverse:=by
 rw[Vg,List.reverse_append];rfl
theorem uQ (to a:Array S0)(h i:Nat):(to++(a.extract h i).reverse).toList.reverse=(a.toList.drop h).take (i-h)++to.toList.reverse:=by
 rw[Uw,List.reverse_append,Array.toList_reverse,List.reverse_reverse,cf]
theorem Mh.start (sp:SR c p 0 p.size)(O:bZ c)(hp:0<p.size)(hl:∀y,y<q.size->c (el q y) (el p (p.size-1))=true):Mh c p q [el p (p.size-1)] (p.size-1) q.size:=by
 have m:Mh c p q [] p.size q.size:=⟨SX _,SX _,by rw[WE (by simp),WE (by simp)];exact .refl _,.nil,(λx hx=>by cases hx),(λx hx=>by cases hx)⟩
 exact m.iZ hp sp λk hk=>O.of_lt (hl k hk)
end
abbrev RJ:=Nat×Nat×Array S0×Nat×Nat
abbrev RH:=Nat×Nat×Array S0×Nat×Nat×Nat
abbrev RP:=Nat×Nat×Array S0×Nat
noncomputable def ML (p q t:Array S0)(i j mg m n:Nat):StateT Tu Sem (ForInStep (Option (Array S0)×RH)):=do
 let z <- elem' p (i-1)
 if (i-1==0)=true then pure (.done (some (p.extract 0 (i-1)++q.extract 0 j++(t.push z).reverse),i-1,j,t.push z,mg,m,n))
 else if (decide (m<7)&&decide (n<7))=true then pure (.done (none,i-1,j,t.push z,mg,m,n)) else pure (.yield (none,i-1,j,t.push z,mg,m,n))
noncomputable def MM (p q t:Array S0)(i j mg m n:Nat):StateT Tu Sem (ForInStep (Option (Array S0)×RH)):=do
 let y <- elem' q (j-1)
 if (j-1==1)=true then pure (.done (some (q.extract 0 (j-1)++p.extract 0 i++(t.push y).reverse),i,j-1,t.push y,mg,m,n))
 else do
  let x <- elem' p (i-1)
  let r <- cm true x q 0 (j-1) (j-1-1)
  match r with
  |some h=>if j-1-h>0 then (if (h==1)=true then pure (.done (some (q.extract 0 h++p.extract 0 i++(t.push y++(q.extract h (j-1)).reverse).reverse),i,h,t.push y++(q.extract h (j-1)).reverse,mg,m,j-1-h))
    else if (h==0)=true then pure (.done (some (p.extract 0 i++q.extract 0 h++(t.push y++(q.extract h (j-1)).reverse).reverse),i,h,t.push y++(q.extract h (j-1)).reverse,mg,m,j-1-h))
    else ML p q (t.push y++(q.extract h (j-1)).reverse) i h mg m (j-1-h)) else ML p q (t.push y) i (j-1) mg m (j-1-h)
  |_=>pure (.done (some (p.extract 0 i++q.extract 0 (j-1)++(t.push y).reverse),i,j-1,t.push y,mg,m,n))
noncomputable def Jf (p q t:Array S0)(i j mg m n:Nat):StateT Tu Sem (ForInStep (Option (Array S0)×RH)):=do
 modify λst=>cq st mg
 let y <- elem' q (j-1)
 let r <- cm false y p 0 i (i-1)
 match r with
 |some h=>if i-h>0 then (if (h==0)=true then pure (.done (some (p.extract 0 h++q.extract 0 j++(t++(p.extract h i).reverse).reverse),h,j,t++(p.extract h i).reverse,mg,i-h,n))
   else MM p q (t++(p.extract h i).reverse) h j mg (i-h) n) else MM p q t i j mg (i-h) n
 |_=>pure (.done (some (p.extract 0 i++q.extract 0 j++t.reverse),i,j,t,mg,m,n))
def QR (p q:Array S0)(s:Option (Array S0)×RH):StateT Tu Sem (ForInStep (Option (Array S0)×RH)):=if s.2.2.2.2.1>1 then Jf p q s.2.2.2.1 s.2.1 s.2.2.1 (s.2.2.2.2.1-1) s.2.2.2.2.2.1 s.2.2.2.2.2.2 else Jf p q s.2.2.2.1 s.2.1 s.2.2.1 s.2.2.2.2.1 s.2.2.2.2.2.1 s.2.2.2.2.2.2
noncomputable def MJ (p q t:Array S0)(mg i j m:Nat):StateT Tu Sem (ForInStep (Option (Array S0)×RJ)):=do
 let x <- elem' p (i-1)
 if (i-1==0)=true then pure (.done (some (p.extract 0 (i-1)++q.extract 0 j++(t.push x).reverse),i-1,j,t.push x,m+1,0))
 else if m+1 >= mg then pure (.done (none,i-1,j,t.push x,m+1,0)) else pure (.yield (none,i-1,j,t.push x,m+1,0))
noncomputable def MI (p q t:Array S0)(mg i j n:Nat):StateT Tu Sem (ForInStep (Option (Array S0)×RJ)):=do
 let y <- elem' q (j-1)
 if (j-1==1)=true then pure (.done (some (q.extract 0 (j-1)++p.extract 0 i++(t.push y).reverse),i,j-1,t.push y,0,n+1))
 else if n+1 >= mg then pure (.done (none,i,j-1,t.push y,0,n+1)) else pure (.yield (none,i,j-1,t.push y,0,n+1))
noncomputable def OE (p q t:Array S0)(mg i j m n:Nat):StateT Tu Sem (ForInStep (Option (Array S0)×RJ)):=do
 let y <- elem' q (j-1)
 let x <- elem' p (i-1)
 let r <- lt' y x
 match r with
 |some DF=>if DF=true then MJ p q t mg i j m else MI p q t mg i j n
 |_=>pure (.done (some (p.extract 0 i++q.extract 0 j++t.reverse),i,j,t,m,n))
noncomputable def OD (p q:Array S0)(s:Option (Array S0)×RP):StateT Tu Sem (ForInStep (Option (Array S0)×RP)):=do
 let s1 <- forIn [:p.size+q.size] ((none,s.2.1,s.2.2.1,s.2.2.2.1,0,0):Option (Array S0)×RJ) λ_ r=>OE p q r.2.2.2.1 s.2.2.2.2 r.2.1 r.2.2.1 r.2.2.2.2.1 r.2.2.2.2.2
 match s1.1 with
 |some r=>pure (.done (some r,s1.2.1,s1.2.2.1,s1.2.2.2.1,s.2.2.2.2))
 |none=>do
  liftM (rule "list.sort.gallop")
  let s2 <- forIn [:p.size+q.size] ((none,s1.2.1,s1.2.2.1,s1.2.2.2.1,s.2.2.2.2+1,s1.2.2.2.2.1,s1.2.2.2.2.2):Option (Array S0)×RH) λ_ r=>QR p q r
  match s2.1 with
  |some r=>pure (.done (some r,s2.2.1,s2.2.2.1,s2.2.2.2.1,s2.2.2.2.2.1))
  |none=>do
   modify λst=>cq st (s2.2.2.2.2.1+1)
   pure (.yield (none,s2.2.1,s2.2.2.1,s2.2.2.2.1,s2.2.2.2.2.1+1))
theorem pB (p q:Array S0):gM p q=(do
  liftM (rule "list.sort.merge-hi")
  let y <- elem' p (p.size-1)
  if (p.size-1==0)=true then pure (p.extract 0 (p.size-1)++q.extract 0++#[y].reverse)
  else if (q.size==1)=true then pure (q.extract 0++p.extract 0 (p.size-1)++#[y].reverse)
  else do
   let st <- get
   let s <- forIn [:p.size+q.size] ((none,p.size-1,q.size,#[y],gallopOf st):Option (Array S0)×RP) λ_ s=>OD p q s
   match s.1 with
   |some r=>pure r
   |none=>liftM (unsupported "internal:list.sort.merge-bound" : Sem (Array S0))):=by
 rw[pA];dsimp only;refine congrArg (bind _) (funext λ_=>?_);refine congrArg (bind _) (funext λy=>?_);refine congrArg (ite _ _) (congrArg (ite _ _) ?_);refine congrArg (bind _) (funext λy=>?_);refine congr (congrArg bind (congrArg _ (funext λ_=>funext λs=>?_))) (funext λs=>?_)
 ·refine congr (congrArg bind (congrArg _ (funext λ_=>funext λs=>?_))) (funext λs=>?_)
  ·rfl
  ·cases s.1
   ·refine congrArg (bind _) (funext λ_=>?_);refine congr (congrArg bind (congrArg _ (funext λ_=>funext λs=>?_))) (funext λs=>?_)
    ·rfl
    ·cases s.1 <;> rfl
   ·rfl
 ·cases s.1 <;> rfl
section
variable {prog:SW}{w:S_}{A:Ud}{E:SO->SU->Prop}{s:SU}{κ:U0}{c:S0->S0->Bool}{S:S0->Prop}{p q:Array S0}
theorem wL {st:Tu}{Q:ForInStep (Option (Array S0)×RH)->Tu->Prop}{t:Array S0}{i j mg m n:Nat}(sp:SR c p 0 p.size)(sq:SR c q 0 q.size)(m3:Mh c p q t.toList.reverse i j)(hi:0<i)(g3:∀k,k<j->le c (el q k) (el p (i-1)))
  (hd:∀out r,Gd c p q out.toList->Q (.done (some out,r)) st) (hn:∀t' m n,Mh c p q t'.toList.reverse (i-1) j->0<i-1->Q (.done (none,i-1,j,t',mg,m,n)) st/\Q (.yield (none,i-1,j,t',mg,m,n)) st):wpS (model prog w) A E s (ML p q t i j mg m n) Q st:=by
 have jj:=m3.hi;refine S6 (aL (by lia) ?_)
 have m4:Mh c p q (t.push (el p (i-1))).toList.reverse (i-1) j:=by
  rw[gI];exact m3.iZ hi sp g3
 by_cases e5:(i-1==0)=true
 ·rw[if_pos e5];exact S8 (hd _ _ (m4.done sp sq (.inl (by simpa using e5))))
 rw[if_neg e5];have h5:i-1≠0:=by simpa using e5
 obtain⟨h6,h7⟩:=hn (t.push (el p (i-1))) m n m4 (by lia)
 split
 ·exact S8 h6
 ·exact S8 h7
theorem wM {st:Tu}{Q:ForInStep (Option (Array S0)×RH)->Tu->Prop}{t:Array S0}{i j mg m n:Nat}(O:bZ c)(L:eC prog w A E s κ c S)(hk:kindOf st=κ)(Sp:∀i,i<p.size->S (el p i))(Sq:∀i,i<q.size->S (el q i))(sp:SR c p 0 p.size)(sq:SR c q 0 q.size)(hf:c (el q 0) (el p 0)=true)(m1:Mh c p q t.toList.reverse i j)(hi:0<i)(hj:1<j)(g1:∀x,x<i->le c (el p x) (el q (j-1)))
  (hd:∀out r,Gd c p q out.toList->Q (.done (some out,r)) st) (hn:∀t' j' m n,Mh c p q t'.toList.reverse (i-1) j'->0<i-1->1<j'->j'<j->Q (.done (none,i-1,j',t',mg,m,n)) st/\Q (.yield (none,i-1,j',t',mg,m,n)) st):wpS (model prog w) A E s (MM p q t i j mg m n) Q st:=by
 have mi:=m1.hi;have mj:=m1.hj;refine S6 (aL (by lia) ?_)
 have m2:Mh c p q (t.push (el q (j-1))).toList.reverse i (j-1):=by
  rw[gI];exact m1.iY (by lia) sq g1
 by_cases e3:(j-1==1)=true
 ·rw[if_pos e3];exact S8 (hd _ _ (m2.tail O sp sq (by simpa using e3) hf))
 rw[if_neg e3];have h3:j-1≠1:=by simpa using e3
 refine S6 (aL (by lia) (S6 (da O L hk (Sp _ (by lia)) (λx hx=>Sq _ (by lia)) (by lia) (λa b h1 h2 h3=>sq a b (by lia) h2 (by lia)) (by lia) λh k1 k2 k3=>?_)))
 have g2:∀x,x<h->c (el q x) (el p (i-1))=true:=λx hx=>by
  have:=k2 x hx;unfold dE at this;rw[if_pos rfl,WD]at this;exact this
 have g4:∀x,h<=x->x<j-1->le c (el p (i-1)) (el q x):=λx h1 h2=>by
  have:=k3 x h1 h2;unfold dE at this;rw[if_pos rfl,WD]at this;exact this
 have hh:0<h:=by
  rcases Nat.eq_zero_or_pos h with z|z
  ·subst z;have h2:=O.trans (sp 0 (i-1) (by lia) (by lia) (by lia)) (g4 0 (SX _) (by lia))
   exact absurd (hf.symm.trans h2) (by simp)
  ·exact z
 dsimp only
 by_cases qH:j-1-h>0
 ·rw[if_pos qH];have m3:Mh c p q (t.push (el q (j-1))++(q.extract h (j-1)).reverse).toList.reverse i h:=by
   rw[uQ];exact m2.gC sq k1 λx h1 h2 y hy=>O.trans (sp y (i-1) (by lia) (by lia) (by lia)) (g4 x h1 h2)
  by_cases e4:(h==1)=true
  ·rw[if_pos e4];exact S8 (hd _ _ (m3.tail O sp sq (by simpa using e4) hf))
  rw[if_neg e4];have h4:h≠1:=by simpa using e4
  rw[if_neg (by simp;lia)]
  exact wL sp sq m3 hi (λk hk=>O.of_lt (g2 k hk)) hd λt' m n h1 h2=>hn t' _ m n h1 h2 (by lia) (by lia)
 ·rw[if_neg qH];exact wL sp sq m2 hi (λk hk=>O.of_lt (g2 k (by lia))) hd λt' m n h1 h2=>hn t' _ m n h1 h2 (by lia) (by lia)
theorem DD {st:Tu}{Q:ForInStep (Option (Array S0)×RH)->Tu->Prop}{t:Array S0}{i j mg m n:Nat}(O:bZ c)(L:eC prog w A E s κ c S)(hk:kindOf st=κ)(Sp:∀i,i<p.size->S (el p i))(Sq:∀i,i<q.size->S (el q i))(sp:SR c p 0 p.size)(sq:SR c q 0 q.size)(hf:c (el q 0) (el p 0)=true)(m0:Mh c p q t.toList.reverse i j)(hi:0<i)(hj:1<j)
  (hd:∀out r,Gd c p q out.toList->Q (.done (some out,r)) (cq st mg)) (hn:∀t' i' j' m n,Mh c p q t'.toList.reverse i' j'->0<i'->1<j'->i'+j'<i+j->Q (.done (none,i',j',t',mg,m,n)) (cq st mg)/\Q (.yield (none,i',j',t',mg,m,n)) (cq st mg)):wpS (model prog w) A E s (Jf p q t i j mg m n) Q st:=by
 have mi:=m0.hi;have mj:=m0.hj;refine S6 (Vi (S6 (aL (by lia) (S6 (da O L hk (Sq _ (by lia)) (λx hx=>Sp _ (by lia)) (by lia) (λa b h1 h2 h3=>sp a b (by lia) h2 (by lia)) (by lia) λh k1 k2 k3=>?_)))))
 have g0:∀x,x<h->le c (el p x) (el q (j-1)):=λx hx=>by
  have:=k2 x hx;unfold dE at this;rw[if_neg (by simp),Wj,WD]at this
  exact this
 have g5:∀x,h<=x->x<i->le c (el q (j-1)) (el p x):=λx h1 h2=>by
  have:=k3 x h1 h2;unfold dE at this;rw[if_neg (by simp),V9,WD]at this
  exact O.of_lt this
 dsimp only
 by_cases qH:i-h>0
 ·rw[if_pos qH];have m1:Mh c p q (t++(p.extract h i).reverse).toList.reverse h j:=by
   rw[uQ];exact m0.gD sp k1 λx h1 h2 y hy=>O.trans (sq y (j-1) (by lia) (by lia) (by lia)) (g5 x h1 h2)
  by_cases e1:(h==0)=true
  ·rw[if_pos e1];exact S8 (hd _ _ (m1.done sp sq (.inl (by simpa using e1))))
  rw[if_neg e1];have n_:h≠0:=by simpa using e1
  exact wM O L hk Sp Sq sp sq hf m1 (by lia) hj g0 hd λt' j' m n h1 h2 h3 h4=>hn t' _ j' m n h1 h2 h3 (by lia)
 ·rw[if_neg qH];exact wM O L hk Sp Sq sp sq hf m0 hi hj (λx hx=>g0 x (by lia)) hd λt' j' m n h1 h2 h3 h4=>hn t' _ j' m n h1 h2 h3 (by lia)
theorem DC {st:Tu}{Q:ForInStep (Option (Array S0)×RJ)->Tu->Prop}{t:Array S0}{i j mg ma na:Nat}(O:bZ c)(L:eC prog w A E s κ c S)(hk:kindOf st=κ)(Sp:∀i,i<p.size->S (el p i))(Sq:∀i,i<q.size->S (el q i))(sp:SR c p 0 p.size)(sq:SR c q 0 q.size)(hf:c (el q 0) (el p 0)=true)(m:Mh c p q t.toList.reverse i j)(hi:0<i)(hj:1<j)
  (hd:∀out r,Gd c p q out.toList->Q (.done (some out,r)) st) (hn:∀t' i' j' m n,Mh c p q t'.toList.reverse i' j'->0<i'->1<j'->i'+j'<i+j->Q (.done (none,i',j',t',m,n)) st/\Q (.yield (none,i',j',t',m,n)) st):wpS (model prog w) A E s (OE p q t mg i j ma na) Q st:=by
 have jj:=m.hi;have yI:=m.hj;refine S6 (aL (by lia) (S6 (aL (by lia) (S6 (L _ _ st _ (Sq _ (by lia)) (Sp _ (by lia)) hk ?_)))))
 dsimp only;cases hc:c (el q (j-1)) (el p (i-1))with
 |true =>
  rw[if_pos rfl];refine S6 (aL (by lia) ?_)
  have m1:Mh c p q (t.push (el p (i-1))).toList.reverse (i-1) j:=by
   rw[gI];exact m.iZ hi sp λk hk=>O.trans (sq k (j-1) (by lia) (by lia) (by lia)) (O.of_lt hc)
  by_cases e3:(i-1==0)=true
  ·rw[if_pos e3];exact S8 (hd _ _ (m1.done sp sq (.inl (by simpa using e3))))
  rw[if_neg e3];have h3:i-1≠0:=by simpa using e3
  obtain⟨h6,h7⟩:=hn _ _ _ (ma+1) 0 m1 (by lia) hj (by lia)
  split
  ·exact S8 h6
  ·exact S8 h7
 |false =>
  rw[if_neg (by simp)]
  refine S6 (aL (by lia) ?_)
  have m1:Mh c p q (t.push (el q (j-1))).toList.reverse i (j-1):=by
   rw[gI];exact m.iY (by lia) sq λk hk=>O.trans (sp k (i-1) (by lia) (by lia) (by lia)) (show le c (el p (i-1)) (el q (j-1)) from hc)
  by_cases e3:(j-1==1)=true
  ·rw[if_pos e3];exact S8 (hd _ _ (m1.tail O sp sq (by simpa using e3) hf))
  rw[if_neg e3];have h3:j-1≠1:=by simpa using e3
  obtain⟨h6,h7⟩:=hn _ _ _ 0 (na+1) m1 hi (by lia) (by lia)
  split
  ·exact S8 h6
  ·exact S8 h7
theorem qO (O:bZ c)(L:eC prog w A E s κ c S){Q:Array S0->Tu->Prop}{st:Tu}(hk:kindOf st=κ)(Sp:∀i,i<p.size->S (el p i))(Sq:∀i,i<q.size->S (el q i))(sp:SR c p 0 p.size)(sq:SR c q 0 q.size)
  (hp:0<p.size) (hq:0<q.size) (hf:c (el q 0) (el p 0)=true) (hl:∀y,y<q.size->c (el q y) (el p (p.size-1))=true) (h:∀to aC,iS st aC->Gd c p q to.toList->Q to aC) :
  wpS (model prog w) A E s (gM p q) Q st:=by
 rw[pB];refine S6 (Wr (Vj ⟨rfl,?_⟩));refine S6 (aL (by lia) ?_)
 have m0:Mh c p q (#[el p (p.size-1)]:Array S0).toList.reverse (p.size-1) q.size:=Mh.start sp O hp hl
 by_cases h1:(p.size-1==0)=true
 ·rw[if_pos h1];exact S8 (h _ st (iS.refl st) (m0.done sp sq (.inl (by simpa using h1))))
 rw[if_neg h1];have n_:p.size-1≠0:=by simpa using h1
 by_cases h2:(q.size==1)=true
 ·rw[if_pos h2];exact S8 (h _ st (iS.refl st) (m0.tail O sp sq (by simpa using h2) hf))
 rw[if_neg h2];have jx:q.size≠1:=by simpa using h2
 refine S6 (V5 ?_);refine S6 (UG (Ua
  (I:=λx r aC=>iS st aC/\∃i j to mg,r=(none,i,j,to,mg)/\Mh c p q to.toList.reverse i j/\0<i/\1<j/\i+j+x<p.size+q.size)
  (Q:=λr aC=>iS st aC/\∃out r',r=(some out,r')/\Gd c p q out.toList) ?_ ?_ ?_) ?_)
 ·rintro x r aC _ hx ⟨e,i,j,to,mg,rfl,m,hi,hj,hb⟩;unfold OD;dsimp only;refine S6 (UG (Ua
   (I:=λy r aC=>iS st aC/\∃i j to m n,r=(none,i,j,to,m,n)/\Mh c p q to.toList.reverse i j/\0<i/\1<j/\i+j+x+min y 1<p.size+q.size)
   (Q:=λr aC=>iS st aC/\((∃out r',r=(some out,r')/\Gd c p q out.toList)\/∃i j to m n,r=(none,i,j,to,m,n)/\Mh c p q to.toList.reverse i j/\0<i/\1<j/\i+j+x+1<p.size+q.size)) ?_ ?_ ?_) ?_)
  ·rintro y r eD _ hy ⟨e2,i,j,to,ma,na,rfl,m,hi,hj,hb⟩;exact DC O L (e2.kind.trans hk) Sp Sq sp sq hf m hi hj (λout r h=>⟨e2,.inl ⟨_,_,rfl,h⟩⟩) λt' i' j' m n h1 h2 h3 h4=>⟨⟨e2,.inr ⟨_,_,_,_,_,rfl,h1,h2,h3,by lia⟩⟩,⟨e2,_,_,_,_,_,rfl,h1,h2,h3,by lia⟩⟩
  ·rintro r eD ⟨e2,i,j,to,ma,na,rfl,m,hi,hj,hb⟩;exact⟨e2,.inr ⟨_,_,_,_,_,rfl,m,hi,hj,by lia⟩⟩
  ·exact⟨e,_,_,_,_,_,rfl,m,hi,hj,by lia⟩
  rintro r eD ⟨e2,⟨out,r',rfl,g⟩|⟨i,j,to,ma,na,rfl,m,hi,hj,hb⟩⟩
  ·exact S8 ⟨e2,_,_,rfl,g⟩
  dsimp only;refine S6 (Wr (Vj ⟨rfl,?_⟩));refine S6 (UG (Ua
   (I:=λy r aC=>iS st aC/\∃i j to mg m n,r=(none,i,j,to,mg,m,n)/\Mh c p q to.toList.reverse i j/\0<i/\1<j/\i+j+x+1<p.size+q.size)
   (Q:=λr aC=>iS st aC/\((∃out r',r=(some out,r')/\Gd c p q out.toList)\/∃i j to mg m n,r=(none,i,j,to,mg,m,n)/\Mh c p q to.toList.reverse i j/\0<i/\1<j/\i+j+x+1<p.size+q.size)) ?_ ?_ ?_) ?_)
  ·rintro y r eD _ hy ⟨e2,i,j,to,mg,ma,na,rfl,m,hi,hj,hb⟩;show wpS (model prog w) A E s (if mg>1 then Jf p q to i j (mg-1) ma na else Jf p q to i j mg ma na) _ eD
   split <;> exact DD O L (e2.kind.trans hk) Sp Sq sp sq hf m hi hj (λout r h=>⟨e2.C6 _,.inl ⟨_,_,rfl,h⟩⟩) λt' i' j' m n h1 h2 h3 h4=>⟨⟨e2.C6 _,.inr ⟨_,_,_,_,_,_,rfl,h1,h2,h3,by lia⟩⟩,⟨e2.C6 _,_,_,_,_,_,_,rfl,h1,h2,h3,by lia⟩⟩
  ·rintro r eD ⟨e2,i,j,to,mg,ma,na,rfl,m,hi,hj,hb⟩;exact⟨e2,.inr ⟨_,_,_,_,_,_,rfl,m,hi,hj,hb⟩⟩
  ·exact⟨e2,_,_,_,_,_,_,rfl,m,hi,hj,hb⟩
  rintro r eD ⟨e2,⟨out,r',rfl,g⟩|⟨i,j,to,mg,ma,na,rfl,m,hi,hj,hb⟩⟩
  ·exact S8 ⟨e2,_,_,rfl,g⟩
  dsimp only;refine S6 (Vi (S8 ⟨e2.C6 _,_,_,_,_,rfl,m,hi,hj,by lia⟩))
 ·rintro r aC ⟨e,i,j,to,mg,rfl,m,hi,hj,hb⟩
  exfalso
  rw[show max 0 (p.size+q.size)=p.size+q.size by lia]at hb
  lia
 ·exact⟨iS.refl st,_,_,_,_,rfl,m0,by lia,by lia,by lia⟩
 ·rintro r aC ⟨e,out,r',rfl,g⟩;exact S8 (h _ aC e g)
end
section
variable {c:S0->S0->Bool}{a b:Array S0}
structure Rg (a b:Array S0)(lo hi:Nat):Prop where
 perm:b.Perm a
 out:∀k,(k<lo\/hi<=k)->el b k=el a k
theorem Rg.refl {lo hi:Nat}:Rg a a lo hi:=⟨XF _,λ_ _=>rfl⟩
theorem Rg.trans {d:Array S0}{lo hi:Nat}(x:Rg a b lo hi)(y:Rg b d lo hi):Rg a d lo hi:=⟨y.perm.trans x.perm,λk h=>(y.out k h).trans (x.out k h)⟩
theorem Rg.mono {lo hi CQ jj:Nat}(x:Rg a b lo hi)(h1:CQ<=lo)(h2:hi<=jj):Rg a b CQ jj:=⟨x.perm,λk h=>x.out k (by lia)⟩
theorem Rg.size {lo hi:Nat}(x:Rg a b lo hi):b.size=a.size:=x.perm.size_eq
theorem SR.congr {lo hi:Nat}(h:SR c a lo hi)(e:∀k,lo<=k->k<hi->el b k=el a k):SR c b lo hi:=λi j h1 h2 h3=>by
 rw[e i h1 (by lia),e j (by lia) h3]
 exact h i j h1 h2 h3
def NI (c:S0->S0->Bool)(a:Array S0)(lo hi:Nat):Prop:=∀i j,lo<=i->i<=j->j<hi->le c (el a j) (el a i)
theorem bY {i j:Nat}(hj:j<=a.size)(k:Nat):el (mirror a i j ((j-i) / 2)) k=if i<=k/\k<j then el a (i+j-1-k) else el a k:=by
 have e:=getElem?_mirror_all (i:=i) hj k
 by_cases h:i<=k/\k<j
 ·rw[if_pos h]at e ⊢
  exact dD e
 ·rw[if_neg h]at e ⊢
  exact dD e
theorem eP {i j:Nat}(hj:j<=a.size):Rg a (mirror a i j ((j-i) / 2)) i j:=⟨mirror_perm _ _ _ _,λk h=>by rw[bY hj,if_neg (by lia)]⟩
theorem lU {i j:Nat}(hj:j<=a.size)(h:NI c a i j):SR c (mirror a i j ((j-i) / 2)) i j:=λx y h1 h2 h3=>by
 rw[bY hj,bY hj,if_pos (by lia),if_pos (by lia)]
 exact h _ _ (by lia) (by lia) (by lia)
theorem iC {lo i j:Nat}(MB:lo<=i)(hj:j<=a.size)(h:NI c a lo j)(he:∀x y,i<=x->x<j->i<=y->y<j->le c (el a x) (el a y)):NI c (mirror a i j ((j-i) / 2)) lo j:=λx y h1 h2 h3=>by
 rw[bY hj,bY hj]
 by_cases hx:i<=x/\x<j
 ·rw[if_pos hx,if_pos (by lia)]
  exact he _ _ (by lia) (by lia) (by lia) (by lia)
 ·rw[if_neg hx]
  by_cases hy:i<=y/\y<j
  ·rw[if_pos hy];exact h _ _ (by lia) (by lia) (by lia)
  ·rw[if_neg hy];exact h _ _ h1 h2 h3
theorem SR.snoc {lo n:Nat}(O:bZ c)(h:SR c a lo (lo+n))(h1:0<n)(hn:le c (el a (lo+n-1)) (el a (lo+n))):SR c a lo (lo+(n+1)):=λi j h2 h3 h4=>by
 by_cases hj:j<lo+n
 ·exact h i j h2 h3 hj
 ·obtain rfl:j=lo+n:=by lia
  by_cases hi:i<lo+n
  ·exact O.trans (h i (lo+n-1) h2 (by lia) (by lia)) hn
  ·obtain rfl:i=lo+n:=by lia
   exact O.refl _
theorem NI.snoc {lo n:Nat}(O:bZ c)(h:NI c a lo (lo+n))(h1:0<n)(hn:le c (el a (lo+n)) (el a (lo+n-1))):NI c a lo (lo+(n+1)):=λi j h2 h3 h4=>by
 by_cases hj:j<lo+n
 ·exact h i j h2 h3 hj
 ·obtain rfl:j=lo+n:=by lia
  by_cases hi:i<lo+n
  ·exact O.trans hn (h i (lo+n-1) h2 (by lia) (by lia))
  ·obtain rfl:i=lo+n:=by lia
   exact O.refl _
theorem SR.one {lo:Nat}(O:bZ c):SR c a lo (lo+1):=λi j h1 h2 h3=>by
 obtain rfl:i=j:=by lia
 exact O.refl _
end
structure iQ (κ:U0)(a₀:Array S0)(st:Tu):Prop where
 kind:kindOf st=κ
 fail:VN st=none
 perm:(TC st).Perm a₀
section
variable {prog:SW}{w:S_}{A:Ud}{E:SO->SU->Prop}{s:SU}{κ:U0}{c:S0->S0->Bool}{a₀:Array S0}
theorem iQ.size {st:Tu}(h:iQ κ a₀ st):(TC st).size=a₀.size:=h.perm.size_eq
theorem iQ.mem {st:Tu}(h:iQ κ a₀ st){i:Nat}(hi:i<a₀.size):el (TC st) i∈a₀.toList:=by
 have h1:i<(TC st).size:=by rw[h.size];exact hi
 refine(Vq.mp h.perm).mem_iff.mp ?_;have:=gU h1;rw[<- To]at this;exact TY this
theorem iQ.set {st:Tu}{b:Array S0}{lo hi:Nat}(h:iQ κ a₀ st)(r:Rg (TC st) b lo hi):iQ κ a₀ (Uo st b):=⟨h.kind,h.fail,r.perm.trans h.perm⟩
theorem mM (L:eC prog w A E s κ c (·∈a₀.toList)){st:Tu}{i j:Nat}{Q:Option Bool->Tu->Prop}(h:iQ κ a₀ st)(hi:i<a₀.size)(hj:j<a₀.size)(q:Q (some (c (el (TC st) i) (el (TC st) j))) st):
  wpS (model prog w) A E s (ltAt' i j) Q st:=by
 rw[ltAt'_eq];refine S6 (V5 ?_);exact S6 (aL (by rw[h.size];exact hi) (S6 (aL (by rw[h.size];exact hj) (L _ _ st Q (h.mem hi) (h.mem hj) h.kind q))))
theorem gw (L:eC prog w A E s κ c (·∈a₀.toList)){st:Tu}{b:Array S0}{i j lo hi:Nat}{Q:Option Bool->Tu->Prop}(h:iQ κ a₀ st)(R:Rg (TC st) b lo hi)(hi:i<a₀.size)(hj:j<a₀.size)(q:Q (some (c (el b i) (el b j))) (Uo st b)):
  wpS (model prog w) A E s (ltAt' i j) Q (Uo st b):=mM L (h.set R) hi hj q
theorem gv {st:Tu}{i j:Nat}{Q:Unit->Tu->Prop}(q:Q () (Uo st (mirror (TC st) i j ((j-i) / 2)))):wpS (model prog w) A E s (reverseSlice' i j) Q st:=by
 rw[reverseSlice'_eq];exact Vi q
theorem wN (O:bZ c)(L:eC prog w A E s κ c (·∈a₀.toList)){st:Tu}{lo eK:Nat}{Q:Option Nat->Tu->Prop}(h0:iQ κ a₀ st)(h1:1<=eK)(hn:lo+eK<=a₀.size)
  (h:∀n b,1<=n->n<=eK->Rg (TC st) b lo (lo+eK)->SR c b lo (lo+n)->Q (some n) (Uo st b)):wpS (model prog w) A E s (countRun' lo eK) Q st:=by
 rw[countRun'_eq];dsimp only;refine S6 (UG (Ua (I:=λx r aC=>aC=st/\∃n,r=(none,n)/\n=x/\SR c (TC st) lo (lo+n))
  (Q:=λr aC=>aC=st/\∃n,r=(none,n)/\1<=n/\n<=eK/\SR c (TC st) lo (lo+n)/\(n=eK\/(n<eK/\c (el (TC st) (lo+n)) (el (TC st) (lo+n-1))=true))) ?_ ?_ ?_) ?_)
 ·rintro x r aC Iw hx ⟨rfl,n,rfl,rfl,hs⟩;dsimp only;refine S6 (mM L h0 (by lia) (by lia) ?_)
  dsimp only;cases hc:c (el (TC aC) (lo+n)) (el (TC aC) (lo+n-1))with
  |true =>
   rw[if_pos rfl];exact S8 ⟨rfl,n,rfl,Iw,by lia,hs,.inr ⟨by lia,hc⟩⟩
  |false =>
   rw[if_neg (by simp)]
   exact S8 ⟨rfl,n+1,rfl,rfl,hs.snoc O Iw hc⟩
 ·rintro r aC ⟨rfl,n,rfl,hx,hs⟩;exact⟨rfl,n,rfl,by lia,by lia,hs,.inl (by lia)⟩
 ·exact⟨rfl,1,rfl,rfl,SR.one O⟩
 rintro r aC ⟨e0,n,rfl,Ke,Gy,hs,hc⟩;rw[e0];dsimp only
 by_cases Ms:(n==eK)=true
 ·rw[if_pos Ms];exact S8 (h n (TC st) Ke Gy Rg.refl hs)
 rw[if_neg Ms];have QF:n≠eK:=by simpa using Ms
 have hc:c (el (TC st) (lo+n)) (el (TC st) (lo+n-1))=true:=by
  rcases hc with q|q
  ·lia
  ·exact q.2
 refine(λ(key:∀b,Rg (TC st) b lo (lo+eK)->NI c b lo (lo+(n+1))->wpS (model prog w) A E s ?cont Q (Uo st b))=>?main) ?key
 case main =>
  by_cases h2:n>1
  ·rw[if_pos h2];refine S6 (mM L h0 (by lia) (by lia) ?_)
   dsimp only;cases hr:c (el (TC st) lo) (el (TC st) (lo+n-1))with
   |true =>
    rw[if_pos rfl];exact S8 (h n (TC st) Ke Gy Rg.refl hs)
   |false =>
    rw[if_neg (by simp)]
    refine S6 (gv ?_);have hz:lo+n<=(TC st).size:=by have:=h0.size;lia
    have R0:Rg (TC st) (mirror (TC st) lo (lo+n) ((lo+n-lo) / 2)) lo (lo+eK):=(eP hz).mono (SX _) (by lia)
    have all:∀u v,lo<=u->u<lo+n->lo<=v->v<lo+n->le c (el (TC st) u) (el (TC st) v):=λu v h1 h2 h3 h4 =>
     O.trans (hs u (lo+n-1) h1 (by lia) (by lia)) (O.trans hr (hs lo v (SX _) h3 h4))
    have N0:NI c (mirror (TC st) lo (lo+n) ((lo+n-lo) / 2)) lo (lo+(n+1)):=by
     refine NI.snoc O (iC (SX _) hz (λu v h1 h2 h3=>all v u (by lia) (by lia) h1 (by lia)) λu v h1 h2 h3 h4=>all u v h1 h2 h3 h4) (by lia) ?_
     rw[bY hz,bY hz,if_neg (by lia),if_pos (by lia)]
     exact O.trans (O.of_lt hc) (all _ _ (by lia) (by lia) (by lia) (by lia))
    exact key _ R0 N0
  ·rw[if_neg h2];have N0:NI c (TC st) lo (lo+(n+1)):=NI.snoc O (λu v h1 h2 h3=>by
    obtain rfl:u=v:=by lia
    exact O.refl _) (by lia) (O.of_lt hc)
   show wpS _ _ _ _ _ Q (Uo st (TC st));exact key _ Rg.refl N0
 case key =>
  intro b0 R0 N0;refine S6 (Wr (Vj ⟨rfl,?_⟩));refine S6 (UG (Ua (I:=λx r aC=>∃b n i4,aC=Uo st b/\r=(none,n,i4)/\n=x/\Rg (TC st) b lo (lo+eK)/\NI c b lo (lo+n)/\i4<n/\(∀u v,lo+n-1-i4<=u->u<lo+n->lo+n-1-i4<=v->v<lo+n->le c (el b u) (el b v)))
   (Q:=λr aC=>∃b n i4,aC=Uo st b/\r=(none,n,i4)/\1<=n/\n<=eK/\Rg (TC st) b lo (lo+eK)/\NI c b lo (lo+n)/\i4<n/\(∀u v,lo+n-1-i4<=u->u<lo+n->lo+n-1-i4<=v->v<lo+n->le c (el b u) (el b v))) ?_ ?_ ?_) ?_)
  ·rintro x r aC Iw hx ⟨b,n',i4,rfl,rfl,rfl,R,N,hq,he⟩;dsimp only;refine S6 (gw L h0 R (by lia) (by lia) ?_)
   dsimp only;cases h_:c (el b (lo+n')) (el b (lo+n' - 1))with
   |true =>
    rw[if_pos rfl]
    by_cases yG:i4>0
    ·rw[if_pos yG];refine S6 (gv (S8 ?_));have hz:lo+n'<=b.size:=by have:=R.size;have:=h0.size;lia
     refine⟨mirror b (lo+n' - (i4+1)) (lo+n') ((lo+n' - (lo+n' - (i4+1))) / 2),n'+1,0,rfl,rfl,rfl,R.trans ((eP hz).mono (by lia) (by lia)),?_,by lia,?_⟩
     ·refine NI.snoc O (iC (by lia) hz N λu v h1 h2 h3 h4=>he u v (by lia) h2 (by lia) h4) (by lia) ?_
      rw[bY hz,bY hz,if_neg (by lia),if_pos (by lia)]
      exact O.trans (O.of_lt h_) (he _ _ (by lia) (by lia) (by lia) (by lia))
     ·intro u v h1 h2 h3 h4;obtain rfl:u=v:=by lia
      exact O.refl _
    ·rw[if_neg yG];refine S8 ⟨b,n'+1,0,rfl,rfl,rfl,R,N.snoc O (by lia) (O.of_lt h_),by lia,?_⟩
     intro u v h1 h2 h3 h4;obtain rfl:u=v:=by lia
     exact O.refl _
   |false =>
    rw[if_neg (by simp)]
    refine S6 (gw L h0 R (by lia) (by lia) ?_)
    dsimp only;cases kT:c (el b (lo+n' - 1)) (el b (lo+n'))with
    |true =>
     rw[if_pos rfl];exact S8 ⟨b,n',i4,rfl,rfl,by lia,by lia,R,N,hq,he⟩
    |false =>
     rw[if_neg (by simp)]
     refine S8 ⟨b,n'+1,i4+1,rfl,rfl,rfl,R,N.snoc O (by lia) kT,by lia,?_⟩
     have hl:∀u,lo+n' - 1-i4<=u->u<lo+(n'+1)->le c (el b u) (el b (lo+n'))/\le c (el b (lo+n')) (el b u):=λu h1 h2=>by
      by_cases hu:u<lo+n'
      ·exact⟨O.trans (he u (lo+n' - 1) h1 hu (by lia) (by lia)) h_,O.trans kT (he (lo+n' - 1) u (by lia) (by lia) h1 hu)⟩
      ·obtain rfl:u=lo+n':=by lia
       exact⟨O.refl _,O.refl _⟩
     intro u v h1 h2 h3 h4;exact O.trans (hl u (by lia) h2).1 (hl v (by lia) h4).2
  ·rintro r aC ⟨b,n',i4,rfl,rfl,hx,R,N,hq,he⟩;exact⟨b,n',i4,rfl,rfl,by lia,by lia,R,N,hq,he⟩
  ·refine⟨_,n+1,0,rfl,rfl,rfl,R0,N0,by lia,?_⟩
   intro u v h1 h2 h3 h4;obtain rfl:u=v:=by lia
   exact O.refl _
  rintro r aC ⟨b,n',i4,rfl,rfl,QI,QH,RB,NB,hq,he⟩;dsimp only
  by_cases yG:i4>0
  ·rw[if_pos yG];refine S6 (gv ?_);have hz:lo+n'<=b.size:=by have:=RB.size;have:=h0.size;lia
   have NB:=iC (c:=c) (i:=lo+n' - (i4+1)) (by lia) hz NB λu v h1 h2 h3 h4=>he u v (by lia) h2 (by lia) h4
   have RB:=RB.trans ((eP (i:=lo+n' - (i4+1)) hz).mono (by lia) (by lia:lo+n'<=lo+eK))
   show wpS _ _ _ _ _ Q (Uo st (mirror b (lo+n' - (i4+1)) (lo+n') ((lo+n' - (lo+n' - (i4+1))) / 2)));generalize mirror b (lo+n' - (i4+1)) (lo+n') ((lo+n' - (lo+n' - (i4+1))) / 2)=b1 at NB RB;refine S6 (gv ?_);have R2:Rg (TC st) (mirror b1 lo (lo+n') ((lo+n' - lo) / 2)) lo (lo+eK):=RB.trans ((eP (by have:=RB.size;have:=h0.size;lia)).mono (SX _) (by lia))
   have S2:SR c (mirror b1 lo (lo+n') ((lo+n' - lo) / 2)) lo (lo+n'):=lU (by have:=RB.size;have:=h0.size;lia) NB
   show wpS _ _ _ _ _ Q (Uo st (mirror b1 lo (lo+n') ((lo+n' - lo) / 2)));generalize mirror b1 lo (lo+n') ((lo+n' - lo) / 2)=b2 at R2 S2;refine S6 (UG (Ua (I:=λx r aC=>aC=Uo st b2/\∃m,r=(none,m)/\m=x/\SR c b2 lo (lo+m))
    (Q:=λr aC=>aC=Uo st b2/\∃m,r=(none,m)/\1<=m/\m<=eK/\SR c b2 lo (lo+m)) ?_ ?_ ?_) ?_)
   ·rintro x r aC Iw hx ⟨rfl,m,rfl,rfl,hs⟩;dsimp only;refine S6 (gw L h0 R2 (by lia) (by lia) ?_)
    dsimp only;cases hc:c (el b2 (lo+m)) (el b2 (lo+m-1))with
    |true =>
     rw[if_pos rfl];exact S8 ⟨rfl,m,rfl,by lia,by lia,hs⟩
    |false =>
     rw[if_neg (by simp)]
     exact S8 ⟨rfl,m+1,rfl,rfl,hs.snoc O (by lia) hc⟩
   ·rintro r aC ⟨rfl,m,rfl,hx,hs⟩;exact⟨rfl,m,rfl,by lia,by lia,hs⟩
   ·exact⟨rfl,n',rfl,rfl,S2⟩
   rintro r aC ⟨rfl,m,rfl,My,FC,hs⟩;exact S8 (h m b2 My FC R2 hs)
  ·rw[if_neg yG];refine S6 (gv ?_);have R2:Rg (TC st) (mirror b lo (lo+n') ((lo+n' - lo) / 2)) lo (lo+eK):=RB.trans ((eP (by have:=RB.size;have:=h0.size;lia)).mono (SX _) (by lia))
   have S2:SR c (mirror b lo (lo+n') ((lo+n' - lo) / 2)) lo (lo+n'):=lU (by have:=RB.size;have:=h0.size;lia) NB
   show wpS _ _ _ _ _ Q (Uo st (mirror b lo (lo+n') ((lo+n' - lo) / 2)));generalize mirror b lo (lo+n') ((lo+n' - lo) / 2)=b2 at R2 S2;refine S6 (UG (Ua (I:=λx r aC=>aC=Uo st b2/\∃m,r=(none,m)/\m=x/\SR c b2 lo (lo+m))
    (Q:=λr aC=>aC=Uo st b2/\∃m,r=(none,m)/\1<=m/\m<=eK/\SR c b2 lo (lo+m)) ?_ ?_ ?_) ?_)
   ·rintro x r aC Iw hx ⟨rfl,m,rfl,rfl,hs⟩;dsimp only;refine S6 (gw L h0 R2 (by lia) (by lia) ?_)
    dsimp only;cases hc:c (el b2 (lo+m)) (el b2 (lo+m-1))with
    |true =>
     rw[if_pos rfl];exact S8 ⟨rfl,m,rfl,by lia,by lia,hs⟩
    |false =>
     rw[if_neg (by simp)]
     exact S8 ⟨rfl,m+1,rfl,rfl,hs.snoc O (by lia) hc⟩
   ·rintro r aC ⟨rfl,m,rfl,hx,hs⟩;exact⟨rfl,m,rfl,by lia,by lia,hs⟩
   ·exact⟨rfl,n',rfl,rfl,S2⟩
   rintro r aC ⟨rfl,m,rfl,My,FC,hs⟩;exact S8 (h m b2 My FC R2 hs)
end
section
variable {c:S0->S0->Bool}{a:Array S0}
theorem iM {src d:Nat}(hs:src<a.size)(hd:d<=src)(k:Nat):el (bubble a src d) k=if k=src-d then el a src else if src-d<k/\k<=src then el a (k-1) else el a k:=by
 have e:=getElem?_bubble hs d hd k
 by_cases h1:k=src-d
 ·rw[if_pos h1]at e ⊢
  exact dD e
 ·rw[if_neg h1]at e ⊢
  by_cases h2:src-d<k/\k<=src
  ·rw[if_pos h2]at e ⊢
   exact dD e
  ·rw[if_neg h2]at e ⊢
   exact dD e
theorem wq {lo k l:Nat}(O:bZ c)(hk:lo+k<a.size)(hl:l<=k)(h:SR c a lo (lo+k))(h1:∀i,i<l->le c (el a (lo+i)) (el a (lo+k)))(h2:∀i,l<=i->i<k->le c (el a (lo+k)) (el a (lo+i))):
  SR c (bubble a (lo+k) (lo+k-(lo+l))) lo (lo+(k+1)):=λi j g1 g2 g3=>by
 rw[iM hk (by lia),iM hk (by lia),show lo+k-(lo+k-(lo+l))=lo+l by lia]
 have q1:∀i,lo<=i->i<lo+l->le c (el a i) (el a (lo+k)):=λi x y=>by
  have:=h1 (i-lo) (by lia)
  rwa [show lo+(i-lo)=i by lia]at this
 have q2:∀i,lo+l<=i->i<lo+k->le c (el a (lo+k)) (el a i):=λi x y=>by
  have:=h2 (i-lo) (by lia) (by lia)
  rwa [show lo+(i-lo)=i by lia]at this
 by_cases ei:i=lo+l
 ·rw[if_pos ei]
  by_cases ej:j=lo+l
  ·rw[if_pos ej];exact O.refl _
  ·rw[if_neg ej,if_pos (by lia)]
   exact q2 _ (by lia) (by lia)
 ·rw[if_neg ei]
  by_cases ej:j=lo+l
  ·rw[if_pos ej,if_neg (by lia)]
   exact q1 _ (by lia) (by lia)
  ·rw[if_neg ej]
   by_cases fi:lo+l<i/\i<=lo+k
   ·rw[if_pos fi,if_pos (by lia)]
    exact h _ _ (by lia) (by lia) (by lia)
   ·rw[if_neg fi]
    by_cases fj:lo+l<j/\j<=lo+k
    ·rw[if_pos fj];exact h _ _ (by lia) (by lia) (by lia)
    ·rw[if_neg fj];exact h _ _ (by lia) (by lia) (by lia)
theorem wu {src d:Nat}(hs:src<a.size)(hd:d<=src):Rg a (bubble a src d) (src-d) (src+1):=⟨bubble_perm _ _ _,λk h=>by
 rw[iM hs hd,if_neg (by lia),if_neg (by lia)]⟩
end
section
variable {prog:SW}{w:S_}{A:Ud}{E:SO->SU->Prop}{s:SU}{κ:U0}{c:S0->S0->Bool}{a₀:Array S0}
theorem DE (O:bZ c)(L:eC prog w A E s κ c (·∈a₀.toList)){st:Tu}{lo n ok:Nat}{Q:Bool->Tu->Prop}(h0:iQ κ a₀ st)(a_:ok<=n)(h1:1<=n)(hn:lo+n<=a₀.size)(hs:SR c (TC st) lo (lo+ok))
  (h:∀b,Rg (TC st) b lo (lo+n)->SR c b lo (lo+n)->Q true (Uo st b)):wpS (model prog w) A E s (binarySort' lo n ok) Q st:=by
 rw[binarySort'_eq];refine S6 (UG (Ua (I:=λk r aC=>r=(none,())/\k<=n/\∃b,aC=Uo st b/\Rg (TC st) b lo (lo+n)/\SR c b lo (lo+k))
  (Q:=λr aC=>r=(none,())/\∃b,aC=Uo st b/\Rg (TC st) b lo (lo+n)/\SR c b lo (lo+n)) ?_ ?_ ?_) ?_)
 ·rintro k r aC C1 hk ⟨rfl,_,b,rfl,R,rX⟩;dsimp only;have hz:b.size=a₀.size:=R.size.trans h0.size;refine S6 (UG (Ua (I:=λx r aC=>aC=Uo st b/\∃l u,r=(none,l,u)/\l<=u/\u<=k/\u-l<=k-x/\(∀i,i<l->le c (el b (lo+i)) (el b (lo+k)))/\(∀i,u<=i->i<k->le c (el b (lo+k)) (el b (lo+i))))
   (Q:=λr aC=>aC=Uo st b/\∃l,r=(none,l,l)/\l<=k/\(∀i,i<l->le c (el b (lo+i)) (el b (lo+k)))/\(∀i,l<=i->i<k->le c (el b (lo+k)) (el b (lo+i)))) ?_ ?_ ?_) ?_)
  ·rintro x r aC _ hx ⟨rfl,l,u,rfl,g1,g2,g3,g4,g5⟩;dsimp only
   by_cases Oy:l >= u
   ·rw[if_pos Oy];obtain rfl:l=u:=by lia
    exact S8 ⟨rfl,l,rfl,g2,g4,g5⟩
   ·rw[if_neg Oy];refine S6 (gw L h0 R (by lia) (by lia) ?_)
    dsimp only;cases hc:c (el b (lo+k)) (el b (lo+(l+u) / 2))with
    |true =>
     rw[if_pos rfl];exact S8 ⟨rfl,l,_,rfl,by lia,by lia,by lia,g4,λi h1 h2=>O.trans (O.of_lt hc) (rX _ _ (by lia) (by lia) (by lia))⟩
    |false =>
     rw[if_neg (by simp)]
     exact S8 ⟨rfl,_,u,rfl,by lia,by lia,by lia,λi h1=>O.trans (rX _ _ (by lia) (by lia) (by lia)) (show le c (el b (lo+(l+u) / 2)) (el b (lo+k)) from hc),g5⟩
  ·rintro r aC ⟨rfl,l,u,rfl,g1,g2,g3,g4,g5⟩;obtain rfl:l=u:=by lia
   exact⟨rfl,l,rfl,g2,g4,g5⟩
  ·exact⟨rfl,0,k,rfl,Tb _,SX _,by lia,λi hi=>by lia,λi h1 h2=>by lia⟩
  rintro r aC ⟨rfl,l,rfl,g2,g4,g5⟩;dsimp only;rw[moveDown'_eq];refine S6 (Vi (S8 ⟨rfl,by lia,_,rfl,R.trans ((wu (a:=b) (by lia) (by lia)).mono (by lia) (by lia)),wq (a:=b) O (by lia) g2 rX g4 g5⟩))
 ·rintro r aC ⟨rfl,hx,b,rfl,R,rX⟩;rw[show max (max ok 1) n=n by lia]at rX
  exact⟨rfl,b,rfl,R,rX⟩
 ·refine⟨rfl,by lia,TC st,rfl,Rg.refl,?_⟩
  by_cases h2:ok=0
  ·subst h2;exact SR.one O
  ·rw[show max ok 1=ok by lia]
   exact hs
 ·rintro r aC ⟨rfl,b,rfl,R,rX⟩;exact S8 (h b R rX)
theorem pT (base:Nat):∀(l:List S0) (off:Nat) (a:Array S0),base+off+l.length<=a.size->∀k:Nat,
  ((l.zipIdx off).foldl (λx (z:S0×Nat)=>x.setIfInBounds (base+z.2) z.1) a)[k]?=if base+off<=k/\k<base+off+l.length then l[k-(base+off)]? else a[k]?
 |[],off,a,_,k=>by
  rw[if_neg (by rw[List.length_nil];lia)]
  rfl
 |x::l,off,a,h,k=>by
  rw[Tv]at h;rw[List.zipIdx_cons,VF,pT base l (off+1) _ (by rw[Array.size_setIfInBounds];lia)]
  by_cases h1:base+(off+1)<=k/\k<base+(off+1)+l.length
  ·rw[if_pos h1,if_pos (by rw[Tv];lia),show k-(base+off)=k-(base+(off+1))+1 by lia,List.getElem?_cons_succ]
  ·rw[if_neg h1,Array.getElem?_setIfInBounds]
   by_cases h2:base+off=k
   ·subst h2;rw[if_pos rfl,if_pos (by lia),if_pos (by rw[Tv];lia),Xd]
    rfl
   ·rw[if_neg h2,if_neg (by rw[Tv];lia)]
def Ae (a:Array S0)(base:Nat)(l:List S0):Array S0:=l.zipIdx.foldl (λx (z:S0×Nat)=>x.setIfInBounds (base+z.2) z.1) a
theorem mL {a:Array S0}{base:Nat}{l:List S0}(h:base+l.length<=a.size)(k:Nat):(Ae a base l)[k]?=if base<=k/\k<base+l.length then l[k-base]? else a[k]?:=pT base l 0 a h k
theorem wI {a:Array S0}{base:Nat}{l:List S0}(h:base+l.length<=a.size):(Ae a base l).toList=a.toList.take base++(l++a.toList.drop (base+l.length)):=by
 apply VR;intro k;rw[To,mL h];have hz:a.toList.length=a.size:=Tj
 by_cases h1:base<=k/\k<base+l.length
 ·rw[if_pos h1,Uq (by rw[Uj];lia),Uj,UO (by lia)]
  congr 1
  lia
 ·rw[if_neg h1]
  by_cases h2:k<base
  ·rw[UO (by rw[Uj];lia),List.getElem?_take_of_lt h2,To]
  ·rw[Uq (by rw[Uj];lia),Uj,Uq (by lia),List.getElem?_drop,To]
   congr 1
   lia
theorem DV (a:Array S0)(base m:Nat):a.toList=a.toList.take base++((a.toList.drop base).take m++a.toList.drop (base+m)):=by
 have h1:=(Ve base a.toList).symm;have h2:=(Ve m (a.toList.drop base)).symm;rw[List.drop_drop]at h2;rw[<- h2];exact h1
theorem Dz {a:Array S0}{base:Nat}{l:List S0}(h:base+l.length<=a.size)(hp:l.Perm ((a.toList.drop base).take l.length)):Rg a (Ae a base l) base (base+l.length) where
 perm:=by
  rw[Vq,wI h];refine List.Perm.trans ?_ (WK (DV a base l.length).symm);exact List.Perm.append_left _ (hp.append_right _)
 out:=λk hk=>dD (by rw[mL h,if_neg (by lia)])
end
section
variable {prog:SW}{w:S_}{A:Ud}{E:SO->SU->Prop}{s:SU}{κ:U0}{c:S0->S0->Bool}{a₀:Array S0}
theorem Ag {σ:Type}{M:Model}{Q:PUnit->σ->Prop}{st aC:σ}(h:Q ⟨⟩ aC):wpS M A E s (set aC:StateT σ Sem PUnit) Q st:=by
 unfold wpS;rw[StateT.run_set];exact SV ⟨rfl,h⟩
theorem su {a:Array S0}{lo hi i:Nat}(h:i<hi-lo)(hh:hi<=a.size):el (a.extract lo hi) i=el a (lo+i) :=
 dD (by rw[Array.getElem?_extract,if_pos (by lia)])
theorem kA {a:Array S0}{lo hi:Nat}(hh:hi<=a.size):(a.extract lo hi).size=hi-lo:=by
 rw[Array.size_extract];lia
theorem t6 {a:Array S0}{lo hi:Nat}(hh:hi<=a.size){z:S0}(h:z∈(a.extract lo hi).toList):∃u,lo<=u/\u<hi/\z=el a u:=by
 obtain⟨i,jj⟩:=List.getElem?_of_mem h;rw[To]at jj;have eQ:i<(a.extract lo hi).size:=by
  rcases UT i (a.extract lo hi).size with q|q
  ·exact q
  ·rw[VT q]at jj;cases jj
 rw[kA hh]at eQ;exact⟨lo+i,by lia,by lia,by rw[<- su eQ hh,uC jj]⟩
theorem qP (O:bZ c)(L:eC prog w A E s κ c (·∈a₀.toList)){st:Tu}{i sa na pw sb nb Ll:Nat}{Q:Bool->Tu->Prop}(h0:iQ κ a₀ st)(p1:(Tp st)[i]?=some (sa,na,pw))(p2:(Tp st)[i+1]?=some (sb,nb,Ll))
  (rX:sb=sa+na) (Ss:1<=na) (Sr:1<=nb) (hz:sb+nb<=a₀.size) (s1:SR c (TC st) sa sb) (s2:SR c (TC st) sb (sb+nb))
  (h:∀aC,kindOf aC=κ->VN aC=none->Tp aC=((Tp st).setIfInBounds i (sa,na+nb,pw)).eraseIdxIfInBounds (i+1)->Rg (TC st) (TC aC) sa (sb+nb)->SR c (TC aC) sa (sb+nb)->Q true aC) :
  wpS (model prog w) A E s (mergeAt' i) Q st:=by
 rw[pC];refine S6 (V5 ?_);rw[p1,p2];dsimp only;refine S6 (Ag ?_);have hsz:=h0.size;have hm:∀{j},j<a₀.size->el (TC st) j∈a₀.toList:=λhj=>h0.mem hj;generalize ha:TC st=a at *
 have uX:kindOf (VW st (((Tp st).setIfInBounds i (sa,na+nb,pw)).eraseIdxIfInBounds (i+1)))=κ:=h0.kind;have DT:VN (VW st (((Tp st).setIfInBounds i (sa,na+nb,pw)).eraseIdxIfInBounds (i+1)))=none:=h0.fail;have DU:TC (VW st (((Tp st).setIfInBounds i (sa,na+nb,pw)).eraseIdxIfInBounds (i+1)))=a:=ha;have G_:Tp (VW st (((Tp st).setIfInBounds i (sa,na+nb,pw)).eraseIdxIfInBounds (i+1)))=((Tp st).setIfInBounds i (sa,na+nb,pw)).eraseIdxIfInBounds (i+1):=rfl;generalize hP:((Tp st).setIfInBounds i (sa,na+nb,pw)).eraseIdxIfInBounds (i+1)=P at *
 generalize VW st P=KW at *
 refine S6 (aL (by lia) ?_)
 refine S6 (da O L uX (hm (by lia)) (λx hx=>hm (by lia)) (by lia) (λx y h1 h2 h3=>s1 x y h1 h2 (by lia)) (by lia) λk k1 k2 k3=>?_)
 dsimp only;have g0:∀x,sa<=x->x<sa+k->le c (el a x) (el a sb):=λx h1 h2=>by
  have:=k2 (x-sa) (by lia)
  unfold dE at this;rw[if_neg (by simp),Wj,show sa+(x-sa)=x by lia]at this
  exact this
 by_cases e1:(na-k==0)=true
 ·rw[if_pos e1];have e1:na-k=0:=by simpa using e1
  refine S8 (h KW uX DT G_ (by rw[DU];exact Rg.refl) ?_)
  rw[DU];intro x y h1 h2 h3
  by_cases hx:x<sb
  ·by_cases hy:y<sb
   ·exact s1 x y h1 h2 hy
   ·exact O.trans (g0 x h1 (by lia)) (s2 sb y (SX _) (by lia) h3)
  ·exact s2 x y (by lia) h2 h3
 rw[if_neg e1];have e1:na-k≠0:=by simpa using e1
 have g1:c (el a sb) (el a (sa+k))=true:=by
  have:=k3 k (SX _) (by lia)
  unfold dE at this;rw[if_neg (by simp),V9]at this
  exact this
 refine S6 (aL (by lia) ?_)
 refine S6 (da O L uX (hm (by lia)) (λx hx=>hm (by lia)) (by lia) (λx y h1 h2 h3=>s2 x y h1 h2 (by lia)) (by lia) λm m1 m2 m3=>?_)
 dsimp only;rw[show sa+k+(na-k)-1=sb-1 by lia]at m2 m3
 have g2:∀x,sb<=x->x<sb+m->c (el a x) (el a (sb-1))=true:=λx h1 h2=>by
  have:=m2 (x-sb) (by lia)
  unfold dE at this;rw[if_pos rfl,show sb+(x-sb)=x by lia]at this
  exact this
 have g3:∀x,sb+m<=x->x<sb+nb->le c (el a (sb-1)) (el a x):=λx h1 h2=>by
  have:=m3 (x-sb) (by lia) (by lia)
  unfold dE at this;rw[if_pos rfl,show sb+(x-sb)=x by lia]at this
  exact this
 by_cases e2:(m==0)=true
 ·exfalso
  have e2:m=0:=by simpa using e2
  have:=O.trans (s1 (sa+k) (sb-1) (by lia) (by lia) (by lia)) (g3 sb (by lia) (by lia))
  exact absurd (g1.symm.trans this) (by simp)
 rw[if_neg e2];have e2:m≠0:=by simpa using e2
 have zx:(a.extract (sa+k) sb).size=sb-(sa+k):=kA (by lia)
 have zy:(a.extract sb (sb+m)).size=m:=by rw[kA (by lia)];lia
 have ex:∀{t},t<sb-(sa+k)->el (a.extract (sa+k) sb) t=el a (sa+k+t):=λht=>su ht (by lia)
 have ey:∀{t},t<m->el (a.extract sb (sb+m)) t=el a (sb+t):=λht=>su (by lia) (by lia)
 have fin:∀(out:Array S0) (eD:Tu),iS KW eD->Gd c (a.extract (sa+k) sb) (a.extract sb (sb+m)) out.toList ->
   wpS (model prog w) A E s (do
    modify λs2=>Uo s2 (out.toList.zipIdx.foldl (λx z=>match z with|(p,j)=>x.setIfInBounds (sa+k+j) p) (TC s2))
    let y <- get
    pure (VN y).isNone:StateT Tu Sem Bool) Q eD:=by
  rintro out eD e ⟨gp,gs⟩;refine S6 (Vi (S6 (V5 (S8 ?_))));show Q (VN eD).isNone (Uo eD (Ae (TC eD) (sa+k) out.toList));rw[e.fail,DT,e.arr,DU];have zo:out.toList.length=sb-(sa+k)+m:=by
   rw[gp.length_eq,Tw,Tj,Tj,zx,zy]
  have hb:sa+k+out.toList.length<=a.size:=by lia
  have xy:(a.toList.drop (sa+k)).take out.toList.length=(a.extract (sa+k) sb).toList++(a.extract sb (sb+m)).toList:=by
   rw[cf,cf,zo,show sb+m-sb=m by lia,List.take_add,List.drop_drop,show sa+k+(sb-(sa+k))=sb by lia]
  have R:Rg a (Ae a (sa+k) out.toList) (sa+k) (sa+k+out.toList.length):=Dz hb (by rw[xy];exact gp)
  refine h _ (e.kind.trans uX) (e.fail.trans DT) (e.pend.trans G_) (R.mono (by lia) (by lia)) ?_
  show SR c (Ae a (sa+k) out.toList) sa (sb+nb);have FA:∀t,sa+k<=t->t<sb+m->∃z,out.toList[t-(sa+k)]?=some z/\el (Ae a (sa+k) out.toList) t=z/\((∃u,sa+k<=u/\u<sb/\z=el a u)\/∃u,sb<=u/\u<sb+m/\z=el a u):=by
   intro t h1 h2;have hl:t-(sa+k)<out.toList.length:=by lia
   refine⟨out.toList[t-(sa+k)],Td hl,uC (by rw[mL hb,if_pos (by lia)];exact Td hl),?_⟩
   have Mv:=gp.mem_iff.mp (Ww hl);rcases S9.mp Mv with q|q
   ·exact .inl (t6 (by lia) q)
   ·exact .inr (t6 (by lia) q)
  have OS:∀t,t<sa+k->el (Ae a (sa+k) out.toList) t=el a t:=λt ht=>R.out t (.inl ht);have Km:∀t,sb+m<=t->el (Ae a (sa+k) out.toList) t=el a t:=λt ht=>R.out t (.inr (by lia))
  intro x y h1 h2 h3
  by_cases hx:x<sa+k
  ·rw[OS x hx]
   by_cases hy:y<sa+k
   ·rw[OS y hy];exact s1 x y h1 h2 (by lia)
   ·by_cases LO:y<sb+m
    ·obtain⟨z,_,ez,Iv⟩:=FA y (by lia) LO
     rw[ez];rcases Iv with⟨u,u1,u2,rfl⟩|⟨u,u1,u2,rfl⟩
     ·exact s1 x u h1 (by lia) u2
     ·exact O.trans (g0 x h1 hx) (s2 sb u (SX _) u1 (by lia))
    ·rw[Km y (by lia)]
     exact O.trans (g0 x h1 hx) (s2 sb y (SX _) (by lia) h3)
  ·by_cases Qo:x<sb+m
   ·obtain⟨z,iz,ez,Iv⟩:=FA x (by lia) Qo
    rw[ez]
    by_cases LO:y<sb+m
    ·obtain⟨z',Qi,M6,_⟩:=FA y (by lia) LO
     rw[M6]
     by_cases LP:x=y
     ·subst LP;rw[ez]at M6;rw[M6];exact O.refl _
     ·obtain⟨q1,q2⟩:=SY.mp iz;obtain⟨q3,q4⟩:=SY.mp Qi;have:=V_.mp gs _ _ q1 q3 (by lia)
      rw[q2,q4]at this;exact this
    ·rw[Km y (by lia)]
     rcases Iv with⟨u,u1,u2,rfl⟩|⟨u,u1,u2,rfl⟩
     ·exact O.trans (s1 u (sb-1) (by lia) (by lia) (by lia)) (g3 y (by lia) h3)
     ·exact s2 u y (by lia) (by lia) h3
   ·rw[Km x (by lia),Km y (by lia)]
    exact s2 x y (by lia) h2 h3
 have go:∀(out:Array S0) (eD:Tu),iS KW eD->Gd c (a.extract (sa+k) sb) (a.extract sb (sb+m)) out.toList->wpS (model prog w) A E s (do
    modify λs2=>Uo s2 (out.toList.zipIdx.foldl (λx z=>match z with|(p,j)=>x.setIfInBounds (sa+k+j) p) (TC s2))
    let y <- get
    pure (VN y).isNone:StateT Tu Sem Bool) Q eD:=fin
 have Oj:0<(a.extract (sa+k) sb).size:=by lia
 have Oi:0<(a.extract sb (sb+m)).size:=by lia
 have Sx:∀t,t<(a.extract (sa+k) sb).size->el (a.extract (sa+k) sb) t∈a₀.toList:=λt ht=>by rw[ex (by lia)];exact hm (by lia)
 have Sy:∀t,t<(a.extract sb (sb+m)).size->el (a.extract sb (sb+m)) t∈a₀.toList:=λt ht=>by rw[ey (by lia)];exact hm (by lia)
 have NP:SR c (a.extract (sa+k) sb) 0 (a.extract (sa+k) sb).size:=λx y h1 h2 h3=>by
  rw[ex (by lia),ex (by lia)]
  exact s1 _ _ (by lia) (by lia) (by lia)
 have NO:SR c (a.extract sb (sb+m)) 0 (a.extract sb (sb+m)).size:=λx y h1 h2 h3=>by
  rw[ey (by lia),ey (by lia)]
  exact s2 _ _ (by lia) (by lia) (by lia)
 have hf:c (el (a.extract sb (sb+m)) 0) (el (a.extract (sa+k) sb) 0)=true:=by
  rw[ex (by lia),ey (by lia)]
  exact g1
 have hl:∀y,y<(a.extract sb (sb+m)).size->c (el (a.extract sb (sb+m)) y) (el (a.extract (sa+k) sb) ((a.extract (sa+k) sb).size-1))=true:=λy hy=>by
  rw[ey (by lia),ex (by lia),show sa+k+((a.extract (sa+k) sb).size-1)=sb-1 by lia]
  exact g2 _ (by lia) (by lia)
 by_cases e3:na-k<=m
 ·rw[if_pos e3];exact S6 (qN O L uX Sx Sy NP NO Oj Oi hf hl go)
 ·rw[if_neg e3];exact S6 (qO O L uX Sx Sy NP NO Oj Oi hf hl go)
end
section
variable {c:S0->S0->Bool}{a b:Array S0}
def Runs (c:S0->S0->Bool)(a:Array S0):List (Nat×Nat×Nat)->Nat->Nat->Prop
 |[],lo,hi=>lo=hi
 |z::r,lo,hi=>z.1=lo/\1<=z.2.1/\SR c a lo (lo+z.2.1)/\Runs c a r (lo+z.2.1) hi
theorem Runs.app:∀{l r:List (Nat×Nat×Nat)} {lo hi:Nat},Runs c a (l++r) lo hi->∃m,Runs c a l lo m/\Runs c a r m hi
 |[],r,lo,hi,h=>⟨lo,rfl,h⟩
 |z::l,r,lo,hi,⟨h1,h2,h3,h4⟩=>by
  obtain⟨m,g1,g2⟩:=Runs.app h4;exact⟨m,⟨h1,h2,h3,g1⟩,g2⟩
theorem Runs.join:∀{l r:List (Nat×Nat×Nat)} {lo m hi:Nat},Runs c a l lo m->Runs c a r m hi->Runs c a (l++r) lo hi
 |[],r,lo,m,hi,h,g=>by
  obtain rfl:lo=m:=h;exact g
 |z::l,r,lo,m,hi,⟨h1,h2,h3,h4⟩,g=>⟨h1,h2,h3,Runs.join h4 g⟩
theorem Runs.len:∀{l:List (Nat×Nat×Nat)} {lo hi:Nat},Runs c a l lo hi->lo+l.length<=hi
 |[],lo,hi,h=>Nat.le_of_eq h
 |z::l,lo,hi,⟨h1,h2,h3,h4⟩=>by
  have:=Runs.len h4;rw[Tv];lia
theorem Runs.congr:∀{l:List (Nat×Nat×Nat)} {lo hi:Nat},Runs c a l lo hi->(∀k,lo<=k->k<hi->el b k=el a k)->Runs c b l lo hi
 |[],lo,hi,h,_=>h
 |z::l,lo,hi,⟨h1,h2,h3,h4⟩,e=>by
  have hl:=Runs.len h4;exact⟨h1,h2,h3.congr λk g1 g2=>e k g1 (by lia),Runs.congr h4 λk g1 g2=>e k (by lia) g2⟩
theorem Runs.pow:∀{l l':List (Nat×Nat×Nat)} {lo hi:Nat},Runs c a l lo hi->l'.map (λz=>(z.1,z.2.1))=l.map (λz=>(z.1,z.2.1))->Runs c a l' lo hi
 |[],[],_,_,h,_=>h
 |[],z::l',_,_,_,e=>by cases e
 |z::l,[],_,_,_,e=>by cases e
 |z::l,z'::l',lo,hi,⟨h1,h2,h3,h4⟩,e=>by
  rw[S4,S4]at e;injection e with e1 e2
  injection e1 with e3 e4
  exact⟨e3.trans h1,by rw[e4];exact h2,by rw[e4];exact h3,by rw[e4];exact Runs.pow h4 e2⟩
end
section
variable {prog:SW}{w:S_}{A:Ud}{E:SO->SU->Prop}{s:SU}{κ:U0}{c:S0->S0->Bool}{a₀:Array S0}
theorem DW {α:Type}{l:List α}{i:Nat}(h:i+1<l.length):∃l1 x y l2,l=l1++x::y::l2/\l1.length=i:=by
 refine⟨l.take i,l[i],l[i+1],l.drop (i+2),?_,by rw[Uj];lia⟩
 rw[<- Ts h,<- Ts (by lia),Ve]
theorem lC (O:bZ c)(L:eC prog w A E s κ c (·∈a₀.toList)){st:Tu}{i hi:Nat}{Q:Bool->Tu->Prop}(h0:iQ κ a₀ st)(hr:Runs c (TC st) (Tp st).toList 0 hi)(hh:hi<=a₀.size)(OH:i+1<(Tp st).size)
  (h:∀aC,iQ κ a₀ aC->Rg (TC st) (TC aC) 0 hi->Runs c (TC aC) (Tp aC).toList 0 hi->(Tp aC).size+1=(Tp st).size->Q true aC) :
  wpS (model prog w) A E s (mergeAt' i) Q st:=by
 obtain⟨l1,⟨sa,na,pw⟩,⟨sb,nb,Ll⟩,l2,el,hl⟩:=DW (l:=(Tp st).toList) (i:=i) (by rw[Tj];exact OH)
 rw[el]at hr;obtain⟨m,r1,r2⟩:=hr.app;obtain⟨x1,x2,x3,y1,y2,y3,r3⟩:=r2;dsimp only at x1 x2 x3 y1 y2 y3 r3;have hlen:=r3.len;have Oz:=r1.len;have p1:(Tp st)[i]?=some (sa,na,pw):=by
  rw[<- To,el,Uq (by lia),hl,Xd]
  rfl
 have p2:(Tp st)[i+1]?=some (sb,nb,Ll):=by
  rw[<- To,el,Uq (by lia),hl,show i+1-i=1 by lia]
  rfl
 subst x1;refine qP O L h0 p1 p2 y1 x2 y2 (by lia) (by rw[y1];exact x3) (by rw[y1];exact y3) λaC k1 k2 k3 R S=>?_
 have ep:(Tp aC).toList=l1++(sa,na+nb,pw)::l2:=by
  rw[k3];have hz:i+1<((Tp st).setIfInBounds i (sa,na+nb,pw)).size:=by rw[Array.size_setIfInBounds];exact OH
  have e1:(((Tp st).setIfInBounds i (sa,na+nb,pw)).eraseIdxIfInBounds (i+1)).toList=((Tp st).toList.set i (sa,na+nb,pw)).eraseIdx (i+1):=by
   unfold Array.eraseIdxIfInBounds;rw[dif_pos hz,Array.toList_eraseIdx,Array.toList_setIfInBounds]
  rw[e1,el,<- hl,List.set_append_right _ _ (SX _),Xd,List.set_cons_zero,List.eraseIdx_append_of_length_le (by lia),show l1.length+1-l1.length=1 by lia]
  rfl
 have out:∀k,(k<sa\/sb+nb<=k)->TS.el (TC aC) k=TS.el (TC st) k:=R.out;refine h aC ⟨k1,k2,R.perm.trans h0.perm⟩ (R.mono (Tb _) (by lia)) ?_ ?_
 ·rw[ep];refine Runs.join (r1.congr λk g1 g2=>out k (.inl (by lia))) ⟨rfl,by show 1<=na+nb;lia,?_,?_⟩
  ·show SR c (TC aC) sa (sa+(na+nb));rw[show sa+(na+nb)=sb+nb by lia]
   exact S
  ·show Runs c (TC aC) l2 (sa+(na+nb)) hi;rw[show sa+(na+nb)=sa+na+nb by lia]
   exact r3.congr λk g1 g2=>out k (.inr (by lia))
 ·have e2:(Tp aC).size=l1.length+(l2.length+1):=by rw[<- Tj,ep,Tw,Tv]
  have e3:(Tp st).size=l1.length+(l2.length+1+1):=by rw[<- Tj,el,Tw,Tv,Tv]
  lia
theorem j4:∀(f n r:Nat),1<=n->1<=minRun' f n r
 |0,n,r,h=>by show 1<=n+r;lia
 |f+1,n,r,h=>by
  rw[minRun'_succ]
  split
  ·lia
  ·exact j4 f _ _ (by lia)
theorem AO (p:Array (Nat×Nat×Nat))(i w:Nat):(p.modify i λx=>(x.1,x.2.1,w)).toList.map (λz=>(z.1,z.2.1))=p.toList.map (λz=>(z.1,z.2.1)):=by
 apply VR;intro k;rw[Th,Th,To,To,Array.getElem?_modify]
 split
 ·rw[Option.map_map];rfl
 ·rfl
theorem om (O:bZ c)(L:eC prog w A E s κ c (·∈a₀.toList)){st:Tu}{Q:Unit->Tu->Prop}(h0:iQ κ a₀ st)(hp:Tp st=#[])(h2:2<=a₀.size)
  (h:∀aC,iQ κ a₀ aC->SR c (TC aC) 0 a₀.size->Q () aC):wpS (model prog w) A E s sortRuns' Q st:=by
 rw[sortRuns'_eq];refine S6 (V5 ?_);dsimp only;rw[h0.size];have QJ:=j4 a₀.size a₀.size 0 (by lia)
 generalize minRun' a₀.size a₀.size 0=mr at QJ;refine S6 (UG (Ua (I:=λx r aC=>iQ κ a₀ aC/\∃lo,r=(none,lo)/\lo<=a₀.size/\(a₀.size<=lo\/x<=lo)/\Runs c (TC aC) (Tp aC).toList 0 lo)
  (Q:=λr aC=>iQ κ a₀ aC/\r=(none,a₀.size)/\Runs c (TC aC) (Tp aC).toList 0 a₀.size) ?_ ?_ ?_) ?_)
 ·rintro x r aC _ hx ⟨hS,lo,rfl,MB,QL,hr⟩;dsimp only
  by_cases hl:lo >= a₀.size
  ·rw[if_pos hl];obtain rfl:lo=a₀.size:=by lia
   exact S8 ⟨hS,rfl,hr⟩
  rw[if_neg hl];refine S6 (wN O L hS (by lia) (by lia) λn b n1 n2 R Sb=>?_)
  dsimp only;have qI:iQ κ a₀ (Uo aC b):=hS.set R;have rZ:Runs c (TC (Uo aC b)) (Tp (Uo aC b)).toList 0 lo:=Runs.congr (b:=b) hr λk q1 q2=>R.out k (.inl q2);refine(λ(key:∀(N:Nat) (stx:Tu),1<=N->lo+N<=a₀.size->Runs c (TC stx) (Tp stx).toList 0 lo->iQ κ a₀ stx->SR c (TC stx) lo (lo+N)->(?G:Nat->Tu->Prop) N stx)=>?main) ?key
  case main =>
   by_cases Ou:n<mr
   ·rw[if_pos Ou];refine S6 (Wr (Vj ⟨rfl,?_⟩));refine S6 (DE O L qI (by lia) (by lia) (by lia) Sb λb' R' Rx=>?_)
    rw[if_neg (by simp)]
    have Ki:1<=min (a₀.size-lo) mr:=by lia
    have MY:lo+min (a₀.size-lo) mr<=a₀.size:=by lia
    have rZ:Runs c (TC (Uo (Uo aC b) b')) (Tp (Uo (Uo aC b) b')).toList 0 lo:=Runs.congr (b:=b') rZ λk q1 q2=>R'.out k (.inl q2);have qI:iQ κ a₀ (Uo (Uo aC b) b'):=qI.set R';have Dq:SR c (TC (Uo (Uo aC b) b')) lo (lo+(min (a₀.size-lo) mr)):=Rx;generalize Uo (Uo aC b) b'=stx at rZ qI Dq ⊢
    generalize min (a₀.size-lo) mr=N at Ki MY Dq ⊢
    exact key N stx Ki MY rZ qI Dq
   ·rw[if_neg Ou];have Dq:SR c (TC (Uo aC b)) lo (lo+n):=Sb;exact key n _ n1 (by lia) rZ qI Dq
  case key =>
   intro N stx Ki MY rZ qI Dq;refine S6 (V5 ?_);have JE:∀(jM:Tu),iQ κ a₀ jM->SR c (TC jM) lo (lo+N)->Runs c (TC jM) (Tp jM).toList 0 lo->iQ κ a₀ (VW jM ((Tp jM).push (lo,N,0)))/\∃CQ,((none,lo+N):Option Unit×Nat)=(none,CQ)/\CQ<=a₀.size/\(a₀.size<=CQ\/x+1<=CQ)/\Runs c (TC jM) ((Tp jM).push (lo,N,0)).toList 0 CQ:=λjM g1 g2 g3 =>
    ⟨⟨g1.kind,g1.fail,g1.perm⟩,_,rfl,by lia,by lia,by rw[Vg];exact g3.join ⟨rfl,Ki,g2,rfl⟩⟩
   cases hb:(Tp stx).back? with
   |none =>
    dsimp only;exact S6 (Vi (S8 (JE stx qI Dq rZ)))
   |some z =>
    obtain⟨s1,n1,p1⟩:=z;dsimp only;refine S6 (UG (Ua (I:=λx r aC=>r=(none,())/\iQ κ a₀ aC/\SR c (TC aC) lo (lo+N)/\Runs c (TC aC) (Tp aC).toList 0 lo)
     (Q:=λr aC=>r=(none,())/\iQ κ a₀ aC/\SR c (TC aC) lo (lo+N)/\Runs c (TC aC) (Tp aC).toList 0 lo) ?_ ?_ ?_) ?_)
    ·rintro y r jM _ _ ⟨rfl,g1,g2,g3⟩;refine S6 (V5 ?_)
     by_cases I_:(Tp jM).size>1
     ·rw[if_pos I_];cases hq:(Tp jM)[(Tp jM).size-2]? with
      |none =>
       dsimp only;exact S8 ⟨rfl,g1,g2,g3⟩
      |some z =>
       obtain⟨u,v,N2⟩:=z;dsimp only
       split
       ·exact S8 ⟨rfl,g1,g2,g3⟩
       ·refine S6 (lC O L g1 g3 (by lia) (by lia) λDS f1 f2 f3 f4=>?_)
        exact S8 ⟨rfl,f1,g2.congr λk q1 q2=>f2.out k (.inr q1),f3⟩
     ·rw[if_neg I_];dsimp only;exact S8 ⟨rfl,g1,g2,g3⟩
    ·rintro r jM ⟨rfl,g1,g2,g3⟩;exact⟨rfl,g1,g2,g3⟩
    ·exact⟨rfl,qI,Dq,rZ⟩
    rintro r jM ⟨rfl,g1,g2,g3⟩;dsimp only;refine S6 (Vi (S6 (Vi (S8 ?_))));exact JE (VW jM _) ⟨g1.kind,g1.fail,g1.perm⟩ g2 (g3.pow (AO _ _ _))
 ·rintro r aC ⟨hS,lo,rfl,MB,QL,hr⟩;obtain rfl:lo=a₀.size:=by lia
  exact⟨hS,rfl,hr⟩
 ·exact⟨h0,0,rfl,Tb _,.inr (SX _),by rw[hp];rfl⟩
 rintro r aC ⟨hS,rfl,hr⟩;dsimp only;refine S6 (UG (Ua (I:=λx r aC=>r=(none,())/\iQ κ a₀ aC/\Runs c (TC aC) (Tp aC).toList 0 a₀.size/\((Tp aC).size<=1\/(Tp aC).size+x<=a₀.size))
  (Q:=λr aC=>r=(none,())/\iQ κ a₀ aC/\Runs c (TC aC) (Tp aC).toList 0 a₀.size/\(Tp aC).size<=1) ?_ ?_ ?_) ?_)
 ·rintro x r eD _ hx ⟨rfl,qI,rZ,hz⟩;refine S6 (V5 ?_)
  by_cases h1:(Tp eD).size<=1
  ·rw[if_pos h1];exact S8 ⟨rfl,qI,rZ,h1⟩
  rw[if_neg h1];refine S6 (lC O L qI rZ (SX _) ?_ λjM Q_ R3 Qz Sl=>?_)
  ·split
   ·split <;> lia
   ·rw[if_neg (by simp)]
    lia
  ·exact S8 ⟨rfl,Q_,Qz,.inr (by lia)⟩
 ·rintro r eD ⟨rfl,qI,rZ,hz⟩;exact⟨rfl,qI,rZ,by lia⟩
 ·refine⟨rfl,hS,hr,.inr ?_⟩;have:=hr.len;rw[Tj]at this;lia
 ·rintro r eD ⟨rfl,qI,rZ,hz⟩;refine S8 (h eD qI ?_)
  match hq:(Tp eD).toList,rZ with
  |[],e=>
   have:(0:Nat)=a₀.size:=e;lia
  |[z],e =>
   obtain⟨e1,e2,e3,e4⟩:=e;have e4:0+z.2.1=a₀.size:=e4;rw[e4]at e3;exact e3
  |z::y::l,e =>
   have:(Tp eD).toList.length<=1:=by rw[Tj];exact hz
   rw[hq]at this;simp at this
end
theorem lex_nil {y:List Int}:HT.lexLt [] y=decide (0<y.length):=by cases y <;> rfl
theorem gP {a b:Int}{x y:List Int}:HT.lexLt (a::x) (b::y)=if a=b then HT.lexLt x y else decide (a<b):=rfl
theorem pF:∀{x y:List Int},HT.lexLt x y=true->HT.lexLt y x=false
 |[],[],_=>rfl
 |[],_::_,_=>rfl
 |_::_,[],h=>by cases h
 |a::x,b::y,h=>by
  rw[gP]at h ⊢
  by_cases e:a=b
  ·rw[if_pos e]at h;rw[if_pos e.symm];exact pF h
  ·rw[if_neg e]at h;rw[if_neg λz=>e z.symm];have:=of_decide_eq_true h;exact decide_eq_false (by lia)
theorem t8:∀{x z:List Int} (y:List Int),HT.lexLt x z=true->HT.lexLt x y=true\/HT.lexLt y z=true
 |[],[],_,h=>by cases h
 |[],_::_,[],h=>.inr rfl
 |[],_::_,_::_,h=>.inl rfl
 |_::_,[],_,h=>by cases h
 |a::x,b::z,[],h=>.inr rfl
 |a::x,b::z,d::y,h=>by
  rw[gP]at h ⊢
  rw[gP]
  by_cases e:a=b
  ·subst e;rw[if_pos rfl]at h
   by_cases e2:a=d
   ·subst e2;rw[if_pos rfl,if_pos rfl];exact t8 y h
   ·rw[if_neg e2,if_neg λq=>e2 q.symm]
    by_cases e3:a<d
    ·exact .inl (decide_eq_true e3)
    ·exact .inr (decide_eq_true (by lia))
  ·rw[if_neg e]at h;have h:=of_decide_eq_true h
   by_cases e2:a=d
   ·subst e2;rw[if_neg e];exact .inr (decide_eq_true h)
   ·rw[if_neg e2]
    by_cases e3:a<d
    ·exact .inl (decide_eq_true e3)
    ·rw[if_neg (by lia)]
     exact .inr (decide_eq_true (by lia))
def byKey (kf:SO->List Int)(x y:S0):Bool:=HT.lexLt (kf x.1) (kf y.1)
theorem A8 (kf:SO->List Int):bZ (byKey kf):=⟨λ_ _ h=>pF h,λ_ y _ h=>t8 (kf y.1) h⟩
section
variable {prog:SW}{w:S_}{A:Ud}{E:SO->SU->Prop}{s:SU}
theorem pE {b:Bool}{Q:Bool->SU->Prop}:∀{ns ms:List Int} {us vs:List SO} (i:Nat),WG us ns->WG vs ms->Q (HT.lexLt ns ms) s->PySem.W.KatLex prog w A b (decide (ns.length<ms.length)) Q (us.zip vs) i s
 |[],ms,us,vs,i,hu,hv,q=>by
  cases hu;rw[List.zip_nil_left];rw[lex_nil]at q;exact PySem.W.kat_nil q
 |n::ns,[],us,vs,i,hu,hv,q=>by
  cases hv;rw[List.zip_nil_right];exact PySem.W.kat_nil q
 |n::ns,m::ms,us,vs,i,hu,hv,q=>by
  cases hu with
  |cons _ t hu =>
   cases hv with
   |cons _ t' hv =>
    rw[UC];refine PySem.W.kat_cons (Xl ?_);rw[gP]at q
    by_cases e:n=m
    ·subst e;rw[if_pos rfl]at q;rw[beq_self_eq_true];have:=pE (b:=b) (Q:=Q) (i+1) hu hv q;rw[show decide ((n::ns).length<(n::ms).length)=decide (ns.length<ms.length) by rw[Tv,Tv];congr 1;simp]
     exact PySem.W.kat_yes this
    ·rw[if_neg e]at q;rw[show (n==m)=false from beq_eq_false_iff_ne.mpr e]
     refine PySem.W.kat_no ?_;cases b&&i==0 with
     |true=>exact oneLt_int q
     |false=>exact PySem.W.kat_one _ _ (lt_int q)
def ly (h:Heap)(kf:SO->List Int)(a:Addr)(vs:List SO):Prop :=
 ∀v∈vs,∃t o xs k,v=.ref t/\t≠a/\h.get? t=some o/\o.cls=.type "tuple" /\ o.data=.seq xs k/\WG xs.toList (kf v)/\kf v≠[]
theorem vz {kf:SO->List Int}{a:Addr}{vs:List SO}{b:Bool}{a₀:Array S0}(T:ly s.heap kf a vs)(hm:∀z∈a₀.toList,z.1∈vs):eC prog w A E s (tuples' b) (byKey kf) (·∈a₀.toList):=by
 intro x y st Q hx hy hk q;obtain⟨t,o,xs,n,e1,_,e2,_,e3,e4,_⟩:=T _ (hm _ hx);obtain⟨t',o',iU,n',f1,_,f2,_,f3,f4,_⟩:=T _ (hm _ hy);rw[lt'_eq];refine S6 (V5 ?_);rw[hk,e1,f1];have z1:xs.size=(kf x.1).length:=by rw[<- Tj];exact e4.length
 have z2:iU.size=(kf y.1).length:=by rw[<- Tj];exact f4.length
 refine S6 (Wr (WX (PySem.W.kat_lt e2 e3 f2 f3 ?_)));rw[z1,z2];exact pE 0 e4 f4 ⟨rfl,S8 q⟩
theorem jJ {kf:SO->List Int}{a:Addr}{h:Heap}:∀{vs:List SO},ly h kf a vs->∃fs:List SO,PySem.W.KatTups h vs fs/\fs.length=vs.length/\∀f∈fs,∃n t,f=Value.int n t
 |[],_=>⟨[],trivial,rfl,λf hf=>by cases hf⟩
 |v::vs,T=>by
  obtain⟨fs,h1,h2,h3⟩:=jJ (vs:=vs) λu hu=>T u (Tc _ hu);obtain⟨t,o,xs,k,rfl,_,e2,e3,e4,e5,e6⟩:=T v Tr;obtain⟨f,r,ef,n,tk,hn⟩:∃f r,xs.toList=f::r/\∃n tk,f=Value.int n tk:=by
   generalize kf (.ref t)=ks at e5 e6;generalize xs.toList=us at e5;cases e5 with
   |nil=>exact absurd rfl e6
   |cons n tk r=>exact⟨_,_,rfl,_,_,rfl⟩
  have e:xs[0]?=some f:=by rw[<- To,ef];rfl
  exact⟨f::fs,PySem.W.KatTups.cons e2 e3 e4 e h1,by rw[Tv,Tv,h2],λg hg=>by
   rcases S5.mp hg with rfl|hg
   ·exact⟨_,_,hn⟩
   ·exact h3 g hg⟩
theorem vD {kf:SO->List Int}{a:Addr}{vs:List SO}{Q:U0->SU->Prop}(T:ly s.heap kf a vs)(h0:0<vs.length)(q:Q (tuples' true) s):Tn (model prog w) A (keyKind' vs.toArray) Q E s:=by
 obtain⟨fs,h1,h2,h3⟩:=jJ T;refine PySem.W.kat_kind (T:=.type "int") h1 (by lia) (λv hv=>?_) (by decide) q
 obtain⟨n,t,rfl⟩:=h3 v hv;exact .now
theorem xj {α:Type}{R:α->α->Prop}:∀{l:List α},l.length<2->l.Pairwise R
 |[],_=>.nil
 |[x],_=>List.pairwise_singleton _ _
 |_::_::_,h=>by
  rw[Tv,Tv]at h;lia
theorem j7 {a:Addr} {vs:List SO} {n:Nat} {κ:U0} {c:SO->SO->Bool} {P:PySem.Fin->SU->Prop} (ho:s.heap.get? a=some (UK "list" vs.toArray n)) (hz:vs.length<=1000000) (O:bZ λx y=>c x.1 y.1)
  (T:∀s':SU,(∀t o,t≠a->s.heap.get? t=some o->s'.heap.get? t=some o)->(2<=vs.length->∀(Q:U0->SU->Prop),Q κ s'->Tn (model prog w) A (keyKind' vs.toArray) Q E s')/\eC prog w A E s' κ (λx y=>c x.1 y.1) (·∈(vs.toArray.zip vs.toArray).toList))
  (h:∀out:List SO,out.Perm vs->out.Pairwise (λx y=>c y x=false)->P (.done (.ret .none)) {s with heap:=sortedHeap s.heap a vs out.toArray}) :
  Tn (model prog w) A (Wi.«list.sort» ⟨[.ref a],[]⟩) P E s:=by
 have la:a<s.heap.objs.size:=Ta ho;obtain⟨ep,hc⟩:∃ep,(s.heap.update a (Vm λ_=>#[])).get? a=some (UK "list" #[] ep):=⟨_,get?_update_seq ho (λ_=>#[])⟩;have old:∀t o,t≠a->s.heap.get? t=some o->(((s.heap.update a (Vm λ_=>#[])).push (UK "tuple" vs.toArray 0)).push (UK "list" #[] 0)).get? t=some o:=λt o ht e =>
  S1 _ (S1 _ (by rw[WV _ _ _ _ ht];exact e))
 have l9:(((s.heap.update a (Vm λ_=>#[])).push (UK "tuple" vs.toArray 0)).push (UK "list" #[] 0)).get? a=some (UK "list" #[] ep):=S1 _ (S1 _ hc);have big:∀m:Nat,m<=vs.length->m<=S7:=λm hm=>by rw[TF];lia
 have zz:vs.toArray.size=vs.length:=by simp
 rw[list_sort_plain];refine SN (listItems_at ho rfl ?_);refine SN (listUpdate_at ho rfl ?_ (big _ (Nat.le_of_eq zz)) (Tb _));refine SN (seqEpoch_at hc rfl ?_);refine SN (wpAny_newTuple ?_ (big _ (SX _)));refine SN (WW ?_ (Tb _));refine Uu ?_;show Tn (model prog w) A _ P E {s with heap:=((s.heap.update a (Vm λ_=>#[])).push (UK "tuple" vs.toArray 0)).push (UK "list" #[] 0)}
 dsimp only;have done:∀aC:Tu,(TC aC).Perm (vs.toArray.zip vs.toArray)->(TC aC).toList.Pairwise (le λx y=>c x.1 y.1)->P (.done (.ret .none)) {s with heap:=sortedHeap s.heap a vs ((TC aC).map (·.2))}:=λaC hp hs=>by
  have h1:∀z∈(TC aC).toList,z.1=z.2:=λz hz=>by
   have:=(Vq.mp hp).mem_iff.mp hz;rw[Wx]at this;obtain⟨i,hi⟩:=List.getElem?_of_mem this;rw[List.getElem?_zip_eq_some]at hi;exact TJ (hi.1.symm.trans hi.2)
  have e2:(TC aC).map (·.2)=((TC aC).toList.map (·.2)).toArray:=by
   apply Array.toList_inj.mp;rw[Array.toList_map]
  rw[e2];refine h _ ?_ ?_
  ·have:=(Vq.mp hp).map (λz:S0=>z.2);rw[Wx]at this;refine this.trans (WK ?_);exact List.map_snd_zip (by simp)
  ·rw[T8];refine hs.imp_of_mem λ{x y} hx hy hl=>?_;rw[<- h1 x hx,<- h1 y hy];exact hl
 by_cases h2:vs.toArray.size<2
 ·rw[if_pos h2,if_pos h2];refine SN (SV ?_);rw[StateT.run_pure];refine SN (SV ?_);dsimp only;refine SN (seqEpoch_at l9 rfl ?_);refine SN (listUpdate_at l9 rfl ?_ (Tb _) (by rw[Array.size_map,XX];exact T_ (big _ (by lia)) (VJ _)))
  simp only[bne_self_eq_false,T9,if_false];refine SV (done (SortSt.mk' general' (vs.toArray.zip vs.toArray) #[] 7 none) (XF _) ?_);refine xj ?_;show (vs.toArray.zip vs.toArray).toList.length<2;rw[Tj,XX];lia
 ·rw[if_neg h2,if_neg h2];obtain⟨hK,L⟩:=T {s with heap:=((s.heap.update a (Vm λ_=>#[])).push (UK "tuple" vs.toArray 0)).push (UK "list" #[] 0)} old
  refine SN (hK (by lia) _ ?_)
  have zp:(vs.toArray.zip vs.toArray).size=vs.length:=by rw[XX];lia
  refine SN (Vk (om (Q:=λ_ aC=>(TC aC).Perm (vs.toArray.zip vs.toArray)/\VN aC=none/\SR (λx y=>c x.1 y.1) (TC aC) 0 vs.length) O L
   (st:=SortSt.mk' κ (vs.toArray.zip vs.toArray) #[] 7 none) ⟨rfl,rfl,XF _⟩ rfl (by lia) λaC g1 g2=>⟨g1.perm,g1.fail,by rw[zp]at g2;exact g2⟩) ?_ λ_ _ e=>e)
  rintro⟨⟨⟩,aC⟩ s' ⟨rfl,hp,hf,hs⟩;dsimp only;have zs:(TC aC).size=vs.length:=hp.size_eq.trans zp;refine SN (seqEpoch_at l9 rfl ?_);refine SN (listUpdate_at l9 rfl ?_ (Tb _) (by rw[Array.size_map,zs];exact T_ (big _ (SX _)) (VJ _)))
  rw[hf];simp only[bne_self_eq_false,T9,if_false];refine SV (done aC hp ?_);rw[V_];intro i j hi hj aE;rw[Tj]at hi hj;have:=hs i j (Tb _) (by lia) (by lia)
  have ei:el (TC aC) i=(TC aC).toList[i]:=uC (by rw[<- To];exact Td _)
  have ej:el (TC aC) j=(TC aC).toList[j]:=uC (by rw[<- To];exact Td _)
  rw[ei,ej]at this;exact this
theorem j6 {a:Addr} {vs:List SO} {n:Nat} {kf:SO->List Int} {P:PySem.Fin->SU->Prop} (ho:s.heap.get? a=some (UK "list" vs.toArray n)) (hz:vs.length<=1000000) (T:ly s.heap kf a vs)
  (h:∀out:List SO,out.Perm vs->out.Pairwise (λx y=>HT.lexLt (kf y) (kf x)=false)->P (.done (.ret .none)) {s with heap:=sortedHeap s.heap a vs out.toArray}) :
  Tn (model prog w) A (Wi.«list.sort» ⟨[.ref a],[]⟩) P E s:=by
 refine j7 (κ:=tuples' true) (c:=λx y=>HT.lexLt (kf x) (kf y)) ho hz (A8 kf) (λs' kp=>?_) h;have T':ly s'.heap kf a vs:=λv hv=>by
  obtain⟨t,o,xs,k,e1,e2,e3,r⟩:=T v hv;exact⟨t,o,xs,k,e1,e2,kp t o e2 e3,r⟩
 exact⟨λh2 Q q=>vD T' (by lia) q,vz T' λz hz=>by
  rw[Wx]at hz;exact(V3 hz).1⟩
end
end TS
namespace ST
open PySem PyProof.Rows
section
variable {prog:SW}{w:S_}
abbrev TK (prog:SW)(w:S_):=WT (intKind prog w)
abbrev kH (prog:SW)(w:S_)(k:List Int):Int:=(TK prog w).hash k
abbrev ent (prog:SW)(w:S_)(x:Addr×List Int):Int×SO:=(kH prog w x.2,.ref x.1)
structure Nw {α β:Type}(w:S_)(en:α->Int×SO)(hk:α->Int)(ky:α->β)(o:Obj)(ts:List α)(es:Array (Int×SO))(ep:Nat)(t:SetTable):Prop where
 ex:o.ExactSet
 dat:o.data=.set es ep t
 Na:es.toList=ts.map en
 wf:WF t (ts.map hk)
 R4:t.place.size*5<t.mask*3
 P9:t.mask<=8191
 led:t.led=!w.params.followText "set-order"
 R_:t.plain=true
 Sf:(ts.map ky).Nodup
abbrev Np (prog:SW)(w:S_):=Nw w (ent prog w) (λx=>kH prog w x.2) (λx=>x.2)
section
end
end
end ST
namespace L2
open PySem PySem.Spec PyProof.Rows
inductive D where
 |bJ|bl (b:Bool)|int (i:Int)|str (x:Str)|obj (a:Addr)
 |tup (ds:List D)|lst (ds:List D)
 |dT (ks:List (List Key)) (ds:List D)|dK (ks:List Key) (ds:List D)
 |sT (ts:List (List Int))
 |ob (φ:Addr->HO)
def Ea (P:SW)(w:S_)(a:Addr)(ts:List (Addr×List Int))(h:Heap):Prop:=∃o es ep t,h.get? a=some o/\ST.Np P w o ts es ep t
abbrev JD (P:SW)(w:S_)(a:Addr)(ts:List (Addr×List Int)):HO:=.ext (Ea P w a ts)
def Co (P:SW)(w:S_)(H:Hp)(a:Addr)(ts:List (List Int)):Prop :=
 ∃mN:List (Addr×List Int),H a=some (JD P w a mN)/\(∀x∈mN,H x.1=some (.tup (x.2.map V.int)))/\(mN.map (·.2)).Perm ts
section
variable (P:SW)(w:S_)(W:Addr->Prop)(H:Hp)
mutual
def ar:D->V->Prop
 |.bJ,v=>v=.bJ
 |.bl b,v=>v=.bl b
 |.int i,v=>v=.int i
 |.str x,v=>v=.str x
 |.obj a,v=>v=.ref a
 |.tup ds,v=>∃a vs,v=.ref a/\H a=some (.tup vs)/\ag ds vs
 |.lst ds,v=>∃a vs,v=.ref a/\H a=some (.lst vs)/\¬ W a/\ag ds vs
 |.dT ks ds,v=>∃a vs,v=.ref a/\H a=some (.dT (ks.zip vs))/\ks.length=vs.length/\¬ W a/\ag ds vs
 |.dK ks ds,v=>∃a vs,v=.ref a/\H a=some (.dK (ks.zip vs))/\ks.length=vs.length/\¬ W a/\ag ds vs
 |.sT ts,v=>∃a,v=.ref a/\Co P w H a ts/\¬ W a
 |.ob φ,v=>∃a,v=.ref a/\(H a=some (φ a)/\∀xs,φ a≠.tup xs)/\¬ W a
def ag:List D->List V->Prop
 |[],vs=>vs=[]
 |d::ds,vs=>∃v r,vs=v::r/\ar d v/\ag ds r
end
end
mutual
def D.flat:D->Bool
 |.tup ds=>D.dS ds
 |.lst _=>false
 |.dT _ _=>false
 |.dK _ _=>false
 |.sT _=>false
 |.ob _=>false
 |_=>true
def D.dS:List D->Bool
 |[]=>true
 |d::ds=>D.flat d&&D.dS ds
end
structure Kp (W:Addr->Prop)(H H':Hp):Prop where
 out:∀b o,H b=some o->¬ W b->H' b=some o
 tup:∀b xs,H b=some (.tup xs)->H' b=some (.tup xs)
theorem Kp.refl {W:Addr->Prop}{H:Hp}:Kp W H H:=⟨λ_ _ e _=>e,λ_ _ e=>e⟩
theorem Kp.trans {W:Addr->Prop}{H H1 H2:Hp}(a:Kp W H H1)(b:Kp W H1 H2):Kp W H H2:=⟨λc o e n=>b.out c o (a.out c o e n) n,λc xs e=>b.tup c xs (a.tup c xs e)⟩
theorem au.kp {W:Addr->Prop}{H H':Hp}(h:au H H'):Kp W H H':=⟨λb o e _=>h b o e,λb xs e=>h b _ e⟩
theorem Kp.mono {W W':Addr->Prop}{H H':Hp}(h:Kp W H H')(s:∀a,W a->W' a):Kp W' H H':=⟨λb o e n=>h.out b o e λz=>n (s b z),h.tup⟩
section
variable {P:SW}{w:S_}{W W':Addr->Prop}{H H':Hp}
mutual
theorem ar.keep (k:Kp W H H'):∀{d:D} {v:V},ar P w W H d v->ar P w W H' d v
 |.bJ,_,h=>h
 |.bl _,_,h=>h
 |.int _,_,h=>h
 |.str _,_,h=>h
 |.obj _,_,h=>h
 |.tup ds,_,⟨a,vs,e,t,r⟩=>⟨a,vs,e,k.tup a vs t,ag.keep k r⟩
 |.lst ds,_,⟨a,vs,e,t,n,r⟩=>⟨a,vs,e,k.out a _ t n,n,ag.keep k r⟩
 |.dT ks ds,_,⟨a,vs,e,t,l,n,r⟩=>⟨a,vs,e,k.out a _ t n,l,n,ag.keep k r⟩
 |.dK ks ds,_,⟨a,vs,e,t,l,n,r⟩=>⟨a,vs,e,k.out a _ t n,l,n,ag.keep k r⟩
 |.sT ts,_,⟨a,e,⟨mN,t,r,z⟩,n⟩=>⟨a,e,⟨mN,k.out a _ t n,λx hx=>k.tup _ _ (r x hx),z⟩,n⟩
 |.ob φ,_,⟨a,e,⟨t,z⟩,n⟩=>⟨a,e,⟨k.out a _ t n,z⟩,n⟩
theorem ag.keep (k:Kp W H H'):∀{ds:List D} {vs:List V},ag P w W H ds vs->ag P w W H' ds vs
 |[],_,h=>h
 |d::ds,_,⟨v,r,e,h1,h2⟩=>⟨v,r,e,ar.keep k h1,ag.keep k h2⟩
end
mutual
theorem ar.aN (s:∀a,W' a->W a):∀{d:D} {v:V},ar P w W H d v->ar P w W' H d v
 |.bJ,_,h=>h
 |.bl _,_,h=>h
 |.int _,_,h=>h
 |.str _,_,h=>h
 |.obj _,_,h=>h
 |.tup ds,_,⟨a,vs,e,t,r⟩=>⟨a,vs,e,t,ag.aN s r⟩
 |.lst ds,_,⟨a,vs,e,t,n,r⟩=>⟨a,vs,e,t,λz=>n (s a z),ag.aN s r⟩
 |.dT ks ds,_,⟨a,vs,e,t,l,n,r⟩=>⟨a,vs,e,t,l,λz=>n (s a z),ag.aN s r⟩
 |.dK ks ds,_,⟨a,vs,e,t,l,n,r⟩=>⟨a,vs,e,t,l,λz=>n (s a z),ag.aN s r⟩
 |.sT ts,_,⟨a,e,t,n⟩=>⟨a,e,t,λz=>n (s a z)⟩
 |.ob φ,_,⟨a,e,t,n⟩=>⟨a,e,t,λz=>n (s a z)⟩
theorem ag.aN (s:∀a,W' a->W a):∀{ds:List D} {vs:List V},ag P w W H ds vs->ag P w W' H ds vs
 |[],_,h=>h
 |d::ds,_,⟨v,r,e,h1,h2⟩=>⟨v,r,e,ar.aN s h1,ag.aN s h2⟩
end
mutual
theorem ar.flat:∀{d:D} {v:V},d.flat=true->ar P w W H d v->ar P w W' H d v
 |.bJ,_,_,h=>h
 |.bl _,_,_,h=>h
 |.int _,_,_,h=>h
 |.str _,_,_,h=>h
 |.obj _,_,_,h=>h
 |.tup ds,_,f,⟨a,vs,e,t,r⟩=>⟨a,vs,e,t,ag.flat (by simpa[D.flat] using f) r⟩
 |.lst ds,_,f,_=>by simp[D.flat]at f
 |.dT ks ds,_,f,_=>by simp[D.flat]at f
 |.dK ks ds,_,f,_=>by simp[D.flat]at f
 |.sT ts,_,f,_=>by simp[D.flat]at f
 |.ob φ,_,f,_=>by simp[D.flat]at f
theorem ag.flat:∀{ds:List D} {vs:List V},D.dS ds=true->ag P w W H ds vs->ag P w W' H ds vs
 |[],_,_,h=>h
 |d::ds,_,f,⟨v,r,e,h1,h2⟩=>by
  have f':(d.flat&&D.dS ds)=true:=f;rw[TB]at f';exact⟨v,r,e,ar.flat f'.1 h1,ag.flat f'.2 h2⟩
end
theorem ar.same (s:au H H'){d:D}{v:V}(h:ar P w W H d v):ar P w W H' d v:=h.keep s.kp
theorem ag.same (s:au H H'){ds:List D}{vs:List V}(h:ag P w W H ds vs):ag P w W H' ds vs:=h.keep s.kp
theorem ag.length:∀{ds:List D} {vs:List V},ag P w W H ds vs->vs.length=ds.length
 |[],_,h=>by rw[show _=[] from h];rfl
 |d::ds,_,⟨v,r,e,h1,h2⟩=>by rw[e,Tv,Tv,ag.length h2]
theorem ag.get:∀{ds:List D} {vs:List V} {i:Nat} {d:D},ag P w W H ds vs->ds[i]?=some d->∃v,vs[i]?=some v/\ar P w W H d v
 |[],_,_,_,_,e=>by simp at e
 |d::ds,_,0,_,⟨v,r,e,h1,h2⟩,e'=>by simp at e';subst e' e;exact⟨v,by simp,h1⟩
 |d::ds,_,i+1,_,⟨v,r,e,h1,h2⟩,e'=>by
  subst e;obtain⟨u,e1,e2⟩:=ag.get (i:=i) h2 (by simpa using e')
  exact⟨u,by simpa using e1,e2⟩
theorem ag.append:∀{ds ds':List D} {vs vs':List V},ag P w W H ds vs->ag P w W H ds' vs'->ag P w W H (ds++ds') (vs++vs')
 |[],_,_,_,h,h'=>by rw[show _=[] from h];exact h'
 |d::ds,_,_,_,⟨v,r,e,h1,h2⟩,h'=>by subst e;exact⟨v,_,rfl,h1,ag.append h2 h'⟩
theorem ag.one {d:D}{v:V}(h:ar P w W H d v):ag P w W H [d] [v]:=⟨v,[],rfl,h,rfl⟩
theorem ag.set {d:D}{v:V}(hd:ar P w W H d v):∀{ds:List D} {vs:List V} (i:Nat),ag P w W H ds vs->ag P w W H (ds.set i d) (vs.set i v)
 |[],_,_,h=>by rw[show _=[] from h];simp[ag]
 |_::ds,_,0,⟨v,r,e,h1,h2⟩=>by subst e;exact⟨_,_,rfl,hd,h2⟩
 |_::ds,_,i+1,⟨v,r,e,h1,h2⟩=>by subst e;exact⟨_,_,rfl,h1,ag.set hd i h2⟩
end
open PySem.SeqAt
abbrev Dm (W:Addr->Prop)(H:Hp):Prop:=∀a,W a->H a≠none
abbrev Rp (X:Cx)(W:Addr->Prop)(H:Hp)(d:D)(v:V):Prop:=ar X.prog X.w W H d v
abbrev lz (X:Cx)(W:Addr->Prop)(H:Hp)(ds:List D)(vs:List V):Prop:=ag X.prog X.w W H ds vs
def NT (X:Cx)(f:D->Option D):V->Hp->VK->Prop:=λx H Q=>∃W d1 d,Dm W H/\Rp X W H d1 x/\f d1=some d/\∀v H',au H H'->Rp X W H' d v->Q v H'
def NS (X:Cx)(f:D->D->Option D):R2:=λx y H Q=>∃W d1 d2 d,Dm W H/\Rp X W H d1 x/\Rp X W H d2 y/\f d1 d2=some d/\∀v H',au H H'->Rp X W H' d v->Q v H'
def PK (X:Cx)(f:List D->Option D):List V->Hp->VK->Prop:=λxs H Q=>∃W ds d,Dm W H/\lz X W H ds xs/\f ds=some d/\∀v H',au H H'->Rp X W H' d v->Q v H'
abbrev cv (X:Cx)(f:SO->SO->Sem SO)(g:D->D->Option D):Prop:=h9 X f (NS X g)
abbrev cE (X:Cx)(f:SO)(g:List D->Option D):Prop:=fq X f (PK X g)
section
variable {X:Cx}{W:Addr->Prop}{H:Hp}
theorem Bj {p:Addr}(d:Dm W H)(n:H p=none):¬ W p:=λz=>d p z n
theorem Rp.iD {p:Addr}{vs:List V}{ds:List D}(d:Dm W H)(n:H p=none)(r:lz X W H ds vs):Rp X W (upd H p (.lst vs)) (.lst ds) (.ref p) :=
 ⟨p,vs,rfl,ah,Bj d n,r.same (au.new n)⟩
theorem Rp.DH {p:Addr}{vs:List V}{ds:List D}(n:H p=none)(r:lz X W H ds vs):Rp X W (upd H p (.tup vs)) (.tup ds) (.ref p) :=
 ⟨p,vs,rfl,ah,r.same (au.new n)⟩
theorem lz.nil:lz X W H [] []:=rfl
theorem lz.cons {d:D}{ds:List D}{v:V}{vs:List V}(h:Rp X W H d v)(r:lz X W H ds vs):lz X W H (d::ds) (v::vs):=⟨v,vs,rfl,h,r⟩
end
def D.Fi:D->Option Int
 |.int i=>some i
 |_=>none
def D.Fh:D->Option (List D)
 |.lst a=>some a
 |_=>none
def D.LM:D->Option (List D)
 |.tup a=>some a
 |_=>none
def D.CW:D->Bool
 |.bJ=>true
 |_=>false
theorem D.gR {d:D}{i:Int}(h:d.Fi=some i):d=.int i:=by cases d <;> first|(cases h;rfl)|cases h
theorem D.kg {d:D}{i:List D}(h:d.Fh=some i):d=.lst i:=by cases d <;> first|(cases h;rfl)|cases h
theorem D.yx {d:D}{i:List D}(h:d.LM=some i):d=.tup i:=by cases d <;> first|(cases h;rfl)|cases h
theorem D.pJ {d:D}(h:d.CW=true):d=.bJ:=by cases d <;> first|rfl|cases h
theorem D.Bw {d:D}:d=.bJ↔d.CW=true:=⟨λe=>by rw[e];rfl,D.pJ⟩
def pM (f:Int->Int->Option D)(a b:D):Option D:=match a.Fi,b.Fi with
 |some i,some j=>f i j
 |_,_=>none
theorem iG {f:Int->Int->Option D}{a b d:D}(h:pM f a b=some d):∃i j,a=.int i/\b=.int j/\f i j=some d:=by
 unfold pM at h;cases ha:a.Fi with
 |none=>rw[ha]at h;cases h
 |some i =>
  cases hb:b.Fi with
  |none=>rw[ha,hb]at h;cases h
  |some j=>rw[ha,hb]at h;exact⟨i,j,D.gR ha,D.gR hb,h⟩
def E3 (f:D->D->Option D)(g:List D->List D->Option D)(a b:D):Option D:=match a.Fh,b.Fh with
 |some i,some j=>g i j
 |_,_=>f a b
theorem vA {f:D->D->Option D}{g:List D->List D->Option D}{a b d:D}(h:E3 f g a b=some d):(∃i j,a=.lst i/\b=.lst j/\g i j=some d)\/f a b=some d:=by
 unfold E3 at h;cases ha:a.Fh with
 |none=>rw[ha]at h;exact .inr h
 |some i =>
  cases hb:b.Fh with
  |none=>rw[ha,hb]at h;exact .inr h
  |some j=>rw[ha,hb]at h;exact .inl ⟨i,j,D.kg ha,D.kg hb,h⟩
def Jv:D->D->Option D:=E3 (pM λi j=>some (.int (i+j))) λa b=>if a.length+b.length<=S7 then some (.lst (a++b)) else none
def Nd:D->D->Option D:=pM λi j=>some (.int (i-j))
instance (i j:Int):Decidable (iT i j):=by unfold iT;infer_instance
instance (i j:Int):Decidable (Cs i j):=by unfold Cs;infer_instance
def B7:D->D->Option D:=pM λi j=>if iT i j then some (.int (i*j)) else none
def Ng:D->Option D
 |.int i=>some (.int (-i))
 |_=>none
section
variable {X:Cx}
theorem ff {c:Prop}[Decidable c]{α:Type}{a b:α}(h:(if c then some a else none)=some b):c/\b=a:=by
 by_cases hc:c
 ·rw[if_pos hc]at h;cases h;exact⟨hc,rfl⟩
 ·rw[if_neg hc]at h;cases h
theorem HH {f:SO->SO->Sem SO}{C:Int->Int->Prop}{g:Int->Int->V}{h:Int->Int->D}{F:Int->Int->Option D}(ho:h9 X f (rI C g))(hF:∀i j d,F i j=some d->C i j/\d=h i j)
  (hg:∀(W:Addr->Prop) (H:Hp) i j,Rp X W H (h i j) (g i j)):cv X f (pM F):=by
 intro pins s σ H x y v u Q I rx ry hh;obtain⟨W,d1,d2,d,hd,r1,r2,e,q⟩:=hh;obtain⟨i,j,rfl,rfl,e⟩:=iG e;obtain⟨c,rfl⟩:=hF _ _ _ e;cases r1;cases r2;exact ho pins s σ H _ _ v u Q I rx ry ⟨i,j,rfl,rfl,c,q _ _ (au.refl _) (hg W H i j)⟩
theorem xV {f:SO->SO->Sem SO}{g:Int->Int->V}{h:Int->Int->D}(ho:h9 X f (AB g))
  (hg:∀(W:Addr->Prop) (H:Hp) i j,Rp X W H (h i j) (g i j)):cv X f (pM λi j=>some (h i j)):=by
 intro pins s σ H x y v u Q I rx ry hh;obtain⟨W,d1,d2,d,hd,r1,r2,e,q⟩:=hh;obtain⟨i,j,rfl,rfl,e⟩:=iG e;cases e;cases r1;cases r2;exact ho pins s σ H _ _ v u Q I rx ry ⟨i,j,rfl,rfl,q _ _ (au.refl _) (hg W H i j)⟩
theorem bL:cv X (Vl .Sub) Nd:=xV (h:=λi j=>.int (i-j)) e8 λ_ _ _ _=>rfl
theorem nu:cv X (Vl .Mult) B7:=HH (h:=λi j=>.int (i*j)) jZ (λ_ _ _ e=>ff e) λ_ _ _ _=>rfl
theorem sW:JB X (unaryOp .USub) (NT X Ng):=by
 intro pins s σ H x v Q I rx h;obtain⟨W,d1,d,hd,r1,e,q⟩:=h;cases d1 with
 |int i=>cases e;cases r1;exact wQ pins s σ H _ v Q I rx ⟨i,rfl,q _ _ (au.refl _) rfl⟩
 |_=>cases e
end
def F1 (p:Int->Int->Bool):D->D->Option D:=pM λi j=>some (.bl (p i j))
abbrev Nh:D->D->Option D:=F1 λi j=>decide (i<j)
abbrev Rt:D->D->Option D:=F1 λi j=>decide (j<i)
section
variable {X:Cx}
theorem tX {p:Int->Int->Bool}{f:SO->SO->Sem SO}(ho:h9 X f (AB λi j=>.bl (p i j))):cv X f (F1 p):=xV (h:=λi j=>.bl (p i j)) ho λ_ _ _ _=>rfl
theorem gf:cv X (Ul .Lt) Nh:=tX HE
theorem j0:cv X (Ul .Gt) Rt:=tX tW
end
mutual
def D.pd:D->PyData
 |.bJ=>.none
 |.bl b=>.bool b
 |.int i=>.int i
 |.str x=>.str x
 |.tup ds=>.tuple (D.fN ds)
 |.lst ds=>.list (D.fN ds)
 |_=>.dict []
def D.fN:List D->List PyData
 |[]=>[]
 |d::ds=>d.pd::D.fN ds
end
abbrev D.lb (d:D):Bool:=shaped d.pd
mutual
theorem cB {X:Cx}{pins:List (Addr×Obj)}{σ:St}{H:Hp}{s:SU}(I:Inv X pins σ H s){W:Addr->Prop}:∀{d:D} {v:V} {u:SO},Rp X W H d v->RelV v u->d.pd.canLay0=true->∃as,Reads s.heap u d.pd as
 |.bJ,_,_,h,r,_=>by cases h;cases r;exact⟨_,.none⟩
 |.bl b,_,_,h,r,_=>by cases h;cases r;exact⟨_,.bool b⟩
 |.int i,_,_,h,r,_=>by cases h;obtain⟨t,rfl⟩:=r;exact⟨_,.int i t⟩
 |.str x,_,_,h,r,_=>by cases h;obtain⟨t,rfl⟩:=r;exact⟨_,.str x t⟩
 |.tup ds,_,_,h,r,c=>by
  obtain⟨a,vs,rfl,e,q⟩:=h;cases r;obtain⟨its,rv,⟨o,ho,hc,n,hd⟩,hz⟩:=I.tuple (og.of e);obtain⟨as,ha⟩:=fz I q rv (by simpa[D.pd,Up] using c)
  exact⟨_,.tuple ho hc hd (by simpa using ha)⟩
 |.lst ds,_,_,h,r,c=>by
  obtain⟨a,vs,rfl,e,_,q⟩:=h;cases r;obtain⟨z,its,n,rv,e'⟩:=I.a_ a _ e;obtain⟨as,ha⟩:=fz I q rv (by simpa[D.pd,Up] using c)
  exact⟨_,.list e' rfl rfl (by simpa using ha)⟩
 |.obj _,_,_,_,_,c=>by simp[D.pd,Up]at c
 |.dT _ _,_,_,_,_,c=>by simp[D.pd,Up]at c
 |.dK _ _,_,_,_,_,c=>by simp[D.pd,Up]at c
 |.sT _,_,_,_,_,c=>by simp[D.pd,Up]at c
 |.ob _,_,_,_,_,c=>by simp[D.pd,Up]at c
theorem fz {X:Cx}{pins:List (Addr×Obj)}{σ:St}{H:Hp}{s:SU}(I:Inv X pins σ H s){W:Addr->Prop}:∀{ds:List D} {vs:List V} {us:List SO},lz X W H ds vs->Vals vs us->Vf (D.fN ds)=true->∃as,ReadsAll s.heap us (D.fN ds) as
 |[],_,_,h,r,_=>by
  rw[show _=[] from h]at r
  cases r;exact⟨_,.nil⟩
 |d::ds,_,_,⟨v,vr,e,h1,h2⟩,r,c=>by
  subst e;have c':(d.pd.canLay0&&Vf (D.fN ds))=true:=c;rw[TB]at c';cases r with
  |cons r1 r2 =>
   obtain⟨as,ha⟩:=cB I h1 r1 c'.1;obtain⟨bs,hb⟩:=fz I h2 r2 c'.2;exact⟨_,.cons ha hb⟩
end
def z9 (a b:D):Option D:=if a.lb=true/\b.lb=true then some (.bl (Ue a.pd b.pd)) else none
def z7 (a b:D):Option D:=if a.lb=true/\b.lb=true then some (.bl (!Ue a.pd b.pd)) else none
section
variable {X:Cx}
theorem e9 (hu:X.A.units+64<Vt):cv X (Ul .Eq) z9:=by
 intro pins s σ H x y v u Q I rx ry h;obtain⟨W,d1,d2,d,hd,r1,r2,e,q⟩:=h;obtain⟨⟨s1,s2⟩,rfl⟩:=ff e;obtain⟨as,ra⟩:=cB I r1 rx (Ur s1);obtain⟨bs,rb⟩:=cB I r2 ry (Ur s2);exact compareEq_shaped ra rb s1 s2 hu ⟨.bl _,H,I,rfl,q _ _ (au.refl _) rfl⟩
theorem iA (hu:X.A.units+64<Vt):cv X (Ul .NotEq) z7:=by
 intro pins s σ H x y v u Q I rx ry h;obtain⟨W,d1,d2,d,hd,r1,r2,e,q⟩:=h;obtain⟨⟨s1,s2⟩,rfl⟩:=ff e;obtain⟨as,ra⟩:=cB I r1 rx (Ur s1);obtain⟨bs,rb⟩:=cB I r2 ry (Ur s2);exact compareNe_shaped ra rb s1 s2 hu ⟨.bl _,H,I,rfl,q _ _ (au.refl _) rfl⟩
def Ni (a b:D):Option D:=match b.CW with
 |true=>some (.bl a.CW)
 |false=>none
theorem Rp.Bh {W:Addr->Prop}{H:Hp}{d:D}{v:V}(h:Rp X W H d v):v=.bJ↔d=.bJ:=by
 cases d with
 |bJ=>cases h;simp
 |bl b=>cases h;simp
 |int i=>cases h;simp
 |str x=>cases h;simp
 |obj a=>cases h;simp
 |tup ds=>obtain⟨a,vs,rfl,_⟩:=h;simp
 |lst ds=>obtain⟨a,vs,rfl,_⟩:=h;simp
 |dT ks ds=>obtain⟨a,vs,rfl,_⟩:=h;simp
 |dK ks ds=>obtain⟨a,vs,rfl,_⟩:=h;simp
 |sT ts=>obtain⟨a,rfl,_⟩:=h;simp
 |ob φ=>obtain⟨a,rfl,_⟩:=h;simp
theorem yy {b d e:D}(h:(match b.CW with|true=>some d|false=>none)=some e):b=.bJ/\e=d:=by
 cases q:b.CW with
 |true=>rw[q]at h;cases h;exact⟨D.pJ q,rfl⟩
 |false=>rw[q]at h;cases h
theorem Rp.Bi {W:Addr->Prop}{H:Hp}{d:D}{v:V}(h:Rp X W H d v):decide (v=.bJ)=d.CW:=by
 have q:=h.Bh.trans D.Bw;cases e:d.CW with
 |true=>exact decide_eq_true (q.mpr e)
 |false=>exact decide_eq_false λz=>by rw[q.mp z]at e;cases e
theorem A9:cv X (Ul .Is) Ni:=by
 intro pins s σ H x y v u Q I rx ry h;obtain⟨W,d1,d2,d,hd,r1,r2,e,q⟩:=h;obtain⟨rfl,rfl⟩:=yy e;cases r2;exact EF pins s σ H _ _ v u Q I rx ry ⟨rfl,q _ _ (au.refl _) (congrArg V.bl r1.Bi)⟩
end
noncomputable def Ju:D->D->Option Bool
 |a,.lst ds=>if a.lb=true/\(D.lst ds).lb=true then some ((D.fN ds).any λy=>Ue y a.pd) else none
 |a,.tup ds=>if a.lb=true/\(D.tup ds).lb=true then some ((D.fN ds).any λy=>Ue y a.pd) else none
 |_,_=>none
def Nk (a b:D):Option D:=(Ju a b).map .bl
theorem tq {ds:List D}{n:PyData}(hn:n=.list (D.fN ds)\/n=.tuple (D.fN ds))(h:shaped n=true):Vf (D.fN ds)=true/\Ux (D.fN ds)<=64:=by
 have h1:=Ur h;have h2:=depth_of_shaped h;rcases hn with rfl|rfl
 ·refine⟨by simpa[Up] using h1,?_⟩
  have:US (.list (D.fN ds))=Ux (D.fN ds)+1:=by simp[US]
  lia
 ·refine⟨by simpa[Up] using h1,?_⟩
  have:US (.tuple (D.fN ds))=Ux (D.fN ds)+1:=by simp[US]
  lia
section
variable {X:Cx}
theorem xU (hu:X.A.units+64+1<Vt):cv X (Ul .In) Nk:=by
 intro pins s σ H x y v u Q I rx ry h;obtain⟨W,d1,d2,d,hd,r1,r2,e,q⟩:=h;cases d2 with
 |lst ds =>
  obtain⟨b,e1,rfl⟩:=Tq.mp e;obtain⟨⟨s1,s2⟩,rfl⟩:=ff e1;obtain⟨as,ra⟩:=cB I r1 rx (Ur s1);obtain⟨bs,rb⟩:=cB I r2 ry (Ur s2);obtain⟨c1,c2⟩:=tq (.inl rfl) s2;exact in_list_reads rb ra c1 (Ur s1) (by have:=XB (Ux (D.fN ds)) d1.pd.depth;lia) ⟨.bl _,H,I,rfl,q _ _ (au.refl _) rfl⟩
 |tup ds =>
  obtain⟨b,e1,rfl⟩:=Tq.mp e;obtain⟨⟨s1,s2⟩,rfl⟩:=ff e1;obtain⟨as,ra⟩:=cB I r1 rx (Ur s1);obtain⟨bs,rb⟩:=cB I r2 ry (Ur s2);obtain⟨c1,c2⟩:=tq (.inr rfl) s2;exact in_tuple_reads rb ra c1 (Ur s1) (by have:=XB (Ux (D.fN ds)) d1.pd.depth;lia) ⟨.bl _,H,I,rfl,q _ _ (au.refl _) rfl⟩
 |_=>cases e
def z8 (a b:D):Option D:=match b.Fi with
 |some i=>match a.Fh with
  |some ds=>lx ds i
  |none=>match a.LM with
   |some ds=>lx ds i
   |none=>none
 |none=>none
theorem zm {a b d:D}(h:z8 a b=some d):∃ds i,(a=.lst ds\/a=.tup ds)/\b=.int i/\lx ds i=some d:=by
 unfold z8 at h;cases hb:b.Fi with
 |none=>rw[hb]at h;cases h
 |some i =>
  rw[hb]at h;cases ha:a.Fh with
  |some ds=>rw[ha]at h;exact⟨ds,i,.inl (D.kg ha),D.gR hb,h⟩
  |none =>
   rw[ha]at h;cases ht:a.LM with
   |some ds=>rw[ht]at h;exact⟨ds,i,.inr (D.yx ht),D.gR hb,h⟩
   |none=>rw[ht]at h;cases h
theorem lz.lx {W:Addr->Prop}{H:Hp}{ds:List D}{vs:List V}{i:Int}{d:D}(h:lz X W H ds vs)(e:L2.lx ds i=some d):∃v,L2.lx vs i=some v/\Rp X W H d v:=by
 unfold L2.lx at *
 rw[h.length];cases q:qF ds.length i with
 |none=>rw[q]at e;cases e
 |some j =>
  rw[q]at e;exact ag.get h e
theorem Fg:Du X (NS X z8):=by
 intro value slice pins s σ H x y v u Q I rx ry h hs;obtain⟨W,d1,d2,d,hd,r1,r2,e,q⟩:=h;obtain⟨ds,i,h,rfl,e⟩:=zm e;cases r2;rcases h with rfl|rfl
 ·obtain⟨p,vs,rfl,h1,n1,q1⟩:=r1;obtain⟨z,hz,rz⟩:=lz.lx (X:=X) q1 e;exact cQ value slice pins s σ H _ _ v u Q I rx ry ⟨p,vs,i,z,rfl,rfl,cK.of h1,hz,q _ _ (au.refl _) rz⟩ hs
 ·obtain⟨p,vs,rfl,h1,q1⟩:=r1;obtain⟨z,hz,rz⟩:=lz.lx (X:=X) q1 e;exact yu value slice pins s σ H _ _ v u Q I rx ry ⟨p,vs,i,z,rfl,rfl,og.of h1,hz,q _ _ (au.refl _) rz⟩ hs
def Jt:List D->Option D
 |[.lst ds]=>some (.int ds.length)
 |[.tup ds]=>some (.int ds.length)
 |_=>none
theorem fQ:cE X (.builtin "len") Jt:=by
 intro pins s σ H xs us Q I r h;obtain⟨W,ds,d,hd,r1,e,q⟩:=h
 match ds,e with
 |[.lst es],e =>
  cases e;obtain⟨v,r',rfl,⟨p,vs,rfl,h1,n1,q1⟩,hr⟩:=r1;cases hr;refine gX pins s σ H _ us Q I r ⟨p,vs,rfl,.inl (cK.of h1),?_⟩;rw[q1.length];exact q _ _ (au.refl _) rfl
 |[.tup es],e =>
  cases e;obtain⟨v,r',rfl,⟨p,vs,rfl,h1,q1⟩,hr⟩:=r1;cases hr;refine gX pins s σ H _ us Q I r ⟨p,vs,rfl,.inr (og.of h1),?_⟩;rw[q1.length];exact q _ _ (au.refl _) rfl
def dList:List D->Option D
 |[.lst ds]=>some (.lst ds)
 |[.tup ds]=>some (.lst ds)
 |_=>none
def Js:List D->Option D
 |[.int i,.int j]=>some (.int (if j<i then j else i))
 |_=>none
theorem zJ {W:Addr->Prop}{H:Hp}{a b:D}{xs:List V}(h:lz X W H [a,b] xs):∃x y,xs=[x,y]/\Rp X W H a x/\Rp X W H b y:=by
 obtain⟨x,r,rfl,hx,y,r',rfl,hy,hr⟩:=h;cases hr;exact⟨x,y,rfl,hx,hy⟩
theorem g_ {W:Addr->Prop}{H:Hp}{a:D}{xs:List V}(h:lz X W H [a] xs):∃x,xs=[x]/\Rp X W H a x:=by
 obtain⟨x,r,rfl,hx,hr⟩:=h;cases hr;exact⟨x,rfl,hx⟩
theorem sI (hc:X.calm=true):cE X (.builtin "min") Js:=by
 intro pins s σ H xs us Q I r h;obtain⟨W,ds,d,hd,r1,e,q⟩:=h
 match ds,e with
 |[.int i,.int j],e =>
  cases e;obtain⟨x,y,rfl,hx,hy⟩:=zJ r1;cases hx;cases hy;exact wg hc pins s σ H _ us Q I r ⟨i,j,rfl,q _ _ (au.refl _) rfl⟩
def Nj:List D->Option D
 |[.int i]=>some (.int i)
 |[.bl k]=>some (.int (if k then 1 else 0))
 |_=>none
theorem wo:cE X (.type "int") Nj:=by
 intro pins s σ H xs us Q I r h;obtain⟨W,ds,d,hd,r1,e,q⟩:=h
 match ds,e with
 |[.int i],e =>
  cases e;obtain⟨x,rfl,hx⟩:=g_ r1;cases hx;exact mB pins s σ H _ us Q I r (.inl ⟨i,rfl,q _ _ (au.refl _) rfl⟩)
 |[.bl k],e =>
  cases e;obtain⟨x,rfl,hx⟩:=g_ r1;cases hx;exact mB pins s σ H _ us Q I r (.inr ⟨k,rfl,q _ _ (au.refl _) rfl⟩)
end
abbrev GN:=List (Option D)
abbrev GO:=GN->(D->Prop)->Prop
def NA (P:SW)(w:S_)(W:Addr->Prop)(H:Hp)(σ:St)(ρ:GN):Prop:=∀(i:Nat) (d:D),ρ[i]?=some (some d)->∃v,σ[i]?=some (some v)/\ar P w W H d v
theorem PE.pre {X:Cx}{e:Expr}{t t':TE}(h:PE X e t)(k:∀σ H Q,t' σ H Q->t σ H Q):PE X e t':=λpins s σ H Q I q=>h pins s σ H Q I (k σ H Q q)
theorem PT.pre {X:Cx}{e:Expr}{t t':TT}(h:PT X e t)(k:∀σ H Q,t' σ H Q->t σ H Q):PT X e t':=λpins s σ H Q I q=>h pins s σ H Q I (k σ H Q q)
theorem PA.pre {X:Cx}{es:List Expr}{t t':TA}(h:PA X es t)(k:∀σ H Q,t' σ H Q->t σ H Q):PA X es t':=λpos pins s σ H Q I q=>h pos pins s σ H Q I (k σ H Q q)
structure OZ (P:SW)(w:S_)(W:Addr->Prop)(σ:St)(H:Hp)(ρ:GN):Prop where
 dm:Dm W H
 env:NA P w W H σ ρ
abbrev SE (X:Cx):(Addr->Prop)->St->Hp->GN->Prop:=OZ X.prog X.w
def tD (X:Cx)(φ:GO):TE:=λσ H Q=>∃W ρ,SE X W σ H ρ/\φ ρ λd=>∀v H',au H H'->Rp X W H' d v->Q v H'
structure PV (X:Cx)(e:Expr)(φ:GO):Prop where
 mono:∀ρ R R',(∀d,R d->R' d)->φ ρ R->φ ρ R'
 pe:PE X e (tD X φ)
section
variable {X:Cx}{e:Expr}{φ:GO}{pos:Pos}{W:Addr->Prop}{σ:St}{H:Hp}{ρ:GN}
theorem tD.of (h:PV X e φ)(se:SE X W σ H ρ){R:D->Prop}{Q:VK}(hr:φ ρ R)(k:∀d v H',R d->au H H'->Rp X W H' d v->Q v H'):tD X φ σ H Q :=
 ⟨W,ρ,se,h.mono ρ _ _ (λd hd v H' s r=>k d v H' hd s r) hr⟩
def M5 (i:Nat):GO:=λρ R=>∃d,ρ[i]?=some (some d)/\R d
theorem xo {i:Nat}{x:Str}(hn:Nm X i x:=by exact rH):
  PV X (.Name x pos) (M5 i):=⟨λρ R R' k ji=>by obtain⟨d,e,h⟩:=ji;exact⟨d,e,k d h⟩,(du hn).pre λσ H Q kl=>by
 obtain⟨W,ρ,se,d,e,q⟩:=kl;obtain⟨v,h1,h2⟩:=se.env i d e;exact⟨v,h1,q v H (au.refl _) h2⟩⟩
theorem PW.pre {t t':TT}(h:PW X e t)(k:∀σ H Q,t' σ H Q->t σ H Q):PW X e t':=λw pins s σ H Q I q=>h w pins s σ H Q I (k σ H Q q)
end
abbrev FD:=List D->(D->Prop)->Prop
def fI (F:FD):Prop:=∀ds R R',(∀d,R d->R' d)->F ds R->F ds R'
section
end
section
variable {X:Cx}{pos:Pos}{σ:St}{H:Hp}
theorem Dt.pre {ops:List V8}{rs:List Expr}{t t':V->TE}(h:Dt X ops rs t)(k:∀x σ H Q,t' x σ H Q->t x σ H Q):Dt X ops rs t':=λpos pins s σ H x v Q I r q=>h pos pins s σ H x v Q I r (k x σ H Q q)
theorem sQ.pre {ops:List V8}{rs:List Expr}{t t':V->TT}(h:sQ X ops rs t)(k:∀x σ H Q,t' x σ H Q->t x σ H Q):sQ X ops rs t':=λpos pins s σ H x v Q I r q=>h pos pins s σ H x v Q I r (k x σ H Q q)
end
abbrev NF:D->Prop:=λd=>d.flat=true
section
abbrev NL:D->Prop:=λd=>match d with | .lst ds=>D.dS ds=true|d=>d.flat=true
end
section
variable {P:SW}{w:S_}{W W':Addr->Prop}{H:Hp}
mutual
theorem ar.grow (s:∀a,W' a->W a\/H a=none):∀{d:D} {v:V},ar P w W H d v->ar P w W' H d v
 |.bJ,_,h=>h
 |.bl _,_,h=>h
 |.int _,_,h=>h
 |.str _,_,h=>h
 |.obj _,_,h=>h
 |.tup ds,_,⟨a,vs,e,t,r⟩=>⟨a,vs,e,t,ag.grow s r⟩
 |.lst ds,_,⟨a,vs,e,t,n,r⟩=>⟨a,vs,e,t,λz=>(s a z).elim n λq=>(by rw[t]at q;cases q),ag.grow s r⟩
 |.dT ks ds,_,⟨a,vs,e,t,l,n,r⟩=>⟨a,vs,e,t,l,λz=>(s a z).elim n λq=>(by rw[t]at q;cases q),ag.grow s r⟩
 |.dK ks ds,_,⟨a,vs,e,t,l,n,r⟩=>⟨a,vs,e,t,l,λz=>(s a z).elim n λq=>(by rw[t]at q;cases q),ag.grow s r⟩
 |.sT ts,_,⟨a,e,⟨mN,t,r,z⟩,n⟩=>⟨a,e,⟨mN,t,r,z⟩,λz=>(s a z).elim n λq=>(by rw[t]at q;cases q)⟩
 |.ob φ,_,⟨a,e,⟨t,z⟩,n⟩=>⟨a,e,⟨t,z⟩,λz=>(s a z).elim n λq=>(by rw[t]at q;cases q)⟩
theorem ag.grow (s:∀a,W' a->W a\/H a=none):∀{ds:List D} {vs:List V},ag P w W H ds vs->ag P w W' H ds vs
 |[],_,h=>h
 |d::ds,_,⟨v,r,e,h1,h2⟩=>⟨v,r,e,ar.grow s h1,ag.grow s h2⟩
end
end
def Rz (X:Cx)(W:Addr->Prop)(J:It)(ds:List D)(H0:Hp):Prop:=∀(i:Nat) (H:Hp),Kp W H0 H ->
 (∀d,ds[i]?=some d->J.go i H/\∀x H1,J.GS i H x H1->au H H1/\Rp X W H1 d x)/\(ds.length<=i->J.stop i H)
def wz (X:Cx)(W:Addr->Prop)(J:It)(ds:List D)(H0:Hp):Prop:=∀W':Addr->Prop,(∀b,W' b->W b\/H0 b=none)->Rz X W' J ds H0
section
variable {X:Cx}{tg e:Expr}
theorem PI.pre {iter:Expr}{t t':TI}(h:PI X tg iter t)(k:∀σ H R,t' σ H R->t σ H R):PI X tg iter t':=λpins s σ H R I q=>h pins s σ H R I (k σ H R q)
theorem pI {W:Addr->Prop}{H:Hp}{p:Addr}{vs:List V}{ds:List D}(h1:H p=some (.lst vs))(n1:¬ W p)(q1:lz X W H ds vs):wz X W (Kt X.K p) ds H:=λW' hW i H' k=>by
 have h2:=k.out p _ h1 λz=>(hW p z).elim n1 λq=>by rw[h1]at q;cases q
 replace q1:=ag.grow hW q1;constructor
 ·intro d hd;obtain⟨v,hv,rv⟩:=ag.get q1 hd;refine⟨⟨vs,v,cK.of h2,hv⟩,λx H1 y=>?_⟩;obtain⟨rfl,y⟩:=y;have e:=y vs (cK.of h2);rw[hv]at e;cases e;exact⟨au.refl _,rv.keep k⟩
 ·intro hl;exact⟨vs,cK.of h2,by rw[q1.length];exact hl⟩
def jS (lo:Int)(n:Nat):List D:=(Tt n).map λ(k:Nat)=>D.int (lo+(k:Int))
theorem iF {W:Addr->Prop}{H:Hp}{lo:Int}{n:Nat}:wz X W (JI lo n) (jS lo n) H:=λ_ _ i H' k=>by
 constructor
 ·intro d hd;unfold jS at hd;rw[Th]at hd;have hi:i<n:=by
   by_cases h:i<n
   ·exact h
   ·rw[UN (by simpa using h)]at hd;cases hd
  rw[Uv hi]at hd;cases hd;refine⟨hi,λx H1 y=>?_⟩;obtain⟨rfl,rfl⟩:=y;exact⟨au.refl _,rfl⟩
 ·intro hl;unfold jS at hl;rw[SS,TR]at hl;exact hl
end
section
variable {X:Cx}{tg:Expr}{uV:List Expr}
theorem PG.pre {t t':TG}(h:PG X tg t)(k:∀v σ H Q,t' v σ H Q->t v σ H Q):PG X tg t':=λpins s σ H v u Q I r q=>h pins s σ H v u Q I r (k v σ H Q q)
theorem Ds.pre {t t':Dp}(h:Ds X uV t)(k:∀v σ H Q,t' v σ H Q->t v σ H Q):Ds X uV t':=λpins s σ H v u Q I r q=>h pins s σ H v u Q I r (k v σ H Q q)
end
theorem gi {H:Hp}{a:Addr}{o o':HO}(h:H a=some o)(ht:∀xs,o≠.tup xs):Kp (·=a) H (upd H a o') :=
 ⟨λb u e n=>by rw[ao n];exact e,λb xs e=>by rw[ao (CL e h (λz=>ht xs z.symm))];exact e⟩
section
end
section
end
section
end
section
variable {σ:St}{β:a9}{own:Nat->List Addr}
def aI (own:Nat->List Addr)(i:Nat)(as:List Addr):Nat->List Addr:=λj=>if j=i then as else own j
theorem bQ {own:Nat->List Addr}{i j:Nat}{a:Addr}(h:a∈aI own i [] j):a∈own j/\j≠i:=by
 unfold aI at h
 by_cases e:j=i
 ·rw[if_pos e]at h;cases h
 ·rw[if_neg e]at h;exact⟨h,e⟩
theorem aQ {α:Type}{β:List α}{i j:Nat}{x:α}(h:i≠j):(β.set i x)[j]?=β[j]?:=by rw[VQ,if_neg h]
theorem aX {α:Type}{β:List α}{i:Nat}{x y:α}(h:(β.set i x)[i]?=some y):y=x/\i<β.length:=by
 rw[VQ,if_pos rfl]at h
 by_cases hi:i<β.length
 ·rw[if_pos hi]at h;cases h;exact⟨rfl,hi⟩
 ·rw[if_neg hi]at h;cases h
theorem get_set {α:Type}{σ:List α}{i:Nat}{x:α}(h:i<σ.length):(σ.set i x)[i]?=some x:=by rw[VQ,if_pos rfl,if_pos h]
end
structure Sn (Z:Hp×(Addr->Prop))(H:Hp)(W:Addr->Prop):Prop where
 w:∀b,W b->Z.2 b\/Z.1 b=none
 k:Kp (λb=>Z.2 b\/Z.1 b=none) Z.1 H
 d:∀b,Z.1 b≠none->H b≠none
theorem Sn.refl {H:Hp}{W:Addr->Prop}:Sn (H,W) H W:=⟨λ_ z=>.inl z,Kp.refl,λ_ z=>z⟩
theorem Sn.same {Z:Hp×(Addr->Prop)}{H H':Hp}{W:Addr->Prop}(n:Sn Z H W)(s:au H H'):Sn Z H' W:=⟨n.w,n.k.trans s.kp,λb z e=>n.d b z (s.free e)⟩
theorem Sn.free {Z:Hp×(Addr->Prop)}{H:Hp}{W:Addr->Prop}(n:Sn Z H W){a:Addr}(h:H a=none):Z.1 a=none:=by
 cases q:Z.1 a with
 |none=>rfl
 |some o=>exact absurd h (n.d a (by rw[q];intro z;cases z))
theorem Sn.upd {Z:Hp×(Addr->Prop)}{H:Hp}{W:Addr->Prop}(n:Sn Z H W){a:Addr}{o o':HO}(h:H a=some o)(ht:∀xs,o≠.tup xs)(wa:W a):Sn Z (L2.upd H a o') W :=
 ⟨n.w,n.k.trans ((gi h ht).mono λb z=>by rw[z];exact n.w a wa),λb z e=>by
  by_cases hb:b=a
  ·subst hb;rw[ah]at e;cases e
  ·rw[ao hb]at e;exact n.d b z e⟩
theorem Sn.trans {Z:Hp×(Addr->Prop)}{H1 H:Hp}{W1 W:Addr->Prop}(n1:Sn Z H1 W1)(n:Sn (H1,W1) H W):Sn Z H W:=by
 have big:∀b,W1 b\/H1 b=none->Z.2 b\/Z.1 b=none:=λb z=>z.elim (n1.w b) λq=>.inr (n1.free q);exact⟨λb z=>big b (n.w b z),n1.k.trans (n.k.mono big),λb z=>n.d b (n1.d b z)⟩
section
variable {X:Cx}{st:Stmt}{rest:List Stmt}{σ:St}{H:Hp}
theorem PS.pre {t t':TS}(h:PS X st t)(k:∀D σ H,t' D σ H->t D σ H):PS X st t':=λpins s σ H D I q=>h pins s σ H D I (k D σ H q)
theorem nU.pre {t t':TS}(h:nU X rest t)(k:∀D σ H,t' D σ H->t D σ H):nU X rest t':=λpins s σ H D I q=>h pins s σ H D I (k D σ H q)
end
section
variable {b:Expr}{H:Hp}
theorem held {P:SW}{w:S_}{W W2:Addr->Prop}{H2:Hp}{d:D}{v:V}(r:ar P w W H d v)(n:Sn (H,W) H2 W2):ar P w W2 H2 d v :=
 ar.aN n.w (ar.keep n.k (ar.grow (λb z=>z) r))
end
theorem Sn.kp {Z:Hp×(Addr->Prop)}{H H':Hp}{W:Addr->Prop}(n:Sn Z H W)(k:Kp W H H')(dn:∀c,H c≠none->H' c≠none):Sn Z H' W:=⟨n.w,n.k.trans (k.mono n.w),λb z=>dn b (n.d b z)⟩
section
end
section
end
end L2
namespace RC
open PySem PySem.Spec PyProof.Rows
section
open PySem.SeqAt
open PySem.AutoSeq1 (wpAny_loadPart')
open PySem.MeetsSeq PySem.MeetsSeq2 PySem.MeetsSeq3
end
section
end
section
open PySem.SeqAt
open PySem.AutoSeq1 (wpAny_loadPart')
open PySem.MeetsSeq PySem.MeetsSeq2 PySem.MeetsSeq3
end
section
end
end RC
namespace L2
open PySem PySem.Spec PySem.SeqAt PyProof.Rows
noncomputable def c6:List D->Option (List Int)
 |[]=>some []
 |.int i::ds=>(c6 ds).map (i::·)
 |_::_=>none
theorem pL:∀{ds:List D} {ns:List Int},c6 ds=some ns->ds=ns.map D.int
 |[],_,h=>by cases h;rfl
 |.int i::ds,_,h=>by
  obtain⟨ns,h1,rfl⟩:=Tq.mp h;rw[S4,<- pL h1]
 |.bJ::_,_,h=>by cases h
 |.bl _::_,_,h=>by cases h
 |.str _::_,_,h=>by cases h
 |.obj _::_,_,h=>by cases h
 |.tup _::_,_,h=>by cases h
 |.lst _::_,_,h=>by cases h
 |.dT _ _::_,_,h=>by cases h
 |.dK _ _::_,_,h=>by cases h
 |.sT _::_,_,h=>by cases h
 |.ob _::_,_,h=>by cases h
theorem l6:∀(ns:List Int),c6 (ns.map D.int)=some ns
 |[]=>rfl
 |n::ns=>by rw[S4];show (c6 (ns.map D.int)).map _=_;rw[l6 ns];rfl
theorem bW {P:SW}{w:S_}{W:Addr->Prop}{H:Hp}:∀{ns:List Int} {vs:List V},ag P w W H (ns.map D.int) vs->vs=ns.map V.int
 |[],_,h=>h
 |n::ns,_,⟨v,r,e,h1,h2⟩=>by rw[e,bW h2,show v=V.int n from h1];rfl
theorem l5 {P:SW}{w:S_}{W:Addr->Prop}{H:Hp}:∀(ns:List Int),ag P w W H (ns.map D.int) (ns.map V.int)
 |[]=>rfl
 |n::ns=>⟨_,_,rfl,rfl,l5 ns⟩
section
end
end L2
namespace TS
open PySem PyProof.Rows
section
variable {prog:SW}{w:S_}{A:Ud}{E:SO->SU->Prop}{s:SU}
theorem qX {x:SO}{vs:List SO}{kf:SO->List Int}{Q:SO->SU->Prop}(hz:vs.length<=1000000)
  (col:∀(B:Ud) (R:List SO->SU->Prop),B.units<=A.units+1->(∀(h':Heap) (tk:Nat),(∀b o,s.heap.get? b=some o->h'.get? b=some o)->s.heap.objs.size<=h'.objs.size->R vs {s with heap:=h',toks:=tk})->Tn (model prog w) B (collect x) R E s)
  (T:ly s.heap kf s.heap.objs.size vs)
  (h:∀(out:List SO) (l:Addr) (h':Heap) (tk:Nat) (n:Nat),out.Perm vs->out.Pairwise (λx y=>HT.lexLt (kf y) (kf x)=false)->s.heap.objs.size<=l->(∀b o,s.heap.get? b=some o->h'.get? b=some o)->h'.get? l=some (UK "list" out.toArray n)->Q (.ref l) {s with heap:=h',toks:=tk}) :
  Tn (model prog w) A (call (.builtin "sorted") [x]) Q E s:=by
 refine Vu kind_sorted plain_sorted entry_sorted (args_sorted1 _) ?_;unfold Wi.«sorted»
 refine SN (m:=checkCount "sorted" 1 1 _) (SV ?_);refine SN (col A.in1 _ (SX _) λh' tk kp LC=>?_);have nl:vs.length<=S7:=by rw[TF];lia
 refine SN (WW ?_ nl);have hl:(h'.push (UK "list" vs.toArray 0)).get? h'.objs.size=some (UK "list" vs.toArray 0):=TU _ rfl;have T':ly (h'.push (UK "list" vs.toArray 0)) kf h'.objs.size vs:=λv hv=>by
  obtain⟨t,o,xs,k,e1,_,e3,r⟩:=T v hv;exact⟨t,o,xs,k,e1,Tx (Ta (kp _ _ e3)),S1 _ (kp _ _ e3),r⟩
 refine SN (Uu (UA XH ⟨_,hl,rfl⟩ XA (j6 (s:={s with heap:=h'.push (UK "list" vs.toArray 0),toks:=tk}) hl hz T' λout hp hs=>⟨_,rfl,?_⟩) (XQ _)))
 obtain⟨n,hn⟩:=sortedHeap_at (out:=out.toArray) hl;refine SV ⟨_,rfl,h out h'.objs.size _ tk n hp hs LC (λb o e=>?_) hn⟩;have hb:=Ta (kp _ _ e);rw[XG (Tx hb) (by rw[W5];exact Xe hb)]
 exact S1 _ (kp _ _ e)
end
end TS
namespace L2
open PySem PySem.Spec PyProof.Rows
def rP (H:Hp):SO->List Int
 |.ref t=>match H t with
  |some (.tup xs)=>xs.filterMap fun
   |.int i=>some i
   |_=>none
  |_=>[]
 |_=>[]
theorem pX:∀ns:List Int,((ns.map V.int).filterMap fun
   |.int i=>some i
   |_=>none)=ns
 |[]=>rfl
 |n::ns=>by
  rw[S4,UY];dsimp only;rw[pX ns]
theorem kc {H:Hp}{t:Addr}{ns:List Int}(h:H t=some (.tup (ns.map V.int))):rP H (.ref t)=ns:=by
 unfold rP;dsimp only;rw[h];exact pX ns
def BN (H:Hp):SO->Addr×List Int
 |.ref t=>(t,rP H (.ref t))
 |_=>(0,[])
abbrev zR (H:Hp)(ts:List (Addr×List Int)):Prop:=∀t∈ts,H t.1=some (.tup (t.2.map V.int))/\t.2≠[]
abbrev mQ (t:Addr×List Int):V:=.ref t.1
theorem lE:∀{ts:List (Addr×List Int)} {us:List SO},Vals (ts.map mQ) us->us=ts.map λt=>Value.ref t.1
 |[],_,.nil=>rfl
 |t::ts,_,.cons r q=>by
  rw[S4,<- lE q];cases r;rfl
theorem ip:∀(ts:List (Addr×List Int)),Vals (ts.map mQ) (ts.map λt=>Value.ref t.1)
 |[]=>.nil
 |t::ts=>.cons rfl (ip ts)
theorem lQ {H:Hp}{ts:List (Addr×List Int)}(T:zR H ts){out:List SO}(hp:out.Perm (ts.map λt=>Value.ref t.1)):out=(out.map (BN H)).map (λt=>Value.ref t.1)/\(out.map (BN H)).Perm ts:=by
 constructor
 ·rw[T1];refine(T5 (g:=id) λv hv=>?_).trans (Xu _) |>.symm
  obtain⟨t,ht,rfl⟩:=Ti.mp (hp.mem_iff.mp hv);rfl
 ·refine(hp.map (BN H)).trans (WK ?_);rw[T1];refine(T5 (g:=id) λt ht=>?_).trans (Xu _);show (t.1,rP H (.ref t.1))=t;rw[kc (T t ht).1]
theorem sZ {P:SW}{w:S_}{H:Hp}{h:Heap}{ts:List (Addr×List Int)}(ok:fW P w H h)(T:zR H ts){a:Addr}(ha:h.objs.size<=a):TS.ly h (rP H) a (ts.map λt=>Value.ref t.1):=λv hv=>by
 obtain⟨t,ht,rfl⟩:=Ti.mp hv;obtain⟨h1,h2⟩:=T t ht;obtain⟨_,its,r,o,ho,hc,n,hd⟩:=(show bb P w H h t.1 (.tup (t.2.map V.int)) from ok _ _ h1)
 exact⟨t.1,o,_,n,rfl,Tx (TH (Ta ho) ha),ho,hc,hd,by rw[kc h1];exact intsAre_of (by simpa using r),by rw[kc h1];exact h2⟩
section
variable {X:Cx}
theorem nO:fq X (.builtin "sorted") (λxs H Q=>∃(p:Addr) (ts:List (Addr×List Int)),xs=[.ref p]/\cK X.K H p (ts.map mQ)/\zR H ts/\ts.length<=1000000 /\
  ∀(l:Addr) (mN:List (Addr×List Int)),H l=none->mN.Perm ts->mN.Pairwise (λx y=>HT.lexLt y.2 x.2=false)->Q (.ref l) (upd H l (.lst (mN.map mQ)))):=by
 intro pins s σ H xs us Q I r h;obtain⟨p,ts,rfl,hq,T,hz,q⟩:=h;obtain⟨u,rfl,rx⟩:=vals1 r;cases rx;obtain⟨its,r',pl,hl⟩:=I.list hq;obtain rfl:=lE r';have nl:(ts.map λt=>Value.ref t.1).length<=S7:=by rw[SS,TF];lia
 refine TS.qX (kf:=rP H) (by rw[SS];exact hz) (λB R _ hR=>?_) (sZ I.a_ T (SX _)) λout l h' tk n hp hs hle kp ho=>?_
 ·refine collect_list pl.isList (hR _ s.toks (λb o e=>?_) ?_) nl
  ·have hb:=Ta e;rw[WV _ _ _ _ (Tx hb)];exact S1 _ e
  ·rw[Heap.size_update,W5];exact VJ _
 ·obtain⟨e1,e2⟩:=lQ T hp;have zl:out.length=ts.length:=by rw[hp.length_eq,SS]
  refine⟨.ref l,_,I.laid (t':=tk) (o:=.lst ((out.map (BN H)).map mQ)) kp hle ?_,rfl,q l _ (I.a_.fresh hle) e2 ?_⟩
  ·refine⟨by rw[SS,SS,zl,TF];lia,out,n,?_,ho⟩
   have:=ip (out.map (BN H));rw[<- e1]at this;exact this
  ·rw[T8];refine hs.imp_of_mem λ{x y} hx hy hh=>?_;obtain⟨t,ht,rfl⟩:=Ti.mp (hp.mem_iff.mp hx);obtain⟨t',Gw,rfl⟩:=Ti.mp (hp.mem_iff.mp hy);exact hh
end
end L2
namespace TS
open PySem PyProof.Rows
section
variable {prog:SW}{w:S_}{A:Ud}{E:SO->SU->Prop}{s:SU}
theorem qW {x:SO}{vs:List SO}{kf:SO->List Int}{Q:SO->SU->Prop}(hz:vs.length<=1000000)
  (col:∀(R:List SO->SU->Prop),(∀(h':Heap) (tk:Nat),(∀b o,s.heap.get? b=some o->h'.get? b=some o)->R vs {s with heap:=h',toks:=tk})->Tn (model prog w) A.in1 (collect x) R E s)
  (T:ly s.heap kf s.heap.objs.size vs)
  (h:∀(out:List SO) (h1 h':Heap) (tk:Nat) (n:Nat),out.Perm vs->out.Pairwise (λx y=>HT.lexLt (kf y) (kf x)=false)->(∀b o,s.heap.get? b=some o->h1.get? b=some o)->(∀b o,h1.get? b=some o->h'.get? b=some o)->h'.get? h1.objs.size=some (UK "list" out.toArray n)->Q (.ref h1.objs.size) {s with heap:=h',toks:=tk}) :
  Tn (model prog w) A (call (.builtin "sorted") [x]) Q E s:=by
 refine Vu kind_sorted plain_sorted entry_sorted (args_sorted1 _) ?_;unfold Wi.«sorted»
 refine SN (m:=checkCount "sorted" 1 1 _) (SV ?_);refine SN (col _ λh' tk kp=>?_);have nl:vs.length<=S7:=by rw[TF];lia
 refine SN (WW ?_ nl);have hl:(h'.push (UK "list" vs.toArray 0)).get? h'.objs.size=some (UK "list" vs.toArray 0):=TU _ rfl;have T':ly (h'.push (UK "list" vs.toArray 0)) kf h'.objs.size vs:=λv hv=>by
  obtain⟨t,o,xs,k,e1,_,e3,r⟩:=T v hv;exact⟨t,o,xs,k,e1,Tx (Ta (kp _ _ e3)),S1 _ (kp _ _ e3),r⟩
 refine SN (Uu (UA XH ⟨_,hl,rfl⟩ XA (j6 (s:={s with heap:=h'.push (UK "list" vs.toArray 0),toks:=tk}) hl hz T' λout hp hs=>⟨_,rfl,?_⟩) (XQ _)))
 obtain⟨n,hn⟩:=sortedHeap_at (out:=out.toArray) hl;refine SV ⟨_,rfl,h out h' _ tk n hp hs kp (λb o e=>?_) hn⟩;have hb:=Ta e;rw[XG (Tx hb) (by rw[W5];exact Xe hb)]
 exact S1 _ e
end
end TS
namespace L2
open PySem PySem.Spec PySem.SeqAt PyProof.Rows HT
theorem lV:∀a:List Int,lexLt a a=false
 |[]=>rfl
 |x::xs=>by rw[dz,if_pos rfl];exact lV xs
theorem fc:∀{a b:List Int},lexLt a b=false->lexLt b a=false->a=b
 |[],[],_,_=>rfl
 |[],_::_,h,_=>by cases h
 |_::_,[],_,h=>by cases h
 |x::xs,y::ys,h1,h2=>by
  rw[dz]at h1 h2
  by_cases e:x=y
  ·subst e;rw[if_pos rfl]at h1 h2;rw[fc h1 h2]
  ·rw[if_neg e]at h1;rw[if_neg (λz=>e z.symm)]at h2;have:=of_decide_eq_false h1;have:=of_decide_eq_false h2;omega
theorem j_:∀{a b:List Int},lexLt a b=true->lexLt b a=false
 |[],[],h=>by cases h
 |[],_::_,_=>rfl
 |_::_,[],h=>by cases h
 |x::xs,y::ys,h=>by
  rw[dz]at h ⊢
  by_cases e:x=y
  ·subst e;rw[if_pos rfl]at h ⊢
   exact j_ h
  ·rw[if_neg e]at h;rw[if_neg (λz=>e z.symm)];have:=of_decide_eq_true h;exact decide_eq_false (by lia)
theorem i6:∀{a b c:List Int},lexLt a b=true->lexLt b c=true->lexLt a c=true
 |[],[],_,h,_=>by cases h
 |[],_::_,[],_,h=>by cases h
 |[],_::_,_::_,_,_=>rfl
 |_::_,[],_,h,_=>by cases h
 |x::xs,y::ys,[],_,h=>by cases h
 |x::xs,y::ys,z::zs,h1,h2=>by
  rw[dz]at h1 h2 ⊢
  by_cases e:x=y
  ·subst e;rw[if_pos rfl]at h1
   by_cases e2:x=z
   ·subst e2;rw[if_pos rfl]at h2 ⊢
    exact i6 h1 h2
   ·rw[if_neg e2]at h2 ⊢
    exact h2
  ·rw[if_neg e]at h1;have q1:=of_decide_eq_true h1
   by_cases e2:y=z
   ·subst e2;rw[if_neg e];exact h1
   ·rw[if_neg e2]at h2;have q2:=of_decide_eq_true h2;rw[if_neg (by omega)]
    exact decide_eq_true (by omega)
noncomputable def rS (k:List Int):List (List Int)->List (List Int)
 |[]=>[k]
 |x::xs=>if lexLt x k=true then x::rS k xs else k::x::xs
def d3:List (List Int)->List (List Int)
 |[]=>[]
 |k::ks=>rS k (d3 ks)
theorem iH (k:List Int):∀xs,(rS k xs).Perm (k::xs)
 |[]=>.refl _
 |x::xs=>by
  unfold rS
  split
  ·exact((iH k xs).cons x).trans (List.Perm.swap _ _ _)
  ·exact .refl _
theorem bp:∀ks,(d3 ks).Perm ks
 |[]=>.refl _
 |k::ks=>(iH k (d3 ks)).trans ((bp ks).cons k)
abbrev sN (ks:List (List Int)):Prop:=ks.Pairwise λx y=>HT.lexLt y x=false
theorem le_trans' {a b c:List Int}(h1:lexLt b a=false)(h2:lexLt c b=false):lexLt c a=false:=by
 cases h:lexLt c a with
 |false=>rfl
 |true =>
  cases hb:lexLt a b with
  |true=>rw[i6 h hb]at h2;cases h2
  |false =>
   have:=fc hb h1;subst this;rw[h]at h2;cases h2
theorem l7 (k:List Int):∀xs,sN xs->sN (rS k xs)
 |[],_=>by simp[rS]
 |x::xs,h=>by
  obtain⟨h1,h2⟩:=Us.mp h;unfold rS
  split
  ·rename_i hx
   refine Us.mpr ⟨λy hy=>?_,l7 k xs h2⟩;rcases S5.mp ((iH k xs).mem_iff.mp hy)with rfl|hy
   ·exact j_ hx
   ·exact h1 y hy
  ·rename_i hx
   have CZ:lexLt x k=false:=by cases q:lexLt x k <;> simp_all
   refine Us.mpr ⟨λy hy=>?_,h⟩;rcases S5.mp hy with rfl|hy
   ·exact CZ
   ·exact le_trans' CZ (h1 y hy)
theorem fw:∀ks,sN (d3 ks)
 |[]=>.nil
 |k::ks=>l7 k _ (fw ks)
theorem iV:∀{a b:List (List Int)},a.Perm b->sN a->sN b->a=b
 |[],b,p,_,_=>by rw[List.nil_perm.mp p]
 |x::a,[],p,_,_=>by have:=p.length_eq;simp at this
 |x::a,y::b,p,ha,hb=>by
  obtain⟨a1,a2⟩:=Us.mp ha;obtain⟨b1,b2⟩:=Us.mp hb;have LP:x=y:=by
   rcases S5.mp (p.mem_iff.mp (Tr (a:=x) (l:=a)))with h|h
   ·exact h
   ·rcases S5.mp (p.mem_iff.mpr (Tr (a:=y) (l:=b)))with h' | h'
    ·exact h'.symm
    ·exact fc (b1 x h) (a1 y h')
  subst LP;rw[iV (List.perm_cons x |>.mp p) a2 b2]
theorem xc {a b:List (List Int)}(p:a.Perm b)(h:sN a):a=d3 b:=iV (p.trans (bp b).symm) h (fw b)
abbrev kD (k:List Int):D:=.tup (k.map D.int)
noncomputable def fZ:List D->Option (List (List Int))
 |[]=>some []
 |.tup a::ds=>match c6 a,fZ ds with
  |some k,some ks=>if k=[] then none else some (k::ks)
  |_,_=>none
 |_::_=>none
theorem pG:∀{ds:List D} {ks:List (List Int)},fZ ds=some ks->ds=ks.map kD/\∀k∈ks,k≠[]
 |[],_,h=>by cases h;exact⟨rfl,λ_ z=>nomatch z⟩
 |.tup a::ds,ks,h=>by
  have h':(match c6 a,fZ ds with|some k,some ks=>if k=[] then none else some (k::ks)|_,_=>none)=some ks:=h
  cases ea:c6 a with
  |none=>rw[ea]at h';cases h'
  |some k =>
   cases eb:fZ ds with
   |none=>rw[ea,eb]at h';cases h'
   |some kr =>
    rw[ea,eb]at h'
    by_cases hk:k=[]
    ·simp[hk]at h'
    ·simp only[hk,if_false,Wf]at h';subst h';obtain⟨h1,h2⟩:=pG eb;rw[S4,<- h1,pL ea];refine⟨rfl,λx hx=>?_⟩;rcases S5.mp hx with rfl|hx
     ·exact hk
     ·exact h2 x hx
 |.bJ::_,_,h=>by cases h
 |.bl _::_,_,h=>by cases h
 |.str _::_,_,h=>by cases h
 |.obj _::_,_,h=>by cases h
 |.int _::_,_,h=>by cases h
 |.lst _::_,_,h=>by cases h
 |.dT _ _::_,_,h=>by cases h
 |.dK _ _::_,_,h=>by cases h
 |.sT _::_,_,h=>by cases h
 |.ob _::_,_,h=>by cases h
theorem lY:∀{ks:List (List Int)},(∀k∈ks,k≠[])->fZ (ks.map kD)=some ks
 |[],_=>rfl
 |k::ks,h=>by
  show (match c6 (k.map D.int),fZ (ks.map kD)with|some k,some ks=>if k=[] then none else some (k::ks)|_,_=>none)=_
  rw[l6,lY λx hx=>h x (Tc _ hx)];simp[h k (Tr ..)]
section
variable {P:SW}{w:S_}{W:Addr->Prop}{H:Hp}
theorem lX:∀{ks:List (List Int)} {vs:List V},(∀k∈ks,k≠[])->ag P w W H (ks.map kD) vs->∃ts:List (Addr×List Int),vs=ts.map mQ/\zR H ts/\ts.map (·.2)=ks
 |[],_,_,h=>⟨[],h,(λ_ z=>nomatch z),rfl⟩
 |k::ks,_,hk,⟨v,r,e,⟨a,us,e1,e2,e3⟩,h2⟩=>by
  obtain⟨ts,q1,q2,q3⟩:=lX (λx hx=>hk x (Tc _ hx)) h2;refine⟨(a,k)::ts,by rw[e,e1,q1];rfl,λt ht=>?_,by rw[S4,q3]⟩
  rcases S5.mp ht with rfl|ht
  ·rw[bW e3]at e2;exact⟨e2,hk k (Tr ..)⟩
  ·exact q2 t ht
theorem il:∀{ts:List (Addr×List Int)},(∀t∈ts,H t.1=some (.tup (t.2.map V.int)))->ag P w W H ((ts.map (·.2)).map kD) (ts.map mQ)
 |[],_=>rfl
 |t::ts,h=>⟨_,_,rfl,⟨t.1,_,rfl,h t (Tr ..),l5 t.2⟩,il λx hx=>h x (Tc _ hx)⟩
noncomputable def zh:List D->Option D
 |[.lst ds]=>match fZ ds with
  |some ks=>if ks.length<=1000000 then some (.lst ((d3 ks).map kD)) else none
  |none=>none
 |[.sT ts]=>if ts.length<=1000/\(∀k∈ts,k≠[]) then some (.lst ((d3 ts).map kD)) else none
 |_=>none
end
section
end
def bU:FD:=λds R=>∃n:Int,ds=[.int n]/\0<n/\n<2 ^ 200/\∀r:Int,0<=r->r<n->R (.int r)
theorem bU.mono:fI bU:=λds R R' k ⟨n,e,h1,h2,q⟩=>⟨n,e,h1,h2,λr a b=>k _ (q r a b)⟩
section
end
section
variable {X:Cx}{W:Addr->Prop}{H:Hp}
theorem vx {p:Addr}{vs:List V}{ds:List D}(n:H p=none)(f:NL (.lst ds))(r:lz X W H ds vs):Rp X (λa=>H a≠none) (upd H p (.lst vs)) (.lst ds) (.ref p) :=
 ⟨p,vs,rfl,ah,λz=>z n,ag.flat f (r.same (au.new n))⟩
def K_ (X:Cx)(f:D->D->Option D):R2:=λx y H Q=>∃W d1 d2 d,Dm W H/\Rp X W H d1 x/\Rp X W H d2 y/\f d1 d2=some d/\∀v H',au H H'->Rp X W H' d v->(NL d->Rp X (λa=>H a≠none) H' d v)->Q v H'
def K9 (X:Cx)(f:List D->Option D):List V->Hp->VK->Prop:=λxs H Q=>∃W ds d,Dm W H/\lz X W H ds xs/\f ds=some d/\∀v H',au H H'->Rp X W H' d v->(NL d->Rp X (λa=>H a≠none) H' d v)->Q v H'
abbrev Nr (X:Cx)(f:SO->SO->Sem SO)(g:D->D->Option D):Prop:=h9 X f (K_ X g)
abbrev nZ (X:Cx)(f:SO)(g:List D->Option D):Prop:=fq X f (K9 X g)
theorem aU:Nr X (Vl .Add) Jv:=by
 intro pins s σ H x y v u Q I rx ry h;obtain⟨W,d1,d2,d,hd,r1,r2,e,q⟩:=h;rcases vA e with⟨a,b,rfl,rfl,e⟩|e
 ·obtain⟨hl,rfl⟩:=ff e;obtain⟨p,vs,rfl,h1,n1,q1⟩:=r1;obtain⟨p',vs',rfl,h2,n2,q2⟩:=r2;exact xW pins s σ H _ _ v u Q I rx ry ⟨p,p',vs,vs',rfl,rfl,h1,h2,by rw[q1.length,q2.length];exact hl,λl yH=>q _ _ (au.new yH) (Rp.iD hd yH (q1.append q2)) λf=>vx yH f (q1.append q2)⟩
 ·obtain⟨i,j,rfl,rfl,e⟩:=iG e;cases e;cases r1;cases r2;exact gg pins s σ H _ _ v u Q I rx ry ⟨i,j,rfl,rfl,q _ _ (au.refl _) rfl λ_=>rfl⟩
theorem jc:nZ X (.type "list") dList:=by
 intro pins s σ H xs us Q I r h;obtain⟨W,ds,d,hd,r1,e,q⟩:=h
 match ds,e with
 |[.lst es],e =>
  cases e;obtain⟨v,r',rfl,⟨p,vs,rfl,h1,n1,q1⟩,hr⟩:=r1;cases hr;exact gW pins s σ H _ us Q I r ⟨p,vs,rfl,.inl (cK.of h1),λl hl=>q _ _ (au.new hl) (Rp.iD hd hl q1) λf=>vx hl f q1⟩
 |[.tup es],e =>
  cases e;obtain⟨v,r',rfl,⟨p,vs,rfl,h1,q1⟩,hr⟩:=r1;cases hr;exact gW pins s σ H _ us Q I r ⟨p,vs,rfl,.inr (og.of h1),λl hl=>q _ _ (au.new hl) (Rp.iD hd hl q1) λf=>vx hl f q1⟩
theorem fh:nZ X (.builtin "sorted") (λds=>match ds with | [.lst ds]=>zh [.lst ds]|_=>none):=by
 intro pins s σ H xs us Q I r h;obtain⟨W,ds,d,hd,r1,e,q⟩:=h
 match ds,e with
 |[.lst es],e =>
  have e':(match fZ es with|some ks=>if ks.length<=1000000 then some (D.lst ((d3 ks).map kD)) else none|none=>none)=some d:=e
  cases ek:fZ es with
  |none=>rw[ek]at e';cases e'
  |some ks =>
   rw[ek]at e';obtain⟨hl,rfl⟩:=ff e';obtain⟨rfl,hk⟩:=pG ek;obtain⟨x,rfl,p,vs,rfl,hp,n1,q1⟩:=g_ r1;obtain⟨ts,rfl,T,rfl⟩:=lX hk q1;refine nO pins s σ H _ us Q I r ⟨p,ts,rfl,cK.of hp,T,by simpa using hl,λl mN yH Ka QA=>?_⟩
   have eq:mN.map (·.2)=d3 (ts.map (·.2)):=xc (Ka.map _) (T8.mpr QA);rw[<- eq]at q;have rk:=il (P:=X.prog) (w:=X.w) (W:=W) (H:=H) (ts:=mN) λt ht=>(T t (Ka.mem_iff.mp ht)).1;exact q _ _ (au.new yH) (Rp.iD hd yH rk) λf=>vx yH f rk
end
section
end
end L2
namespace L2.Q
open PySem PySem.Spec PySem.SeqAt PyProof.Rows
section
variable (P:SW)(w:S_)(H:Hp)
mutual
def Own:D->V->List Addr->Prop
 |.tup ds,v,A=>∃a vs,v=.ref a/\H a=some (.tup vs)/\aH ds vs A
 |.lst ds,v,A=>∃a vs A',v=.ref a/\H a=some (.lst vs)/\A=a::A'/\aH ds vs A'
 |.dT ks ds,v,A=>∃a vs A',v=.ref a/\H a=some (.dT (ks.zip vs))/\ks.length=vs.length/\A=a::A'/\aH ds vs A'
 |.dK ks ds,v,A=>∃a vs A',v=.ref a/\H a=some (.dK (ks.zip vs))/\ks.length=vs.length/\A=a::A'/\aH ds vs A'
 |.sT ts,v,A=>∃a,v=.ref a/\Co P w H a ts/\A=[a]
 |.ob φ,v,A=>∃a,v=.ref a/\(H a=some (φ a)/\∀xs,φ a≠.tup xs)/\A=[a]
 |.bJ,v,A=>v=.bJ/\A=[]
 |.bl b,v,A=>v=.bl b/\A=[]
 |.int i,v,A=>v=.int i/\A=[]
 |.str x,v,A=>v=.str x/\A=[]
 |.obj a,v,A=>v=.ref a/\A=[]
def aH:List D->List V->List Addr->Prop
 |[],vs,A=>vs=[]/\A=[]
 |d::ds,vs,A=>∃v r A1 A2,vs=v::r/\A=A1++A2/\Own d v A1/\aH ds r A2
end
end
section
variable {P:SW}{w:S_}{W:Addr->Prop}{H H':Hp}
theorem u6 {a:Addr}{ts:List (List Int)}(k:∀b xs,H b=some (.tup xs)->H' b=some (.tup xs))(ha:∀o,H a=some o->H' a=some o)(h:Co P w H a ts):Co P w H' a ts :=
 let ⟨mN,e,r,z⟩:=h;⟨mN,ha _ e,λx hx=>k _ _ (r x hx),z⟩
mutual
theorem Own.keep (k:∀b xs,H b=some (.tup xs)->H' b=some (.tup xs)):∀{d:D} {v:V} {A:List Addr},(∀c∈A,∀o,H c=some o->H' c=some o)->Own P w H d v A->Own P w H' d v A
 |.tup ds,_,_,ha,⟨a,vs,e,t,r⟩=>⟨a,vs,e,k a vs t,aH.keep k ha r⟩
 |.lst ds,_,_,ha,⟨a,vs,A',e,t,eA,r⟩=>⟨a,vs,A',e,ha a (by rw[eA];simp) _ t,eA,aH.keep k (λc hc=>ha c (by rw[eA];simp[hc])) r⟩
 |.dT ks ds,_,_,ha,⟨a,vs,A',e,t,l,eA,r⟩=>⟨a,vs,A',e,ha a (by rw[eA];simp) _ t,l,eA,aH.keep k (λc hc=>ha c (by rw[eA];simp[hc])) r⟩
 |.dK ks ds,_,_,ha,⟨a,vs,A',e,t,l,eA,r⟩=>⟨a,vs,A',e,ha a (by rw[eA];simp) _ t,l,eA,aH.keep k (λc hc=>ha c (by rw[eA];simp[hc])) r⟩
 |.sT ts,_,_,ha,⟨a,e,r,eA⟩=>⟨a,e,u6 k (λo ho=>ha a (by rw[eA];simp) o ho) r,eA⟩
 |.ob φ,_,_,ha,⟨a,e,r,eA⟩=>⟨a,e,⟨ha a (by rw[eA];simp) _ r.1,r.2⟩,eA⟩
 |.bJ,_,_,_,h=>h
 |.bl _,_,_,_,h=>h
 |.int _,_,_,_,h=>h
 |.str _,_,_,_,h=>h
 |.obj _,_,_,_,h=>h
theorem aH.keep (k:∀b xs,H b=some (.tup xs)->H' b=some (.tup xs)):∀{ds:List D} {vs:List V} {A:List Addr},(∀c∈A,∀o,H c=some o->H' c=some o)->aH P w H ds vs A->aH P w H' ds vs A
 |[],_,_,_,h=>h
 |d::ds,_,_,ha,⟨v,r,A1,A2,e,eA,h1,h2⟩=>⟨v,r,A1,A2,e,eA,Own.keep k (λc hc=>ha c (by rw[eA];simp[hc])) h1,aH.keep k (λc hc=>ha c (by rw[eA];simp[hc])) h2⟩
end
mutual
theorem Own.rep:∀{d:D} {v:V} {A:List Addr},(∀c∈A,¬ W c)->Own P w H d v A->ar P w W H d v
 |.tup ds,_,_,ha,⟨a,vs,e,t,r⟩=>⟨a,vs,e,t,aH.rep ha r⟩
 |.lst ds,_,_,ha,⟨a,vs,A',e,t,eA,r⟩=>⟨a,vs,e,t,ha a (by rw[eA];simp),aH.rep (λc hc=>ha c (by rw[eA];simp[hc])) r⟩
 |.dT ks ds,_,_,ha,⟨a,vs,A',e,t,l,eA,r⟩=>⟨a,vs,e,t,l,ha a (by rw[eA];simp),aH.rep (λc hc=>ha c (by rw[eA];simp[hc])) r⟩
 |.dK ks ds,_,_,ha,⟨a,vs,A',e,t,l,eA,r⟩=>⟨a,vs,e,t,l,ha a (by rw[eA];simp),aH.rep (λc hc=>ha c (by rw[eA];simp[hc])) r⟩
 |.sT ts,_,_,ha,⟨a,e,r,eA⟩=>⟨a,e,r,ha a (by rw[eA];simp)⟩
 |.ob φ,_,_,ha,⟨a,e,r,eA⟩=>⟨a,e,r,ha a (by rw[eA];simp)⟩
 |.bJ,_,_,_,h=>h.1
 |.bl _,_,_,_,h=>h.1
 |.int _,_,_,_,h=>h.1
 |.str _,_,_,_,h=>h.1
 |.obj _,_,_,_,h=>h.1
theorem aH.rep:∀{ds:List D} {vs:List V} {A:List Addr},(∀c∈A,¬ W c)->aH P w H ds vs A->ag P w W H ds vs
 |[],_,_,_,h=>h.1
 |d::ds,_,_,ha,⟨v,r,A1,A2,e,eA,h1,h2⟩=>⟨v,r,e,Own.rep (λc hc=>ha c (by rw[eA];simp[hc])) h1,aH.rep (λc hc=>ha c (by rw[eA];simp[hc])) h2⟩
end
mutual
theorem Own.kU:∀{d:D} {v:V} {A:List Addr},Own P w H d v A->∀c∈A,H c≠none/\∀xs,H c≠some (.tup xs)
 |.tup ds,_,_,⟨a,vs,e,t,r⟩,c,hc=>aH.kU r c hc
 |.lst ds,_,_,⟨a,vs,A',e,t,eA,r⟩,c,hc=>by
  rw[eA]at hc;rcases S5.mp hc with rfl|hc
  ·rw[t];exact⟨λz=>(nomatch z),λxs z=>by cases z⟩
  ·exact aH.kU r c hc
 |.dT ks ds,_,_,⟨a,vs,A',e,t,l,eA,r⟩,c,hc=>by
  rw[eA]at hc;rcases S5.mp hc with rfl|hc
  ·rw[t];exact⟨λz=>(nomatch z),λxs z=>by cases z⟩
  ·exact aH.kU r c hc
 |.dK ks ds,_,_,⟨a,vs,A',e,t,l,eA,r⟩,c,hc=>by
  rw[eA]at hc;rcases S5.mp hc with rfl|hc
  ·rw[t];exact⟨λz=>(nomatch z),λxs z=>by cases z⟩
  ·exact aH.kU r c hc
 |.sT ts,_,_,⟨a,e,⟨mN,t,r,z⟩,eA⟩,c,hc=>by
  rw[eA]at hc;rw[S3.mp hc,t];exact⟨λz=>(nomatch z),λxs z=>by cases z⟩
 |.ob φ,_,_,⟨a,e,⟨t,z⟩,eA⟩,c,hc=>by
  rw[eA]at hc;rw[S3.mp hc,t];exact⟨λz=>(nomatch z),λxs q=>z xs (TJ q)⟩
 |.bJ,_,_,h,c,hc=>by rw[h.2]at hc;cases hc
 |.bl _,_,_,h,c,hc=>by rw[h.2]at hc;cases hc
 |.int _,_,_,h,c,hc=>by rw[h.2]at hc;cases hc
 |.str _,_,_,h,c,hc=>by rw[h.2]at hc;cases hc
 |.obj _,_,_,h,c,hc=>by rw[h.2]at hc;cases hc
theorem aH.kU:∀{ds:List D} {vs:List V} {A:List Addr},aH P w H ds vs A->∀c∈A,H c≠none/\∀xs,H c≠some (.tup xs)
 |[],_,_,h,c,hc=>by rw[h.2]at hc;cases hc
 |d::ds,_,_,⟨v,r,A1,A2,e,eA,h1,h2⟩,c,hc=>by
  rw[eA]at hc;rcases S9.mp hc with hc|hc
  ·exact Own.kU h1 c hc
  ·exact aH.kU h2 c hc
end
mutual
theorem eJ:∀{d:D} {v:V},d.flat=true->ar P w W H d v->Own P w H d v []
 |.tup ds,_,f,⟨a,vs,e,t,r⟩=>⟨a,vs,e,t,iw (by simpa[D.flat] using f) r⟩
 |.lst ds,_,f,_=>by simp[D.flat]at f
 |.dT ks ds,_,f,_=>by simp[D.flat]at f
 |.dK ks ds,_,f,_=>by simp[D.flat]at f
 |.sT ts,_,f,_=>by simp[D.flat]at f
 |.ob φ,_,f,_=>by simp[D.flat]at f
 |.bJ,_,_,h=>⟨h,rfl⟩
 |.bl _,_,_,h=>⟨h,rfl⟩
 |.int _,_,_,h=>⟨h,rfl⟩
 |.str _,_,_,h=>⟨h,rfl⟩
 |.obj _,_,_,h=>⟨h,rfl⟩
theorem iw:∀{ds:List D} {vs:List V},D.dS ds=true->ag P w W H ds vs->aH P w H ds vs []
 |[],_,_,h=>⟨h,rfl⟩
 |d::ds,_,f,⟨v,r,e,h1,h2⟩=>by
  have f':(d.flat&&D.dS ds)=true:=f;rw[TB]at f';exact⟨v,r,[],[],e,rfl,eJ f'.1 h1,iw f'.2 h2⟩
end
theorem aH.length:∀{ds:List D} {vs:List V} {A:List Addr},aH P w H ds vs A->vs.length=ds.length
 |[],_,_,h=>by rw[h.1];rfl
 |d::ds,_,_,⟨v,r,A1,A2,e,eA,h1,h2⟩=>by rw[e,Tv,Tv,aH.length h2]
theorem aH.append:∀{ds ds':List D} {vs vs':List V} {A A':List Addr},aH P w H ds vs A->aH P w H ds' vs' A'->aH P w H (ds++ds') (vs++vs') (A++A')
 |[],_,_,_,_,_,h,h'=>by rw[h.1,h.2];exact h'
 |d::ds,_,_,_,_,_,⟨v,r,A1,A2,e,eA,h1,h2⟩,h'=>by
  subst e eA;exact⟨v,_,A1,_,rfl,by rw[Uc],h1,aH.append h2 h'⟩
theorem aH.one {d:D}{v:V}{A:List Addr}(h:Own P w H d v A):aH P w H [d] [v] A:=⟨v,[],A,[],rfl,by simp,h,rfl,rfl⟩
theorem aH.split:∀{ds:List D} {vs:List V} {A:List Addr} {i:Nat} {d:D},aH P w H ds vs A->ds[i]?=some d->∃v A1 A2 A3,vs[i]?=some v/\A=A1++(A2++A3)/\aH P w H (ds.take i) (vs.take i) A1/\Own P w H d v A2/\aH P w H (ds.drop (i+1)) (vs.drop (i+1)) A3
 |[],_,_,_,_,_,e=>by simp at e
 |d::ds,_,_,0,_,⟨v,r,A1,A2,e,eA,h1,h2⟩,e'=>by
  simp at e';subst e' e eA;exact⟨v,[],A1,A2,by simp,by simp,⟨rfl,rfl⟩,h1,by simpa using h2⟩
 |d::ds,_,_,i+1,_,⟨v,r,A1,A2,e,eA,h1,h2⟩,e'=>by
  subst e eA;obtain⟨u,B1,B2,B3,g1,g2,g3,g4,g5⟩:=aH.split (i:=i) h2 (by simpa using e')
  exact⟨u,A1++B1,B2,B3,by simpa using g1,by rw[g2];simp[Uc],by simpa using ⟨v,_,A1,B1,rfl,rfl,h1,g3⟩,g4,by simpa using g5⟩
end
inductive Kd where
 |own|cy|old|bor
inductive Sk where
 |one|two|at (h:Addr)
inductive B where
 |val (y:Bool) (d:D)|own (d:D)|hand (ok:List Int->Prop)|shl (y:Sk) (d:D)
abbrev a9:=List (Option B)
structure Cfg where
 H0:Hp
 IO:Addr->Prop
 ro:Bool
 U:Addr->Prop:=λ_=>False
abbrev Wn (own:Nat->List Addr):Addr->Prop:=λa=>∃i,a∈own i
def av (C:Cfg)(W:Addr->Prop):Kd->Addr->Prop
 |.own,a=>W a\/C.H0 a≠none
 |.cy,a=>W a\/C.H0 a≠none
 |.old,a=>W a
 |.bor,_=>False
def fm (C:Cfg)(W:Addr->Prop)(k:Kd)(a:Addr):Prop:=av C W k a\/C.U a
abbrev yk (y:Bool):Kd:=match y with|true=>.cy|false=>.old
def DY:D->HO->List V->Prop
 |.lst _,o,vs=>o=.lst vs
 |.dT ks _,o,vs=>o=.dT (ks.zip vs)/\ks.length=vs.length
 |.dK ks _,o,vs=>o=.dK (ks.zip vs)/\ks.length=vs.length
 |_,_,_=>False
def Gu:D->List D
 |.lst ds=>ds
 |.dT _ ds=>ds
 |.dK _ ds=>ds
 |_=>[]
def Cp (P:SW)(w:S_)(W:Addr->Prop)(H:Hp):List D->List V->List Addr->Prop
 |[],vs,A=>vs=[]/\A=[]
 |d::ds,vs,A=>∃b us r A',vs=.ref b::r/\A=b::A'/\H b=some (.lst us)/\(∃es,d=.lst es/\ag P w W H es us)/\Cp P w W H ds r A'
def hZ (P:SW)(w:S_)(W:Addr->Prop)(H:Hp)(d:D)(v:V)(A:List Addr):Prop:=∃a o vs,v=.ref a/\A=[a]/\H a=some o/\DY d o vs/\ag P w W H (Gu d) vs
def wG (P:SW)(w:S_)(W:Addr->Prop)(H:Hp)(y:Sk)(d:D)(v:V)(A:List Addr):Prop:=match y with
 |.one=>hZ P w W H d v A
 |.at h=>hZ P w W H d v A/\v=.ref h
 |.two=>∃a vs A' ds,v=.ref a/\A=a::A'/\H a=some (.lst vs)/\d=.lst ds/\Cp P w W H ds vs A'
theorem Cp.map {P:SW}{w:S_}{W W':Addr->Prop}{H H':Hp}(hr:∀ds vs,ag P w W H ds vs->ag P w W' H' ds vs):∀{ds:List D} {vs:List V} {A:List Addr},(∀c∈A,∀o,H c=some o->H' c=some o)->Cp P w W H ds vs A->Cp P w W' H' ds vs A
 |[],_,_,_,h=>h
 |_::_,_,_,ha,⟨b,us,r,A',e1,e2,e3,⟨es,e4,e5⟩,h⟩=>⟨b,us,r,A',e1,e2,ha b (by rw[e2];simp) _ e3,⟨es,e4,hr _ _ e5⟩,Cp.map hr (λc hc=>ha c (by rw[e2];simp[hc])) h⟩
theorem Cp.rep {P:SW}{w:S_}{W W':Addr->Prop}{H:Hp}(hs:∀ds vs,ag P w W H ds vs->ag P w W' H ds vs):∀{ds:List D} {vs:List V} {A:List Addr},(∀c∈A,¬ W' c)->Cp P w W H ds vs A->ag P w W' H ds vs
 |[],_,_,_,h=>h.1
 |_::_,_,_,ha,⟨b,us,r,A',e1,e2,e3,⟨es,e4,e5⟩,h⟩=>by
  subst e1 e2 e4;exact⟨.ref b,r,rfl,⟨b,us,rfl,e3,ha b (by simp),hs _ _ e5⟩,Cp.rep hs (λc hc=>ha c (by simp[hc])) h⟩
theorem hZ.map {P:SW}{w:S_}{W W':Addr->Prop}{H H':Hp}{d:D}{v:V}{A:List Addr}(h:hZ P w W H d v A)(ha:∀c∈A,∀o,H c=some o->H' c=some o)(hr:∀ds vs,ag P w W H ds vs->ag P w W' H' ds vs):hZ P w W' H' d v A :=
 let ⟨a,o,vs,e1,e2,e3,e4,r⟩:=h;⟨a,o,vs,e1,e2,ha a (by rw[e2];simp) o e3,e4,hr _ _ r⟩
theorem wG.map {P:SW}{w:S_}{W W':Addr->Prop}{H H':Hp}{y:Sk}{d:D}{v:V}{A:List Addr}(h:wG P w W H y d v A)(ha:∀c∈A,∀o,H c=some o->H' c=some o)(hr:∀ds vs,ag P w W H ds vs->ag P w W' H' ds vs):wG P w W' H' y d v A:=by
 cases y with
 |one=>exact hZ.map h ha hr
 | «at» b=>exact⟨hZ.map h.1 ha hr,h.2⟩
 |two =>
  obtain⟨a,vs,A',ds,e1,e2,e3,e4,r⟩:=h;exact⟨a,vs,A',ds,e1,e2,ha a (by rw[e2];simp) _ e3,e4,r.map hr λc hc=>ha c (by rw[e2];simp[hc])⟩
theorem hZ.rep {P:SW}{w:S_}{W W':Addr->Prop}{H:Hp}{d:D}{v:V}{A:List Addr}(h:hZ P w W H d v A)(ha:∀c∈A,¬ W' c)(hs:∀ds vs,ag P w W H ds vs->ag P w W' H ds vs):ar P w W' H d v:=by
 obtain⟨a,o,vs,rfl,rfl,e,sh,r⟩:=h;have na:=ha a (by simp)
 replace r:=hs _ _ r;cases d with
 |lst ds=>cases sh;exact⟨a,vs,rfl,e,na,r⟩
 |dT ks ds=>obtain⟨rfl,l⟩:=sh;exact⟨a,vs,rfl,e,l,na,r⟩
 |dK ks ds=>obtain⟨rfl,l⟩:=sh;exact⟨a,vs,rfl,e,l,na,r⟩
 |_=>exact sh.elim
theorem wG.rep {P:SW}{w:S_}{W W':Addr->Prop}{H:Hp}{y:Sk}{d:D}{v:V}{A:List Addr}(h:wG P w W H y d v A)(ha:∀c∈A,¬ W' c)(hs:∀ds vs,ag P w W H ds vs->ag P w W' H ds vs):ar P w W' H d v:=by
 cases y with
 |one=>exact hZ.rep h ha hs
 | «at» b=>exact hZ.rep h.1 ha hs
 |two =>
  obtain⟨a,vs,A',ds,rfl,rfl,e3,rfl,r⟩:=h;exact⟨a,vs,rfl,e3,ha a (by simp),r.rep hs λc hc=>ha c (by simp[hc])⟩
structure bD (P:SW)(w:S_)(C:Cfg)(σ:St)(H:Hp)(β:a9)(own:Nat->List Addr):Prop where
 len:β.length=σ.length
 val:∀(i:Nat) (y:Bool) (d:D),β[i]?=some (some (.val y d))->∃v,σ[i]?=some (some v)/\ar P w (fm C (Wn own) (yk y)) H d v
 ow:∀(i:Nat) (d:D),β[i]?=some (some (.own d))->∃v,σ[i]?=some (some v)/\Own P w H d v (own i)/\∀c∈own i,C.H0 c=none
 nF:∀(i:Nat) (ok:List Int->Prop),β[i]?=some (some (.hand ok))->∃a ns,σ[i]?=some (some (.ref a))/\H a=some (.lst (ns.map V.int))/\ok ns/\own i=[a]/\((∀b,¬ C.IO b)\/C.IO a)
 dm:∀(i:Nat) (a:Addr),a∈own i->H a≠none/\(∀xs,H a≠some (.tup xs))/\(C.H0 a=none\/C.IO a)/\¬ C.U a
 ja:∀(i j:Nat) (a:Addr),a∈own i->a∈own j->i=j
 kS:∀i,(own i).Nodup
 kp:Kp C.IO C.H0 H
 f6:∀a,C.H0 a≠none->H a≠none
 shl:∀(i:Nat) (y:Sk) (d:D),β[i]?=some (some (.shl y d))->∃v,σ[i]?=some (some v)/\wG P w (fm C (Wn own) (yk true)) H y d v (own i)/\∀c∈own i,C.H0 c=none
abbrev SQ (X:Cx):=bD X.prog X.w
section
variable {P:SW}{w:S_}{C:Cfg}{σ:St}{H H':Hp}{β:a9}{own:Nat->List Addr}{W W':Addr->Prop}
theorem bD.uF (b:bD P w C σ H β own):Dm (Wn own) H:=λa ⟨i,h⟩=>(b.dm i a h).1
theorem bD.BX (b:bD P w C σ H β own)(k:Kd):Dm (av C (Wn own) k) H:=λa h=>by
 cases k with
 |own=>exact h.elim (b.uF a) (b.f6 a)
 |cy=>exact h.elim (b.uF a) (b.f6 a)
 |old=>exact b.uF a h
 |bor=>exact h.elim
theorem gZ (s:∀a,W' a->W a)(k:Kd):∀a,av C W' k a->av C W k a:=λa h=>by
 cases k with
 |own=>exact h.imp (s a) id
 |cy=>exact h.imp (s a) id
 |old=>exact s a h
 |bor=>exact h
theorem gY (s:∀a,W' a->W a)(k:Kd):∀a,fm C W' k a->fm C W k a:=λa h=>h.imp (gZ s k a) id
theorem bD.keep (b:bD P w C σ H β own)(k:Kp (λa=>H a=none) H H')(kp:Kp C.IO H H')(dn:∀a,H a≠none->H' a≠none):bD P w C σ H' β own:=by
 have ko:∀c o,H c=some o->H' c=some o:=λc o e=>k.out c o e (by rw[e];exact λz=>(nomatch z))
 have same:au H H':=ko;exact⟨b.len,λi y d e=>let ⟨v,h1,h2⟩:=b.val i y d e;⟨v,h1,h2.same same⟩,λi d e=>let ⟨v,h1,h2,h3⟩:=b.ow i d e;⟨v,h1,h2.keep (λ_ _ e=>same _ _ e) (λc _ o e=>same c o e),h3⟩,
  λi ok e=>let ⟨a,ns,h1,h2,h3⟩:=b.nF i ok e;⟨a,ns,h1,same _ _ h2,h3⟩,λi a h=>by
   obtain⟨h1,h2,h3⟩:=b.dm i a h;cases q:H a with
   |none=>exact absurd q h1
   |some o=>rw[same a o q];exact⟨λz=>(nomatch z),λxs z=>h2 xs (by rw[q];exact z),h3⟩,b.ja,b.kS,b.kp.trans kp,λa z=>dn a (b.f6 a z),λi y d e=>let ⟨v,h1,h2,h3⟩:=b.shl i y d e;⟨v,h1,h2.map (λc _ o e=>same c o e) (λ_ _ r=>r.same same),h3⟩⟩
theorem bD.same (b:bD P w C σ H β own)(s:au H H'):bD P w C σ H' β own:=b.keep s.kp s.kp λa z e=>z (s.free e)
theorem dX {own:Nat->List Addr}{i:Nat}{a:Addr}(h:Wn (aI own i []) a):Wn own a:=let ⟨j,q⟩:=h;⟨j,(bQ q).1⟩
theorem bf {own:Nat->List Addr}{i j:Nat}{A:List Addr}(h:i≠j):aI own i A j=own j:=by unfold aI;rw[if_neg (U_ h)]
theorem os_eq {own:Nat->List Addr}{i:Nat}{A:List Addr}:aI own i A i=A:=by unfold aI;rw[if_pos rfl]
theorem bD.d4 {i:Nat}{d:D}{v:V}{y:Bool}(b:bD P w C σ H β own)(r:ar P w (fm C (Wn own) (yk y)) H d v):bD P w C (σ.set i (some v)) H (β.set i (some (.val y d))) (aI own i []):=by
 have sub:∀y a,fm C (Wn (aI own i [])) (yk y) a->fm C (Wn own) (yk y) a:=λy=>gY (λa h=>dX h) _;refine⟨by simp[b.len],λj y' d' e=>?_,λj d' e=>?_,λj ok e=>?_,λj a h=>b.dm j a (bQ h).1,λj k a h1 h2=>b.ja j k a (bQ h1).1 (bQ h2).1,λj=>?_,b.kp,b.f6,λj y' d' e=>?_⟩
 ·by_cases aE:i=j
  ·subst aE;obtain⟨e',hl⟩:=aX e;cases e';exact⟨v,get_set (by rw[<- b.len];exact hl),r.aN (sub _)⟩
  ·rw[aQ aE]at e ⊢
   obtain⟨u,h1,h2⟩:=b.val j y' d' e;exact⟨u,h1,h2.aN (sub _)⟩
 ·by_cases aE:i=j
  ·subst aE;obtain⟨e',hl⟩:=aX e;cases e'
  ·rw[aQ aE]at e ⊢
   rw[bf aE];exact b.ow j d' e
 ·by_cases aE:i=j
  ·subst aE;obtain⟨e',hl⟩:=aX e;cases e'
  ·rw[aQ aE]at e ⊢
   rw[bf aE];exact b.nF j ok e
 ·by_cases aE:i=j
  ·rw[aE,os_eq];exact T4
  ·rw[bf aE];exact b.kS j
 ·by_cases aE:i=j
  ·subst aE;obtain⟨e',hl⟩:=aX e;cases e'
  ·rw[aQ aE]at e ⊢
   rw[bf aE];obtain⟨u,h1,h2,h3⟩:=b.shl j y' d' e;exact⟨u,h1,h2.map (λ_ _ _ z=>z) (λ_ _ r=>ag.aN (sub _) r),h3⟩
theorem bD.jQ {i:Nat}{d:D}{v:V}{A:List Addr}(b:bD P w C σ H β own)(r:Own P w H d v A)(nd:A.Nodup)(nw:∀c∈A,C.H0 c=none/\¬ Wn own c/\C.U c):
  bD P w {C with U:=λ_=>False} (σ.set i (some v)) H (β.set i (some (.own d))) (aI own i A):=by
 have sub:∀y a,fm {C with U:=λ_=>False} (Wn (aI own i A)) (yk y) a->fm C (Wn own) (yk y) a:=λy a h=>by
  have q:∀a,Wn (aI own i A) a->Wn own a\/a∈A:=λa kl=>by
   obtain⟨j,q⟩:=kl
   by_cases aE:i=j
   ·rw[aE,os_eq]at q;exact .inr q
   ·rw[bf aE]at q;exact .inl ⟨j,q⟩
  have q':∀a,Wn (aI own i A) a->Wn own a\/C.U a:=λa z=>(q a z).imp id λz=>(nw a z).2.2;rcases h with h|h
  ·cases y with
   |true=>exact h.elim (λz=>(q' a z).imp .inl id) λz=>.inl (.inr z)
   |false=>exact q' a h
  ·exact h.elim
 have mem:∀{j c},c∈aI own i A j->(i=j/\c∈A)\/(i≠j/\c∈own j):=λ{j c} h=>by
  by_cases aE:i=j
  ·subst aE;rw[os_eq]at h;exact .inl ⟨rfl,h⟩
  ·rw[bf aE]at h;exact .inr ⟨aE,h⟩
 refine⟨by simp[b.len],λj y' d' e=>?_,λj d' e=>?_,λj ok e=>?_,λj a h=>?_,λj k a h1 h2=>?_,λj=>?_,b.kp,b.f6,λj y' d' e=>?_⟩
 ·by_cases aE:i=j
  ·subst aE;obtain⟨e',hl⟩:=aX e;cases e'
  ·rw[aQ aE]at e ⊢
   obtain⟨u,h1,h2⟩:=b.val j y' d' e;exact⟨u,h1,h2.aN (sub _)⟩
 ·by_cases aE:i=j
  ·subst aE;obtain⟨e',hl⟩:=aX e;cases e';rw[os_eq];exact⟨v,get_set (by rw[<- b.len];exact hl),r,λc hc=>(nw c hc).1⟩
  ·rw[aQ aE]at e ⊢
   rw[bf aE];exact b.ow j d' e
 ·by_cases aE:i=j
  ·subst aE;obtain⟨e',hl⟩:=aX e;cases e'
  ·rw[aQ aE]at e ⊢
   rw[bf aE];exact b.nF j ok e
 ·rcases mem h with⟨_,h⟩|⟨_,h⟩
  ·exact⟨(r.kU a h).1,(r.kU a h).2,.inl (nw a h).1,λz=>z⟩
  ·exact⟨(b.dm j a h).1,(b.dm j a h).2.1,(b.dm j a h).2.2.1,λz=>z⟩
 ·rcases mem h1 with⟨e1,h1⟩|⟨n1,h1⟩
  ·rcases mem h2 with⟨e2,h2⟩|⟨n2,h2⟩
   ·rw[<- e1,<- e2]
   ·exact absurd ⟨k,h2⟩ (nw a h1).2.1
  ·rcases mem h2 with⟨e2,h2⟩|⟨n2,h2⟩
   ·exact absurd ⟨j,h1⟩ (nw a h2).2.1
   ·exact b.ja j k a h1 h2
 ·by_cases aE:i=j
  ·rw[<- aE,os_eq];exact nd
  ·rw[bf aE];exact b.kS j
 ·by_cases aE:i=j
  ·subst aE;obtain⟨e',hl⟩:=aX e;cases e'
  ·rw[aQ aE]at e ⊢
   rw[bf aE];obtain⟨u,h1,h2,h3⟩:=b.shl j y' d' e;exact⟨u,h1,h2.map (λ_ _ _ z=>z) (λ_ _ r=>ag.aN (sub _) r),h3⟩
theorem bD.freeze {i:Nat}{d:D}(b:bD P w C σ H β own)(h:β[i]?=some (some (.own d))):bD P w C σ H (β.set i (some (.val true d))) (aI own i []):=by
 obtain⟨v,h1,h2,h3⟩:=b.ow i d h;have e:σ.set i (some v)=σ:=by
  apply VR;intro j;rw[VQ]
  by_cases aE:i=j
  ·subst aE;rw[if_pos rfl,h1];have:i<σ.length:=(SY.mp h1).1;rw[if_pos this]
  ·rw[if_neg aE]
 have q:=bD.d4 (i:=i) (d:=d) (v:=v) (y:=true) (own:=aI own i []) (C:=C) (P:=P) (w:=w) (σ:=σ) (H:=H) (β:=β.set i none);have b':bD P w C σ H (β.set i none) (aI own i []):=by
  have sub:∀y a,fm C (Wn (aI own i [])) (yk y) a->fm C (Wn own) (yk y) a:=λy=>gY (λa h=>dX h) _;refine⟨by simp[b.len],λj y' d' e=>?_,λj d' e=>?_,λj ok e=>?_,λj a h=>b.dm j a (bQ h).1,λj k a h1 h2=>b.ja j k a (bQ h1).1 (bQ h2).1,λj=>?_,b.kp,b.f6,λj y' d' e=>?_⟩
  ·by_cases aE:i=j
   ·subst aE;obtain⟨e',hl⟩:=aX e;cases e'
   ·rw[aQ aE]at e;obtain⟨u,h1,h2⟩:=b.val j y' d' e;exact⟨u,h1,h2.aN (sub _)⟩
  ·by_cases aE:i=j
   ·subst aE;obtain⟨e',hl⟩:=aX e;cases e'
   ·rw[aQ aE]at e;rw[bf aE];exact b.ow j d' e
  ·by_cases aE:i=j
   ·subst aE;obtain⟨e',hl⟩:=aX e;cases e'
   ·rw[aQ aE]at e;rw[bf aE];exact b.nF j ok e
  ·by_cases aE:i=j
   ·rw[aE,os_eq];exact T4
   ·rw[bf aE];exact b.kS j
  ·by_cases aE:i=j
   ·subst aE;obtain⟨e',hl⟩:=aX e;cases e'
   ·rw[aQ aE]at e;rw[bf aE];obtain⟨u,h1,h2,h3⟩:=b.shl j y' d' e;exact⟨u,h1,h2.map (λ_ _ _ z=>z) (λ_ _ r=>ag.aN (sub _) r),h3⟩
 have q:=bD.d4 (i:=i) (d:=d) (v:=v) (y:=true) b' (h2.rep λc hc z=>by
  rcases z with (z|z)|z
  ·obtain⟨j,hj⟩:=z;obtain⟨hj,ne⟩:=bQ hj;exact ne (b.ja j i c hj hc)
  ·exact z (h3 c hc)
  ·exact(b.dm i c hc).2.2.2 z)
 rw[e,V7]at q;have eo:aI (aI own i []) i []=aI own i []:=by
  funext j
  by_cases aE:i=j
  ·rw[<- aE,os_eq,os_eq]
  ·rw[bf aE,bf aE]
 rwa [eo]at q
abbrev Cfg.u (C:Cfg)(U:Addr->Prop):Cfg:={C with U:=U}
theorem bD.gy {U:Addr->Prop}(b:bD P w C σ H β own)(hU:∀a,U a->H a=none):bD P w (C.u U) σ H β own :=
 ⟨b.len,λi y d e=>let ⟨v,h1,h2⟩:=b.val i y d e;⟨v,h1,ar.grow (λa z=>z.elim (λz=>.inl (.inl z)) λz=>.inr (hU a z)) h2⟩,b.ow,b.nF,λi a h=>let ⟨h1,h2,h3,_⟩:=b.dm i a h;⟨h1,h2,h3,λz=>h1 (hU a z)⟩,b.ja,b.kS,b.kp,b.f6,λi y d e=>let ⟨v,h1,h2,h3⟩:=b.shl i y d e;⟨v,h1,h2.map (λ_ _ _ z=>z) (λ_ _ r=>ag.grow (λa z=>z.elim (λz=>.inl (.inl z)) λz=>.inr (hU a z)) r),h3⟩⟩
theorem bD.N5 {U:Addr->Prop}(b:bD P w (C.u U) σ H β own):bD P w (C.u λ_=>False) σ H β own :=
 ⟨b.len,λi y d e=>let ⟨v,h1,h2⟩:=b.val i y d e;⟨v,h1,ar.aN (λa z=>z.elim .inl λz=>z.elim) h2⟩,b.ow,b.nF,λi a h=>let ⟨h1,h2,h3,_⟩:=b.dm i a h;⟨h1,h2,h3,λz=>z⟩,b.ja,b.kS,b.kp,b.f6,λi y d e=>let ⟨v,h1,h2,h3⟩:=b.shl i y d e;⟨v,h1,h2.map (λ_ _ _ z=>z) (λ_ _ r=>ag.aN (λa z=>z.elim .inl λz=>z.elim) r),h3⟩⟩
theorem bD.GV {i:Nat}{y:Bool}{d:D}(b:bD P w C σ H β own)(e:β[i]?=some (some (.val y d))):∃v,σ[i]?=some (some v)/\ar P w (av C (Wn own) (yk y)) H d v:=let ⟨v,h1,h2⟩:=b.val i y d e;⟨v,h1,ar.aN (λa z=>.inl z) h2⟩
end
def KV (P:SW)(w:S_)(C:Cfg)(Z:Hp×(Addr->Prop))(own:Nat->List Addr)(H:Hp):Kd->D->V->Prop
 |.own,d,v=>∃A,Own P w H d v A/\A.Nodup/\∀c∈A,Z.1 c=none/\¬ Wn own c/\C.H0 c=none
 |.cy,d,v=>ar P w (av C (Wn own) .cy) H d v
 |.old,d,v=>ar P w (av C (Wn own) .old) H d v
 |.bor,d,v=>ar P w (av C (Wn own) .bor) H d v
structure Nq (P:SW)(w:S_)(C:Cfg)(σ:St)(H:Hp)(own:Nat->List Addr)(p:Bool)(β':a9)(H':Hp)(aK:Nat->List Addr):Prop where
 sq:bD P w C σ H' β' aK
 sn:Sn (H,Wn own) H' (Wn aK)
 pu:p=true->au H H'/\aK=own
 le:∀a,Wn aK a->Wn own a
abbrev Out (X:Cx):=Nq X.prog X.w
section
variable {X:Cx}{C:Cfg}{σ:St}{H H1 H2 H':Hp}{own aA aP:Nat->List Addr}{p p':Bool}{β β1 β2 β':a9}{Z:Hp×(Addr->Prop)}{d:D}{v:V}{k:Kd}{P:SW}{w:S_}
theorem Out.refl (s:SQ X C σ H β own)(p:Bool):Out X C σ H own p β H own:=⟨s,Sn.refl,λ_=>⟨au.refl _,rfl⟩,λ_ z=>z⟩
theorem Out.trans (a:Out X C σ H own p β1 H1 aA)(b:Out X C σ H1 aA p' β2 H2 aP):Out X C σ H own (p&&p') β2 H2 aP:=⟨b.sq,a.sn.trans b.sn,λh=>by
 rw[TB]at h;obtain⟨s1,e1⟩:=a.pu h.1;obtain⟨s2,e2⟩:=b.pu h.2;exact⟨s1.trans s2,e2.trans e1⟩,λc z=>a.le c (b.le c z)⟩
theorem Out.same (a:Out X C σ H own p β1 H1 aA)(s:au H1 H2):Out X C σ H own p β1 H2 aA:=⟨a.sq.same s,a.sn.same s,λh=>let ⟨s1,e1⟩:=a.pu h;⟨s1.trans s,e1⟩,a.le⟩
theorem Out.wk (a:Out X C σ H own p β1 H1 aA)(h:p'=true->p=true):Out X C σ H own p' β1 H1 aA:=⟨a.sq,a.sn,λz=>a.pu (h z),a.le⟩
theorem Out.Kz {q:Bool}(a:Out X C σ H own p β1 H1 aA)(b:Out X C σ H1 aA p' β2 H2 aP)(h:q=true->p=true/\p'=true):Out X C σ H own q β2 H2 aP:=(a.trans b).wk λz=>by rw[(h z).1,(h z).2];rfl
theorem KV.rep (h:KV P w C Z own H k d v):ar P w (av C (Wn own) k) H d v:=by
 cases k with
 |own=>obtain⟨A,h1,h2,h3⟩:=h;exact h1.rep λc hc z=>z.elim (h3 c hc).2.1 λz=>z (h3 c hc).2.2
 |_=>exact h
theorem KV.cy (h:KV P w C Z own H .own d v):KV P w C Z own H .cy d v:=KV.rep (k:=.own) h
theorem KV.flat {W:Addr->Prop}(f:d.flat=true)(h:ar P w W H d v):KV P w C Z own H .own d v:=⟨[],eJ f h,T4,λc hc=>(nomatch hc)⟩
noncomputable abbrev Kd.wk:Kd->Kd
 |.own=>.cy
 |.cy=>.cy
 |.old=>.old
 |.bor=>.bor
abbrev Kd.max:Kd->Kd->Kd
 |.bor,_=>.bor
 |_,.bor=>.bor
 |.old,_=>.old
 |_,.old=>.old
 |_,_=>.cy
theorem cR {W:Addr->Prop}{a b:Kd}:∀c,av C W (a.max b) c->av C W a c:=λc h=>by
 cases a <;> cases b <;> first|exact h|exact h.elim|exact .inl h
theorem fk {W:Addr->Prop}{a b:Kd}:∀c,av C W (a.max b) c->av C W b c:=λc h=>by
 cases a <;> cases b <;> first|exact h|exact h.elim|exact .inl h
theorem KV.of (h:ar P w (av C (Wn own) k.wk) H d v):KV P w C Z own H k.wk d v:=by
 cases k <;> exact h
theorem KV.He (h:KV P w C Z own H k d v)(s:au H H'):KV P w C Z own H' k d v:=by
 cases k with
 |own=>obtain⟨A,h1,h2⟩:=h;exact⟨A,h1.keep (λb xs e=>s _ _ e) (λc _ o e=>s c o e),h2⟩
 |cy=>exact ar.same s h
 |old=>exact ar.same s h
 |bor=>exact ar.same s h
theorem KV.held (hk:k≠.bor)(h:KV P w C Z own H k d v)(n:Sn (H,Wn own) H2 (Wn aP)):KV P w C Z aP H2 k d v:=by
 cases k with
 |own =>
  obtain⟨A,h1,h2,h3⟩:=h;refine⟨A,h1.keep n.k.tup (λc hc o e=>n.k.out c o e λz=>z.elim (h3 c hc).2.1 λz=>(h1.kU c hc).1 z),h2,λc hc=>⟨(h3 c hc).1,λz=>(n.w c z).elim (h3 c hc).2.1 λz=>(h1.kU c hc).1 z,(h3 c hc).2.2⟩⟩
 |cy =>
  have g:ar P w (λa=>av C (Wn own) .cy a\/H a=none) H d v:=ar.grow (λb z=>z) h;exact ar.aN (λb z=>z.elim (λz=>(n.w b z).imp .inl id) λz=>.inl (.inr z)) (ar.keep (n.k.mono λb z=>z.imp .inl id) g)
 |old=>exact held (W:=Wn own) h n
 |bor=>exact absurd rfl hk
theorem KV.Jh (h:KV P w C Z own H k d v)(s:au H H2)(e:aP=own):KV P w C Z aP H2 k d v:=by rw[e];exact h.He s
abbrev hold (k:Kd)(p:Bool):Prop:=match k,p with
 |.bor,false=>False
 |_,_=>True
theorem KV.ho (h:KV P w C Z own H k d v)(o:Out X C σ H own p β' H2 aP)(hh:hold k p):KV P w C Z aP H2 k d v:=by
 cases p with
 |true=>obtain⟨s,e⟩:=o.pu rfl;exact h.Jh s e
 |false=>exact h.held (by rintro rfl;exact hh) o.sn
theorem KV.later (h:KV P w C (H1,Wn aA) own H k d v)(n:Sn Z H1 (Wn aA)):KV P w C Z own H k d v:=by
 cases k with
 |own=>obtain⟨A,h1,h2,h3⟩:=h;exact⟨A,h1,h2,λc hc=>⟨n.free (h3 c hc).1,(h3 c hc).2⟩⟩
 |_=>exact h
end
abbrev aJ:=a9->(D->Kd->a9->Prop)->Prop
abbrev aW:=a9->(Bool->a9->Prop)->Prop
abbrev cg:=a9->(List D->List Kd->a9->Prop)->Prop
def tQ (X:Cx)(C:Cfg)(p:Bool)(φ:aJ):TE:=λσ H Q=>∃β own,SQ X C σ H β own/\φ β λd k β'=>∀v H' aK,Out X C σ H own p β' H' aK->KV X.prog X.w C (H,Wn own) aK H' k d v->Q v H'
def ib (X:Cx)(C:Cfg)(p:Bool)(φ:aW):TT:=λσ H Q=>∃β own,SQ X C σ H β own/\φ β λb β'=>∀H' aK,Out X C σ H own p β' H' aK->Q b H'
def KF (P:SW)(w:S_)(C:Cfg)(own:Nat->List Addr)(H:Hp):List Kd->List D->List V->List Addr->Prop
 |[],ds,vs,A=>ds=[]/\vs=[]/\A=[]
 |k::ks,ds,vs,A=>∃d dr v vr A1 A2,ds=d::dr/\vs=v::vr/\A=A1++A2/\(match k with | .own=>Own P w H d v A1|k=>A1=[]/\ar P w (av C (Wn own) k) H d v)/\KF P w C own H ks dr vr A2
def qD (P:SW)(w:S_)(C:Cfg)(Z:Hp×(Addr->Prop))(own:Nat->List Addr)(H:Hp)(ks:List Kd)(ds:List D)(vs:List V):Prop :=
 ∃A,KF P w C own H ks ds vs A/\A.Nodup/\∀c∈A,Z.1 c=none/\¬ Wn own c/\C.H0 c=none
def qU (X:Cx)(C:Cfg)(p:Bool)(φ:cg):TA:=λσ H Q=>∃β own,SQ X C σ H β own/\φ β λds ks β'=>∀vs H' aK,Out X C σ H own p β' H' aK->qD X.prog X.w C (H,Wn own) aK H' ks ds vs->Q vs H'
section
variable {C:Cfg}{H H1:Hp}{own aA:Nat->List Addr}{Z:Hp×(Addr->Prop)}{d:D}{v:V}{k:Kd}{P:SW}{w:S_}{ks:List Kd}{ds:List D}{vs:List V}
theorem qD.nil:qD P w C Z own H [] [] []:=⟨[],⟨rfl,rfl,rfl⟩,T4,λc hc=>(nomatch hc)⟩
theorem KF.kU:∀{ks:List Kd} {ds:List D} {vs:List V} {A:List Addr},KF P w C own H ks ds vs A->∀c∈A,H c≠none
 |[],_,_,_,⟨_,_,e⟩,c,hc=>by rw[e]at hc;cases hc
 |k::ks,_,_,_,⟨d,dr,v,vr,A1,A2,rfl,rfl,rfl,h1,h2⟩,c,hc=>by
  rcases S9.mp hc with hc|hc
  ·cases k with
   |own=>exact(Own.kU h1 c hc).1
   |_=>rw[h1.1]at hc;cases hc
  ·exact KF.kU h2 c hc
theorem qD.cons (h1:KV P w C Z aA H1 k d v)(n:Sn (H1,Wn aA) H (Wn own))(n_:KV P w C Z own H k d v)(h2:qD P w C (H1,Wn aA) own H ks ds vs)(n0:Sn Z H1 (Wn aA)):qD P w C Z own H (k::ks) (d::ds) (v::vs):=by
 obtain⟨A2,f2,Bm,q2⟩:=h2;have z2:∀c∈A2,Z.1 c=none/\¬ Wn own c/\C.H0 c=none:=λc hc=>⟨n0.free (q2 c hc).1,(q2 c hc).2⟩;cases k with
 |own =>
  obtain⟨A1,o1,CN,q1⟩:=h1;obtain⟨SM,Sd,P4,NV⟩:=(show KV P w C Z own H .own d v from KV.held (k:=.own) (λz=>(nomatch z)) (⟨A1,o1,CN,q1⟩:KV P w C Z aA H1 .own d v) n)
  have Lp:Own P w H d v A1:=o1.keep n.k.tup (λc hc o e=>n.k.out c o e λz=>z.elim (q1 c hc).2.1 λz=>(o1.kU c hc).1 z);refine⟨A1++A2,⟨d,ds,v,vs,A1,A2,rfl,rfl,rfl,Lp,f2⟩,TZ.mpr ⟨CN,Bm,λa ha b hb e=>?_⟩,λc hc=>?_⟩
  ·subst e;exact(o1.kU a ha).1 (q2 a hb).1
  ·rcases S9.mp hc with hc|hc
   ·exact⟨(q1 c hc).1,λz=>(n.w c z).elim (q1 c hc).2.1 λz=>(o1.kU c hc).1 z,(q1 c hc).2.2⟩
   ·exact z2 c hc
 |cy=>exact⟨A2,⟨d,ds,v,vs,[],A2,rfl,rfl,rfl,⟨rfl,n_⟩,f2⟩,Bm,z2⟩
 |old=>exact⟨A2,⟨d,ds,v,vs,[],A2,rfl,rfl,rfl,⟨rfl,n_⟩,f2⟩,Bm,z2⟩
 |bor=>exact⟨A2,⟨d,ds,v,vs,[],A2,rfl,rfl,rfl,⟨rfl,n_⟩,f2⟩,Bm,z2⟩
abbrev fU:List Kd->Kd
 |[]=>.cy
 |k::ks=>Kd.max k (fU ks)
theorem KF.gH:∀{ks:List Kd} {ds:List D} {vs:List V} {A:List Addr},KF P w C own H ks ds vs A->(∀c∈A,¬ Wn own c/\C.H0 c=none)->ag P w (av C (Wn own) (fU ks)) H ds vs
 |[],_,_,_,⟨e1,e2,e⟩,_=>by rw[e1,e2];rfl
 |k::ks,_,_,_,⟨d,dr,v,vr,A1,A2,rfl,rfl,rfl,h1,h2⟩,hA=>by
  refine⟨v,vr,rfl,?_,ag.aN fk (KF.gH h2 λc hc=>hA c (TM _ hc))⟩;cases k with
  |own=>exact ar.aN cR (Own.rep (W:=av C (Wn own) .own) (λc hc z=>z.elim (hA c (Ut _ hc)).1 λz=>z (hA c (Ut _ hc)).2) h1)
  |cy=>exact ar.aN (cR (a:=.cy)) h1.2
  |old=>exact ar.aN (cR (a:=.old)) h1.2
  |bor=>exact ar.aN (cR (a:=.bor)) h1.2
theorem qD.gH (h:qD P w C Z own H ks ds vs):ag P w (av C (Wn own) (fU ks)) H ds vs:=let ⟨A,h1,_,h3⟩:=h;h1.gH λc hc=>(h3 c hc).2
theorem qD.bor (h:qD P w C Z own H ks ds vs):ag P w (λ_=>False) H ds vs:=ag.aN (λ_ z=>z.elim) h.gH
def uS:List Kd->List D->Prop
 |k::ks,d::ds=>(match k with | .own=>True|_=>d.flat=true)/\uS ks ds
 |_,_=>True
theorem KF.Ez:∀{ks:List Kd} {ds:List D} {vs:List V} {A:List Addr},KF P w C own H ks ds vs A->uS ks ds->aH P w H ds vs A
 |[],_,_,_,⟨e1,e2,e⟩,_=>by rw[e1,e2,e];exact⟨rfl,rfl⟩
 |k::ks,_,_,_,⟨d,dr,v,vr,A1,A2,rfl,rfl,rfl,h1,h2⟩,⟨f1,f2⟩=>by
  refine⟨v,vr,A1,A2,rfl,rfl,?_,KF.Ez h2 f2⟩;cases k with
  |own=>exact h1
  |cy=>rw[h1.1];exact eJ f1 h1.2
  |old=>rw[h1.1];exact eJ f1 h1.2
  |bor=>rw[h1.1];exact eJ f1 h1.2
theorem gQ:∀{ks:List Kd},(fU ks).wk=fU ks
 |[]=>rfl
 |k::ks=>by cases k <;> cases h:fU ks <;> simp[fU,Kd.max,h]
def yt (ks:List Kd)(ds:List D)(K:Kd->Prop):Prop:=match ks.all (λk=>match k with | .own=>true|_=>false)with
 |true=>K .own
 |false=>(uS ks ds/\K .own)\/K (fU ks)
theorem yt.mono {ks:List Kd}{ds:List D}{K K':Kd->Prop}(k:∀x,K x->K' x)(h:yt ks ds K):yt ks ds K':=by
 unfold yt at *
 split
 ·next e=>rw[e]at h;exact k _ h
 ·next e=>rw[e]at h;exact h.imp (λz=>⟨z.1,k _ z.2⟩) (k _)
theorem yt.of {ks:List Kd}{ds:List D}{K:Kd->Prop}(h:yt ks ds K):(uS ks ds/\K .own)\/K (fU ks):=by
 unfold yt at h
 split at h
 ·next e =>
  refine .inl ⟨?_,h⟩
  clear h
  induction ks generalizing ds with
  |nil=>cases ds <;> trivial
  |cons k ks ih =>
   cases ds with
   |nil=>trivial
   |cons d ds =>
    rw[List.all_cons,TB]at e;refine⟨?_,ih e.2⟩;have e1:=e.1;cases k <;> first|trivial|cases e1
 ·exact h
end
structure PQ (X:Cx)(C:Cfg)(p:Bool)(e:Expr)(φ:aJ):Prop where
 mono:∀β R R',(∀d k β,R d k β->R' d k β)->φ β R->φ β R'
 pe:PE X e (tQ X C p φ)
structure sP (X:Cx)(C:Cfg)(p:Bool)(e:Expr)(φ:aW):Prop where
 mono:∀β R R',(∀d β,R d β->R' d β)->φ β R->φ β R'
 pt:PT X e (ib X C p φ)
structure qz (X:Cx)(C:Cfg)(p:Bool)(e:Expr)(φ:aW):Prop where
 mono:∀β R R',(∀d β,R d β->R' d β)->φ β R->φ β R'
 pw:PW X e (ib X C p φ)
structure qA (X:Cx)(C:Cfg)(p:Bool)(es:List Expr)(φ:cg):Prop where
 mono:∀β R R',(∀d k β,R d k β->R' d k β)->φ β R->φ β R'
 pa:PA X es (qU X C p φ)
section
variable {X:Cx}{C:Cfg}{a b c e:Expr}{es:List Expr}{φ φa φb:aJ}{τ τa τb:aW}{φs:cg}{pos:Pos}{σ:St}{H H':Hp}{β:a9}{own:Nat->List Addr}{p p':Bool}
theorem tQ.of (h:PQ X C p e φ)(s:SQ X C σ H β own){R:D->Kd->a9->Prop}{Q:VK}(hr:φ β R)(k:∀d kd β' v H' aK,R d kd β'->Out X C σ H own p β' H' aK->KV X.prog X.w C (H,Wn own) aK H' kd d v->Q v H'):tQ X C p φ σ H Q :=
 ⟨β,own,s,h.mono β _ _ (λd kd β' hd v H' aK o r=>k d kd β' v H' aK hd o r) hr⟩
theorem ib.of (h:sP X C p e τ)(s:SQ X C σ H β own){R:Bool->a9->Prop}{Q:Bool->Hp->Prop}(hr:τ β R)(k:∀t β' H' aK,R t β'->Out X C σ H own p β' H' aK->Q t H'):ib X C p τ σ H Q :=
 ⟨β,own,s,h.mono β _ _ (λt β' hd H' aK o=>k t β' H' aK hd o) hr⟩
theorem qU.of (h:qA X C p es φs)(s:SQ X C σ H β own){R:List D->List Kd->a9->Prop}{Q:List V->Hp->Prop}(hr:φs β R)(k:∀ds ks β' vs H' aK,R ds ks β'->Out X C σ H own p β' H' aK->qD X.prog X.w C (H,Wn own) aK H' ks ds vs->Q vs H'):qU X C p φs σ H Q :=
 ⟨β,own,s,h.mono β _ _ (λd kd β' hd v H' aK o r=>k d kd β' v H' aK hd o r) hr⟩
theorem qz.t (h:qz X C p e τ):sP X C p e τ:=⟨h.mono,h.pw.pt⟩
noncomputable abbrev vk (y:Bool):D->Kd
 |.int _=>.own
 |.bl _=>.own
 |.bJ=>.own
 |.str _=>.own
 |_=>yk y
def qB:B->(D->Kd->Prop)->Prop
 |.val y d,K=>K d (vk y d)
 |.own d,K=>K d .bor
 |.hand _,_=>False
 |.shl _ _,_=>False
def AE (i:Nat):aJ:=λβ R=>∃b,β[i]?=some (some b)/\qB b λd k=>R d k β
theorem E7 {P:SW}{w:S_}{Z:Hp×(Addr->Prop)}{y:Bool}{d:D}{v:V}(h:ar P w (av C (Wn own) (yk y)) H d v):KV P w C Z own H (vk y d) d v:=by
 cases d with
 |int i=>exact KV.flat rfl h
 |bl i=>exact KV.flat rfl h
 |bJ=>exact KV.flat rfl h
 |str i=>exact KV.flat rfl h
 |_=>cases y <;> exact h
theorem ae {i:Nat}{x:Str}(hn:Nm X i x:=by exact rH):
  PQ X C true (.Name x pos) (AE i):=⟨λβ R R' k kl=>by obtain⟨b,e,h⟩:=kl;exact⟨b,e,by cases b <;> first|exact k _ _ _ h|exact h⟩,(du hn).pre λσ H Q pN=>by
 obtain⟨β,own,s,b,e,q⟩:=pN;cases b with
 |val y d=>obtain⟨v,h1,h2⟩:=s.GV e;exact⟨v,h1,q v H own (Out.refl s _) (E7 h2)⟩
 |own d=>obtain⟨v,h1,h2,h3⟩:=s.ow i d e;exact⟨v,h1,q v H own (Out.refl s _) (h2.rep λ_ _ z=>z)⟩
 |hand ok=>exact q.elim
 |shl _ _=>exact q.elim⟩
def Lk (i:Nat):aJ:=λβ R=>∃d,β[i]?=some (some (.own d))/\R d .cy (β.set i (some (.val true d)))
theorem Es {i:Nat}{x:Str}(hn:Nm X i x:=by exact rH):
  PQ X C false (.Name x pos) (Lk i):=⟨λβ R R' k yC=>by obtain⟨b,e,h⟩:=yC;exact⟨b,e,k _ _ _ h⟩,(du hn).pre λσ H Q yB=>by
 obtain⟨β,own,s,d,e,q⟩:=yB;have f:=s.freeze e;obtain⟨v,h1,h2⟩:=f.GV (y:=true) (get_set (by rw[s.len];obtain⟨v,h1,_⟩:=s.ow i d e;exact(SY.mp h1).1))
 exact⟨v,h1,q v H _ ⟨f,⟨λb z=>.inl (dX z),Kp.refl,λ_ z=>z⟩,λz=>(nomatch z),λ_ z=>dX z⟩ h2⟩⟩
def qC (d:D):aJ:=λβ R=>R d .own β
theorem ak {i j}:PQ X C true (.Constant (.int i) j pos) (qC (.int i)):=⟨λρ R R' k h=>k _ _ _ h,aM.pre λσ H Q II=>by obtain⟨β,own,s,q⟩:=II;exact q _ H own (Out.refl s _) (KV.flat (W:=λ_=>False) rfl rfl)⟩
theorem HA {b j}:PQ X C true (.Constant (.bool b) j pos) (qC (.bl b)):=⟨λρ R R' k h=>k _ _ _ h,xN.pre λσ H Q L1=>by obtain⟨β,own,s,q⟩:=L1;exact q _ H own (Out.refl s _) (KV.flat (W:=λ_=>False) rfl rfl)⟩
theorem rp {j}:PQ X C true (.Constant .none j pos) (qC .bJ):=⟨λρ R R' k h=>k _ _ _ h,Ew.pre λσ H Q BE=>by obtain⟨β,own,s,q⟩:=BE;exact q _ H own (Out.refl s _) (KV.flat (W:=λ_=>False) rfl rfl)⟩
theorem cH {x j}:PQ X C true (.Constant (.str x) j pos) (qC (.str x)):=⟨λρ R R' k h=>k _ _ _ h,xF.pre λσ H Q BD=>by obtain⟨β,own,s,q⟩:=BD;exact q _ H own (Out.refl s _) (KV.flat (W:=λ_=>False) rfl rfl)⟩
def AD (X:Cx)(f:D->D->Option D)(N:D->Prop):R2:=λx y H Q=>∃W d1 d2 d,Dm W H/\Rp X W H d1 x/\Rp X W H d2 y/\f d1 d2=some d/\∀v H',au H H'->Rp X W H' d v->(N d->Rp X (λa=>H a≠none) H' d v)->Q v H'
abbrev Kr (X:Cx)(f:SO->SO->Sem SO)(g:D->D->Option D)(N:D->Prop):Prop:=h9 X f (AD X g N)
theorem cv.m {f:SO->SO->Sem SO}{g:D->D->Option D}(h:cv X f g):Kr X f g NF:=λpins s σ H x y v u Q I rx ry ⟨W,d1,d2,d,hd,r1,r2,e,q⟩ =>
 h pins s σ H x y v u Q I rx ry ⟨W,d1,d2,d,hd,r1,r2,e,λv H' s r=>q v H' s r λf=>ar.flat f r⟩
noncomputable def kN (N:D->Prop)(d:D)(k:Kd)(K:Kd->Prop):Prop:=match d with
 |.int _=>K .own
 |.bl _=>K .own
 |.bJ=>K .own
 |.str _=>K .own
 |.tup _=>K k
 |_=>(N d/\K .own)\/K k
theorem kN.mono {N:D->Prop}{d:D}{k:Kd}{K K':Kd->Prop}(h:∀x,K x->K' x)(q:kN N d k K):kN N d k K':=by
 cases d <;> first|exact h _ q|exact q.imp (λz=>⟨z.1,h _ z.2⟩) (h _)
theorem js {P:SW}{w:S_}{Z:Hp×(Addr->Prop)}{d:D}{v:V}(hd:Dm (Wn own) H)(h0:∀a,C.H0 a≠none->H a≠none)(hz:∀a,Z.1 a≠none->H a≠none)(f:NL d)(r:ar P w (λa=>H a≠none) H' d v):KV P w C Z own H' .own d v:=by
 have nn:∀{a:Addr},¬ (H a≠none)->H a=none:=λ{a} h=>TV λz=>h z;have cl:∀{a:Addr},H a=none->Z.1 a=none/\¬ Wn own a/\C.H0 a=none:=λ{a} h=>⟨TV λz=>hz a z h,λz=>hd a z h,TV λz=>h0 a z h⟩;cases d with
 |lst ds =>
  obtain⟨a,vs,rfl,e,n,q⟩:=r;exact⟨[a],⟨a,vs,[],rfl,e,rfl,iw f q⟩,by simp,λc hc=>by rw[S3.mp hc];exact cl (nn n)⟩
 |_=>exact KV.flat f r
theorem KV.kN {N:D->Prop}{P:SW}{w:S_}{Z:Hp×(Addr->Prop)}{d:D}{v:V}{k:Kd}{K:Kd->Prop}(hk:k.wk=k)(r:ar P w (av C (Wn own) k) H' d v)(ro:N d->KV P w C Z own H' .own d v)(q:kN N d k K):∃k',K k'/\KV P w C Z own H' k' d v:=by
 have rk:KV P w C Z own H' k d v:=by rw[<- hk];exact KV.of (by rw[hk];exact r)
 cases d with
 |int i=>exact⟨_,q,KV.flat rfl r⟩
 |bl i=>exact⟨_,q,KV.flat rfl r⟩
 |bJ=>exact⟨_,q,KV.flat rfl r⟩
 |str i=>exact⟨_,q,KV.flat rfl r⟩
 |tup ds=>exact⟨_,q,rk⟩
 |_=>exact q.elim (λz=>⟨_,z.2,ro z.1⟩) λz=>⟨_,z,rk⟩
structure Aa (N:D->Prop):Prop where
 nl:∀d,N d->NL d
theorem a8:Aa NL:=⟨λ_ h=>h⟩
theorem aj:Aa NF:=⟨λd h=>by cases d <;> first|exact h|cases h⟩
theorem CO {a b:Kd}:(a.max b).wk=a.max b:=by cases a <;> cases b <;> rfl
def wB (g:D->D->Option D)(N:D->Prop)(pb:Bool)(φa φb:aJ):aJ:=λβ R=>φa β λx ka β1=>hold ka pb/\φb β1 λy kb β2=>∃d,g x y=some d/\kN N d (ka.max kb) λk=>R d k β2
variable {g:D->D->Option D}{N:D->Prop}
theorem wB.mono (ha:PQ X C p a φa)(hb:PQ X C p' b φb):∀β R R',(∀d k β,R d k β->R' d k β)->wB g N p' φa φb β R->wB g N p' φa φb β R':=λβ R R' k h =>
 ha.mono β _ _ (λx ka β1 hx=>⟨hx.1,hb.mono β1 _ _ (λy kb β2 yE=>by obtain⟨d,e,q⟩:=yE;exact⟨d,e,q.mono λ_ z=>k _ _ _ z⟩) hx.2⟩) h
theorem rf (hn:Aa N)(ha:PQ X C p a φa)(hb:PQ X C p' b φb):∀σ H Q,tQ X C (p&&p') (wB g N p' φa φb) σ H Q->G2 (AD X g N) (tQ X C p φa) (tQ X C p' φb) σ H Q:=λσ H Q ⟨β,own,s,h⟩ =>
 tQ.of ha s h λd1 k1 β1 v1 H1 aA ⟨hh,h1⟩ o1 r1=>tQ.of hb o1.sq h1 λd2 k2 β2 v2 H2 aP yD o2 r2=>by
  obtain⟨d,e,q⟩:=yD;have Lb:=r1.ho o2 hh;refine⟨av C (Wn aP) (k1.max k2),d1,d2,d,o2.sq.BX _,ar.aN cR Lb.rep,ar.aN fk r2.rep,e,λv H' s3 r3 n3=>?_⟩;have o:=(o1.trans o2).same s3;obtain⟨k,q,r⟩:=KV.kN (Z:=(H,Wn own)) CO r3 (λn=>js (H:=H2) o2.sq.uF o2.sq.f6 (λa z=>o2.sn.d a (o1.sn.d a z)) (hn.nl _ n) (n3 n)) q;exact q v H' aP o r
theorem aV {op:Operator}(hn:Aa N)(ho:Kr X (Vl op) g N)(ha:PQ X C p a φa)(hb:PQ X C p' b φb):PQ X C (p&&p') (.BinOp a op b pos) (wB g N p' φa φb):=⟨wB.mono ha hb,(bq ho ha.pe hb.pe).pre (rf hn ha hb)⟩
theorem ng {op:V8}(hn:Aa N)(ho:Kr X (Ul op) g N)(ha:PQ X C p a φa)(hb:PQ X C p' b φb)(hm:Vd op b=false:=by first|exact o9 _ (by decide) (by decide)|rfl):PQ X C (p&&p') (.Compare a [op] [b] pos) (wB g N p' φa φb) :=
 ⟨wB.mono ha hb,(AV ho ha.pe hb.pe hm).pre (rf hn ha hb)⟩
theorem cc (hn:Aa N)(ho:Du X (AD X g N))(ha:PQ X C p a φa)(hb:PQ X C p' b φb)(hs:jC b:=by exact λ_ _=>rfl):PQ X C (p&&p') (.Subscript a b pos) (wB g N p' φa φb):=⟨wB.mono ha hb,(fC ho ha.pe hb.pe hs).pre (rf hn ha hb)⟩
def CA (φ:aJ):aW:=λβ R=>φ β λd k β'=>∃b,d=.bl b/\R b β'
theorem aT {op:V8}(hn:Aa N)(ho:Kr X (Ul op) g N)(ha:PQ X C p a φa)(hb:PQ X C p' b φb)(hm:Vd op b=false:=by first|exact o9 _ (by decide) (by decide)|rfl):sP X C (p&&p') (.Compare a [op] [b] pos) (CA (wB g N p' φa φb)) :=
 ⟨λβ R R' k h=>wB.mono ha hb β _ _ (λd kd β Fv=>by obtain⟨t,e,q⟩:=Fv;exact⟨t,e,k _ _ q⟩) h,(eW ho ha.pe hb.pe hm).pre λσ H Q ⟨β,own,s,h⟩ =>
  tQ.of ha s h λd1 k1 β1 v1 H1 aA ⟨hh,h1⟩ o1 r1=>tQ.of hb o1.sq h1 λd2 k2 β2 v2 H2 aP Fs o2 r2=>by
   obtain⟨d,e,q⟩:=Fs;have Lb:=r1.ho o2 hh;refine⟨av C (Wn aP) (k1.max k2),d1,d2,d,o2.sq.BX _,ar.aN cR Lb.rep,ar.aN fk r2.rep,e,λv H' s3 r3 n3=>?_⟩;obtain⟨k,⟨t,et,q'⟩,r⟩:=KV.kN (Z:=(H,Wn own)) CO r3 (λn=>js (H:=H2) o2.sq.uF o2.sq.f6 (λa z=>o2.sn.d a (o1.sn.d a z)) (hn.nl _ n) (n3 n)) q;subst et;cases r3;exact⟨t,rfl,q' H' aP ((o1.trans o2).same s3)⟩⟩
theorem m_ (ha:PQ X C p a φa)(he:∀whole,Xo a X.env whole=(do let v <- whole;Wy a.pos;holding [v] (truthy v)):=by intro _;rfl):sP X C p a (CA φa) :=
 ⟨λβ R R' k h=>ha.mono β _ _ (λd kd β' Mn=>by obtain⟨b,e,q⟩:=Mn;exact⟨b,e,k _ _ q⟩) h,(Ej ha.pe he).pre λσ H Q ⟨β,own,s,h⟩=>tQ.of ha s h λd k β' v H1 aA Fq o1 r1=>by
  obtain⟨b,e,q⟩:=Fq;subst e;cases r1.rep;exact⟨b,rfl,q H1 aA o1⟩⟩
def Hm (τ:aW):aW:=λβ R=>τ β λb β'=>R (!b) β'
theorem AJ (ha:sP X C p a τ):sP X C p (.UnaryOp .Not a pos) (Hm τ) :=
 ⟨λβ R R' k h=>ha.mono β _ _ (λb β' q=>k _ _ q) h,(Ek ha.pt).pre λσ H Q Ml=>by obtain⟨β,own,s,h⟩:=Ml;exact ib.of ha s h λb β' H1 aA q o=>q H1 aA o⟩
variable {rest:List Expr}
def Hv (τa τb:aW):aW:=λβ R=>τa β λt β1=>if t=true then τb β1 R else R false β1
def Lh (τa τb:aW):aW:=λβ R=>τa β λt β1=>if t=true then R true β1 else τb β1 R
theorem fA (ha:sP X C p a τ):qz X C p (.BoolOp .And [a] pos) τ:=⟨ha.mono,pw_and1 ha.pt⟩
theorem jo (ha:sP X C p a τ):qz X C p (.BoolOp .Or [a] pos) τ:=⟨ha.mono,pw_or1 ha.pt⟩
theorem sM {p q:Bool}(z:(p&&q)=true):p=true:=by cases p <;> first|rfl|cases z
theorem Cm {p q:Bool}(z:(p&&q)=true):q=true:=by cases p <;> first|exact z|cases z
theorem gJ (ha:sP X C p a τa)(hb:qz X C p' (.BoolOp .And (b::rest) pos) τb):qz X C (p&&p') (.BoolOp .And (a::b::rest) pos) (Hv τa τb) :=
 ⟨λβ R R' k h=>ha.mono β _ _ (λt β1 q=>by
   cases t
   ·exact k _ _ q
   ·exact hb.mono β1 _ _ k q) h,(pw_and ha.pt hb.pw).pre λσ H Q ⟨β,own,s,h⟩=>ib.of ha s h λt β1 H1 aA q o1=>by
  cases t
  ·exact q H1 aA (o1.wk sM)
  ·exact ib.of hb.t o1.sq q λt' β2 H2 aP q2 o2=>q2 H2 aP (o1.trans o2)⟩
theorem ir (ha:sP X C p a τa)(hb:qz X C p' (.BoolOp .Or (b::rest) pos) τb):qz X C (p&&p') (.BoolOp .Or (a::b::rest) pos) (Lh τa τb) :=
 ⟨λβ R R' k h=>ha.mono β _ _ (λt β1 q=>by
   cases t
   ·exact hb.mono β1 _ _ k q
   ·exact k _ _ q) h,(pw_or ha.pt hb.pw).pre λσ H Q ⟨β,own,s,h⟩=>ib.of ha s h λt β1 H1 aA q o1=>by
  cases t
  ·exact ib.of hb.t o1.sq q λt' β2 H2 aP q2 o2=>q2 H2 aP (o1.trans o2)
  ·exact q H1 aA (o1.wk sM)⟩
def PR (φa φb:aJ):aJ:=λβ R=>φa β λx _ β1=>∃c,x=.bl c/\if c=true then R (.bl true) .own β1 else φb β1 R
theorem Ep {op}(h:PQ X C p a φ):PQ X C p (.BoolOp op [a] pos) φ:=⟨h.mono,Eu h.pe⟩
theorem CS {P:SW}{w:S_}{Z:Hp×(Addr->Prop)}{b:Bool}:KV P w C Z own H .own (.bl b) (.bl b):=KV.flat (W:=λ_=>False) rfl rfl
theorem CD (ha:PQ X C p a φa)(hb:PQ X C p' (.BoolOp .Or (b::rest) pos) φb):PQ X C (p&&p') (.BoolOp .Or (a::b::rest) pos) (PR φa φb) :=
 ⟨λβ R R' k h=>ha.mono β _ _ (λd kd β1 ⟨c,e,q⟩=>⟨c,e,by
   cases c
   ·exact hb.mono β1 _ _ k q
   ·exact k _ _ _ q⟩) h,(HC ha.pe hb.pe).pre λσ H Q ⟨β,own,s,h⟩=>tQ.of ha s h λd kd β1 v H1 aA Fp o1 r1=>by
  obtain⟨c,e,q⟩:=Fp;subst e;cases r1.rep;refine⟨c,rfl,?_⟩;cases c
  ·exact tQ.of hb o1.sq q λd2 k2 β2 v2 H2 aP q2 o2 r2=>q2 v2 H2 aP (o1.trans o2) (r2.later o1.sn)
  ·exact q _ H1 aA (o1.wk sM) CS⟩
def PU (τ:aW)(φa φb:aJ):aJ:=λβ R=>τ β λc β1=>if c=true then φa β1 R else φb β1 R
theorem Hz {pc pa pb:Bool}(hc:sP X C pc c τ)(ha:PQ X C pa a φa)(hb:PQ X C pb b φb):PQ X C (pc&&(pa&&pb)) (.IfExp c a b pos) (PU τ φa φb) :=
 ⟨λβ R R' k h=>hc.mono β _ _ (λc β1 q=>by
   cases c
   ·exact hb.mono β1 _ _ k q
   ·exact ha.mono β1 _ _ k q) h,(xH hc.pt ha.pe hb.pe).pre λσ H Q ⟨β,own,s,h⟩=>ib.of hc s h λc β1 H1 aA q o1=>by
  cases c
  ·exact tQ.of hb o1.sq q λd2 k2 β2 v2 H2 aP q2 o2 r2=>q2 v2 H2 aP (o1.Kz o2 λz=>⟨sM z,Cm (Cm z)⟩) (r2.later o1.sn)
  ·exact tQ.of ha o1.sq q λd2 k2 β2 v2 H2 aP q2 o2 r2=>q2 v2 H2 aP (o1.Kz o2 λz=>⟨sM z,sM (Cm z)⟩) (r2.later o1.sn)⟩
def PN (g:D->Option D)(φa:aJ):aJ:=λβ R=>φa β λx _ β1=>∃d,g x=some d/\d.flat=true/\R d .own β1
theorem CC {op:UnaryOp}{g:D->Option D}(ho:JB X (unaryOp op) (NT X g))(ha:PQ X C p a φa):PQ X C p (.UnaryOp op a pos) (PN g φa) :=
 ⟨λβ R R' k h=>ha.mono β _ _ (λx _ β1 L_=>by obtain⟨d,e,f,q⟩:=L_;exact⟨d,e,f,k _ _ _ q⟩) h,(CH ho ha.pe).pre λσ H Q ⟨β,own,s,h⟩ =>
  tQ.of ha s h λd1 k1 β1 v1 H1 aA L9 o1 r1=>by obtain⟨d,e,f,q⟩:=L9;exact⟨_,d1,d,o1.sq.BX _,r1.rep,e,λv H' s2 r2=>q v H' aA (o1.same s2) (KV.flat f r2)⟩⟩
def Li:cg:=λβ R=>R [] [] β
def Hr (pr:Bool)(φ:aJ)(φs:cg):cg:=λβ R=>φ β λd k β1=>hold k pr/\φs β1 λds ks β2=>R (d::ds) (k::ks) β2
theorem af:qA X C true [] Li:=⟨λβ R R' k h=>k _ _ _ h,bu.pre λσ H Q L8=>by obtain⟨β,own,s,q⟩:=L8;exact q [] H own (Out.refl s _) qD.nil⟩
theorem aa (ha:PQ X C p a φ)(hr:qA X C p' es φs)(hs:Te (a::es) X.env=(false,eval a X.env)::Te es X.env:=by rfl):qA X C (p&&p') (a::es) (Hr p' φ φs) :=
 ⟨λβ R R' k h=>ha.mono β _ _ (λd kd β1 q=>⟨q.1,hr.mono β1 _ _ (λds ks β2 q2=>k _ _ _ q2) q.2⟩) h,(aw ha.pe hr.pa hs).pre λσ H Q ⟨β,own,s,h⟩ =>
  tQ.of ha s h λd1 k1 β1 v1 H1 aA L7 o1 r1=>by obtain⟨hh,h1⟩:=L7;exact qU.of hr o1.sq h1 λds ks β2 vs H2 aP q o2 r2=>q (v1::vs) H2 aP (o1.trans o2) (qD.cons r1 o2.sn (r1.ho o2 hh) r2 o1.sn)⟩
def Lc (φs:cg):aJ:=λβ R=>φs β λds ks β1=>ds.length<=S7/\yt ks ds λk=>R (.tup ds) k β1
def Lj (φs:cg):aJ:=λβ R=>φs β λds ks β1=>ds.length<=S7/\yt ks ds λk=>R (.lst ds) k β1
theorem aH.same {P:SW}{w:S_}{ds:List D}{vs:List V}{A:List Addr}(s:au H H')(h:aH P w H ds vs A):aH P w H' ds vs A:=h.keep (λb xs e=>s _ _ e) λc _ o e=>s c o e
theorem E8 {P:SW}{w:S_}{Z:Hp×(Addr->Prop)}{ks:List Kd}{ds:List D}{vs:List V}{K:Kd->Prop}{q:Addr}(hq:H q=none)(h:qD P w C Z own H ks ds vs)(m:yt ks ds K):∃k,K k/\KV P w C Z own (upd H q (.tup vs)) k (.tup ds) (.ref q):=by
 rcases m.of with⟨f,k⟩|k
 ·obtain⟨A,h1,h2,h3⟩:=h;exact⟨_,k,A,⟨q,vs,rfl,ah,(h1.Ez f).same (au.new hq)⟩,h2,h3⟩
 ·refine⟨_,k,?_⟩;rw[<- gQ];exact KV.of (by rw[gQ];exact⟨q,vs,rfl,ah,h.gH.same (au.new hq)⟩)
theorem E_ {P:SW}{w:S_}{Z:Hp×(Addr->Prop)}{ks:List Kd}{ds:List D}{vs:List V}{K:Kd->Prop}{q:Addr}(hq:H q=none)(hd:Dm (Wn own) H)(h0:∀a,C.H0 a≠none->H a≠none)(hz:∀a,Z.1 a≠none->H a≠none)(h:qD P w C Z own H ks ds vs)(m:yt ks ds K):∃k,K k/\KV P w C Z own (upd H q (.lst vs)) k (.lst ds) (.ref q):=by
 rcases m.of with⟨f,k⟩|k
 ·obtain⟨A,h1,h2,h3⟩:=h;refine⟨_,k,q::A,⟨q,vs,A,rfl,ah,rfl,(h1.Ez f).same (au.new hq)⟩,TN.mpr ⟨λz=>h1.kU q z hq,h2⟩,λc hc=>?_⟩;rcases S5.mp hc with rfl|hc
  ·exact⟨TV λz=>hz c z hq,λz=>hd c z hq,TV λz=>h0 c z hq⟩
  ·exact h3 c hc
 ·refine⟨_,k,?_⟩;have nq:¬ av C (Wn own) (fU ks) q:=λz=>by
   cases e:fU ks <;> rw[e]at z <;> first|exact z.elim (λz=>hd q z hq) λz=>h0 q z hq|exact hd q z hq|exact z
  rw[<- gQ];exact KV.of (by rw[gQ];exact⟨q,vs,rfl,ah,nq,h.gH.same (au.new hq)⟩)
theorem qD.length {P:SW}{w:S_}{Z:Hp×(Addr->Prop)}{ks:List Kd}{ds:List D}{vs:List V}(h:qD P w C Z own H ks ds vs):vs.length=ds.length:=h.gH.length
theorem d7 {x1}(h:qA X C p es φs):PQ X C p (.Tuple es x1 pos) (Lc φs) :=
 ⟨λβ R R' k q=>h.mono β _ _ (λds ks β1 L6=>by obtain⟨l,q⟩:=L6;exact⟨l,q.mono λ_ z=>k _ _ _ z⟩) q,(e7 h.pa).pre λσ H Q ⟨β,own,s,q⟩=>qU.of h s q λds ks β1 vs H1 aA ⟨l,q1⟩ o1 r1 =>
  ⟨by rw[r1.length];exact l,λq hq=>let ⟨k,q1,r⟩:=E8 hq r1 q1;q1 _ _ aA (o1.same (au.new hq)) r⟩⟩
theorem bK (h:qA X C p es φs):PQ X C p (.List es pos) (Lj φs) :=
 ⟨λβ R R' k q=>h.mono β _ _ (λds ks β1 L5=>by obtain⟨l,q⟩:=L5;exact⟨l,q.mono λ_ z=>k _ _ _ z⟩) q,(rD h.pa).pre λσ H Q ⟨β,own,s,q⟩=>qU.of h s q λds ks β1 vs H1 aA ⟨l,q1⟩ o1 r1 =>
  ⟨by rw[r1.length];exact l,λq hq=>let ⟨k,q1,r⟩:=E_ hq o1.sq.uF o1.sq.f6 (λa z=>o1.sn.d a z) r1 q1;q1 _ _ aA (o1.same (au.new hq)) r⟩⟩
end
section
variable {X:Cx}{C:Cfg}{a b c e:Expr}{es:List Expr}{φ φa φb:aJ}{φs:cg}{pos:Pos}{σ:St}{H H':Hp}{β:a9}{own:Nat->List Addr}{p:Bool}{g:D->D->Option D}{N:D->Prop}
abbrev mH:=D->Kd->aJ
structure Kq (X:Cx)(C:Cfg)(ops:List V8)(es:List Expr)(φ:mH):Prop where
 mono:∀x k β R R',(∀d k β,R d k β->R' d k β)->φ x k β R->φ x k β R'
 ch:Dt X ops es λx σ H Q=>∃β own d k,SQ X C σ H β own/\Rp X (av C (Wn own) k) H d x/\φ d k β λd' k' β'=>∀v H',au H H'->SQ X C σ H' β' own->KV X.prog X.w C (H,Wn own) own H' k' d' v->Q v H'
 Rv:sQ X ops es λx σ H Q=>∃β own d k,SQ X C σ H β own/\Rp X (av C (Wn own) k) H d x/\φ d k β λd' k' β'=>∃b,d'=.bl b/\∀H',au H H'->SQ X C σ H' β' own->Q b H'
def Hu (g:D->D->Option D)(φb:aJ):mH:=λx _ β R=>φb β λy _ β1=>∃b,g x y=some (.bl b)/\R (.bl b) .own β1
def Ht (g:D->D->Option D)(φb:aJ)(φr:mH):mH:=λx _ β R=>φb β λy ky β1=>∃k,g x y=some (.bl k)/\if k=true then φr y ky β1 R else R (.bl false) .own β1
variable {op zX:V8}{ops:List V8}{rs:List Expr}{φr:mH}
theorem tO (ho:cv X (Ul op) g)(hb:PQ X C true b φb):Kq X C [op] [b] (Hu g φb) :=
 ⟨λx k β R R' h q=>hb.mono β _ _ (λy _ β1 ji=>by obtain⟨d,e,q⟩:=ji;exact⟨d,e,h _ _ _ q⟩) q,
  (F4 ho hb.pe).pre λx σ H Q ⟨β,own,d,k,s,r,h⟩=>tQ.of hb s h λd2 k2 β2 v2 H2 aP pN o2 r2=>by
    obtain⟨d',e,q⟩:=pN;obtain⟨s2,rfl⟩:=o2.pu rfl;exact⟨av C (Wn aP) (k.max k2),d,d2,.bl d',o2.sq.BX _,ar.aN cR (r.same s2),ar.aN fk r2.rep,e,λv H' s3 r3=>q v H' (s2.trans s3) (o2.sq.same s3) (KV.flat rfl r3)⟩,
  (Cc ho hb.pe).pre λx σ H Q ⟨β,own,d,k,s,r,h⟩=>tQ.of hb s h λd2 k2 β2 v2 H2 aP yB o2 r2=>by
    obtain⟨d',e,b,eb,q⟩:=yB;obtain⟨s2,rfl⟩:=o2.pu rfl;cases eb;exact⟨av C (Wn aP) (k.max k2),d,d2,.bl d',o2.sq.BX _,ar.aN cR (r.same s2),ar.aN fk r2.rep,e,λv H' s3 r3=>by
      cases r3;exact⟨_,rfl,q H' (s2.trans s3) (o2.sq.same s3)⟩⟩⟩
theorem oV (ho:cv X (Ul op) g)(hb:PQ X C true b φb)(hc:Kq X C (zX::ops) (c::rs) φr):Kq X C (op::zX::ops) (b::c::rs) (Ht g φb φr) :=
 ⟨λx k β R R' h q=>hb.mono β _ _ (λy ky β1 ⟨d,e,q⟩=>⟨d,e,by
   cases d
   ·exact h _ _ _ q
   ·exact hc.mono y ky β1 _ _ h q⟩) q,
  (Cd ho hb.pe hc.ch).pre λx σ H Q ⟨β,own,d,k,s,r,h⟩=>tQ.of hb s h λd2 k2 β2 v2 H2 aP BE o2 r2=>by
    obtain⟨t,e,q⟩:=BE;obtain⟨s2,rfl⟩:=o2.pu rfl;refine⟨av C (Wn aP) (k.max k2),d,d2,.bl t,o2.sq.BX _,ar.aN cR (r.same s2),ar.aN fk r2.rep,e,λv H' s3 r3=>?_⟩;cases r3;refine⟨t,rfl,?_⟩;cases t
    · exact q _ H' (s2.trans s3) (o2.sq.same s3) CS
    · exact⟨β2,aP,d2,k2,o2.sq.same s3,r2.rep.same s3,hc.mono d2 k2 β2 _ _ (λd' k' β' q' v zS s4 sq r4=>q' v zS ((s2.trans s3).trans s4) sq (r4.later ((o2.same s3).sn))) q⟩,
  (zA ho hb.pe hc.Rv).pre λx σ H Q ⟨β,own,d,k,s,r,h⟩=>tQ.of hb s h λd2 k2 β2 v2 H2 aP r9 o2 r2=>by
    obtain⟨t,e,q⟩:=r9;obtain⟨s2,rfl⟩:=o2.pu rfl;refine⟨av C (Wn aP) (k.max k2),d,d2,.bl t,o2.sq.BX _,ar.aN cR (r.same s2),ar.aN fk r2.rep,e,λv H' s3 r3=>?_⟩;cases r3;refine⟨t,rfl,?_⟩;cases t
    · obtain⟨b,eb,q⟩:=q;cases eb;exact q H' (s2.trans s3) (o2.sq.same s3)
    · exact⟨β2,aP,d2,k2,o2.sq.same s3,r2.rep.same s3,hc.mono d2 k2 β2 _ _ (λd' k' β' yE=>by obtain⟨b,eb,q'⟩:=yE;exact⟨b,eb,λzS s4 sq=>q' zS ((s2.trans s3).trans s4) sq⟩) q⟩⟩
def xn (φa:aJ)(φr:mH):aJ:=λβ R=>φa β λx k β1=>φr x k β1 R
theorem oW {jY jX:V8}(ha:PQ X C true a φa)(hc:Kq X C (jY::jX::ops) (b::c::rs) φr)(hm:lastMarks (jY::jX::ops) (b::c::rs)=false:=by with_unfolding_all rfl):
  PQ X C true (.Compare a (jY::jX::ops) (b::c::rs) pos) (xn φa φr) :=
 ⟨λβ R R' k h=>ha.mono β _ _ (λx kx β1 q=>hc.mono x kx β1 _ _ k q) h,(vn ha.pe hc.ch hm).pre λσ H Q ⟨β,own,s,h⟩=>tQ.of ha s h λd k β1 v H1 aA q o1 r1=>by
  obtain⟨s1,rfl⟩:=o1.pu rfl;exact⟨β1,aA,d,k,o1.sq,r1.rep,hc.mono d k β1 _ _ (λd' k' β' q' v zS s4 sq r4=>q' v zS aA ⟨sq,o1.sn.same s4,λ_=>⟨s1.trans s4,rfl⟩,o1.le⟩ (r4.later o1.sn)) q⟩⟩
theorem GU {k:Kd}:k.wk.wk=k.wk:=by cases k <;> rfl
theorem Dl {W:Addr->Prop}{k:Kd}:∀c,av C W k.wk c->av C W k c:=λc h=>by cases k <;> exact h
def Hk (X:Cx)(f:List D->Option D)(N:D->Prop):List V->Hp->VK->Prop:=λxs H Q=>∃W ds d,Dm W H/\lz X W H ds xs/\f ds=some d/\∀v H',au H H'->Rp X W H' d v->(N d->Rp X (λa=>H a≠none) H' d v)->Q v H'
abbrev zT (X:Cx)(f:SO)(g:List D->Option D)(N:D->Prop):Prop:=fq X f (Hk X g N)
theorem cE.m {f:SO}{g:List D->Option D}(h:cE X f g):zT X f g NF:=λpins s σ H xs us Q I r ⟨W,ds,d,hd,r1,e,q⟩ =>
 h pins s σ H xs us Q I r ⟨W,ds,d,hd,r1,e,λv H' s r=>q v H' s r λf=>ar.flat f r⟩
def iX (g:List D->Option D)(N:D->Prop)(φs:cg):aJ:=λβ R=>φs β λds ks β1=>∃d,g ds=some d/\kN N d (fU ks) λk=>R d k β1
variable {x:Str}{pp:Pos}{id T:String}{gs:List D->Option D}
theorem iX.mono (h:qA X C p es φs):∀β R R',(∀d k β,R d k β->R' d k β)->iX gs N φs β R->iX gs N φs β R':=λβ R R' k q=>h.mono β _ _ (λds ks β1 Mj=>by obtain⟨d,e,q⟩:=Mj;exact⟨d,e,q.mono λ_ z=>k _ _ _ z⟩) q
theorem oS (hn:Aa N)(h:qA X C p es φs):∀σ H Q,tQ X C p (iX gs N φs) σ H Q->KQ (Hk X gs N) (qU X C p φs) σ H Q:=λσ H Q ⟨β,own,s,q⟩=>qU.of h s q λds ks β1 vs H1 aA Mf o1 r1=>by
 obtain⟨d,e,q1⟩:=Mf;refine⟨av C (Wn aA) (fU ks),ds,d,o1.sq.BX _,r1.gH,e,λv H' s2 r2 n2=>?_⟩;obtain⟨k',q,r⟩:=KV.kN (Z:=(H,Wn own)) gQ r2 (λn=>js (H:=H1) o1.sq.uF o1.sq.f6 (λa z=>o1.sn.d a z) (hn.nl _ n) (n2 n)) q1;exact q v H' aA (o1.same s2) r
theorem bh (Jc:Aa N)(hc:zT X (.builtin id) gs N)(hm:X.mg x=none)(hv:Ub x=some (.builtin id))(ha:qA X C p (e::es) φs)(hg:Gl X x:=by rfl)(hn:x≠"__name__" := by decide)(hdb:(x==("__debug__" : Str))=false:=by decide)
  (l8:Te (e::es) X.env=(false,eval e X.env)::Te es X.env:=by rfl) (hpl:(UZ pos (Te es X.env)).any (·.1)=false:=by rfl) :
  PQ X C p (.Call (.Name x pp) (e::es) [] pos) (iX gs N φs):=⟨iX.mono ha,(jW hc hg hm hv ha.pa hn hdb (he:=l8) (hpl:=hpl)).pre (oS Jc ha)⟩
theorem iu (Jc:Aa N)(hc:zT X (.type T) gs N)(hm:X.mg x=none)(hv:Ub x=some (.type T))(ha:qA X C p (e::es) φs)(hg:Gl X x:=by rfl)(hn:x≠"__name__" := by decide)(hdb:(x==("__debug__" : Str))=false:=by decide)
  (l8:Te (e::es) X.env=(false,eval e X.env)::Te es X.env:=by rfl) (hpl:(UZ pos (Te es X.env)).any (·.1)=false:=by rfl) :
  PQ X C p (.Call (.Name x pp) (e::es) [] pos) (iX gs N φs):=⟨iX.mono ha,(vo hc hg hm hv ha.pa hn hdb (he:=l8) (hpl:=hpl)).pre (oS Jc ha)⟩
end
def nX (P:SW)(w:S_)(ro:Bool)(H H':Hp)(d:D)(v:V):Prop:=match ro with
 |true=>∃A,Own P w H' d v A/\A.Nodup/\∀c∈A,H c=none
 |false=>ar P w (λa=>H a≠none) H' d v
abbrev rk (ro:Bool):Kd:=match ro with|true=>.own|false=>.cy
def kP (P:SW)(w:S_)(ro:Bool)(F:FD):Sp:=λvs H Q _=>∃ds,ag P w (λ_=>False) H ds vs/\F ds λd=>∀v H',au H H'->nX P w ro H H' d v->Q v H'
def fS (P:SW)(w:S_)(ok:List Int->Prop)(ro:Bool)(F:FD):Sp:=λvs H Q _=>∃h vs' ds ns,vs=.ref h::vs'/\H h=some (.lst (ns.map V.int))/\ok ns/\ag P w (λa=>a=h) H ds vs' /\
 F ds λd=>∀v H' x_,Kp (·=h) H H'->(∀c,H c≠none->H' c≠none)->H' h=some (.lst (x_.map V.int))->ok x_->nX P w ro H H' d v->Q v H'
section
variable {X:Cx}{C:Cfg}{k ih:Nat}{f:Addr}{fd:T7}{ps:List Str}{F:FD}{ro p:Bool}{x hx:Str}{pp pos px:Pos}{e:Expr}{es:List Expr}{φs:cg}{ok:List Int->Prop}{σ:St}{H H':Hp}{β:a9}{own:Nat->List Addr}{P:SW}{w:S_}
theorem nX.kv {Z:Hp×(Addr->Prop)}{d:D}{v:V}(hd:Dm (Wn own) H)(h0:∀a,C.H0 a≠none->H a≠none)(hz:∀a,Z.1 a≠none->H a≠none)(h:nX P w ro H H' d v):KV P w C Z own H' (rk ro) d v:=by
 cases ro with
 |true =>
  obtain⟨A,h1,h2,h3⟩:=h;exact⟨A,h1,h2,λc hc=>⟨TV λz=>hz c z (h3 c hc),λz=>hd c z (h3 c hc),TV λz=>h0 c z (h3 c hc)⟩⟩
 |false=>exact ar.aN (λa z=>z.elim (hd a) (h0 a)) h
def Lg (ro:Bool)(F:FD)(φs:cg):aJ:=λβ R=>φs β λds _ β1=>F ds λd=>R d (rk ro) β1
theorem cO (mF:fI F)(G:bc X.prog X.w X.K X.mg X.base cY k f fd ps (kP X.prog X.w ro F))(hr:cW k X.A)(hm:X.mg x=some (.ref f))(hk:PySem.W.keepIn X.K (.ref f)=true)(hb:Binds X.K fd ps [])(ha:qA X C p (e::es) φs)(hg:Gl X x:=by rfl)
  (hdb:(x==("__debug__" : Str))=false:=by decide)
  (l8:Te (e::es) X.env=(false,eval e X.env)::Te es X.env:=by rfl) (hpl:(UZ pos (Te es X.env)).any (·.1)=false:=by rfl) :
  PQ X C p (.Call (.Name x pp) (e::es) [] pos) (Lg ro F φs) :=
 ⟨λβ R R' k h=>ha.mono β _ _ (λds ks β1 q=>mF ds _ _ (λd q=>k _ _ _ q) q) h,(fM G hr hg hm hk hb .nil lR ha.pa (hdb:=hdb) (he:=l8) (hpl:=hpl)).pre λσ H Q ⟨β,own,s,h⟩=>qU.of ha s h λds ks β1 vs H1 aA q o1 r1=>by
  rw[UP];exact⟨ds,r1.bor,mF ds _ _ (λd q2 v H' s2 r2=>q2 v H' aA (o1.same s2) (r2.kv o1.sq.uF o1.sq.f6 λa z=>o1.sn.d a z)) q⟩⟩
theorem bD.drawn {i:Nat}{h:Addr}{x_:List Int}(b:bD P w C σ H β own)(e:β[i]?=some (some (.hand ok)))(hσ:σ[i]?=some (some (.ref h)))(k:Kp (·=h) H H')(e':H' h=some (.lst (x_.map V.int)))(o':ok x_)(dn:∀c,H c≠none->H' c≠none):bD P w C σ H' β own:=by
 obtain⟨a,ns,h1,h2,h3,h4,h5⟩:=b.nF i ok e;rw[hσ]at h1;cases h1;have wh:Wn own h:=⟨i,by rw[h4];simp⟩
 have kW:∀y,Kp (fm C (Wn own) (yk y)) H H':=λy=>k.mono λc z=>by rw[z];cases y <;> first|exact .inl wh|exact .inl (.inl wh)
 have ne:∀j,j≠i->∀c∈own j,c≠h:=λj hj c hc z=>hj (b.ja j i c hc (by rw[h4,z];simp))
 refine⟨b.len,λj y d e=>let ⟨v,g1,g2⟩:=b.val j y d e;⟨v,g1,g2.keep (kW y)⟩,λj d ej=>?_,λj wC ej=>?_,λj c hc=>?_,b.ja,b.kS,⟨λc o z n=>?_,λc xs z=>k.tup c xs (b.kp.tup c xs z)⟩,λc z=>dn c (b.f6 c z),λj y d ej=>by
  obtain⟨v,g1,g2,g3⟩:=b.shl j y d ej;have hj:j≠i:=λz=>by rw[z,e]at ej;cases ej
  exact⟨v,g1,g2.map (λc hc o eo=>k.out c o eo (ne j hj c hc)) (λ_ _ r=>r.keep (kW true)),g3⟩⟩
 ·obtain⟨v,g1,g2,g3⟩:=b.ow j d ej;have hj:j≠i:=λz=>by rw[z,e]at ej;cases ej
  exact⟨v,g1,g2.keep k.tup (λc hc o eo=>k.out c o eo (ne j hj c hc)),g3⟩
 ·by_cases hj:j=i
  ·subst hj;rw[e]at ej;cases ej;exact⟨h,x_,hσ,e',o',h4,h5⟩
  ·obtain⟨a,ms,g1,g2,g3,g4,g5⟩:=b.nF j wC ej;exact⟨a,ms,g1,k.out a _ g2 (ne j hj a (by rw[g4];simp)),g3,g4,g5⟩
 ·obtain⟨g1,g2,g3⟩:=b.dm j c hc
  by_cases uh:c=h
  ·rw[uh,e'];rw[uh]at g3;exact⟨λz=>(nomatch z),λxs z=>(by cases z),g3⟩
  ·cases q:H c with
   |none=>exact absurd q g1
   |some o=>rw[k.out c o q uh];exact⟨λz=>(nomatch z),λxs z=>g2 xs (by rw[q];exact z),g3⟩
 ·refine k.out c o (b.kp.out c o z n) λq=>?_;subst q;rcases (b.dm i c (by rw[h4];simp)).2.2.1 with z0|z0
  ·rw[z0]at z;cases z
  ·exact n z0
def Hq (ih:Nat)(ok:List Int->Prop)(ro:Bool)(F:FD)(φs:cg):aJ:=λβ R=>β[ih]?=some (some (.hand ok))/\φs β λds ks β1=>β1[ih]?=some (some (.hand ok))/\hold (fU ks) false/\F ds λd=>R d (rk ro) β1
theorem ba (mF:fI F)(G:bc X.prog X.w X.K X.mg X.base cY k f fd ps (fS X.prog X.w ok ro F))(hr:cW k X.A)(hm:X.mg x=some (.ref f))(hk:PySem.W.keepIn X.K (.ref f)=true)(hb:Binds X.K fd ps [])(ha:qA X C p es φs)(hn:Nm X ih hx:=by exact rH)(hg:Gl X x:=by rfl)(hdb:(x==("__debug__" : Str))=false:=by decide)
  (l8:Te (.Name hx px::es) X.env=(false,eval (.Name hx px) X.env)::Te es X.env:=by rfl) (hpl:(UZ pos (Te es X.env)).any (·.1)=false:=by rfl) :
  PQ X C false (.Call (.Name x pp) (.Name hx px::es) [] pos) (Hq ih ok ro F φs) :=
 ⟨λβ R R' k Md=>by obtain⟨e,h⟩:=Md;exact⟨e,ha.mono β _ _ (λds ks β1 Mc=>by obtain⟨e,hh,q⟩:=Mc;exact⟨e,hh,mF ds _ _ (λd q=>k _ _ _ q) q⟩) h⟩,
  (fM G hr hg hm hk hb .nil lR (aw (du (pos:=px) hn) ha.pa l8) (hdb:=hdb) (he:=l8) (hpl:=hpl)).pre λσ H Q Fp=>by
  obtain⟨β,own,s,e,h⟩:=Fp;obtain⟨hh,ns,h1,h2,h3,h4⟩:=s.nF ih ok e;refine⟨.ref hh,h1,qU.of ha s h λds ks β1 vs H1 aA fV o1 r1=>?_⟩;obtain⟨e1,ho,q⟩:=fV;obtain⟨Sz,P0,g1,g2,g3,g4,g5⟩:=o1.sq.nF ih ok e1;rw[h1]at g1;cases g1;have wh:Wn aA hh:=⟨ih,by rw[g4];simp⟩
  rw[UP];refine⟨hh,vs,ds,P0,rfl,g2,g3,ag.aN (λa z=>?_) r1.gH,mF ds _ _ (λd q v H' x_ kp dn e' wC r=>?_) q⟩
  ·subst z;cases hk:fU ks with
   |own=>exact .inl wh
   |cy=>exact .inl wh
   |old=>exact wh
   |bor=>rw[hk]at ho;exact ho.elim
  ·exact q v H' aA ⟨o1.sq.drawn e1 h1 kp e' wC dn,o1.sn.kp (kp.mono λb z=>by rw[z];exact wh) dn,λz=>(nomatch z),o1.le⟩ (r.kv o1.sq.uF o1.sq.f6 λa z=>o1.sn.d a z)⟩
end
abbrev Cfg.z (C:Cfg):Cfg:=C.u λ_=>False
def SB (X:Cx)(C:Cfg)(Z:Hp×(Addr->Prop))(σ:St)(H:Hp)(β:a9):Prop:=∃own,SQ X C.z σ H β own/\Sn Z H (Wn own)
structure cX where
 nx:a9->Prop
 rt:D->a9->Prop
 bk:a9->Prop:=λ_=>False
 ct:a9->Prop:=λ_=>False
def cX.up (E:cX)(n:a9->Prop):cX:=⟨n,E.rt,E.bk,E.ct⟩
def cX.lp (E:cX)(n:a9->Prop):cX:=⟨n,E.rt,E.nx,n⟩
structure RU (X:Cx)(C:Cfg)(Z:Hp×(Addr->Prop))(E:cX)(D:Ends):Prop where
 nx:∀σ H β,SB X C Z σ H β->E.nx β->D.nx σ H
 rt:∀σ H β d v,SB X C Z σ H β->nX X.prog X.w C.ro C.H0 H d v->E.rt d β->D.rt v H
 bk:∀σ H β,SB X C Z σ H β->E.bk β->D.bk σ H
 ct:∀σ H β,SB X C Z σ H β->E.ct β->D.ct σ H
structure Le (E E':cX):Prop where
 nx:∀β,E.nx β->E'.nx β
 rt:∀d β,E.rt d β->E'.rt d β
 bk:∀β,E.bk β->E'.bk β
 ct:∀β,E.ct β->E'.ct β
abbrev Dr:=cX->a9->Prop
def ap (ψ:Dr)(E:cX)(β:a9):Prop:=ψ E β
def eN (R:D->Prop):cX:={nx:=λ_=>R .bJ,rt:=λd _=>R d}
def eH (ok:List Int->Prop)(R:D->Prop):cX:={nx:=λ_=>False,rt:=λd β=>β[0]?=some (some (.hand ok))/\R d}
def NN (X:Cx)(C:Cfg)(ψ:Dr):TS:=λD σ H=>∃Z E β,SB X C Z σ H β/\ψ E β/\RU X C Z E D
structure PB (X:Cx)(C:Cfg)(st:Stmt)(ψ:Dr):Prop where
 mono:∀E E' β,Le E E'->ψ E β->ψ E' β
 ps:PS X st (NN X C ψ)
structure wy (X:Cx)(C:Cfg)(st:List Stmt)(ψ:Dr):Prop where
 mono:∀E E' β,Le E E'->ψ E β->ψ E' β
 ps:nU X st (NN X C ψ)
section
variable {X:Cx}{C:Cfg}{st:Stmt}{rest a b:List Stmt}{ψ ψ1 ψ2:Dr}{Z:Hp×(Addr->Prop)}{σ:St}{H H':Hp}{β β':a9}{pos pos':Pos}{e c:Expr}{φ:aJ}{τ:aW}{p:Bool}{own aK:Nat->List Addr}{i:Nat}{x:Str}
theorem Out.sb (n:Sn Z H (Wn own))(o:Out X C.z σ H own p β' H' aK):SB X C Z σ H' β':=⟨aK,o.sq,n.trans o.sn⟩
theorem dQ:wy X C [] (λE β=>E.nx β):=⟨λE E' β l h=>l.nx β h,eX.pre λD σ H ji=>by obtain⟨Z,E,β,sb,h,ok⟩:=ji;exact ok.nx σ H β sb h⟩
theorem ai (h1:PB X C st ψ1)(h2:wy X C rest ψ2):wy X C (st::rest) (λE β=>ψ1 (E.up (ap ψ2 E)) β) :=
 ⟨λE E' β l h=>h1.mono {E with nx:=ψ2 E} {E' with nx:=ψ2 E'} β ⟨λβ' q=>h2.mono E E' β' l q,l.rt,l.bk,l.ct⟩ h,(aS h1.ps h2.ps).pre λD σ H ⟨Z,E,β,sb,h,ok⟩ =>
  ⟨Z,{E with nx:=ψ2 E},β,sb,h,⟨λσ' H' β' Ay h'=>⟨Z,E,β',Ay,h',ok⟩,ok.rt,ok.bk,ok.ct⟩⟩⟩
theorem aB (h1:PB X C st ψ):wy X C [st] ψ:=⟨h1.mono,cj h1.ps⟩
theorem AX (h1:PB X C st ψ1)(h2:wy X C rest ψ2):wy X C (st::rest) (λE β=>∃J:a9->Prop,ψ1 (E.up J) β/\∀β',J β'->ap ψ2 E β') :=
 ⟨λE E' β l pN=>by obtain⟨J,h,k⟩:=pN;exact⟨J,h1.mono {E with nx:=J} {E' with nx:=J} β ⟨λ_ q=>q,l.rt,l.bk,l.ct⟩ h,λβ' q=>h2.mono E E' β' l (k β' q)⟩,(aS h1.ps h2.ps).pre λD σ H ⟨Z,E,β,sb,⟨J,h,k⟩,ok⟩ =>
  ⟨Z,{E with nx:=J},β,sb,h,⟨λσ' H' β' Ay h'=>⟨Z,E,β',Ay,k β' h',ok⟩,ok.rt,ok.bk,ok.ct⟩⟩⟩
theorem vp:wy X C a (λ_ _=>False):=⟨λ_ _ _ _ h=>h.elim,vg.pre λD σ H BE=>by obtain⟨Z,E,β,sb,h,ok⟩:=BE;exact h.elim⟩
theorem eG (hc:sP X C.z p c τ)(ha:wy X C a ψ1)(hb:wy X C b ψ2):PB X C (.If c a b pos) (λE β=>τ β λt β'=>if t=true then ap ψ1 E β' else ap ψ2 E β') :=
 ⟨λE E' β l h=>hc.mono _ _ _ (λt β' q=>by
   cases t
   ·exact hb.mono E E' β' l q
   ·exact ha.mono E E' β' l q) h,(jT hc.pt ha.ps hb.ps).pre λD σ H BD=>by
  obtain⟨Z,E,β,⟨own,s,n⟩,h,ok⟩:=BD;refine ib.of hc s h λt β' H1 aA q o1=>?_;cases t
  ·exact⟨Z,E,β',o1.sb n,q,ok⟩
  ·exact⟨Z,E,β',o1.sb n,q,ok⟩⟩
abbrev CU (d:D)(k:Kd)(K:B->Prop):Prop:=match k with
 |.own=>K (.val true d)
 |.cy=>K (.val true d)
 |.old=>K (.val false d)
 |.bor=>d.flat=true/\K (.val true d)
theorem CU.mono {d:D}{k:Kd}{K K':B->Prop}(h:∀b,K b->K' b)(q:CU d k K):CU d k K':=by
 cases k <;> first|exact h _ q|exact⟨q.1,h _ q.2⟩
theorem CU.of {P:SW}{w:S_}{d:D}{v:V}{k:Kd}{K:B->Prop}(r:KV P w C Z own H k d v)(q:CU d k K):∃y,K (.val y d)/\ar P w (av C (Wn own) (yk y)) H d v:=by
 cases k with
 |own=>exact⟨true,q,r.cy⟩
 |cy=>exact⟨true,q,r⟩
 |old=>exact⟨false,q,r⟩
 |bor=>exact⟨true,q.2,ar.flat q.1 r⟩
theorem qY {own:Nat->List Addr}{i:Nat}(n:Sn Z H (Wn own)):Sn Z H (Wn (aI own i [])):=⟨λb z=>n.w b (dX z),n.k,n.d⟩
theorem a7 (he:PQ X C.z p e φ)(hN:X.N.Nodup)(hi:X.N[i]?=some x:=by rfl)(hx:Loc X.env.scope x:=by first|exact .inl rfl|exact .inr rfl)
  (hs:UB e (some (.Name x pos')) pos.line X.env=pure false:=by rfl) (hf:X.fn x=true\/X.env.scope.names.lookup x=some .local:=by first|exact .inl rfl|exact .inr rfl|assumption) :
  PB X C (.Assign [.Name x pos'] e pos) (λE β=>φ β λd k β'=>CU d k λb=>E.nx (β'.set i (some b))) :=
 ⟨λE E' β l q=>he.mono _ _ _ (λd k β' q=>q.mono λ_=>l.nx _) q,(cZ hN hi hx he.pe hs hf).pre λD σ H ⟨Z,E,β,⟨own,s,n⟩,q,ok⟩=>tQ.of he s q λd k β' v H' aK q o r=>by
  obtain⟨y,q,r⟩:=q.of r;exact ok.nx _ _ _ ⟨_,o.sq.d4 (ar.aN (λa z=>z.elim id λz=>z.elim) r),qY (n.trans o.sn)⟩ q⟩
abbrev Bv (k:Kd)(d:D):Prop:=match k with
 |.own=>True
 |_=>d.flat=true
theorem KV.fl {P:SW}{w:S_}{d:D}{v:V}{k:Kd}(f:Bv k d)(r:KV P w C Z own H k d v):KV P w C Z own H .own d v:=by
 cases k with
 |own=>exact r
 |cy=>exact KV.flat f r.rep
 |old=>exact KV.flat f r.rep
 |bor=>exact KV.flat f r.rep
theorem cP (he:∀U,PQ X (C.u U) p e φ)(hN:X.N.Nodup)(hi:X.N[i]?=some x:=by rfl)(hx:Loc X.env.scope x:=by first|exact .inl rfl|exact .inr rfl)
  (hs:UB e (some (.Name x pos')) pos.line X.env=pure false:=by rfl) (hf:X.fn x=true\/X.env.scope.names.lookup x=some .local:=by first|exact .inl rfl|exact .inr rfl|assumption) :
  PB X C (.Assign [.Name x pos'] e pos) (λE β=>φ β λd k β'=>Bv k d/\E.nx (β'.set i (some (.own d)))) :=
 ⟨λE E' β l q=>(he λ_=>False).mono _ _ _ (λd k β' q=>⟨q.1,l.nx _ q.2⟩) q,λpins s σ H D I ⟨Z,E,β,⟨own,sq,n⟩,q,ok⟩ =>
  cZ hN hi hx (he λa=>H a=none).pe hs hf pins s σ H D I (tQ.of (he λa=>H a=none) (sq.gy (C:=C.z) (U:=λa=>H a=none) λa z=>z) q λd k β' v H' aK Fw o r=>by
   obtain⟨f,q⟩:=Fw;obtain⟨A,h1,h2,h3⟩:=r.fl f;refine ok.nx _ _ _ ⟨_,o.sq.jQ h1 h2 λc hc=>⟨(h3 c hc).2.2,(h3 c hc).2.1,(h3 c hc).1⟩,?_⟩ q;have m:=n.trans o.sn;exact⟨λb Mo=>by
    obtain⟨j,hj⟩:=Mo
    by_cases aE:i=j
    ·rw[<- aE,os_eq]at hj;exact .inr (n.free (h3 b hj).1)
    ·rw[bf aE]at hj;exact m.w b ⟨j,hj⟩,m.k,m.d⟩)⟩
theorem bD.Ei {P:SW}{w:S_}{U U2:Addr->Prop}{d d':D}{v:V}{A':List Addr}{c:Addr}{o:HO}(b:bD P w (C.u U) σ H β own)(e:β[i]?=some (some (.own d)))(hσ:σ[i]?=some (some v))(hc:c∈own i)
  (r:Own P w (upd H c o) d' v A') (nd:A'.Nodup) (hA:∀a∈A',a∈own i\/(C.H0 a=none/\¬ Wn own a/\U a)) (hU:∀a,U2 a->U a) (M0:∀a∈A',¬ U2 a):bD P w (C.u U2) σ (upd H c o) (β.set i (some (.own d'))) (aI own i A'):=by
 obtain⟨g1,g2,g3,g4⟩:=b.dm i c hc;obtain⟨oc,yF⟩:∃oc,H c=some oc:=by
  cases q:H c with
  |none=>exact absurd q g1
  |some oc=>exact⟨oc,rfl⟩
 have ht:∀xs,oc≠.tup xs:=λxs z=>g2 xs (by rw[yF,z])
 have k:Kp (·=c) H (upd H c o):=gi yF ht;have h0:∀a∈own i,C.H0 a=none:=by obtain⟨_,_,_,h⟩:=b.ow i d e;exact h
 have wc:Wn own c:=⟨i,hc⟩;have sub:∀y a,fm (C.u U2) (Wn (aI own i A')) (yk y) a->fm (C.u U) (Wn own) (yk y) a:=λy a h=>by
  have q:∀a,Wn (aI own i A') a->Wn own a\/U a:=λa yD=>by
   obtain⟨j,q⟩:=yD
   by_cases aE:i=j
   ·rw[aE,os_eq]at q;rcases hA a q with z|z
    ·exact .inl ⟨i,z⟩
    ·exact .inr z.2.2
   ·rw[bf aE]at q;exact .inl ⟨j,q⟩
  rcases h with h|h
  ·cases y with
   |true=>exact h.elim (λz=>(q a z).imp .inl id) λz=>.inl (.inr z)
   |false=>exact q a h
  ·exact .inr (hU a h)
 have mem:∀{j c},c∈aI own i A' j->(i=j/\c∈A')\/(i≠j/\c∈own j):=λ{j c} h=>by
  by_cases aE:i=j
  ·subst aE;rw[os_eq]at h;exact .inl ⟨rfl,h⟩
  ·rw[bf aE]at h;exact .inr ⟨aE,h⟩
 have JZ:∀j,i≠j->∀a∈own j,a≠c:=λj aE a ha z=>aE (b.ja i j c hc (by rw[<- z];exact ha))
 refine⟨by simp[b.len],λj y' d2 e2=>?_,λj d2 e2=>?_,λj ok e2=>?_,λj a h=>?_,λj k2 a h1 h2=>?_,λj=>?_,⟨λa oa z n=>?_,λa xs z=>k.tup a xs (b.kp.tup a xs z)⟩,λa z=>?_,λj y' d2 e2=>by
  by_cases aE:i=j
  ·subst aE;obtain⟨e',hl⟩:=aX e2;cases e'
  ·rw[aQ aE]at e2;rw[bf aE];obtain⟨u,h1,h2,h3⟩:=b.shl j y' d2 e2;exact⟨u,h1,h2.map (λa ha oa ea=>k.out a oa ea (JZ j aE a ha)) (λ_ _ r=>ag.aN (sub _) (r.keep (k.mono λa z=>by rw[z];cases y' <;> first|exact .inl wc|exact .inl (.inl wc)))),h3⟩⟩
 ·by_cases aE:i=j
  ·subst aE;obtain⟨e',hl⟩:=aX e2;cases e'
  ·rw[aQ aE]at e2;obtain⟨u,h1,h2⟩:=b.val j y' d2 e2;exact⟨u,h1,(h2.keep (k.mono λa z=>by rw[z];cases y' <;> first|exact .inl wc|exact .inl (.inl wc))).aN (sub _)⟩
 ·by_cases aE:i=j
  ·subst aE;obtain⟨e',hl⟩:=aX e2;cases e';rw[os_eq];exact⟨v,hσ,r,λa ha=>(hA a ha).elim (h0 a) λz=>z.1⟩
  ·rw[aQ aE]at e2;rw[bf aE];obtain⟨u,h1,h2,h3⟩:=b.ow j d2 e2;exact⟨u,h1,h2.keep k.tup (λa ha oa ea=>k.out a oa ea (JZ j aE a ha)),h3⟩
 ·by_cases aE:i=j
  ·subst aE;obtain⟨e',hl⟩:=aX e2;cases e'
  ·rw[aQ aE]at e2;rw[bf aE];obtain⟨a,ns,h1,h2,h3,h4,h5⟩:=b.nF j ok e2;exact⟨a,ns,h1,k.out a _ h2 (JZ j aE a (by rw[h4];simp)),h3,h4,h5⟩
 ·rcases mem h with⟨_,h⟩|⟨aE,h⟩
  ·exact⟨(r.kU a h).1,(r.kU a h).2,.inl ((hA a h).elim (h0 a) λz=>z.1),M0 a h⟩
  ·obtain⟨q1,q2,q3,q4⟩:=b.dm j a h;rw[ao (JZ j aE a h)];exact⟨q1,q2,q3,λz=>q4 (hU a z)⟩
 ·rcases mem h1 with⟨e1,h1⟩|⟨n1,h1⟩
  ·rcases mem h2 with⟨e2,h2⟩|⟨n2,h2⟩
   ·rw[<- e1,<- e2]
   ·rcases hA a h1 with z|z
    ·exact absurd (b.ja i k2 a z h2) n2
    ·exact absurd ⟨k2,h2⟩ z.2.1
  ·rcases mem h2 with⟨e2,h2⟩|⟨n2,h2⟩
   ·rcases hA a h2 with z|z
    ·exact absurd (b.ja i j a z h1) n1
    ·exact absurd ⟨j,h1⟩ z.2.1
   ·exact b.ja j k2 a h1 h2
 ·by_cases aE:i=j
  ·rw[<- aE,os_eq];exact nd
  ·rw[bf aE];exact b.kS j
 ·refine k.out a oa (b.kp.out a oa z n) λq=>?_;subst q;rw[h0 a hc]at z;cases z
 ·by_cases OL:a=c
  ·rw[OL,ah];exact λz=>(nomatch z)
  ·rw[ao OL];exact b.f6 a z
theorem bD.putIn {P:SW}{w:S_}{U:Addr->Prop}{d d':D}{v:V}{A':List Addr}{c:Addr}{o:HO}(b:bD P w (C.u U) σ H β own)(e:β[i]?=some (some (.own d)))(hσ:σ[i]?=some (some v))(hc:c∈own i)
  (r:Own P w (upd H c o) d' v A') (nd:A'.Nodup) (hA:∀a∈A',a∈own i\/(C.H0 a=none/\¬ Wn own a/\U a)):bD P w C.z σ (upd H c o) (β.set i (some (.own d'))) (aI own i A') :=
 b.Ei (U2:=λ_=>False) e hσ hc r nd hA (λ_ z=>z.elim) λ_ _ z=>z
theorem jN {A':List Addr}{c:Addr}{o:HO}{U:Addr->Prop}(n:Sn Z H (Wn own))(m:∀a,U a->Z.1 a=none)(hc:Wn own c)(yF:∃oc,H c=some oc/\∀xs,oc≠.tup xs)(hA:∀a∈A',a∈own i\/(C.H0 a=none/\¬ Wn own a/\U a)):Sn Z (upd H c o) (Wn (aI own i A')):=by
 obtain⟨oc,h1,h2⟩:=yF;have u:=Sn.upd (o':=o) n h1 h2 hc;exact⟨λb Fv=>by
  obtain⟨j,hj⟩:=Fv
  by_cases aE:i=j
  ·rw[<- aE,os_eq]at hj;rcases hA b hj with z|z
   ·exact n.w b ⟨i,z⟩
   ·exact .inr (m b z.2.2)
  ·rw[bf aE]at hj;exact n.w b ⟨j,hj⟩,u.k,u.d⟩
theorem bD.pD {P:SW}{w:S_}{ds:List D}(b:bD P w C σ H β own)(e:β[i]?=some (some (.own (.lst ds)))):∃a vs A',σ[i]?=some (some (.ref a))/\H a=some (.lst vs)/\own i=a::A'/\aH P w H ds vs A':=by
 obtain⟨v,h1,⟨a,vs,A',rfl,h2,h3,h4⟩,_⟩:=b.ow i _ e;exact⟨a,vs,A',h1,h2,h3,h4⟩
variable {px ap cp:Pos}
theorem cI (he:∀U,PQ X (C.u U) p e φ)(hn:Nm X i x:=by exact rH)
  (eT:Vz (.Name x px) "append" X.env (eval (.Name x px) X.env)=eval (.Name x px) X.env:=by rfl)
  (nH:((UZ cp (Te [e] X.env)).all (λx=>!x.1)&&(XO cp (WR [] X.env)).all (λx=>x.1.isSome)&&decide ([e].length+([]:List Wh).length+(if ([]:List Wh).isEmpty then 0 else 1)<30))=true:=by rfl)
  (eR:(ap.endLine==cp.line)=true:=by rfl) (hs:Te [e] X.env=(false,eval e X.env)::Te [] X.env:=by rfl) (gj:(UZ cp (Te [] X.env)).any (·.1)=false:=by rfl)
  (rV:UB (.Call (.Attribute (.Name x px) "append" ap) [e] [] cp) none pos.line X.env=pure false:=by rfl) :
  PB X C (.Expr (.Call (.Attribute (.Name x px) "append" ap) [e] [] cp) pos) (λE β=>(∃ds,β[i]?=some (some (.own (.lst ds))))/\φ β λd k β'=>Bv k d/\∃ds,β'[i]?=some (some (.own (.lst ds)))/\ds.length<S7/\E.nx (β'.set i (some (.own (.lst (ds++[d])))))):=by
 refine⟨λE E' β l Fu=>by obtain⟨h1,q⟩:=Fu;exact⟨h1,(he λ_=>False).mono _ _ _ (λd k β' Ft=>by obtain⟨f,ds,h1,h2,q⟩:=Ft;exact⟨f,ds,h1,h2,l.nx _ q⟩) q⟩,λpins s σ H D I fV=>?_⟩
 obtain⟨Z,E,β,⟨own,sq,n⟩,⟨⟨OU,hb⟩,q⟩,ok⟩:=fV;refine tK (pos:=pos) (tS (apos:=ap) (cpos:=cp) PySem.F.plainAttrs_list PySem.F.slot_list_append PySem.F.type_list_append iB (du (pos:=px) hn) (aw (he λa=>H a=none).pe bu hs) eT nH eR hs gj) rV pins s σ H D I ?_;obtain⟨a,vs,A',h1,h2,h3,h4⟩:=sq.pD hb;refine⟨.ref a,h1,.inl ⟨rfl,vs,cK.of h2⟩,tQ.of (he λa=>H a=none) (sq.gy (C:=C.z) (U:=λa=>H a=none) λa z=>z) q λd k β' v H1 aA ki o r=>?_⟩;obtain⟨f,ds,pQ,hl,q⟩:=ki;obtain⟨a',vs',A1,g1,g2,g3,g4⟩:=o.sq.pD pQ;rw[h1]at g1;cases g1;obtain⟨A,r1,r2,r3⟩:=r.fl f;have ha:a∈aA i:=by rw[g3];simp
 have nd:(a::(A1++A)).Nodup:=by
  have q:=o.sq.kS i;rw[g3]at q;refine TN.mpr ⟨λz=>?_,TZ.mpr ⟨(TN.mp q).2,r2,λx hx y hy e=>?_⟩⟩
  ·rcases S9.mp z with z|z
   ·exact(TN.mp q).1 z
   ·exact(r3 a z).2.1 ⟨i,ha⟩
  ·subst e;exact(r3 x hy).2.1 ⟨i,by rw[g3];simp[hx]⟩
 have hA:∀b∈a::(A1++A),b∈aA i\/(C.H0 b=none/\¬ Wn aA b/\H b=none):=λb hb=>by
  rcases S5.mp hb with rfl|hb
  ·exact .inl ha
  ·rcases S9.mp hb with hb|hb
   ·exact .inl (by rw[g3];simp[hb])
   ·exact .inr ⟨(r3 b hb).2.2,(r3 b hb).2.1,(r3 b hb).1⟩
 have kt:∀b xs,H1 b=some (.tup xs)->upd H1 a (.lst (vs'++[v])) b=some (.tup xs):=λb xs z=>by
  rw[ao (λz'=>by rw[z',g2]at z;cases z)];exact z
 have ne1:∀c∈A1,c≠a:=λc hc z=>by
  have q:=o.sq.kS i;rw[g3]at q;exact(TN.mp q).1 (by rw[<- z];exact hc)
 have ne2:∀c∈A,c≠a:=λc hc z=>(r3 c hc).2.1 ⟨i,by rw[z];exact ha⟩
 have r':Own X.prog X.w (upd H1 a (.lst (vs'++[v]))) (.lst (ds++[d])) (.ref a) (a::(A1++A)) :=
  ⟨a,vs'++[v],A1++A,rfl,ah,rfl,(g4.keep kt λc hc oc ec=>by rw[ao (ne1 c hc)];exact ec).append (aH.one (r1.keep kt λc hc oc ec=>by rw[ao (ne2 c hc)];exact ec))⟩
 exact⟨a,vs',v,rfl,rfl,g2,by rw[g4.length];exact hl,ok.nx _ _ _ ⟨_,o.sq.putIn pQ h1 ha r' nd hA,jN (n.trans o.sn) (λb z=>n.free z) ⟨i,ha⟩ ⟨_,g2,λxs z=>by cases z⟩ hA⟩ q⟩
end
abbrev cD:=D->Kd->a9->(a9->Prop)->Prop
abbrev mK:=List D->Kd->a9->(a9->Prop)->Prop
structure qL (X:Cx)(C:Cfg)(tg:Expr)(T:List Nat)(γ:cD):Prop where
 mono:∀d k β R R',(∀r,R r->R' r)->γ d k β R->γ d k β R'
 pg:PG X tg λv σ H Q=>∃own β d k,SQ X C σ H β own/\Rp X (fm C (Wn own) k) H d v/\γ d k β λβ'=>∀σ' aK,SQ X C σ' H β' aK->(∀a,Wn aK a->Wn own a)->(∀j,j∉T->σ'[j]?=σ[j]?)->Q σ' H
structure Cq (X:Cx)(C:Cfg)(uV:List Expr)(T:List Nat)(γ:mK):Prop where
 mono:∀d k β R R',(∀r,R r->R' r)->γ d k β R->γ d k β R'
 NZ:Ds X uV λvs σ H Q=>∃own β ds k,SQ X C σ H β own/\lz X (fm C (Wn own) k) H ds vs/\γ ds k β λβ'=>∀σ' aK,SQ X C σ' H β' aK->(∀a,Wn aK a->Wn own a)->(∀j,j∉T->σ'[j]?=σ[j]?)->Q σ' H
section
variable {X:Cx}{C:Cfg}{tg:Expr}{uV:List Expr}{γ:cD}{γs:mK}{T T':List Nat}{pos:Pos}{e:Expr}{φ:aJ}{p:Bool}
def Rc (i:Nat):cD:=λd k β R=>CU d k λb=>R (β.set i (some b))
theorem ay {i:Nat}{x:Str}(hN:X.N.Nodup)(hi:X.N[i]?=some x:=by rfl)(hx:Loc X.env.scope x:=by first|exact .inl rfl|exact .inr rfl)
  (hf:X.fn x=true\/X.env.scope.names.lookup x=some .local:=by first|exact .inl rfl|exact .inr rfl|assumption):qL X C (.Name x pos) [i] (Rc i) :=
 ⟨λd k β R R' h q=>CU.mono (d:=d) (k:=k) (K:=λb=>R (β.set i (some b))) (K':=λb=>R' (β.set i (some b))) (λ_=>h _) q,(eZ hN hi hx hf).pre λv σ H Q ji=>by
  obtain⟨own,β,d,k,s,r,q⟩:=ji;have JV:∀(v:V) (j:Nat),j∉[i]->(σ.set i (some v))[j]?=σ[j]?:=λv j hj=>aQ (U_ (by simpa using hj))
  cases k with
  |own=>exact q _ _ (s.d4 (y:=true) r) (λa h=>dX h) (JV v)
  |cy=>exact q _ _ (s.d4 (y:=true) r) (λa h=>dX h) (JV v)
  |old=>exact q _ _ (s.d4 (y:=false) r) (λa h=>dX h) (JV v)
  |bor=>exact q.2 _ _ (s.d4 (y:=true) (ar.flat q.1 r)) (λa h=>dX h) (JV v)⟩
abbrev sk (k:Kd):D->Kd
 |.int _=>.own
 |.bl _=>.own
 |.bJ=>.own
 |.str _=>.own
 |_=>k.wk
theorem mY {P:SW}{w:S_}{W:Addr->Prop}{H:Hp}{k:Kd}{d:D}{v:V}(r:ar P w (fm C W k) H d v):ar P w (fm C W (sk k d)) H d v:=by
 cases d with
 |int i=>exact ar.flat rfl r
 |bl i=>exact ar.flat rfl r
 |bJ=>exact ar.flat rfl r
 |str i=>exact ar.flat rfl r
 |_=>exact ar.aN (λa z=>z.imp (Dl a) id) r
def FJ:mK:=λds _ β R=>ds=[]/\R β
def yQ (γ:cD)(γs:mK):mK:=λds k β R=>∃d r,ds=d::r/\γ d (sk k d) β λβ'=>γs r k β' R
theorem bI:Cq X C [] [] FJ:=⟨λd k β R R' h q=>⟨q.1,h _ q.2⟩,ni.pre λvs σ H Q kl=>by
 obtain⟨own,β,ds,k,s,r,e,q⟩:=kl;subst e;exact⟨r,q σ own s (λ_ z=>z) λ_ _=>rfl⟩⟩
theorem aG (h1:qL X C tg T γ)(h2:Cq X C uV T' γs)(hs:(U9 (tg::uV) X.env).map (·.2)=assign tg X.env::(U9 uV X.env).map (·.2):=by rfl):Cq X C (tg::uV) (T++T') (yQ γ γs) :=
 ⟨λds k β R R' h pN=>by obtain⟨d,r,e,q⟩:=pN;exact⟨d,r,e,h1.mono _ _ β _ _ (λβ' q=>h2.mono r k β' _ _ h q) q⟩,
  (fB h1.pg h2.NZ hs).pre λvs σ H Q yC=>by
    obtain⟨own,β,ds,k,s,rr,d,r,e,q⟩:=yC;subst e;obtain⟨v,vr,rfl,rv,PD⟩:=rr;exact⟨v,vr,rfl,own,β,d,_,s,mY rv,h1.mono _ _ β _ _ (λβ' q σ' aK s' w' t'=>⟨aK,β',r,k,s',ag.aN (gY w' k) PD,h2.mono r k β' _ _ (λβ2 q2 σ2 aP s2 w2 t2=>q2 σ2 aP s2 (λa z=>w' a (w2 a z)) λj hj=>(t2 j λz=>hj (TM _ z)).trans (t' j λz=>hj (Ut _ z))) q⟩) q⟩⟩
def Rb (n:Nat)(γs:mK):cD:=λd k β R=>∃ds,d=.tup ds/\ds.length=n/\γs ds k β R
theorem ck {k:Nat}{n:Nat}(hc:X.calm=true)(h:Cq X C uV T γs)(hn:(U9 uV X.env).length=n:=by rfl)(C0:(U9 uV X.env).findIdx? (·.1)=none:=by rfl):qL X C (.Tuple uV k pos) T (Rb n γs) :=
 ⟨λd k β R R' hh yB=>by obtain⟨ds,e,l,q⟩:=yB;exact⟨ds,e,l,h.mono ds k β _ _ hh q⟩,(rB hc h.NZ hn C0).pre λv σ H Q II=>by
  obtain⟨own,β,d,k,s,r,ds,e,l,q⟩:=II;subst e;obtain⟨a,vs,rfl,ha,rs⟩:=r;exact⟨a,vs,rfl,og.of ha,by rw[rs.length];exact l,own,β,ds,k,s,rs,q⟩⟩
theorem gE {Z:Hp×(Addr->Prop)}{H:Hp}{own aK:Nat->List Addr}(n:Sn Z H (Wn own))(h:∀a,Wn aK a->Wn own a):Sn Z H (Wn aK):=⟨λb z=>n.w b (h b z),n.k,n.d⟩
theorem rE (he:PQ X C.z p e φ)(hg:qL X C.z tg T γ)(hs:swapsWithSole [tg] e pos.line X.env=pure false:=by rfl)(hw:swappedStores [tg] e X.env=pure none:=by rfl)
  (h1:(U9 [tg] X.env).map (·.2)=[assign tg X.env]:=by rfl):PB X C (.Assign [tg] e pos) (λE β=>φ β λd k β'=>γ d k β' E.nx) :=
 ⟨λE E' β l q=>he.mono _ _ _ (λd k β' q=>hg.mono _ _ _ _ _ l.nx q) q,(gd he.pe hg.pg hs hw h1).pre λD σ H ⟨Z,E,β,⟨own,s,n⟩,q,ok⟩=>tQ.of he s q λd k β' v H' aK q o r =>
  ⟨aK,β',d,k,o.sq,ar.aN (λa z=>z.elim id λz=>z.elim) r.rep,hg.mono _ _ _ _ _ (λβ2 q σ2 aP s2 w2 _=>ok.nx _ _ _ ⟨aP,s2,gE (n.trans o.sn) w2⟩ q) q⟩⟩
abbrev LJ (ro:Bool)(k:Kd)(d:D):Prop:=match k,ro with
 |.own,_=>True
 |.cy,false=>True
 |_,_=>d.flat=true
theorem eO {P:SW}{w:S_}{W:Addr->Prop}{ro:Bool}{H H':Hp}{d:D}{v:V}(f:d.flat=true)(r:ar P w W H' d v):nX P w ro H H' d v:=by
 cases ro with
 |true=>exact⟨[],eJ f r,T4,λc hc=>(nomatch hc)⟩
 |false=>exact ar.flat f r
theorem Bk {P:SW}{w:S_}{Z:Hp×(Addr->Prop)}{own:Nat->List Addr}{ro:Bool}{H':Hp}{k:Kd}{d:D}{v:V}(f:LJ ro k d)(r:KV P w C Z own H' k d v):nX P w ro C.H0 H' d v:=by
 cases k with
 |own =>
  cases ro with
  |true=>obtain⟨A,h1,h2,h3⟩:=r;exact⟨A,h1,h2,λc hc=>(h3 c hc).2.2⟩
  |false=>exact ar.aN (λa z=>.inr z) r.rep
 |cy =>
  cases ro with
  |true=>exact eO f r.rep
  |false=>exact ar.aN (λa z=>.inr z) r.rep
 |old=>cases ro <;> exact eO f r.rep
 |bor=>cases ro <;> exact eO f r.rep
theorem A4 (he:PQ X C.z p e φ):PB X C (.Return (some e) pos) (λE β=>φ β λd k β'=>LJ C.ro k d/\E.rt d β') :=
 ⟨λE E' β l q=>he.mono _ _ _ (λd k β' q=>⟨q.1,l.rt _ _ q.2⟩) q,(eY he.pe).pre λD σ H BD=>by obtain⟨Z,E,β,⟨own,s,n⟩,q,ok⟩:=BD;exact tQ.of he s q λd k β' v H' aK q o r=>ok.rt _ _ _ _ _ (o.sb n) (Bk (C:=C.z) q.1 r) q.2⟩
theorem cC {ro:Bool}(he:PQ X C.z p e φ)(Qy:C.ro=ro:=by first|exact(rfl:_=true)|exact(rfl:_=false)):PB X C (.Return (some e) pos) (λE β=>φ β λd k β'=>LJ ro k d/\E.rt d β'):=by
 subst Qy;exact A4 he
theorem tT {i:Nat}{x:Str}{px:Pos}(hn:Nm X i x:=by exact rH):
  PB X C (.Return (some (.Name x px)) pos) (λE β=>∃d,β[i]?=some (some (.own d))/\E.rt d β) :=
 ⟨λE E' β l r9=>by obtain⟨d,h1,q⟩:=r9;exact⟨d,h1,l.rt _ _ q⟩,(eY (du (pos:=px) hn)).pre λD σ H yE=>by
  obtain⟨Z,E,β,⟨own,s,n⟩,⟨d,h1,q⟩,ok⟩:=yE;obtain⟨v,e1,r,h0⟩:=s.ow i d h1;refine⟨_,e1,ok.rt _ _ _ _ _ ⟨own,s,n⟩ ?_ q⟩;cases hr:C.ro with
  |true=>exact⟨_,r,s.kS i,h0⟩
  |false=>exact r.rep λc hc z=>z (h0 c hc)⟩
end
abbrev bN:=a9->(List D->Kd->a9->Prop)->Prop
structure oh (X:Cx)(C:Cfg)(p:Bool)(tg iter:Expr)(ι:bN):Prop where
 mono:∀β R R',(∀d k β,R d k β->R' d k β)->ι β R->ι β R'
 pi:PI X tg iter λσ H R=>∃β own,SQ X C σ H β own/\ι β λds k β'=>∀J H' aK,Out X C σ H own p β' H' aK->wz X (av C (Wn aK) k) J ds H'->R J H'
section
variable {X:Cx}{C:Cfg}{tg e a b:Expr}{φ:aJ}{φs:cg}{p:Bool}{pp pos:Pos}
def LN (φ:aJ):bN:=λβ R=>φ β λd k β'=>∃ds,d=.lst ds/\R ds k β'
theorem bP (h:PQ X C p e φ):oh X C p tg e (LN φ) :=
 ⟨λβ R R' k q=>h.mono β _ _ (λd kd β' Fw=>by obtain⟨ds,e,q⟩:=Fw;exact⟨ds,e,k _ _ _ q⟩) q,(nh h.pe).pre λσ H R ⟨β,own,s,q⟩=>tQ.of h s q λd k β' v H1 aA yD o1 r1=>by
  obtain⟨ds,e,q1⟩:=yD;subst e;obtain⟨a,vs,rfl,h1,n1,q2⟩:=r1.rep;exact⟨a,rfl,⟨vs,cK.of h1⟩,q1 _ _ aA o1 (pI h1 n1 q2)⟩⟩
def BB (φs:cg):bN:=λβ R=>φs β λds _ β'=>∃j:Int,ds=[.int j]/\-(2 ^ 62)<=j/\j<2 ^ 62/\R (jS 0 j.toNat) .cy β'
def ue (φs:cg):bN:=λβ R=>φs β λds _ β'=>∃i j:Int,ds=[.int i,.int j]/\(-(2 ^ 62)<=i/\i<2 ^ 62/\-(2 ^ 62)<=j/\j<2 ^ 62)/\R (jS i (j-i).toNat) .cy β'
theorem bt (hm:X.mg "range" = none) (ha:qA X C p [a] φs) (hg:Gl X "range" := by rfl) (hs:Te [a] X.env=[(false,eval a X.env)]:=by rfl):oh X C p tg (.Call (.Name "range" pp) [a] [] pos) (BB φs) :=
 ⟨λβ R R' k q=>ha.mono β _ _ (λd kd β' Fs=>by obtain⟨j,e,h1,h2,q⟩:=Fs;exact⟨j,e,h1,h2,k _ _ _ q⟩) q,(vm hg hm ha.pa hs).pre λσ H R ⟨β,own,s,q⟩=>qU.of ha s q λds ks β' vs H1 aA Mm o1 r1=>by
  obtain⟨j,e,h1,h2,q1⟩:=Mm;subst e;obtain⟨x,rfl,hx⟩:=g_ r1.gH;cases hx;exact⟨j,rfl,h1,h2,q1 _ _ aA o1 iF⟩⟩
theorem rl (hm:X.mg "range" = none) (ha:qA X C p [a,b] φs) (hg:Gl X "range" := by rfl) (hs:Te [a,b] X.env=[(false,eval a X.env),(false,eval b X.env)]:=by rfl) (rY:Te [b] X.env=[(false,eval b X.env)]:=by rfl) :
  oh X C p tg (.Call (.Name "range" pp) [a,b] [] pos) (ue φs) :=
 ⟨λβ R R' k q=>ha.mono β _ _ (λd kd β' Fq=>by obtain⟨i,j,e,h1,q⟩:=Fq;exact⟨i,j,e,h1,k _ _ _ q⟩) q,(lP hg hm ha.pa hs rY).pre λσ H R ⟨β,own,s,q⟩=>qU.of ha s q λds ks β' vs H1 aA Mk o1 r1=>by
  obtain⟨i,j,e,h1,q1⟩:=Mk;subst e;obtain⟨x,y,rfl,hx,hy⟩:=zJ r1.gH;cases hx;cases hy;exact⟨i,j,rfl,h1,q1 _ _ aA o1 iF⟩⟩
end
def yT (γ:cD)(ψ:Dr)(E:cX)(ds:List D)(k:Kd)(β:a9):Prop:=∃I:Nat->a9->Prop,I 0 β/\(∀i d β,ds[i]?=some d->I i β->γ d (sk k d) β λβ1=>ψ (E.lp (I (i+1))) β1)/\∀β,I ds.length β->E.nx β
section
variable {X:Cx}{C:Cfg}{tg iter:Expr}{γ:cD}{T:List Nat}{ψ:Dr}{ι:bN}{body:List Stmt}{pos:Pos}{p:Bool}
theorem yT.mono {E E':cX}{ds:List D}{k:Kd}{β:a9}(hγ:∀d k β R R',(∀r,R r->R' r)->γ d k β R->γ d k β R')(hψ:∀E E' β,Le E E'->ψ E β->ψ E' β)(l:Le E E'):yT γ ψ E ds k β->yT γ ψ E' ds k β:=λ⟨I,h0,h1,h2⟩ =>
 ⟨I,h0,λi d β e q=>hγ d _ β _ _ (λβ1 q=>hψ {nx:=I (i+1),rt:=E.rt,bk:=E.nx,ct:=I (i+1)} {nx:=I (i+1),rt:=E'.rt,bk:=E'.nx,ct:=I (i+1)} β1 ⟨λ_ q=>q,l.rt,l.nx,λ_ q=>q⟩ q) (h1 i d β e q),λβ q=>l.nx _ (h2 β q)⟩
theorem Ci {own aP:Nat->List Addr}{H H2:Hp}{k:Kd}(n:Sn (H,Wn own) H2 (Wn aP)):∀b,av C (Wn aP) k b->av C (Wn own) k b\/H b=none:=λb z=>by
 cases k with
 |own=>exact z.elim (λz=>(n.w b z).imp .inl id) λz=>.inl (.inr z)
 |cy=>exact z.elim (λz=>(n.w b z).imp .inl id) λz=>.inl (.inr z)
 |old=>exact n.w b z
 |bor=>exact z.elim
theorem c4 (hp:PassesOwn (model X.prog X.w) X.A X.env X.xe)(hc:X.calm=true)(hi:oh X C.z p tg iter ι)(hg:qL X C.z tg T γ)(hb:wy X C body ψ)(hs:∀x,TL iter X.env x=pure x:=by intro _;rfl):
  PB X C (.For tg iter body [] pos) (λE β=>ι β λds k β1=>hold k false/\yT γ ψ E ds k β1) :=
 ⟨λE E' β l q=>hi.mono _ _ _ (λds k β1 q=>⟨q.1,q.2.mono hg.mono hb.mono l⟩) q,(rg hp hc hi.pi hg.pg hb.ps hs).pre λD σ H Mi=>by
  obtain⟨Z,E,β,⟨own,s,n⟩,q,ok⟩:=Mi;refine⟨β,own,s,hi.mono _ _ _ (λds k β1 fV J H1 aA o1 it=>?_) q⟩;obtain⟨hk,I,i0,i1,i2⟩:=fV;have n':=n.trans o1.sn;have ig:∀b,Wn aA b\/H1 b=none->av C.z (Wn aA) k b\/H1 b=none:=λb z=>by
   cases k with
   |own=>exact z.imp .inl id
   |cy=>exact z.imp .inl id
   |old=>exact z
   |bor=>exact hk.elim
  have CV:=it (λb=>av C.z (Wn aA) k b\/H1 b=none) λb z=>z;refine⟨λi m σ H=>i<=ds.length/\m=ds.length-i/\∃β,SB X C (H1,Wn aA) σ H β/\I i β,⟨_,Tb _,rfl,β1,⟨aA,o1.sq,Sn.refl⟩,i0⟩,?_⟩;rintro i m σ2 H2 ⟨hi,rfl,β2,⟨aP,s2,n2⟩,hl⟩;obtain⟨bz,lh⟩:=CV i H2 (n2.k.mono ig)
  by_cases eQ:i<ds.length
  ·right
   have hd:ds[i]?=some ds[i]:=Td eQ;obtain⟨go,yl⟩:=bz _ hd;refine⟨go,λσ' H'=>∃β,SB X C (H1,Wn aA) σ' H' β/\I (i+1) β,λσ' H' Me=>by obtain⟨β',Ay,yH⟩:=Me;exact⟨_,by lia,eQ,rfl,β',Ay,yH⟩,λx H3 y=>?_⟩
   obtain⟨s3,r3⟩:=yl x H3 y;refine⟨aP,β2,_,_,s2.same s3,mY (C:=C.z) (ar.aN (λb z=>Ci (C:=C) n2 b (z.elim id λz=>z.elim)) r3),hg.mono _ _ _ _ _ (λβ4 q σ4 o3 s4 w4 _=>?_) (i1 i _ β2 hd hl)⟩;refine⟨(H1,Wn aA),_,β4,⟨o3,s4,gE (n2.same s3) w4⟩,q,⟨λσ5 H5 β5 u_ q5=>⟨β5,u_,q5⟩,λσ5 H5 β5 d5 v5 u_ r5 q5=>?_,λσ5 H5 β5 u_ q5=>?_,λσ5 H5 β5 u_ q5=>⟨β5,u_,q5⟩⟩⟩
   ·obtain⟨nk,s5,n5⟩:=u_;exact ok.rt _ _ _ _ _ ⟨nk,s5,n'.trans n5⟩ r5 q5
   ·obtain⟨nk,s5,n5⟩:=u_;exact ok.nx _ _ _ ⟨nk,s5,n'.trans n5⟩ q5
  ·left
   have e:i=ds.length:=by lia
   subst e;exact⟨lh (SX _),ok.nx _ _ _ ⟨aP,s2,n'.trans n2⟩ (i2 β2 hl)⟩⟩
end
def startB (N:List Str)(ds:List D):a9:=ds.map (λd=>some (.val false d))++TX (N.length-ds.length) none
def ij (N:List Str)(ok:List Int->Prop)(ds:List D):a9:=some (.hand ok)::(ds.map (λd=>some (.val false d))++TX (N.length-(ds.length+1)) none)
section
variable {P:SW}{w:S_}{K:PySem.W.Frag}{mg:Str->Option SO}{base:Heap}
theorem fy {i n:Nat}{b:B}(h:(TX n (none:Option B))[i]?=some (some b)):False:=by
 rw[List.getElem?_replicate]at h
 split at h <;> cases h
theorem eE {ds:List D}{n i:Nat}{b:B}(h:(ds.map (λd=>some (B.val false d))++TX n none)[i]?=some (some b)):∃d,ds[i]?=some d/\b=.val false d:=by
 by_cases hi:i<ds.length
 ·rw[UO (by simpa using hi),Th]at h
  cases q:ds[i]? with
  |none=>rw[q]at h;cases h
  |some d=>rw[q]at h;cases h;exact⟨d,rfl,rfl⟩
 ·rw[Uq (by simpa using hi)]at h
  exact(fy h).elim
theorem ie {N:List Str}{vs:List V}{i:Nat}{v:V}(h:vs[i]?=some v):(start N vs)[i]?=some (some v):=by
 unfold start;rw[UO (by simpa using (SY.mp h).1),Th,h]
 rfl
theorem xf {N:List Str}{vs:List V}{ds:List D}{H:Hp}{ro:Bool}(r:ag P w (λ_=>False) H ds vs):bD P w ⟨H,λ_=>False,ro,λ_=>False⟩ (start N vs) H (startB N ds) (λ_=>[]):=by
 refine⟨?_,λi y d h=>?_,λi d h=>?_,λi ok h=>?_,λi a h=>(nomatch h),λi j a h=>(nomatch h),λi=>T4,Kp.refl,λ_ z=>z,λi y d h=>by obtain⟨d',e,e'⟩:=eE h;cases e'⟩
 ·unfold startB start;simp[r.length]
 ·obtain⟨d',e,e'⟩:=eE h;cases e';obtain⟨v,e1,e2⟩:=ag.get r e;exact⟨v,ie e1,ar.aN (λa z=>z.elim (λMb=>by obtain⟨_,q⟩:=Mb;exact(nomatch q)) λz=>z) e2⟩
 ·obtain⟨d',e,e'⟩:=eE h;cases e'
 ·obtain⟨d',e,e'⟩:=eE h;cases e'
theorem Bf {x qual:Str}{st:Stmt}{f:Addr}{fd:T7}{N ps:List Str}{k:Nat}{F:FD}{ro:Bool}(G:Ab K x qual st f fd)(S:aY N ps (aD st))(len:∀ds R,F ds R->ds.length=ps.length)
  (km:∀(c8:SO) (A:Ud) (outer:List Env) (s:SU) (H:Hp) (E:XK),cW k (A.deeper (WA qual (aD st) s.heap.objs.size f c8)) ->
   ∃ψ,wy (ll cY P w K mg base N qual (aD st) f c8 A outer s H E).CJ ⟨H,λ_=>False,ro,λ_=>False⟩ (dU st) ψ/\∀ds R,F ds R->ψ (eN R) (startB N ds)) :
  bc P w K mg base cY (k+1) f fd ps (kP P w ro F):=by
 refine G.ok S (λvs H Q E h=>?_) (λc8 A outer s H vs Q E hr h=>?_)
 ·obtain⟨ds,r,h⟩:=h;rw[r.length];exact len ds _ h
 ·obtain⟨ds,r,h⟩:=h;obtain⟨ψ,hb,hF⟩:=km c8 A outer s H E hr;refine⟨_,hb.ps,(H,Wn λ_=>[]),_,startB N ds,⟨λ_=>[],xf r,Sn.refl⟩,hF ds _ h,λσ H' β sb q=>?_,λσ H' β d v sb rr q=>?_,λ_ _ _ _ z=>z.elim,λ_ _ _ _ z=>z.elim⟩
  ·obtain⟨own,s',n'⟩:=sb;exact q _ H' (λb o e=>s'.kp.out b o e (λz=>z)) (eO (W:=λ_=>False) rfl rfl)
  ·obtain⟨own,s',n'⟩:=sb;exact q _ H' (λb o e=>s'.kp.out b o e (λz=>z)) rr
theorem u0 {N:List Str}{ok:List Int->Prop}{h:Addr}{ns:List Int}{vs:List V}{ds:List D}{H:Hp}{ro:Bool}(hh:H h=some (.lst (ns.map V.int)))(ho:ok ns)(r:ag P w (λa=>a=h) H ds vs):
  bD P w ⟨H,(·=h),ro,λ_=>False⟩ (start N (.ref h::vs)) H (ij N ok ds) (λi=>if i=0 then [h] else []):=by
 have A7:∀{i:Nat} {a:Addr},a∈(if i=0 then [h] else ([]:List Addr))->i=0/\a=h:=λ{i a} q=>by
  by_cases e:i=0
  ·rw[if_pos e]at q;exact⟨e,by simpa using q⟩
  ·rw[if_neg e]at q;cases q
 have BM:∀{i:Nat} {b:B},(ij N ok ds)[i]?=some (some b)->(i=0/\b=.hand ok)\/∃j d,i=j+1/\ds[j]?=some d/\b=.val false d:=λ{i b} q=>by
  unfold ij at q;cases i with
  |zero=>simp at q;exact .inl ⟨rfl,q.symm⟩
  |succ i =>
   rw[List.getElem?_cons_succ]at q;obtain⟨d,e,e'⟩:=eE q;exact .inr ⟨i,d,rfl,e,e'⟩
 refine⟨?_,λi y d q=>?_,λi d q=>?_,λi wC q=>?_,λi a q=>?_,λi j a h1 h2=>?_,λi=>?_,Kp.refl,λ_ z=>z,λi y d q=>(BM q).elim (λBE=>by obtain⟨_,e⟩:=BE;cases e) (λBD=>by obtain⟨j,d',_,_,e'⟩:=BD;cases e')⟩
 ·unfold ij start;simp[r.length]
 ·rcases BM q with⟨_,e⟩|⟨j,d',rfl,e,e'⟩
  ·cases e
  ·cases e';obtain⟨v,e1,e2⟩:=ag.get r e;exact⟨v,ie (by simpa using e1),ar.aN (λa z=>z.elim (λMa=>by obtain⟨j,q⟩:=Ma;exact(A7 q).2) λz=>z.elim) e2⟩
 ·rcases BM q with⟨_,e⟩|⟨j,d',_,_,e'⟩
  ·cases e
  ·cases e'
 ·rcases BM q with⟨e0,e⟩|⟨j,d',_,_,e'⟩
  ·cases e;subst e0;exact⟨h,ns,ie rfl,hh,ho,rfl,.inr rfl⟩
  ·cases e'
 ·obtain⟨_,rfl⟩:=A7 q;exact⟨by rw[hh];exact λz=>(nomatch z),λxs z=>(by rw[hh]at z;cases z),.inr rfl,λz=>z⟩
 ·rw[(A7 h1).1,(A7 h2).1]
 ·by_cases e:i=0
  ·simp[e]
  ·simp[e]
theorem Be {x qual:Str}{st:Stmt}{f:Addr}{fd:T7}{N ps:List Str}{k:Nat}{F:FD}{ok:List Int->Prop}{ro:Bool}(G:Ab K x qual st f fd)(S:aY N ps (aD st))(len:∀ds R,F ds R->ds.length+1=ps.length)
  (km:∀(c8:SO) (A:Ud) (outer:List Env) (s:SU) (H:Hp) (E:XK) (IO:Addr->Prop),cW k (A.deeper (WA qual (aD st) s.heap.objs.size f c8)) ->
   ∃ψ,wy (ll cY P w K mg base N qual (aD st) f c8 A outer s H E).CJ ⟨H,IO,ro,λ_=>False⟩ (dU st) ψ/\∀ds R,F ds R->ψ (eH ok R) (ij N ok ds)) :
  bc P w K mg base cY (k+1) f fd ps (fS P w ok ro F):=by
 refine G.ok S (λvs H Q E h=>?_) (λc8 A outer s H vs Q E hr h=>?_)
 ·obtain⟨h,vs',ds,ns,rfl,hh,ho,r,q⟩:=h;rw[Tv,r.length];exact len ds _ q
 ·obtain⟨h,vs',ds,ns,rfl,hh,ho,r,q⟩:=h;obtain⟨ψ,hb,hF⟩:=km c8 A outer s H E (·=h) hr;refine⟨_,hb.ps,(H,_),_,ij N ok ds,⟨_,u0 hh ho r,Sn.refl⟩,hF ds _ q,λσ H' β sb z=>z.elim,λσ H' β d v sb rr rT=>?_,λ_ _ _ _ z=>z.elim,λ_ _ _ _ z=>z.elim⟩;obtain⟨b0,q⟩:=rT;obtain⟨own,s',n'⟩:=sb;obtain⟨a,x_,g1,g2,g3,g4,g5⟩:=s'.nF 0 ok b0;have ea:a=h:=g5.elim (λz=>(z h rfl).elim) λz=>z;subst ea;exact q v H' x_ s'.kp s'.f6 g2 g3 rr
end
end L2.Q
namespace L2
open PySem PySem.Spec PySem.SeqAt PyProof.Rows
theorem mI.pre {X:Cx}{ifs:List Expr}{t t':TT}(h:mI X ifs t)(k:∀σ H Q,t' σ H Q->t σ H Q):mI X ifs t':=λpins s σ H Q I q=>h pins s σ H Q I (k σ H Q q)
section
end
section
end
section
variable {X:Cx}{e:Expr}{g:UX}{gs:List UX}{scope:UR}{N':List Str}{lk:List (Option Nat)}{tg:Addr->TG}{tt:Addr->TT}{wi:TI}
theorem jb {bH:Sem SO}{o:Addr->HO}{after:SO->Env->Sem Fin->Sem Fin}{ta:Addr->iP}(L:Links X scope N' lk)(hc:X.calm=true)(hA:∀(pins:List (Addr×Obj)) (s:SU) (σ:St) (H:Hp) (Q:SO->SU->Prop) (E:SO->SU->Prop),Inv X pins σ H s->(∀a s',s.heap.objs.size<=a->H a=none->(∀b o,s.heap.get? b=some o->s'.heap.get? b=some o)->Inv X pins σ (upd H a (o a)) s'->Q (.ref a) s')->Tn (model X.prog X.w) X.A bH Q E s)
  (F:∀acc env,ft e 0 g acc env (after acc env))
  (r_:∀a cl C s H ex,PG (az X scope N' cl C s H ex) g.target (tg a)/\mI (az X scope N' cl C s H ex) g.ifs (tt a)/\kM (az X scope N' cl C s H ex) (after (.ref a) (az X scope N' cl C s H ex).env) (ta a))
  {cl:List (Str×Addr)} (h_:∀x,(x,Tz)∈scope.names->∃c,cl.lookup x=some c) (kT:∀x c,cl.lookup x=some c->X.env.cells.lookup x=some c)
  {pins:List (Addr×Obj)} {σ:St} {s:SU} {Q:V->Hp->Prop} {wD:SO} {E:SO->SU->Prop} {RR:SO->Addr->Result->SU->Prop}
  (h:JF X pins σ g.target (λJ H1=>∀a,H1 a=none->df J (tg a) (tt a) (ta a) (λ_ H'=>Q (.ref a) H') (bR lk σ) (upd H1 a (o a))) wD s)
  (hR:∀a H' C s',Inv X pins σ H' s'->dH X pins H' C->(∃m,s'.heap.Ns C m)->Q (.ref a) H'->RR (.ref a) C (.ok .next) s') :
  Tn (model X.prog X.w) X.A bH (λacc s₃=>Tn (model X.prog X.w) X.A (XM scope X.env.globals cl [] X.env.qual none .none (some X.env)) (λzB s₄ =>
   WB (model X.prog X.w) X.A (.compStart e 0 wD acc {zB with scope:=relabel scope X.env}) (RR acc zB.locals) s₄) E s₃) E s:=by
 obtain⟨it,fp,tn,J,H2,e1,I2,T,eD,f2,hl⟩:=h;subst e1;refine hA pins s σ H2 _ E I2 λa s3 ha hn hk I3=>?_;refine wpAny_newFunctionEnv L.rG (by intro y hy;simp at hy) (λh₁ Fz Fn=>?_) L.kind
 have BH:∀b∈fp,∃o,s3.heap.get? b=some o:=λb hb=>by
  obtain⟨ob,q,_⟩:=T.obj _ _ eD b hb;exact⟨ob,hk b ob q⟩
 have MV:∀b∈fp,b≠a:=λb hb=>by
  obtain⟨ob,q,_⟩:=T.obj _ _ eD b hb;exact Tx (TH (Ta q) ha)
 have f3:∀b∈fp,dH X pins (upd H2 a (o a)) b:=λb hb=>⟨by rw[ao (MV b hb)];exact(f2 b hb).1,(f2 b hb).2⟩
 have C1:∀b ob,s3.heap.get? b=some ob->h₁.get? b=some ob:=λb ob q=>Fn.extBut b ob (Tx (Ta q)) (S1 _ q);have Gx:h₁.Ns s3.heap.objs.size (λ_=>none):=Fz;have I4:=yz (t':=s3.toks+([]:List (Str×SO)).length) I3 L f3 BH h_ kT Gx C1;obtain⟨g1,g2,g3⟩:=r_ a cl s3.heap.objs.size s3 (upd H2 a (o a)) fp;have f4:∀b∈fp,dH (az X scope N' cl s3.heap.objs.size s3 (upd H2 a (o a)) fp) [] (upd H2 a (o a)) b:=λb hb =>
  ⟨(f3 b hb).1,(I4.ok.GF b hb).1,I4.ok.vZ b hb,.inl hb,(I4.ok.GF b hb).2,λp hp=>absurd (show p∈([]:List (Addr×Obj)) from hp) (by simp)⟩
 have DS:tn 0 h₁:=T.keep 0 _ _ eD λb hb ob q=>C1 b ob (hk b ob q);refine V6 (gk (X:=az X scope N' cl s3.heap.objs.size s3 (upd H2 a (o a)) fp) rfl hc (F (.ref a) _) g1 g2 g3 T I4 DS f4 (hl a hn)) λr s' hr=>?_;obtain⟨rfl,σ',H',J',q⟩:=hr;have I5:Inv X pins σ H' s':=yA (C:=s3.heap.objs.size) (h'':=s'.heap) I3 f3 J' (.refl ..);refine hR a H' s3.heap.objs.size s' I5 (I3.vR (SX _) J'.free) ?_ q;obtain⟨m,hm,_⟩:=J'.loc;exact⟨m,hm⟩
theorem xM {bH:Sem SO}{o:Addr->HO}{after:SO->Env->Sem Fin->Sem Fin}{ta:Addr->iP}{pos:Pos}(L:Links X scope N' lk)(hc:X.calm=true)(hA:∀(pins:List (Addr×Obj)) (s:SU) (σ:St) (H:Hp) (Q:SO->SU->Prop) (E:SO->SU->Prop),Inv X pins σ H s->(∀a s',s.heap.objs.size<=a->H a=none->(∀b o,s.heap.get? b=some o->s'.heap.get? b=some o)->Inv X pins σ (upd H a (o a)) s'->Q (.ref a) s')->Tn (model X.prog X.w) X.A bH Q E s)
  (sf:eval e X.env=comprehension e scope X.env pos bH false (eval g.iter X.env)) (yM:Xq e=g::gs)
  (F:∀acc env,ft e 0 g acc env (after acc env)) (hi:PI X g.target g.iter wi)
  (r_:∀a cl C s H ex,PG (az X scope N' cl C s H ex) g.target (tg a)/\mI (az X scope N' cl C s H ex) g.ifs (tt a)/\kM (az X scope N' cl C s H ex) (after (.ref a) (az X scope N' cl C s H ex).env) (ta a))
  (hs:∀x,TL g.iter X.env x=pure x) :
  PE X e (λσ H Q=>wi σ H λJ H1=>∀a,H1 a=none->df J (tg a) (tt a) (ta a) (λ_ H'=>Q (.ref a) H') (bR lk σ) (upd H1 a (o a))):=by
 intro pins s σ H Q I h;rw[sf];obtain⟨cl,pP,h_,kT⟩:=eh (env:=X.env) (scope:=scope) λx hx=>I.ok.has x (L.free x hx);refine Wm (use:=none) yM hs pP L.kind L.names (bw (hi pins s σ H _ I h) λv s1 h1=>bw h1 λwD s2 h2=>?_);refine jb (RR:=λacc C=>compPost (model X.prog X.w) X.A X.xe none (EP X pins σ Q) acc C) L hc hA F r_ h_ kT h2 λa H' C s' I' f rT q=>?_;obtain⟨m,hm⟩:=rT;exact⟨m,hm,λh' rX=>⟨.ref a,H',I'.sameBut f rX,rfl,q⟩⟩
theorem jV {bH:Sem SO}{o:HO}{after:SO->Env->Sem Fin->Sem Fin}{ta:Addr->iP}{pos:Pos}(L:Links X scope N' lk)(hc:X.calm=true)(hA:kO X bH o)
  (sf:eval e X.env=comprehension e scope X.env pos bH false (eval g.iter X.env)) (yM:Xq e=g::gs)
  (F:∀acc env,ft e 0 g acc env (after acc env)) (hi:PI X g.target g.iter wi)
  (r_:∀a cl C s H ex,PG (az X scope N' cl C s H ex) g.target (tg a)/\mI (az X scope N' cl C s H ex) g.ifs (tt a)/\kM (az X scope N' cl C s H ex) (after (.ref a) (az X scope N' cl C s H ex).env) (ta a))
  (hs:∀x,TL g.iter X.env x=pure x) :
  PE X e (λσ H Q=>wi σ H λJ H1=>∀a,H1 a=none->df J (tg a) (tt a) (ta a) (λ_ H'=>Q (.ref a) H') (bR lk σ) (upd H1 a o)):=xM (o:=λ_=>o) L hc hA.ok sf yM F hi r_ hs
theorem oU {bH:Sem SO}{o:HO}{after:SO->Env->Sem Fin->Sem Fin}{ta:Addr->iP}{pos pos' fx:Pos}{y:Str}{i:Nat}(L:Links X scope N' lk)(hc:X.calm=true)(hA:kO X bH o)
  (rV:UB e (some (.Name y pos')) fx.line X.env=pure true)
  (sf:We e X.env (assign (.Name y pos') X.env)=(do let _ <- comprehension e scope X.env pos bH false (eval g.iter X.env) (some (assign (.Name y pos') X.env));pure ())) (yM:Xq e=g::gs)
  (hN:X.N.Nodup) (hy:X.N[i]?=some y) (hx:Loc X.env.scope y) (hf:X.fn y=true\/X.env.scope.names.lookup y=some .local)
  (F:∀acc env,ft e 0 g acc env (after acc env)) (hi:PI X g.target g.iter wi)
  (r_:∀a cl C s H ex,PG (az X scope N' cl C s H ex) g.target (tg a)/\mI (az X scope N' cl C s H ex) g.ifs (tt a)/\kM (az X scope N' cl C s H ex) (after (.ref a) (az X scope N' cl C s H ex).env) (ta a))
  (hs:∀x,TL g.iter X.env x=pure x) :
  PS X (.Assign [.Name y pos'] e fx) (λD σ H=>wi σ H λJ H1=>∀a,H1 a=none->df J (tg a) (tt a) (ta a) (λ_ H'=>D.nx (σ.set i (some (.ref a))) H') (bR lk σ) (upd H1 a o)):=by
 intro pins s σ H D I h;rw[exec_Assign_Name_used _ _ _ _ rV,sf];refine SN (Vc (SN (SN ?_)));obtain⟨cl,pP,h_,kT⟩:=eh (env:=X.env) (scope:=scope) λx hx=>I.ok.has x (L.free x hx);refine bw (Wm (use:=some (assign (.Name y pos') X.env)) (Q:=λ_ s'=>SP X pins D .next s') yM hs pP L.kind L.names (bw (hi pins s σ H _ I h) λv s1 h1=>bw h1 λwD s2 h2=>?_)) λ_ s' q=>SV (SV q)
 refine jb (o:=λ_=>o) (Q:=λv H'=>D.nx (σ.set i (some v)) H') (RR:=λacc C=>compPost (model X.prog X.w) X.A X.xe (some (assign (.Name y pos') X.env)) (λ_ s'=>SP X pins D .next s') acc C) L hc hA.ok F r_ h_ kT h2 λa H' C s' I' f ki q=>?_
 obtain⟨m,hm⟩:=ki;show Tn _ _ (assign (.Name y pos') X.env (.ref a)) _ _ s';have Ra:∃o,s'.heap.get? C=some o:=by obtain⟨o,_,_,ho,_⟩:=hm;exact⟨o,ho⟩
 refine W7 (ic I' hN hy hx (v:=.ref a) (u:=.ref a) rfl (λs4 I4 k4=>?_) hf);obtain⟨a4,K2,MW⟩:=k4;have ug:C≠a4:=by
  rcases MW with z|z
  ·rw[z];exact f.2.1
  ·exact(f.2.2.2.2.1 y a4 z).symm
 exact⟨m,hm.at' (λo e=>(K2.2 C ug).trans e),λh' rX=>⟨_,H',I4.sameBut f rX,q⟩⟩
end
end L2
namespace L2.Q
open PySem PySem.Spec PySem.SeqAt PyProof.Rows
noncomputable def Oh:Option B->Option B
 |some (.own d)=>some (.val false d)
 |some (.shl _ d)=>some (.val false d)
 |b=>b
def bM (lk:List (Option Nat))(β:a9):a9:=lk.map λl=>match l with|some j=>(match β[j]? with|some b=>Oh b|none=>none)|none=>none
def J8:Option (Option B)->Bool
 |some (some (.hand _))=>true
 |_=>false
def bg (lk:List (Option Nat))(β:a9)(own:Nat->List Addr)(i:Nat):List Addr:=match lk[i]? with
 |some (some j)=>if J8 β[j]?=true then own j else []
 |_=>[]
def dA:a9->a9->Prop
 |[],_=>True
 |some (.hand ok)::a,c=>c.head?=some (some (.hand ok))/\dA a c.tail
 |_::a,c=>dA a c.tail
theorem dA.get:∀{a c:a9} {i:Nat} {ok:List Int->Prop},dA a c->a[i]?=some (some (.hand ok))->c[i]?=some (some (.hand ok))
 |[],_,_,_,_,e=>by simp at e
 |x::a,c,0,ok,h,e=>by
  simp at e;subst e;rw[<- List.head?_eq_getElem?];exact h.1
 |x::a,c,i+1,ok,h,e=>by
  have h':dA a c.tail:=by
   cases x with
   |none=>exact h
   |some x=>cases x <;> first|exact h|exact h.2
  have:=dA.get (i:=i) h' (by simpa using e)
  rwa [List.getElem?_tail]at this
section
variable {P:SW}{w:S_}{C:Cfg}{σ σ':St}{H H' H1:Hp}{β βi:a9}{own d8:Nat->List Addr}{lk:List (Option Nat)}{a:Addr}
theorem bX {i:Nat}{c:Addr}(h:c∈bg lk β own i):∃j,lk[i]?=some (some j)/\J8 β[j]?=true/\c∈own j:=by
 unfold bg at h
 split at h
 ·next j e =>
  by_cases q:J8 β[j]?=true
  ·rw[if_pos q]at h;exact⟨j,e,q,h⟩
  ·rw[if_neg q]at h;cases h
 ·cases h
theorem bj:∀c,Wn (bg lk β own) c->Wn own c:=λc ⟨i,h⟩=>let ⟨j,_,_,h⟩:=bX h;⟨j,h⟩
theorem fD {i j:Nat}{v:V}(h:lk[i]?=some (some j))(e:σ[j]?=some (some v)):(bR lk σ)[i]?=some (some v):=by
 unfold bR;rw[Th,h];simp only[V1];rw[e]
theorem fP {i:Nat}{b:B}(h:(bM lk β)[i]?=some (some b)):∃j b',lk[i]?=some (some j)/\β[j]?=some (some b')/\Oh (some b')=some b:=by
 unfold bM at h;rw[Th]at h;cases q:lk[i]? with
 |none=>rw[q]at h;cases h
 |some l =>
  rw[q]at h;cases l with
  |none=>cases h
  |some j =>
   simp only[V1]at h;cases q2:β[j]? with
   |none=>rw[q2]at h;cases h
   |some b2 =>
    rw[q2]at h;simp only[Wf]at h;cases b2 with
    |none=>cases h
    |some b'=>exact⟨j,b',rfl,q2,h⟩
theorem bD.enter (s:bD P w C σ H β own)(ha:H a=none)(inj:∀(i i' j:Nat),lk[i]?=some (some j)->lk[i']?=some (some j)->i=i'):
  bD P w (C.u λc=>c=a) (bR lk σ) (upd H a (.lst [])) (bM lk β) (bg lk β own):=by
 have sm:au H (upd H a (.lst [])):=au.new ha;have na:∀{i c},c∈own i->c≠a:=λ{i c} hc z=>(s.dm i c hc).1 (by rw[z];exact ha)
 have gr:∀k,∀c,fm (C.u λc=>c=a) (Wn (bg lk β own)) k c->fm C (Wn own) k c\/H c=none:=λk c z=>by
  rcases z with z|z
  ·exact .inl (.inl (gZ bj k c z))
  ·exact .inr (by rw[z];exact ha)
 refine⟨by unfold bM bR;simp,λi y d e=>?_,λi d e=>?_,λi ok e=>?_,λi c h=>?_,λi i' c h1 h2=>?_,λi=>?_,s.kp.trans sm.kp,λc z e=>s.f6 c z (sm.free e),λi y d e=>by
  obtain⟨j,b',e1,e2,e3⟩:=fP e;cases b' <;> cases e3⟩
 ·obtain⟨j,b',e1,e2,e3⟩:=fP e;cases b' with
  |val y' d' =>
   cases e3;obtain⟨v,h1,h2⟩:=s.val j y d e2;exact⟨v,fD e1 h1,(ar.grow (gr _) h2).same sm⟩
  |own d' =>
   cases e3;obtain⟨v,h1,h2,h3⟩:=s.ow j d e2;refine⟨v,fD e1 h1,ar.same sm (h2.rep λc hc z=>?_)⟩;rcases z with z|z
   ·obtain⟨i',jj⟩:=z;obtain⟨j',q1,q2,q3⟩:=bX jj;have:=s.ja j j' c hc q3;subst this;rw[e2]at q2;cases q2
   ·exact na hc z
  |hand ok=>cases e3
  |shl y' d' =>
   cases e3;obtain⟨v,h1,h2,h3⟩:=s.shl j y' d e2;refine⟨v,fD e1 h1,ar.same sm (h2.rep (λc hc z=>?_) λds vs r=>ag.grow (λc z=>?_) r)⟩
   ·rcases z with z|z
    ·obtain⟨i',jj⟩:=z;obtain⟨j',q1,q2,q3⟩:=bX jj;have:=s.ja j j' c hc q3;subst this;rw[e2]at q2;cases q2
    ·exact na hc z
   ·rcases gr _ c z with z|z
    ·refine .inl ?_;rcases z with z|z
     ·exact .inl (.inl z)
     ·exact .inr z
    ·exact .inr z
 ·obtain⟨j,b',e1,e2,e3⟩:=fP e;cases b' <;> cases e3
 ·obtain⟨j,b',e1,e2,e3⟩:=fP e;cases b' with
  |val y' d'=>cases e3
  |own d'=>cases e3
  |shl y d=>cases e3
  |hand wC =>
   cases e3;obtain⟨h,ns,h1,h2,h3,h4,h5⟩:=s.nF j ok e2;refine⟨h,ns,fD e1 h1,sm _ _ h2,h3,?_,h5⟩;unfold bg;rw[e1];simp only;rw[e2];exact(if_pos rfl).trans h4
 ·obtain⟨j,q1,q2,q3⟩:=bX h;obtain⟨g1,g2,g3,g4⟩:=s.dm j c q3;rw[ao (na q3)];exact⟨g1,g2,g3,na q3⟩
 ·obtain⟨j,q1,q2,q3⟩:=bX h1;obtain⟨j',NV,R9,PX⟩:=bX h2;have:=s.ja j j' c q3 PX;subst this;exact inj _ _ _ q1 NV
 ·unfold bg
  split
  ·next j e =>
   split
   ·exact s.kS j
   ·exact T4
  ·exact T4
theorem bD.D_ {o:HO}(s:bD P w (C.u λc=>c=a) σ H β own){oa:HO}(ha:H a=some oa)(ht:∀xs,oa≠.tup xs)(h0:C.H0 a=none):bD P w (C.u λc=>c=a) σ (upd H a o) β own:=by
 have k:Kp (·=a) H (upd H a o):=gi ha ht;have na:∀{i c},c∈own i->c≠a:=λ{i c} hc=>(s.dm i c hc).2.2.2;refine⟨s.len,λi y d e=>let ⟨v,h1,h2⟩:=s.val i y d e;⟨v,h1,h2.keep (k.mono λc z=>.inr z)⟩,λi d e=>let ⟨v,h1,h2,h3⟩:=s.ow i d e;⟨v,h1,h2.keep k.tup (λc hc oc ec=>k.out c oc ec (na hc)),h3⟩,
  λi ok e=>?_,λi c h=>?_,s.ja,s.kS,⟨λc oc z n=>k.out c oc (s.kp.out c oc z n) λq=>?_,λc xs z=>k.tup c xs (s.kp.tup c xs z)⟩,λc z=>?_,λi y d e=>let ⟨v,h1,h2,h3⟩:=s.shl i y d e;⟨v,h1,h2.map (λc hc oc ec=>k.out c oc ec (na hc)) (λ_ _ r=>r.keep (k.mono λc z=>.inr z)),h3⟩⟩
 ·obtain⟨h,ns,h1,h2,h3,h4,h5⟩:=s.nF i ok e;exact⟨h,ns,h1,k.out h _ h2 (na (by rw[h4];simp)),h3,h4,h5⟩
 ·rw[ao (na h)];exact s.dm i c h
 ·rw[q,h0]at z;cases z
 ·by_cases q:c=a
  ·rw[q,ah];exact λz=>(nomatch z)
  ·rw[ao q];exact s.f6 c z
theorem bD.leave (s:bD P w C σ H1 β own)(i:bD P w (C.u λc=>c=a) σ' H' βi d8)(n:Sn (H1,Wn (bg lk β own)) H' (Wn d8))(le:∀c,Wn d8 c->Wn (bg lk β own) c)
  (hh:dA (bM lk β) βi) (hσ:∀(j:Nat) (ok:List Int->Prop) (i:Nat),β[j]?=some (some (B.hand ok))->lk[i]?=some (some j)->σ'[i]?=(bR lk σ)[i]?):bD P w C σ H' β own:=by
 have off:∀{j c},c∈own j->¬ Wn (bg lk β own) c->∀o,H1 c=some o->H' c=some o:=λ{j c} hc nw o e=>n.k.out c o e λz=>z.elim nw λz=>(s.dm j c hc).1 z;have IF:∀{j c},c∈own j->J8 β[j]?=false->¬ Wn (bg lk β own) c:=λ{j c} hc q kl=>by
  obtain⟨i',jj⟩:=kl;obtain⟨j',q1,q2,q3⟩:=bX jj;have:=s.ja j j' c hc q3;subst this;rw[q]at q2;cases q2
 have hN:∀(j:Nat) (ok:List Int->Prop),β[j]?=some (some (B.hand ok))->∃a ns,σ[j]?=some (some (V.ref a))/\H' a=some (.lst (ns.map V.int))/\ok ns/\own j=[a]/\((∀b,¬ C.IO b)\/C.IO a):=λj ok e=>by
  obtain⟨h,ns,h1,h2,h3,h4,h5⟩:=s.nF j ok e
  by_cases q:Wn (bg lk β own) h
  ·obtain⟨i',jj⟩:=q;obtain⟨j',q1,q2,q3⟩:=bX jj;have:=s.ja j j' h (by rw[h4];simp) q3
   subst this;have eB:(bM lk β)[i']?=some (some (.hand ok)):=by
    unfold bM;rw[Th,q1];simp only[V1];rw[e];rfl
   obtain⟨h',x_,g1,g2,g3,g4,g5⟩:=i.nF i' ok (hh.get eB);rw[hσ j ok i' e q1,fD q1 h1]at g1;cases g1;exact⟨h,x_,h1,g2,g3,h4,h5⟩
  ·exact⟨h,ns,h1,off (by rw[h4];simp) q _ h2,h3,h4,h5⟩
 refine⟨s.len,λj y d e=>?_,λj d e=>?_,hN,λj c hc=>?_,s.ja,s.kS,i.kp,i.f6,λj y d e=>by
  obtain⟨v,h1,h2,h3⟩:=s.shl j y d e;refine⟨v,h1,h2.map (λc hc o eo=>off hc (IF hc (by rw[e];rfl)) o eo) (λds vs r=>?_),h3⟩
  have g:ag P w (λc=>fm C (Wn own) (yk true) c\/H1 c=none) H1 ds vs:=ag.grow (λc z=>z) r;refine ag.aN (λc z=>.inl z) (g.keep (n.k.mono λc z=>z.imp (λz=>?_) id));exact .inl (.inl (bj c z))⟩
 ·obtain⟨v,h1,h2⟩:=s.val j y d e;have g:ar P w (λc=>fm C (Wn own) (yk y) c\/H1 c=none) H1 d v:=ar.grow (λc z=>z) h2;refine⟨v,h1,ar.aN (λc z=>.inl z) (g.keep (n.k.mono λc z=>z.imp (λz=>?_) id))⟩;cases y with
  |true=>exact .inl (.inl (bj c z))
  |false=>exact .inl (bj c z)
 ·obtain⟨v,h1,h2,h3⟩:=s.ow j d e;exact⟨v,h1,h2.keep n.k.tup (λc hc o eo=>off hc (IF hc (by rw[e];rfl)) o eo),h3⟩
 ·obtain⟨g1,g2,g3,g4⟩:=s.dm j c hc
  by_cases q:Wn (bg lk β own) c
  ·obtain⟨i',jj⟩:=q;obtain⟨j',q1,q2,q3⟩:=bX jj;have:=s.ja j j' c hc q3;subst this;cases e:β[j]? with
   |none=>rw[e]at q2;cases q2
   |some b =>
    rw[e]at q2;cases b with
    |none=>cases q2
    |some b =>
     cases b with
     |val y d=>cases q2
     |own d=>cases q2
     |shl y d=>cases q2
     |hand ok =>
      obtain⟨h,ns,k1,k2,k3,k4,k5⟩:=hN j ok e;rw[k4]at hc;rw[S3.mp hc]at g3 g4 ⊢
      rw[k2];exact⟨λz=>(nomatch z),λxs z=>(by cases z),g3,g4⟩
  ·cases e:H1 c with
   |none=>exact absurd e g1
   |some o=>rw[off hc q o e];exact⟨λz=>(nomatch z),λxs z=>g2 xs (by rw[e];exact z),g3,g4⟩
end
def GZ:aW:=λβ R=>R true β
theorem xx {X:Cx}{C:Cfg}:mI X [] (ib X C true GZ):=tH.pre λσ H Q ⟨β,own,s,q⟩=>q H own (Out.refl s _)
theorem xw {X:Cx}{C:Cfg}{p:Bool}{c:Expr}{τ:aW}(h:sP X C p c τ):mI X [c] (ib X C p τ):=AG h.pt
def i5 (γ:cD)(τ:aW)(φ:aJ)(ds:List D)(k:Kd)(β0:a9)(K:List D->Prop):Prop:=∃I:Nat->a9->List D->Prop,I 0 β0 [] /\
 (∀i d β o,ds[i]?=some d->I i β o->γ d (sk k d) β λβ1=>τ β1 λt β2=>if t=true then φ β2 λx kx β3=>Bv kx x/\o.length<S7/\I (i+1) β3 (o++[x]) else I (i+1) β2 o)/\∀β o,I ds.length β o->dA β0 β/\K o
theorem i5.mono {γ:cD}{τ:aW}{φ:aJ}{ds:List D}{k:Kd}{β0:a9}{K K':List D->Prop}(h:∀o,K o->K' o)(q:i5 γ τ φ ds k β0 K):i5 γ τ φ ds k β0 K':=let ⟨I,h0,h1,h2⟩:=q;⟨I,h0,h1,λβ o z=>⟨(h2 β o z).1,h _ (h2 β o z).2⟩⟩
section
variable {X:Cx}{C:Cfg}{lk:List (Option Nat)}{γ:cD}{τ:aW}{φ:aJ}{T:List Nat}{pc pe:Bool}
theorem iN {σ:St}{H1:Hp}{β:a9}{own:Nat->List Addr}{a:Addr}{J:It}{ds:List D}{k:Kd}{K:List D->Prop}{End:Hp->Prop}
  (γm:∀d k β R R',(∀r,R r->R' r)->γ d k β R->γ d k β R') (τm:∀β R R',(∀d β,R d β->R' d β)->τ β R->τ β R') (φm:∀β R R',(∀d k β,R d k β->R' d k β)->φ β R->φ β R')
  (inj:∀(i i' j:Nat),lk[i]?=some (some j)->lk[i']?=some (some j)->i=i') (hT:∀i∈T,∀j,lk[i]?≠some (some j))
  (s1:SQ X C σ H1 β own) (ha:H1 a=none) {hp:Bool} (zY:hp=true->(pc&&pe)=true) (hk:hold k hp) (it:wz X (av C (Wn own) k) J ds H1) (q:i5 γ τ φ ds k (bM lk β) K)
  (fin:∀o H',K o->Out X C σ H1 own (pc&&pe) β H' own->KV X.prog X.w C (H1,Wn own) own H' .own (.lst o) (.ref a)->End H') :
  df J (λv σ H Q=>∃own β d k,SQ X (C.u λc=>c=a) σ H β own/\Rp X (fm (C.u λc=>c=a) (Wn own) k) H d v/\γ d k β λβ'=>∀σ' aK,SQ X (C.u λc=>c=a) σ' H β' aK->(∀a,Wn aK a->Wn own a)->(∀j,j∉T->σ'[j]?=σ[j]?)->Q σ' H)
   (ib X (C.u λc=>c=a) pc τ) (λN σ H=>tQ X (C.u λc=>c=a) pe φ σ H λv H1=>∃xs,H1 a=some (.lst xs)/\xs.length<S7/\N σ (upd H1 a (.lst (xs++[v]))))
   (λ_ H'=>End H') (bR lk σ) (upd H1 a (.lst [])):=by
 obtain⟨I,i0,i1,i2⟩:=q;have h0:C.H0 a=none:=TV λz=>s1.f6 a z ha;have sm:au H1 (upd H1 a (.lst [])):=au.new ha;have N_:∀c,Wn (bg lk β own) c->c≠a:=λc z e=>by
  obtain⟨j,hj⟩:=bj c z;exact(s1.dm j c hj).1 (by rw[e];exact ha)
 let S:Nat->St->Hp->Prop:=λi σ' H'=>∃βi d8 vs o A,SQ X (C.u λc=>c=a) σ' H' βi d8/\Sn (H1,Wn (bg lk β own)) H' (Wn d8)/\(∀c,Wn d8 c->Wn (bg lk β own) c)/\H' a=some (.lst vs)/\aH X.prog X.w H' o vs A/\A.Nodup/\(∀c∈A,H1 c=none/\c≠a) /\
  ((pc&&pe)=true->au H1 H')/\(∀j,j∉T->σ'[j]?=(bR lk σ)[j]?)/\I i βi o
 have W':Addr->Prop:=λb=>av C (Wn own) k b\/H1 b=none;have CV:=it (λb=>av C (Wn own) k b\/H1 b=none) λb z=>z;have kI:∀{H':Hp} {d8:Nat->List Addr},Sn (H1,Wn (bg lk β own)) H' (Wn d8)->((pc&&pe)=true->au H1 H')->Kp (λb=>av C (Wn own) k b\/H1 b=none) H1 H':=λn pu=>by
  cases k with
  |own=>exact n.k.mono λb z=>z.imp (λz=>.inl (bj b z)) id
  |cy=>exact n.k.mono λb z=>z.imp (λz=>.inl (bj b z)) id
  |old=>exact n.k.mono λb z=>z.imp (bj b) id
  |bor =>
   cases hp with
   |false=>exact hk.elim
   |true=>exact(pu (zY rfl)).kp.mono λb z=>.inr z
 refine⟨λi m σ' H'=>i<=ds.length/\m=ds.length-i/\S i σ' H',⟨_,Tb _,rfl,bM lk β,bg lk β own,[],[],[],s1.enter ha inj,⟨λb z=>.inl z,sm.kp,λb z e=>z (sm.free e)⟩,λ_ z=>z,ah,⟨rfl,rfl⟩,T4,λc hc=>(nomatch hc),λ_=>sm,λ_ _=>rfl,i0⟩,?_⟩;rintro i m σ2 H2 ⟨hi,rfl,βi,d8,vs,o,A,sq,sn,le,BK,os,nd,nw,pu,st,hl⟩;obtain⟨bz,lh⟩:=CV i H2 (kI sn pu)
 by_cases eQ:i<ds.length
 ·right
  have hd:ds[i]?=some ds[i]:=Td eQ;obtain⟨go,yl⟩:=bz _ hd;refine⟨go,λσ' H'=>S (i+1) σ' H',λσ' H' h=>⟨_,by omega,eQ,rfl,h⟩,λx H3 y=>?_⟩
  obtain⟨s3,r3⟩:=yl x H3 y;have Rw:∀{d8:Nat->List Addr},(∀c,Wn d8 c->Wn (bg lk β own) c)->∀c,fm (C.u λc=>c=a) (Wn d8) k c->av C (Wn own) k c\/H1 c=none:=λle c z=>z.elim (λz=>.inl (gZ (λc z=>bj c (le c z)) k c z)) λz=>.inr (by rw[z];exact ha)
  refine⟨d8,βi,_,_,sq.same s3,mY (ar.aN (Rw le) r3),γm _ _ _ _ _ (λβ4 q σ4 o3 s4 w4 t4=>?_) (i1 i _ βi o hd hl)⟩;have Ik:∀c,Wn o3 c->Wn (bg lk β own) c:=λc z=>le c (w4 c z);refine⟨β4,o3,s4,τm _ _ _ (λt β5 q H5 nk o5=>?_) q⟩;have J3:∀c,Wn nk c->Wn (bg lk β own) c:=λc z=>Ik c (o5.le c z);have yq:∀c,c∈a::A->∀oc,H2 c=some oc->H5 c=some oc:=λc hc oc e=>by
   refine o5.sn.k.out c oc (s3 c oc e) λz=>?_;rcases z with z|z
   ·rcases S5.mp hc with rfl|hc
    ·exact N_ _ (Ik _ z) rfl
    ·obtain⟨j,hj⟩:=bj c (Ik c z);exact(s1.dm j c hj).1 (nw c hc).1
   ·exact absurd ((s3 c oc e).symm.trans z) (λz=>(nomatch z))
  have Qe:∀b xs,H2 b=some (.tup xs)->H5 b=some (.tup xs):=λb xs e=>o5.sn.k.tup b xs (s3 b _ e);have Gv:aH X.prog X.w H5 o vs A:=os.keep Qe λc hc oc e=>yq c (by simp[hc]) oc e
  have KY:Sn (H1,Wn (bg lk β own)) H5 (Wn nk):=(gE (sn.same s3) w4).trans o5.sn;have NW:(pc&&pe)=true->au H1 H5:=λz=>((pu z).trans s3).trans (o5.pu (sM z)).1;have DS:∀j,j∉T->σ4[j]?=(bR lk σ)[j]?:=λj hj=>(t4 j hj).trans (st j hj);cases t with
  |false=>exact⟨β5,nk,vs,o,A,o5.sq,KY,J3,yq a (by simp) _ BK,Gv,nd,nw,NW,DS,q⟩
  |true =>
   refine⟨β5,nk,o5.sq,φm _ _ _ (λxd kx β6 fV v H6 EB o6 r6=>?_) q⟩;obtain⟨f,hz,q⟩:=fV;obtain⟨B',r1,r2,Hl⟩:=r6.fl f;have vP:H5 a=some (.lst vs):=yq a (by simp) _ BK
   have CT:∀c,c∈a::A->∀oc,H5 c=some oc->H6 c=some oc:=λc hc oc e=>by
    refine o6.sn.k.out c oc e λz=>?_;rcases z with z|z
    ·rcases S5.mp hc with rfl|hc
     ·exact N_ _ (J3 _ z) rfl
     ·obtain⟨j,hj⟩:=bj c (J3 c z);exact(s1.dm j c hj).1 (nw c hc).1
    ·exact absurd (e.symm.trans z) (λz=>(nomatch z))
   have pR:H6 a=some (.lst vs):=CT a (by simp) _ vP
   have N1:aH X.prog X.w H6 o vs A:=Gv.keep o6.sn.k.tup λc hc oc e=>CT c (by simp[hc]) oc e
   have P1:∀c∈A,c≠a:=λc hc=>(nw c hc).2;have HR:∀c∈B',c≠a:=λc hc z=>by rw[z]at hc;exact absurd (vP.symm.trans (Hl a hc).1) (λz=>(nomatch z))
   have kt:∀b xs,H6 b=some (.tup xs)->upd H6 a (.lst (vs++[v])) b=some (.tup xs):=λb xs z=>by rw[ao (λz'=>by rw[z',pR]at z;cases z)];exact z
   refine⟨vs,pR,by rw[N1.length];exact hz,β6,EB,vs++[v],o++[xd],A++B',o6.sq.D_ pR (λxs z=>by cases z) h0,?_,λc z=>J3 c (o6.le c z),ah,?_,?_,λc hc=>?_,λz=>?_,DS,q⟩
   ·have m:=KY.trans o6.sn;refine⟨m.w,m.k.trans ((gi pR (λxs z=>by cases z)).mono λb z=>.inr (by rw[z];exact ha)),λb z e=>?_⟩
    by_cases hb:b=a
    ·rw[hb,ah]at e;cases e
    ·rw[ao hb]at e;exact m.d b z e
   ·exact(N1.keep kt λc hc oc e=>by rw[ao (P1 c hc)];exact e).append (aH.one (r1.keep kt λc hc oc e=>by rw[ao (HR c hc)];exact e))
   ·refine TZ.mpr ⟨nd,r2,λx hx y hy e=>?_⟩;subst e;have:=(Hl x hy).1;exact(Gv.kU x hx).1 this
   ·rcases S9.mp hc with hc|hc
    ·exact nw c hc
    ·exact⟨KY.free (Hl c hc).1,HR c hc⟩
   ·refine λb ob e=>?_;rw[ao (λz'=>by rw[z',ha]at e;cases e)]
    exact(o6.pu (Cm z)).1 b ob (NW z b ob e)
 ·left
  have e:i=ds.length:=by omega
  subst e;obtain⟨hh,q⟩:=i2 βi o hl;have lv:SQ X C σ H2 β own:=s1.leave sq sn le hh λj ok i' e1 e2=>st i' λz=>hT i' z j e2;refine⟨lh (SX _),fin o H2 q ⟨lv,⟨λb z=>.inl z,sn.k.mono λb z=>z.imp (bj b) id,sn.d⟩,λz=>⟨pu z,rfl⟩,λ_ z=>z⟩ ⟨a::A,⟨a,vs,A,rfl,BK,rfl,os⟩,TN.mpr ⟨λz=>(nw a z).2 rfl,nd⟩,λc hc=>?_⟩⟩;have h_:H1 c=none:=by
   rcases S5.mp hc with rfl|hc
   ·exact ha
   ·exact(nw c hc).1
  exact⟨h_,λyB=>by obtain⟨j,hj⟩:=yB;exact(s1.dm j c hj).1 h_,TV λz=>s1.f6 c z h_⟩
theorem dc {scope:UR}{N':List Str}(L:Links X scope N' lk)(hN:N'.Nodup):∀(i i' j:Nat),lk[i]?=some (some j)->lk[i']?=some (some j)->i=i':=λi i' j h1 h2=>by
 obtain⟨x,a1,a2,_⟩:=L.link i j h1;obtain⟨y,b1,b2,_⟩:=L.link i' j h2;rw[a2]at b2;cases b2;exact(List.getElem?_inj (SY.mp a1).1 hN).mp (a1.trans b1.symm)
def lN (lk:List (Option Nat))(ι:bN)(γ:cD)(τ:aW)(φ:aJ):aJ:=λβ R=>ι β λds k β1=>hold k false/\i5 γ τ φ ds k (bM lk β1) λo=>R (.lst o) .own β1
variable {scope:UR}{N':List Str}{tg bz elt:Expr}{ifs:List Expr}{ι:bN}{pi:Bool}{pos pos' fx:Pos}{y:Str}{i:Nat}
theorem CF (L:Links X scope N' lk)(jw:N'.Nodup)(hT:T.all (λi=>match lk[i]? with|some (some _)=>false|_=>true)=true)(hc:X.calm=true)(hi:oh X C pi tg bz ι)
  (jh:∀a cl c s H ex,qL (az X scope N' cl c s H ex) (C.u λc=>c=a) tg T γ) (jg:∀a cl c s H ex,mI (az X scope N' cl c s H ex) ifs (ib (az X scope N' cl c s H ex) (C.u λc=>c=a) pc τ)) (τm:∀β R R',(∀d β,R d β->R' d β)->τ β R->τ β R')
  (jk:∀a cl c s H ex,PQ (az X scope N' cl c s H ex) (C.u λc=>c=a) pe elt φ) (γm:∀d k β R R',(∀r,R r->R' r)->γ d k β R->γ d k β R') (φm:∀β R R',(∀d k β,R d k β->R' d k β)->φ β R->φ β R')
  (hs:∀x,TL bz X.env x=pure x:=by intro _;rfl):PQ X C (pi&&(pc&&pe)) (.ListComp elt [⟨tg,bz,ifs,0⟩] scope pos) (lN lk ι γ τ φ):=by
 have BL:∀i∈T,∀j,lk[i]?≠some (some j):=λi hi j e=>by
  have:=U6.mp hT i hi;rw[e]at this;cases this
 refine⟨λβ R R' k h=>hi.mono β _ _ (λds kd β1 q=>⟨q.1,q.2.mono λo z=>k _ _ _ z⟩) h,?_⟩;refine(jV (g:=⟨tg,bz,ifs,0⟩) (gs:=[]) (tg:=λa v σ H Q=>∃own β d k,SQ X (C.u λc=>c=a) σ H β own/\Rp X (fm (C.u λc=>c=a) (Wn own) k) H d v/\γ d k β λβ'=>∀σ' aK,SQ X (C.u λc=>c=a) σ' H β' aK->(∀a,Wn aK a->Wn own a)->(∀j,j∉T->σ'[j]?=σ[j]?)->Q σ' H)
  (tt:=λa=>ib X (C.u λc=>c=a) pc τ) (ta:=λa N σ H=>tQ X (C.u λc=>c=a) pe φ σ H λv H1=>∃xs,H1 a=some (.lst xs)/\xs.length<S7/\N σ (upd H1 a (.lst (xs++[v]))))
  L hc eM rfl rfl (λ_ _=>qq) hi.pi (λa cl c s H ex=>⟨(jh a cl c s H ex).pg,jg a cl c s H ex,eI rfl (jk a cl c s H ex).pe⟩) hs).pre λσ H Q ⟨β,own,s,h⟩=>?_
 refine⟨β,own,s,hi.mono β _ _ (λds k β1 ki J H1 aA o1 it a ha=>?_) h⟩;obtain⟨hk,q⟩:=ki;exact iN γm τm φm (dc L jw) BL o1.sq ha (hp:=false) (λz=>by cases z) hk it q λo H' q o2 r=>q _ _ aA (o1.trans o2) (r.later o1.sn)
theorem Hw {K:D->a9->cX->Prop}(L:Links X scope N' lk)(jw:N'.Nodup)(hT:T.all (λi=>match lk[i]? with|some (some _)=>false|_=>true)=true)(hc:X.calm=true)(hi:∀U,oh X (C.u U) pi tg bz ι)
  (jh:∀U cl c s H ex,qL (az X scope N' cl c s H ex) (C.u U) tg T γ) (jg:∀U cl c s H ex,mI (az X scope N' cl c s H ex) ifs (ib (az X scope N' cl c s H ex) (C.u U) pc τ)) (τm:∀β R R',(∀d β,R d β->R' d β)->τ β R->τ β R')
  (jk:∀U cl c s H ex,PQ (az X scope N' cl c s H ex) (C.u U) pe elt φ) (γm:∀d k β R R',(∀r,R r->R' r)->γ d k β R->γ d k β R') (φm:∀β R R',(∀d k β,R d k β->R' d k β)->φ β R->φ β R') (o:Bool)
  (hN:X.N.Nodup) (hy:X.N[i]?=some y:=by rfl) (hx:Loc X.env.scope y:=by first|exact .inl rfl|exact .inr rfl) (hf:X.fn y=true\/X.env.scope.names.lookup y=some .local:=by first|exact .inl rfl|exact .inr rfl|assumption)
  (rV:UB (.ListComp elt [⟨tg,bz,ifs,0⟩] scope pos) (some (.Name y pos')) fx.line X.env=pure true:=by rfl)
  (sf:We (.ListComp elt [⟨tg,bz,ifs,0⟩] scope pos) X.env (assign (.Name y pos') X.env)=(do let _ <- comprehension (.ListComp elt [⟨tg,bz,ifs,0⟩] scope pos) scope X.env (W_ [⟨tg,bz,ifs,0⟩] pos) (newList []) false (eval bz X.env) (some (assign (.Name y pos') X.env));pure ()):=by first|rfl|exact VA ..)
  (hs:∀x,TL bz X.env x=pure x:=by intro _;rfl) :
  PB X C (.Assign [.Name y pos'] (.ListComp elt [⟨tg,bz,ifs,0⟩] scope pos) fx) (λE β=>lN lk ι γ τ φ β λd _ β'=>E.nx (β'.set i (some (match o with|true=>.own d|false=>.val true d)))):=by
 have BL:∀i∈T,∀j,lk[i]?≠some (some j):=λi hi j e=>by
  have:=U6.mp hT i hi;rw[e]at this;cases this
 refine⟨λE E' β l h=>(hi λ_=>False).mono β _ _ (λds kd β1 q=>⟨q.1,q.2.mono λo z=>l.nx _ z⟩) h,λpins s σ H D I0 rT=>?_⟩;obtain⟨Z,E,β,⟨own,sq,n⟩,h,ok⟩:=rT;refine oU (g:=⟨tg,bz,ifs,0⟩) (gs:=[]) (tg:=λa v σ H Q=>∃own β d k,SQ X (C.u λc=>c=a) σ H β own/\Rp X (fm (C.u λc=>c=a) (Wn own) k) H d v/\γ d k β λβ'=>∀σ' aK,SQ X (C.u λc=>c=a) σ' H β' aK->(∀a,Wn aK a->Wn own a)->(∀j,j∉T->σ'[j]?=σ[j]?)->Q σ' H)
  (tt:=λa=>ib X (C.u λc=>c=a) pc τ) (ta:=λa N σ H=>tQ X (C.u λc=>c=a) pe φ σ H λv H1=>∃xs,H1 a=some (.lst xs)/\xs.length<S7/\N σ (upd H1 a (.lst (xs++[v]))))
  L hc eM rV sf rfl hN hy hx hf (λ_ _=>qq) (hi λa=>H a=none).pi (λa cl c s H ex=>⟨(jh _ cl c s H ex).pg,jg _ cl c s H ex,eI rfl (jk _ cl c s H ex).pe⟩) hs pins s σ H D I0 ?_
 refine⟨β,own,sq.gy (C:=C.z) (U:=λa=>H a=none) λa z=>z,(hi λ_=>False).mono β _ _ (λds k β1 Iy J H1 aA o1 it a ha=>?_) h⟩;obtain⟨hk,q⟩:=Iy;refine iN (C:=C.u λa=>H a=none) γm τm φm (dc L jw) BL o1.sq ha (hp:=false) (λz=>by cases z) hk it q λol H' q o2 r=>?_
 have r':=r.later o1.sn;have oo:=o1.trans o2;have m:=n.trans oo.sn;cases o with
 |false=>exact ok.nx _ _ _ ⟨_,(bD.N5 oo.sq).d4 (ar.aN (λa z=>z.elim id λz=>z.elim) (KV.rep r')),qY m⟩ q
 |true =>
  obtain⟨A,h1,h2,h3⟩:=r';refine ok.nx _ _ _ ⟨_,oo.sq.jQ h1 h2 λc hc=>⟨(h3 c hc).2.2,(h3 c hc).2.1,(h3 c hc).1⟩,?_⟩ q;exact⟨λb r9=>by
   obtain⟨j,hj⟩:=r9
   by_cases aE:i=j
   ·rw[<- aE,os_eq]at hj;exact .inr (n.free (h3 b hj).1)
   ·rw[bf aE]at hj;exact m.w b ⟨j,hj⟩,m.k,m.d⟩
end
end L2.Q
namespace Zp
open PySem PySem.Spec PyProof.Rows
section
end
end Zp
namespace L2
open PySem PySem.Spec PySem.SeqAt PyProof.Rows Zp
theorem Inv.Aj {X:Cx}{pins:List (Addr×Obj)}{σ:St}{H:Hp}{s:SU}{fp:List Addr}{h':Heap}{x y:V}{u v:SO}(I:Inv X pins σ H s)(hf:∀b∈fp,dH X pins H b)(k:∀c o,c∉fp->s.heap.get? c=some o->h'.get? c=some o)
  (rx:RelV x u) (ry:RelV y v) (hT:IsPair h' s.heap.objs.size u v):Inv X pins σ (upd H s.heap.objs.size (.tup [x,y])) {s with heap:=h'}:=by
 have hn:H s.heap.objs.size=none:=I.a_.fresh (SX _);have ne:∀{b:Addr} {o:Obj},s.heap.get? b=some o->b≠s.heap.objs.size:=λe=>Tx (Ta e);have nt:∀{b:Addr} {o:HO},H b=some o->b≠s.heap.objs.size:=λe z=>by rw[z,hn]at e;cases e
 have nf:∀{b:Addr} {o:HO},H b=some o->b∉fp:=λe z=>by rw[(hf _ z).1]at e;cases e
 refine I.call (g':=s.gens) (t':=s.toks) (d':=s.drawn) (ch:=fp) ⟨λb o e n _ hc=>k b o hc e,λb o e n _ hc=>⟨o.slots,k b o hc e⟩,λb o e n _=>by rw[ao (ne e)];exact n,λb o e hc=>⟨o,k b o hc e⟩,
  λb xs e=>by rw[ao (nt e)];exact e,λb o u e=>by rw[ao (nt e)];exact e,λb ps e=>⟨#[],by rw[ao (nt e),e];simp⟩⟩ (λb u e=>?_) I.bare λb hb=>?_
 ·by_cases hb:b=s.heap.objs.size
  ·subst hb;rw[ah]at e;cases e;exact⟨by show 2<=S7;decide,[_,_],.cons rx (.cons ry .nil),⟨_,hT,rfl,_,rfl⟩⟩
  ·rw[ao hb]at e;refine(I.a_ b u e).mU (λc v hc q=>k c v ?_ q) (λc q=>by rw[ao (nt q)];exact q) λc xs q=>by rw[ao (nt q)];exact q
   rcases hc with z|z
   ·rw[z];exact nf e
   ·exact nf z
 ·obtain⟨f0,f1,f2,f3,f4,f5⟩:=hf b hb;exact⟨f3,f1,f4,f5⟩
theorem Inv.sY {X:Cx}{pins:List (Addr×Obj)}{σ:St}{H:Hp}{s:SU}{fp:List Addr}{h':Heap}(I:Inv X pins σ H s)(hf:∀b∈fp,dH X pins H b)(k:∀c o,c∉fp->s.heap.get? c=some o->h'.get? c=some o):Inv X pins σ H {s with heap:=h'}:=by
 have nf:∀{b:Addr} {o:HO},H b=some o->b∉fp:=λe z=>by rw[(hf _ z).1]at e;cases e
 refine I.call (g':=s.gens) (t':=s.toks) (d':=s.drawn) (ch:=fp) ⟨λb o e n _ hc=>k b o hc e,λb o e n _ hc=>⟨o.slots,k b o hc e⟩,λb o e n _=>n,λb o e hc=>⟨o,k b o hc e⟩,λb xs e=>e,λb o u e=>e,λb ps e=>⟨#[],by rw[e];simp⟩⟩ (λb u e=>?_) I.bare λb hb=>?_
 ·refine(I.a_ b u e).mU (λc v hc q=>k c v ?_ q) (λc q=>q) λc xs q=>q;rcases hc with z|z
  ·rw[z];exact nf e
  ·exact nf z
 ·obtain⟨f0,f1,f2,f3,f4,f5⟩:=hf b hb;exact⟨f3,f1,f4,f5⟩
noncomputable def jE:List D->List D->List D
 |a::as,b::bs=>.tup [a,b]::jE as bs
 |_,_=>[]
theorem oj:∀{as bs:List D} {i:Nat} {d:D},(jE as bs)[i]?=some d->∃a b,as[i]?=some a/\bs[i]?=some b/\d=.tup [a,b]
 |[],_,_,_,h=>by simp[jE]at h
 |_::_,[],_,_,h=>by simp[jE]at h
 |a::as,b::bs,0,_,h=>by simp[jE]at h;exact⟨a,b,rfl,rfl,h.symm⟩
 |a::as,b::bs,i+1,_,h=>by
  obtain⟨x,y,h1,h2,h3⟩:=oj (as:=as) (bs:=bs) (i:=i) (by simpa[jE] using h)
  exact⟨x,y,by simpa using h1,by simpa using h2,h3⟩
theorem oi:∀(as bs:List D),(jE as bs).length=min as.length bs.length
 |[],_=>by simp[jE]
 |_::_,[]=>by simp[jE]
 |a::as,b::bs=>by simp[jE,oi as bs]
section
end
section
end
theorem dt {lo:Int}{n i:Nat}{d:D}(h:(jS lo n)[i]?=some d):i<n/\d=.int (lo+i):=by
 unfold jS at h;rw[Th]at h;have hi:i<n:=by
  by_cases hi:i<n
  ·exact hi
  ·rw[UN (by simpa using hi)]at h;cases h
 rw[Uv hi]at h;cases h;exact⟨hi,rfl⟩
theorem dq {lo:Int}{n:Nat}:(jS lo n).length=n:=by unfold jS;simp
section
end
structure Df (K:PySem.W.Frag)(mg:Str->Option SO)(x:Str)(st:Stmt)(ps:List Str)(f:Addr)(fd:T7):Prop where
 F:Ab K x x st f fd
 b:Binds K fd ps []
 m:mg x=some (.ref f)
structure Bs (mg:Str->Option SO):Prop where
 max:mg "max" = none
 min:mg "min" = none
 int:mg "int" = none
 range:mg "range" = none
 sorted:mg "sorted" = none
 set:mg "set" = none
 len:mg "len" = none
 list:mg "list" = none
theorem cW.sV {k:Nat}{A:Ud}(r:cW k A):A.units+64+1<Vt:=by have:=r.un;lia
def GL (n:Int)(t:List Int):Prop:=∃a b,t=[a,b]/\0<=a/\a<b/\b<n
theorem GL.ne {n:Int}{t:List Int}(h:GL n t):t≠[]:=by
 obtain⟨a,b,rfl,_⟩:=h;intro z;cases z
def cJ (n:Int)(ts:List (List Int)):Prop:=∀t∈ts,GL n t
theorem cJ.ne {n:Int}{ts:List (List Int)}(h:cJ n ts):∀k∈ts,k≠[]:=λk hk=>(h k hk).ne
theorem cJ.nil {n:Int}:cJ n []:=λ_ z=>(nomatch z)
theorem cJ.app {n:Int}{ts us:List (List Int)}(h:cJ n ts)(h':cJ n us):cJ n (ts++us):=λt ht=>(S9.mp ht).elim (h t) (h' t)
theorem cJ.one {n:Int}{a b:Int}(h1:0<=a)(h2:a<b)(h3:b<n):cJ n [[a,b]]:=λt ht=>by
 rw[S3.mp ht];exact⟨a,b,rfl,h1,h2,h3⟩
theorem dB (ts:List (List Int)):D.dS (ts.map kD)=true:=by
 have fi:∀k:List Int,D.dS (k.map D.int)=true:=λk=>by
  induction k with
  |nil=>rfl
  |cons i k ih=>show (D.flat (.int i)&&D.dS (k.map D.int))=true;rw[ih];rfl
 induction ts with
 |nil=>rfl
 |cons t ts ih =>
  show (D.flat (kD t)&&D.dS (ts.map kD))=true;rw[ih];show (D.dS (t.map D.int)&&true)=true;rw[fi];rfl
theorem f7 {ts:List (List Int)}(h:∀k∈ts,k≠[])(l:ts.length<=1000000):(match [D.lst (ts.map kD)]with | [.lst ds]=>zh [.lst ds]|_=>none)=some (.lst ((d3 ts).map kD)):=by
 show (match fZ (ts.map kD)with|some ks=>if ks.length<=1000000 then some (D.lst ((d3 ks).map kD)) else none|none=>none)=_
 rw[lY h];show (if ts.length<=1000000 then some (D.lst ((d3 ts).map kD)) else none)=_
 rw[if_pos l]
theorem oD {n:Int}{ts:List (List Int)}(h:cJ n ts):cJ n (d3 ts):=λt ht=>h t ((bp ts).mem_iff.mp ht)
theorem mW {fs:List (List Int)}{t:List Int}:(fs++[t]).map kD=fs.map kD++[kD t]:=by simp
theorem oF {fs:List Int}{t:Int}:(fs++[t]).map D.int=fs.map D.int++[D.int t]:=by simp
theorem wA {a b:D}:[a,b].length<=S7:=by show 2<=S7;decide
theorem G9 {a b c:D}:[a,b,c].length<=S7:=by show 3<=S7;decide
theorem Pn {a:D}:[a].length<=S7:=by show 1<=S7;decide
theorem Bz {b:Bool}{p q:Prop}(hb:b=true)(h:p):(if b=true then p else q):=by rw[if_pos hb];exact h
theorem n6 {b:Bool}{p q:Prop}(hb:b=false)(h:q):(if b=true then p else q):=by rw[hb,if_neg (by simp)];exact h
theorem n9 {c:Prop}[Decidable c]{p q:Prop}(h1:c->p)(h2:¬ c->q):(if decide c=true then p else q):=by
 by_cases h:c
 ·exact Bz (by simp[h]) (h1 h)
 ·exact n6 (by simp[h]) (h2 h)
theorem J9 {c:Prop}[Decidable c]{p q:Prop}(h1:¬ c->p)(h2:c->q):(if (!decide c)=true then p else q):=by
 by_cases h:c
 ·exact n6 (by simp[h]) (h2 h)
 ·exact Bz (by simp[h]) (h1 h)
theorem c_ {α:Type}(f:α->D):∀l:List α,D.fN (l.map f)=l.map λa=>(f a).pd
 |[]=>rfl
 |a::l=>by
  show (f a).pd::D.fN (l.map f)=_;rw[c_ f l];rfl
theorem iO {n:Nat}:∀{xs:List PyData},(∀x∈xs,x.canLay0=true/\x.depth<=n)->Vf xs=true/\Ux xs<=n
 |[],_=>⟨by simp[Vf],by simp[Ux]⟩
 |x::xs,h=>by
  obtain⟨h1,h2⟩:=iO (n:=n) (xs:=xs) λy hy=>h y (by simp[hy])
  obtain⟨g1,g2⟩:=h x (by simp)
  refine⟨by simp[Vf,h1,g1],?_⟩
  simp only[Ux];lia
theorem lJ {n:Nat}{ds:List D}(h:∀d∈ds,d.pd.canLay0=true/\d.pd.depth<=n):(D.tup ds).pd.canLay0=true/\(D.tup ds).pd.depth<=n+1:=by
 have e:D.fN ds=ds.map λd=>d.pd:=by
  have:=c_ (λd:D=>d) ds;simpa using this
 obtain⟨h1,h2⟩:=iO (n:=n) (xs:=D.fN ds) λx hx=>by
  rw[e]at hx;obtain⟨d,hd,rfl⟩:=Ti.mp hx;exact h d hd
 refine⟨by simpa[D.pd,Up] using h1,?_⟩
 have:(D.tup ds).pd.depth=Ux (D.fN ds)+1:=by simp[D.pd,US]
 lia
theorem lK {n:Nat}{ds:List D}(h:∀d∈ds,d.pd.canLay0=true/\d.pd.depth<=n):(D.lst ds).pd.canLay0=true/\(D.lst ds).pd.depth<=n+1:=by
 have e:D.fN ds=ds.map λd=>d.pd:=by
  have:=c_ (λd:D=>d) ds;simpa using this
 obtain⟨h1,h2⟩:=iO (n:=n) (xs:=D.fN ds) λx hx=>by
  rw[e]at hx;obtain⟨d,hd,rfl⟩:=Ti.mp hx;exact h d hd
 refine⟨by simpa[D.pd,Up] using h1,?_⟩
 have:(D.lst ds).pd.depth=Ux (D.fN ds)+1:=by simp[D.pd,US]
 lia
theorem cx (i:Int):(D.int i).pd.canLay0=true/\(D.int i).pd.depth<=1:=⟨by simp[D.pd,Up],by simp[D.pd,US]⟩
theorem oH (b:Bool):(D.bl b).pd.canLay0=true/\(D.bl b).pd.depth<=1:=⟨by simp[D.pd,Up],by simp[D.pd,US]⟩
theorem oG (t:List Int):(kD t).pd.canLay0=true/\(kD t).pd.depth<=2:=lJ λd hd=>by
 obtain⟨i,_,rfl⟩:=Ti.mp hd;exact cx i
theorem f9 (ts:List (List Int)):(D.lst (ts.map kD)).pd.canLay0=true/\(D.lst (ts.map kD)).pd.depth<=3:=lK λd hd=>by
 obtain⟨i,_,rfl⟩:=Ti.mp hd;exact oG i
theorem jO (ts:List Int):(D.lst (ts.map D.int)).pd.canLay0=true/\(D.lst (ts.map D.int)).pd.depth<=2:=lK λd hd=>by
 obtain⟨i,_,rfl⟩:=Ti.mp hd;exact cx i
theorem cG {d:D}{n:Nat}(h:d.pd.canLay0=true/\d.pd.depth<=n)(hn:n<=64:=by decide):d.lb=true:=by
 show (d.pd.canLay0&&decide (d.pd.depth<=64))=true;rw[h.1,decide_eq_true (by lia)]
 rfl
theorem fg {α:Type}[DecidableEq α]{f:α->PyData}(hf:∀a b,Ue (f a) (f b)=decide (a=b)):∀xs ys:List α,Wo (xs.map f) (ys.map f)=decide (xs=ys)
 |[],[]=>by simp[Wo]
 |[],_::_=>by simp[Wo]
 |_::_,[]=>by simp[Wo]
 |x::xs,y::ys=>by
  simp only[S4,Wo];rw[hf,fg hf xs ys]
  by_cases h1:x=y
  ·by_cases h2:xs=ys <;> simp[h1,h2]
  ·simp[h1]
theorem jy (i j:Int):Ue (D.int i).pd (D.int j).pd=decide (i=j):=by
 simp only[D.pd,Ue]
 by_cases h:i=j <;> simp[h]
theorem FO (t u:List Int):Ue (kD t).pd (kD u).pd=decide (t=u):=by
 show Ue (.tuple (D.fN (t.map D.int))) (.tuple (D.fN (u.map D.int)))=_;rw[c_,c_];simp only[Ue];exact fg jy t u
theorem zb (ts us:List (List Int)):Ue (D.lst (ts.map kD)).pd (D.lst (us.map kD)).pd=decide (ts=us):=by
 show Ue (.list (D.fN (ts.map kD))) (.list (D.fN (us.map kD)))=_;rw[c_,c_];simp only[Ue];exact fg FO ts us
theorem zc (ts us:List Int):Ue (D.lst (ts.map D.int)).pd (D.lst (us.map D.int)).pd=decide (ts=us):=by
 show Ue (.list (D.fN (ts.map D.int))) (.list (D.fN (us.map D.int)))=_;rw[c_,c_];simp only[Ue];exact fg jy ts us
theorem zt {a b:D}{c:Bool}(h1:a.lb=true)(h2:b.lb=true)(e:Ue a.pd b.pd=c):z9 a b=some (.bl c):=by
 unfold z9;rw[if_pos ⟨h1,h2⟩,e]
theorem sF {a b:D}{c:Bool}(h1:a.lb=true)(h2:b.lb=true)(e:Ue a.pd b.pd=c):z7 a b=some (.bl (!c)):=by
 unfold z7;rw[if_pos ⟨h1,h2⟩,e]
theorem gV (i j:Int):z9 (.int i) (.int j)=some (.bl (decide (i=j))):=zt (cG (cx i)) (cG (cx j)) (jy i j)
theorem zr (ts us:List (List Int)):z9 (.lst (ts.map kD)) (.lst (us.map kD))=some (.bl (decide (ts=us))):=zt (cG (f9 ts)) (cG (f9 us)) (zb ts us)
theorem qh (ts us:List Int):z7 (.lst (ts.map D.int)) (.lst (us.map D.int))=some (.bl (!decide (ts=us))):=sF (cG (jO ts)) (cG (jO us)) (zc ts us)
theorem any_map {α:Type}[DecidableEq α]{f:α->D}(hf:∀a b,Ue (f a).pd (f b).pd=decide (a=b))(t:α):∀xs:List α,((D.fN (xs.map f)).any λy=>Ue y (f t).pd)=decide (t∈xs)
 |[]=>rfl
 |x::xs=>by
  show (Ue (f x).pd (f t).pd || (D.fN (xs.map f)).any λy=>Ue y (f t).pd)=_
  rw[any_map hf t xs,hf]
  by_cases h:x=t
  ·simp[h]
  ·have h':¬ t=x:=λz=>h z.symm;simp[h,h']
theorem B_ (i:Int)(t:List Int):Ju (.int i) (kD t)=some (decide (i∈t)):=by
 show (if (D.int i).lb=true/\(D.tup (t.map D.int)).lb=true then some _ else none)=_
 rw[if_pos ⟨cG (cx i),cG (oG t)⟩,any_map jy]
theorem zq (i:Int)(t:List Int):Nk (.int i) (kD t)=some (.bl (decide (i∈t))):=by unfold Nk;rw[B_];rfl
theorem OX {α:Type}{ds:List α}{i:Nat}{d:α}(h:ds[i]?=some d):lx ds (i:Int)=some d:=by
 have hl:i<ds.length:=(SY.mp h).1;unfold lx qF;rw[if_pos (by lia),if_pos (by lia),UW]
 exact h
theorem Gf {α:Type}{ds:List α}{i:Int}(h0:0<=i)(h1:i<ds.length):∃d∈ds,lx ds i=some d/\ds[i.toNat]?=some d:=by
 have hl:i.toNat<ds.length:=by lia
 refine⟨ds[i.toNat],Ww hl,?_,Td hl⟩;have:=OX (ds:=ds) (i:=i.toNat) (Td hl)
 rwa [show ((i.toNat:Nat):Int)=i by lia]at this
theorem B9 {ds:List D}{i:Nat}{d:D}(h:ds[i]?=some d):z8 (.lst ds) (.int (i:Int))=some d:=OX h
theorem pick {ds:List D}{r:Int}{p:D->Prop}(h0:0<=r)(h1:r<ds.length)(h:∀d∈ds,p d):∃d,z8 (.lst ds) (.int r)=some d/\p d:=by
 obtain⟨d,hd,e,_⟩:=Gf h0 h1;exact⟨d,e,h d hd⟩
def NM:D->Option String
 |.bJ=>some "NoneType"
 |.bl _=>some "bool"
 |.int _=>some "int"
 |.str _=>some "str"
 |.tup _=>some "tuple"
 |.lst _=>some "list"
 |_=>none
section
variable {X:Cx}{W:Addr->Prop}{H:Hp}
theorem Rp.ty {d:D}{v:V}{T:String}(h:Rp X W H d v)(e:NM d=some T):hJ X.K H v (.type T):=by
 cases d with
 |bJ=>cases h;cases e;exact .bJ
 |bl b=>cases h;cases e;exact .bl _
 |int b=>cases h;cases e;exact .int _
 |str b=>cases h;cases e;exact .str _
 |tup ds=>obtain⟨a,vs,rfl,h1,_⟩:=h;cases e;exact .tup h1
 |lst ds=>obtain⟨a,vs,rfl,h1,_⟩:=h;cases e;exact .lst h1
 |_=>cases e
end
section
variable {X:Cx}{a:Expr}{φ:GO}{T:Str}{n:String}{p p2 pos:Pos}
theorem tG (hm:X.mg "isinstance" = none) (ha:PV X a φ) (hT:X.mg T=none) (bT:Ub T=some (.type n)) (hg:Gl X "isinstance" := by rfl) (QS:Gl X T:=by rfl) (QG:T≠"__name__" := by decide) (QZ:(T==("__debug__" : Str))=false:=by decide)
  (l8:Te [a,.Name T p2] X.env=(false,eval a X.env)::Te [.Name T p2] X.env:=by rfl) (LW:Te [.Name T p2] X.env=(false,eval (.Name T p2) X.env)::Te [] X.env:=by rfl) (hpl:(UZ pos (Te [.Name T p2] X.env)).any (·.1)=false:=by rfl) :
  PV X (.Call (.Name "isinstance" p) [a,.Name T p2] [] pos) (λρ R=>φ ρ λd=>∃t k,NM d=some t/\PySem.W.kitOne X.K (.type t) (.type n)=some k/\R (.bl k)) :=
 ⟨λρ R R' k h=>ha.mono ρ _ _ (λd ji=>by obtain⟨t,b,h1,h2,q⟩:=ji;exact⟨t,b,h1,h2,k _ q⟩) h,
  (jW zE hg hm Gb (aw ha.pe (aw (AW (v:=.ty n) QS hT bT rfl QG QZ) bu LW) l8) (he:=l8) (hpl:=hpl)).pre λσ H Q ⟨W,ρ,se,h⟩=>tD.of ha se h λd v H1 ⟨t,k,h1,h2,q⟩ s1 r1 =>
    ⟨v,n,_,k,rfl,r1.ty h1,h2,q _ H1 s1 rfl⟩⟩
end
theorem Cf:Ub "enumerate" = some (.type "enumerate"):=by decide +kernel
def mv (ds:List D):List D:=jE (jS 0 ds.length) ds
section
variable {ds:List D}
theorem iL {i:Nat}{d:D}(h:(mv ds)[i]?=some d):∃b,ds[i]?=some b/\d=.tup [.int i,b]:=by
 obtain⟨a,b,h1,h2,rfl⟩:=oj h;obtain⟨_,rfl⟩:=dt h1;exact⟨b,h2,by simp⟩
theorem iJ:(mv ds).length=ds.length:=by unfold mv;rw[oi,dq];simp
end
end L2
namespace HT
open PySem PySem.Spec PyProof.Rows
theorem gT {α β:Type}{f g:α->Option β}:∀{l:List α},(∀x∈l,f x=g x)->l.filterMap f=l.filterMap g
 |[],_=>rfl
 |x::l,h=>by
  rw[UY,UY,h x (by simp),gT λy hy=>h y (by simp[hy])]
theorem oO {α:Type}(xs:List α):((Tt xs.length).filterMap λk=>xs[xs.length-1-k]?)=xs.reverse:=by
 have h:=pick_run xs.reverse.toArray 0 xs.length;rw[List.filterMap_map]at h;have e:((Tt xs.length).filterMap λk=>xs[xs.length-1-k]?)=(Tt xs.length).filterMap ((λx=>xs.reverse.toArray[x]?) ∘ λx=>0+x):=by
  refine gT λk hk=>?_;have Kg:=U3.mp hk;show _=xs.reverse.toArray[0+k]?;rw[List.getElem?_toArray,WD,List.getElem?_reverse Kg]
 rw[e,h];simp only[WS];exact UM (by simp)
theorem k8 (items:Array SO):slicePick items none none (some (-1))=items.toList.reverse.toArray:=by
 have e:(sliceRange (U8 none none (some (-1)) items.size).1 (U8 none none (some (-1)) items.size).2.1 (U8 none none (some (-1)) items.size).2.2)=(Tt items.size).map λk=>items.size-1-k:=by
  show sliceRange ((items.size:Int)-1) (-1) (-1)=_;unfold sliceRange;have c:(if (-1:Int)>0 then (if (items.size:Int)-1 < -1 then ((-1)-((items.size:Int)-1)+-1-1) / -1 else 0) else (if (items.size:Int)-1 > -1 then ((items.size:Int)-1-(-1)-(-1)-1) / (-(-1)) else 0)).toNat=items.size:=by
   rw[if_neg (by lia)]
   split
   ·rw[show (-(-1):Int)=1 by rfl,Int.ediv_one];lia
   ·lia
  simp only[c];refine T5 λk hk=>?_;have:=U3.mp hk;lia
 unfold slicePick;rw[e,List.filterMap_map]
 congr 1
 have:=oO items.toList;rw[Tj]at this;rw[<- this];refine gT λk hk=>?_;show items[items.size-1-k]?=_;rw[To]
section
variable {prog:SW}{w:S_}{A:Ud}{E:SO->SU->Prop}{s:SU}
theorem ik {sl:Addr}{n:Nat}{t:Tok}{Q:Int×Int×Nat->SU->Prop}(hs:s.heap.IsSliceOf sl .none .none (.int (-1) t))
  (h:Q ((n:Int)-1,-1,n) s):Tn (model prog w) A (XW (.ref sl) (pure (n:Int))) Q E s:=by
 obtain⟨os,Ja,FF,C3⟩:=id hs;unfold XW Builtin.Slice.sliceFields;refine SN (SN (wpAny_field Ja C3 (x:=.none) rfl (SN (wpAny_field Ja C3 (x:=.none) rfl (SN (wpAny_field Ja C3 (x:=.int (-1) t) rfl (SV ?_)))))));refine SN (slicePart_int ?_);show Tn _ _ (if ((-1:Int)==0)=true then _ else _) _ _ s
 rw[if_neg (by decide)]
 refine SN (slicePart_none (SN (slicePart_none (SN (SV ?_)))));show Tn _ _ (match Wc none none (-1) (n:Int)with|(lo,hi)=>pure (lo,(-1:Int),Vv lo hi (-1))) _ _ s
 have e1:Wc none none (-1) (n:Int)=((n:Int)-1,-1):=by
  unfold Wc;simp
 rw[e1];show Tn _ _ (pure ((n:Int)-1,(-1:Int),Vv ((n:Int)-1) (-1) (-1))) _ _ s;have e2:Vv ((n:Int)-1) (-1) (-1)=n:=by
  unfold Vv;rw[if_neg (by lia)]
  split
  ·simp
  ·lia
 rw[e2];exact SV h
theorem gS {t sl:Addr}{items:Array SO}{tk:Tok}{Q:SO->SU->Prop}(ht:IsTup s.heap t items)(hs:s.heap.IsSliceOf sl .none .none (.int (-1) tk))
  (h:Q (.ref s.heap.objs.size) {s with heap:=s.heap.push {cls:=.type "tuple",data:=.seq items.toList.reverse.toArray}})
  (hsz:items.size<=S7):Tn (model prog w) A (Wz (.ref t) (.ref sl)) Q E s:=by
 have uf:sizeOk (.seq items.toList.reverse.toArray):=by
  show items.toList.reverse.toArray.size<=S7;rw[Tf,Vx,Tj];exact hsz
 obtain⟨os,Ja,FF,C3⟩:=id hs;have Q6:s.TypeIs (.ref sl) "slice" := ⟨os,Ja,FF⟩;unfold Wz
 try with_reducible refine Uu ?_
 first|refine SN (SV ?_)|skip
 refine SN (wpAny_sequenceKey ht.typeIs (by decide) ?_)
 refine SN (VI (name:=WC "__getitem__") ht.typeIs VU
  (UA VU ht.typeIs entry_tuple_getitem ?_ (args_tuple_getitem _ _)))
 show Tn _ _ (XU (.ref t) >>= _) _ _ s;refine SN (tupleItemsOf_ ht ?_);refine SN (wpAny_typeOf Q6 ?_);rw[if_pos (by decide)]
 refine SN (ik hs ?_);show Tn _ _ (if (((items.size:Int)-1)==0&&(-1:Int)==1&&items.size==items.size)=true then _ else _) _ _ s
 rw[if_neg (by simp)]
 have ep:((Tt items.size).filterMap λ(m:Nat)=>items[(((items.size:Int)-1)+(m:Int)*(-1)).toNat]?).toArray=items.toList.reverse.toArray:=by
  congr 1
  have:=oO items.toList;rw[Tj]at this;rw[<- this];refine gT λk hk=>?_;have Kg:=U3.mp hk;rw[To,show (((items.size:Int)-1)+(k:Int)*(-1)).toNat=items.size-1-k by lia]
 rw[ep]
 first
  |exact SN (m:=VC _) (UI (SV ⟨_,rfl,SV h⟩) uf)
  |exact SN (m:=VC _) (UI (SN (SV (SV ⟨_,rfl,SV h⟩))) uf)
  |exact SN (SN (m:=VC _) (UI (SV (SV ⟨_,rfl,SV h⟩)) uf))
  |exact SN (SN (m:=VC _) (UI (SV ⟨_,rfl,SV h⟩) uf))
end
end HT
namespace L2
open PySem PySem.Spec PySem.SeqAt PyProof.Rows
def Nf:D->Option D
 |.lst ds=>some (.lst ds.reverse)
 |.tup ds=>some (.tup ds.reverse)
 |_=>none
theorem ag.rev {P:SW}{w:S_}{W:Addr->Prop}{H:Hp}:∀{ds:List D} {vs:List V},ag P w W H ds vs->ag P w W H ds.reverse vs.reverse
 |[],_,h=>by rw[show _=[] from h];rfl
 |d::ds,_,⟨v,r,e,h1,h2⟩=>by
  subst e;rw[Wg,Wg];exact(ag.rev h2).append (.one h1)
theorem Vals.rev:∀{xs:List V} {us:List SO},Vals xs us->Vals xs.reverse us.reverse
 |_,_,.nil=>.nil
 |_,_,.cons r t=>by
  rw[Wg,Wg];exact(Vals.rev t).append (.cons r .nil)
section
variable {X:Cx}{e:Expr}{pos p2 p3 p4:Pos}{j:Nat}
theorem Et {te:TE}(he:PE X e te):PE X (.Subscript e (.Slice none none (some (.UnaryOp .USub (.Constant (.int 1) j p3) p4)) p2) pos) (λσ H Q=>te σ H λx H1=>(∃a xs,x=.ref a/\H1 a=some (.lst xs)/\∀p,H1 p=none->Q (.ref p) (upd H1 p (.lst xs.reverse)))\/(∃a xs,x=.ref a/\H1 a=some (.tup xs)/\∀p,H1 p=none->Q (.ref p) (upd H1 p (.tup xs.reverse)))):=by
 intro pins s σ H Q I h;refine XR (bw (he pins s σ H _ I h) λv s1 fV=>?_);obtain⟨x,H1,I1,r1,q1⟩:=fV;refine wpAny_Slice ?_;rw[evalPart_none];refine SV (SV ?_);rw[evalPart_some];refine bw (CH (X:=X) (pos:=p4) wQ (aM (i:=1) (j:=j) (pos:=p3)) pins s1 σ H1 (λv H'=>v=.int (-1)/\H'=H1) I1 ⟨1,rfl,rfl,rfl⟩) λu s3 ki=>?_;obtain⟨y,H3,I3,r3,ey,eH⟩:=ki;subst ey eH;obtain⟨tk,rfl⟩:=(show ∃t,u=Value.int (-1) t from r3)
 have I4:Inv X pins σ H3 {s3 with heap:=s3.heap.push {cls:=.type "slice",data:=.fields #[.none,.none,.int (-1) tk]}}:=I3.kept (t':=s3.toks) λb ob q=>S1 _ q
 have Qu:(s3.heap.push {cls:=.type "slice",data:=.fields #[.none,.none,.int (-1) tk]}).IsSliceOf s3.heap.objs.size .none .none (.int (-1) tk):=Heap.IsSliceOf.new ..
 generalize LX:({s3 with heap:=s3.heap.push {cls:=.type "slice",data:=.fields #[.none,.none,.int (-1) tk]}}:SU)=s4 at I4 ⊢
 have IE:s4.heap.IsSliceOf s3.heap.objs.size .none .none (.int (-1) tk):=by rw[<- LX];exact Qu
 have main:∃T id,typeLookup (.type T) "__getitem__" = pure (some (.builtin id))/\s4.TypeIs v T/\Tn (model X.prog X.w) X.A (Wz v (.ref s3.heap.objs.size)) (EP X pins σ Q) X.xe s4:=by
  rcases q1 with⟨a,xs,rfl,hx,q⟩|⟨a,xs,rfl,hx,q⟩
  ·cases (show v=Value.ref a from r1)
   obtain⟨its,r,ht,hz⟩:=I4.list (cK.of hx);have hlen:=r.length;refine⟨"list",_,W9.lookup,ht.isList.typeIs,?_⟩;refine wpAny_getItem_list_slice ht.isList IE .none .none (.int (-1) tk) (by simp) ?_ (by rw[Tf] <;> lia)
   rw[HT.k8];refine⟨.ref s4.heap.objs.size,_,I4.laid (t':=s4.toks) (o:=.lst xs.reverse) (λb ob q=>S1 _ q) (SX _) ?_,rfl,q _ (I4.a_.fresh (SX _))⟩;exact⟨by rw[Vx];lia,_,0,by simpa using Vals.rev r,TU _ rfl⟩
  ·cases (show v=Value.ref a from r1)
   obtain⟨its,r,ht,hz⟩:=I4.tuple (og.of hx);have hlen:=r.length;refine⟨"tuple",_,VU.lookup,ht.typeIs,?_⟩;refine HT.gS ht IE ?_ (by rw[Tf] <;> lia)
   refine⟨.ref s4.heap.objs.size,_,I4.laid (t':=s4.toks) (o:=.tup xs.reverse) (λb ob q=>S1 _ q) (SX _) ?_,rfl,q _ (I4.a_.fresh (SX _))⟩;exact⟨by rw[Vx];lia,_,by simpa using Vals.rev r,IsTup.new _ _⟩
 obtain⟨T,id,hT,ht,hg⟩:=main;show Tn (model X.prog X.w) X.A (WY e (.Slice none none (some (.UnaryOp .USub (.Constant (.int 1) j p3) p4)) p2) v (.ref s3.heap.objs.size)) (EP X pins σ Q) X.xe s4;exact tail_any (ops:=[v,.ref s3.heap.objs.size]) ht hT hg (by with_unfolding_all rfl)
end
end L2
namespace L2.Q
open PySem PySem.Spec PySem.SeqAt PyProof.Rows
def allB (β:a9):GN:=β.map λb=>match b with|some (.val _ d)=>some d|some (.own d)=>some d|_=>none
section
variable {P:SW}{w:S_}{C:Cfg}{σ:St}{H:Hp}{β:a9}{own:Nat->List Addr}{i:Nat}
theorem bD.KZ (s:bD P w C σ H β own):OZ P w (λ_=>False) σ H (allB β):=⟨λa z=>z.elim,λi d e=>by
 unfold allB at e;rw[Th]at e;cases q:β[i]? with
 |none=>rw[q]at e;cases e
 |some x =>
  rw[q]at e;cases x with
  |none=>cases e
  |some x =>
   cases x with
   |val y d'=>cases e;obtain⟨v,h1,h2⟩:=s.val i y d q;exact⟨v,h1,h2.aN λ_ z=>z.elim⟩
   |own d'=>cases e;obtain⟨v,h1,h2,_⟩:=s.ow i d q;exact⟨v,h1,h2.rep λ_ _ z=>z⟩
   |hand ok=>cases e
   |shl y d=>cases e⟩
end
section
variable {X:Cx}{C:Cfg}{e:Expr}{φ:GO}
theorem xB (h:PV X e φ):PQ X C true e (λβ R=>φ (allB β) λd=>d.flat=true/\R d .own β) :=
 ⟨λβ R R' k q=>h.mono _ _ _ (λd q=>⟨q.1,k _ _ _ q.2⟩) q,h.pe.pre λσ H Q ji=>by obtain⟨β,own,s,q⟩:=ji;exact tD.of h s.KZ q λd v H1 kl s1 r1=>by obtain⟨f,q⟩:=kl;exact q v H1 own ((Out.refl s true).same s1) (KV.flat f r1)⟩
end
section
variable {P:SW}{w:S_}{C:Cfg}{σ:St}{H:Hp}{β:a9}{own:Nat->List Addr}{i:Nat}{ok:List Int->Prop}{ns:List Int}
theorem lS:∀{ns:List Int} {vs:List V} {A:List Addr},aH P w H (ns.map D.int) vs A->vs=ns.map V.int/\A=[]
 |[],_,_,h=>h
 |n::ns,_,_,⟨v,r,A1,A2,e,eA,h1,h2⟩=>by
  obtain⟨rfl,rfl⟩:=lS h2;obtain⟨rfl,rfl⟩:=h1;exact⟨e,by rw[eA];rfl⟩
theorem bD.toHand (s:bD P w C σ H β own)(e:β[i]?=some (some (.own (.lst (ns.map D.int)))))(ho:ok ns)(io:∀b,¬ C.IO b):bD P w C σ H (β.set i (some (.hand ok))) own:=by
 obtain⟨v,h1,⟨a,vs,A',rfl,h2,h3,h4⟩,h5⟩:=s.ow i _ e;obtain⟨rfl,rfl⟩:=lS h4;refine⟨by simp[s.len],λj y d q=>?_,λj d q=>?_,λj wC q=>?_,s.dm,s.ja,s.kS,s.kp,s.f6,λj y d q=>by
  by_cases aE:i=j
  ·subst aE;obtain⟨e',_⟩:=aX q;cases e'
  ·rw[aQ aE]at q;exact s.shl j y d q⟩
 ·by_cases aE:i=j
  ·subst aE;obtain⟨e',_⟩:=aX q;cases e'
  ·rw[aQ aE]at q;exact s.val j y d q
 ·by_cases aE:i=j
  ·subst aE;obtain⟨e',_⟩:=aX q;cases e'
  ·rw[aQ aE]at q;exact s.ow j d q
 ·by_cases aE:i=j
  ·subst aE;obtain⟨e',_⟩:=aX q;cases e';exact⟨a,ns,h1,h2,ho,h3,.inl io⟩
  ·rw[aQ aE]at q;exact s.nF j wC q
end
section
variable {X:Cx}{C:Cfg}{e:Expr}{φ:aJ}{p:Bool}{i:Nat}{x:Str}{pos pos' px ap cp:Pos}{ok:List Int->Prop}
theorem AZ (ok:List Int->Prop)(MH:∀b,¬ C.IO b)(he:∀U,PQ X (C.u U) p e φ)(hN:X.N.Nodup)(hi:X.N[i]?=some x:=by rfl)(hx:Loc X.env.scope x:=by first|exact .inl rfl|exact .inr rfl)
  (hs:UB e (some (.Name x pos')) pos.line X.env=pure false:=by rfl) (hf:X.fn x=true\/X.env.scope.names.lookup x=some .local:=by first|exact .inl rfl|exact .inr rfl|assumption) :
  PB X C (.Assign [.Name x pos'] e pos) (λE β=>φ β λd k β'=>Bv k d/\i<β'.length/\∃ns:List Int,d=.lst (ns.map D.int)/\ok ns/\E.nx (β'.set i (some (.hand ok)))):=by
 have B:=cP (C:=C) (i:=i) (pos:=pos) (pos':=pos') he hN hi hx hs hf;refine⟨λE E' β l q=>(he λ_=>False).mono _ _ _ (λd k β' yC=>by obtain⟨f,h,ns,e,o,q⟩:=yC;exact⟨f,h,ns,e,o,l.nx _ q⟩) q,B.ps.pre λDe σ H fV=>?_⟩
 obtain⟨Z,E,β,sb,q,wC⟩:=fV;refine⟨Z,{E with nx:=λβ'=>∃(ns:List Int) (β2:a9),i<β2.length/\β'=β2.set i (some (.own (.lst (ns.map D.int))))/\ok ns/\E.nx (β2.set i (some (.hand ok)))},β,sb,(he λ_=>False).mono _ _ _ (λd k β' II=>by obtain⟨f,h,ns,e,o,q⟩:=II;exact⟨f,ns,β',h,by rw[e],o,q⟩) q,⟨λσ' H' β' Ay ki=>?_,wC.rt,wC.bk,wC.ct⟩⟩
 obtain⟨ns,β2,hl,e,o,q⟩:=ki;subst e;obtain⟨own,s,n⟩:=Ay;have:=s.toHand (i:=i) (ok:=ok) (get_set hl) o MH;rw[V7]at this;exact wC.nx _ _ _ ⟨own,this,n⟩ q
theorem bD.putL {P:SW}{w:S_}{σ:St}{H:Hp}{β:a9}{own:Nat->List Addr}{U U2:Addr->Prop}{ds ds':List D}{vs':List V}{a:Addr}{vs:List V}{A A':List Addr}(s:bD P w (C.u U) σ H β own)(e:β[i]?=some (some (.own (.lst ds))))(h1:σ[i]?=some (some (.ref a)))(h2:H a=some (.lst vs))(h3:own i=a::A)
  (r:aH P w H ds' vs' A') (nd:A'.Nodup) (hA:∀c∈A',c∈A\/(C.H0 c=none/\¬ Wn own c/\U c)) (hU:∀a,U2 a->U a) (M0:∀c∈A',c∉A->¬ U2 c) :
  bD P w (C.u U2) σ (upd H a (.lst vs')) (β.set i (some (.own (.lst ds')))) (aI own i (a::A'))/\∀c∈a::A',c∈own i\/(C.H0 c=none/\¬ Wn own c/\U c):=by
 have ha:a∈own i:=by rw[h3];simp
 have nA:a∉A:=by have:=s.kS i;rw[h3]at this;exact(TN.mp this).1
 have na:∀c∈A',c≠a:=λc hc z=>by
  subst z;rcases hA c hc with z|z
  ·exact nA z
  ·exact z.2.1 ⟨i,ha⟩
 have kt:∀b xs,H b=some (.tup xs)->upd H a (.lst vs') b=some (.tup xs):=λb xs z=>by rw[ao (λz'=>by rw[z',h2]at z;cases z)];exact z
 have OP:∀c∈a::A',c∈own i\/(C.H0 c=none/\¬ Wn own c/\U c):=λc hc=>by
  rcases S5.mp hc with rfl|hc
  ·exact .inl ha
  ·exact(hA c hc).imp (λz=>by rw[h3];simp[z]) id
 refine⟨s.Ei e h1 ha ⟨a,vs',A',rfl,ah,rfl,r.keep kt λc hc oc ec=>by rw[ao (na c hc)];exact ec⟩ (TN.mpr ⟨λz=>na a z rfl,nd⟩) OP hU (λc hc z=>?_),OP⟩
 rcases S5.mp hc with rfl|hc
 ·exact(s.dm i c ha).2.2.2 (hU c z)
 ·by_cases q:c∈A
  ·exact(s.dm i c (by rw[h3];simp[q])).2.2.2 (hU c z)
  ·exact M0 c hc q z
theorem oX {own:Nat->List Addr}{i:Nat}{A':List Addr}(h:∀c∈A',c∈own i):∀c,Wn (aI own i A') c->Wn own c:=λc BE=>by
 obtain⟨j,hj⟩:=BE
 by_cases aE:i=j
 ·rw[<- aE,os_eq]at hj;exact⟨i,h c hj⟩
 ·rw[bf aE]at hj;exact⟨j,hj⟩
theorem xD {P:SW}{w:S_}{H:Hp}{own:Nat->List Addr}{Z:Hp×(Addr->Prop)}{d:D}{v:V}{A:List Addr}(r:Own P w H d v A)(h:∀c∈A,¬ Wn own c/\C.H0 c=none):KV P w C Z own H (sk .cy d) d v:=by
 have q:ar P w (av C (Wn own) .cy) H d v:=r.rep λc hc z=>z.elim (h c hc).1 λz=>z (h c hc).2;cases d with
 |int i=>exact KV.flat rfl q
 |bl i=>exact KV.flat rfl q
 |bJ=>exact KV.flat rfl q
 |str i=>exact KV.flat rfl q
 |_=>exact q
theorem aH.concat {P:SW}{w:S_}{H:Hp}{ds:List D}{d:D}{vs:List V}{A:List Addr}(h:aH P w H (ds++[d]) vs A):∃us v A1 A2,vs=us++[v]/\A=A1++A2/\aH P w H ds us A1/\Own P w H d v A2:=by
 obtain⟨v,A1,A2,A3,g1,g2,g3,g4,g5⟩:=h.split (i:=ds.length) (d:=d) (by simp)
 rw[List.take_left]at g3;have e3:aH P w H [] (vs.drop (ds.length+1)) A3:=by simpa using g5
 have hl:=h.length;rw[Tw,Uz]at hl;refine⟨vs.take ds.length,v,A1,A2,?_,by rw[g2,e3.2,UP],g3,g4⟩
 have eQ:ds.length<vs.length:=by lia
 have e1:vs=vs.take ds.length++vs.drop ds.length:=(Ve _ _).symm;rw[Ts eQ,e3.1]at e1;have:vs[ds.length]=v:=by
  have:=Td eQ;rw[g1]at this;exact(TJ this).symm
 rw[this]at e1;exact e1
theorem rm (hn:Nm X i x:=by exact rH)
  (eT:Vz (.Name x px) "pop" X.env (eval (.Name x px) X.env)=eval (.Name x px) X.env:=by rfl) (eR:(ap.endLine==cp.line)=true:=by rfl) :
  PQ X C false (.Call (.Attribute (.Name x px) "pop" ap) [] [] cp) (λβ R=>∃ds d,β[i]?=some (some (.own (.lst (ds++[d]))))/\R d (sk .cy d) (β.set i (some (.own (.lst ds))))) :=
 ⟨λβ R R' k BD=>by obtain⟨ds,d,h1,q⟩:=BD;exact⟨ds,d,h1,k _ _ _ q⟩,(Ex (apos:=ap) (cpos:=cp) PySem.F.plainAttrs_list PySem.F.slot_list_pop PySem.F.type_list_pop EX (du (pos:=px) hn) eT eR).pre λσ H Q r9=>by
  obtain⟨β,own,s,ds,d,hb,q⟩:=r9;obtain⟨a,vs,A,h1,h2,h3,h4⟩:=s.pD hb;obtain⟨us,v,A1,A2,rfl,rfl,g3,g4⟩:=h4.concat;have nd:=s.kS i;rw[h3]at nd;obtain⟨CN,Bm,CM⟩:=TZ.mp (TN.mp nd).2;obtain⟨s2,hA⟩:=s.putL (C:=C) (U:=C.U) (U2:=C.U) (ds':=ds) (vs':=us) (A':=A1) hb h1 h2 h3 g3 CN (λc hc=>.inl (by simp[hc])) (λ_ z=>z) (λc hc n=>absurd (by simp[hc]) n)
  have h0:∀c∈own i,C.H0 c=none:=by obtain⟨_,_,_,h⟩:=s.ow i _ hb;exact h
  have kt:∀b xs,H b=some (.tup xs)->upd H a (.lst us) b=some (.tup xs):=λb xs z=>by rw[ao (λz'=>by rw[z',h2]at z;cases z)];exact z
  have na:∀c∈A2,c≠a:=λc hc z=>(TN.mp nd).1 (by rw[<- z];simp[hc])
  have le:∀c,Wn (aI own i (a::A1)) c->Wn own c:=oX λc hc=>by rw[h3];rcases S5.mp hc with rfl|hc <;> simp[*]
  refine⟨.ref a,h1,.inl ⟨rfl,_,cK.of h2⟩,a,_,v,rfl,rfl,h2,by simp,?_⟩
  rw[Vo];refine q v _ _ ⟨s2,?_,λz=>(nomatch z),le⟩ (xD (C:=C) (g4.keep kt λc hc oc ec=>by rw[ao (na c hc)];exact ec) λc hc=>⟨λ⟨j,hj⟩=>?_,h0 c (by rw[h3];simp[hc])⟩)
  ·have u:=Sn.upd (Z:=(H,Wn own)) (o':=.lst us) (Sn.refl (H:=H) (W:=Wn own)) h2 (λxs z=>by cases z) ⟨i,by rw[h3];simp⟩
   exact⟨λb z=>.inl (le b z),u.k,u.d⟩
  ·by_cases aE:i=j
   ·rw[<- aE,os_eq]at hj;rcases S5.mp hj with rfl|hj
    ·exact na _ hc rfl
    ·exact CM _ hj _ hc rfl
   ·rw[bf aE]at hj;exact aE (s.ja i j c (by rw[h3];simp[hc]) hj)⟩
end
section
variable {X:Cx}{C:Cfg}{e k:Expr}{φ:aJ}{p:Bool}{i:Nat}{x:Str}{pos px ap cp:Pos}
theorem u7 {n:Nat}{j:Int}{k:Nat}(h:qF n j=some k):Xn j n=some k:=by
 unfold qF at h;unfold Xn
 by_cases h0:0<=j
 ·rw[if_pos h0]at h
  by_cases h1:j<n
  ·rw[if_pos h1]at h;cases h;have e:(if j<0 then j+n else j)=j:=if_neg (by lia)
   simp only[e];simp[h0,h1]
  ·rw[if_neg h1]at h;cases h
 ·rw[if_neg h0]at h
  by_cases h1:-(n:Int)<=j
  ·rw[if_pos h1]at h;cases h;have e:(if j<0 then j+n else j)=j+n:=if_pos (by lia)
   simp only[e];have:0<=j+n/\j+n<n:=by lia
   simp[this]
  ·rw[if_neg h1]at h;cases h
theorem i_ {α:Type}:∀(l:List α) (j:Nat),l.eraseIdx j=l.take j++l.drop (j+1):=λl j=>List.eraseIdx_eq_take_drop_succ l j
theorem xA (he:PQ X C p e φ)(hn:Nm X i x:=by exact rH)
  (eT:Vz (.Name x px) "pop" X.env (eval (.Name x px) X.env)=eval (.Name x px) X.env:=by rfl)
  (nH:((UZ cp (Te [e] X.env)).all (λx=>!x.1)&&(XO cp (WR [] X.env)).all (λx=>x.1.isSome)&&decide ([e].length+([]:List Wh).length+(if ([]:List Wh).isEmpty then 0 else 1)<30))=true:=by rfl)
  (eR:(ap.endLine==cp.line)=true:=by rfl) (hs:Te [e] X.env=(false,eval e X.env)::Te [] X.env:=by rfl) (gj:(UZ cp (Te [] X.env)).any (·.1)=false:=by rfl) :
  PQ X C false (.Call (.Attribute (.Name x px) "pop" ap) [e] [] cp) (λβ R=>(∃ds,β[i]?=some (some (.own (.lst ds))))/\φ β λkd _ β'=>∃(ds:List D) (j:Int) (m:Nat) (d:D),kd=.int j/\β'[i]?=some (some (.own (.lst ds)))/\-(2 ^ 63)<=j/\j<2 ^ 63/\qF ds.length j=some m/\ds[m]?=some d/\R d (sk .cy d) (β'.set i (some (.own (.lst (ds.eraseIdx m)))))) :=
 ⟨λβ R R' k ji=>by obtain⟨h0,q⟩:=ji;exact⟨h0,he.mono _ _ _ (λkd _ β' kl=>by obtain⟨ds,j,m,d,h1,h2,h3,h4,h5,h6,q⟩:=kl;exact⟨ds,j,m,d,h1,h2,h3,h4,h5,h6,k _ _ _ q⟩) q⟩,
  (tS (apos:=ap) (cpos:=cp) PySem.F.plainAttrs_list PySem.F.slot_list_pop PySem.F.type_list_pop yh (du (pos:=px) hn) (aw he.pe bu hs) eT nH eR hs gj).pre λσ H Q pN=>by
  obtain⟨β,own,s0,⟨OU,wF⟩,q⟩:=pN;obtain⟨a0,RW,A0,z1,z2,z3,z4⟩:=s0.pD wF;refine⟨.ref a0,z1,.inl ⟨rfl,_,cK.of z2⟩,tQ.of he s0 q λkd kk β' kv H1 aA fV o r=>?_⟩;obtain⟨ds,j,m,d,e1,hb,j1,j2,hj,hm,q⟩:=fV;subst e1;cases r.rep;have s:=o.sq;obtain⟨a,vs,A,h1,h2,h3,h4⟩:=s.pD hb;rw[z1]at h1;cases h1;obtain⟨v,A1,A2,A3,g1,rfl,g3,g4,g5⟩:=h4.split hm;have nd:=s.kS i;rw[h3]at nd;obtain⟨CN,Bm,CM⟩:=TZ.mp (TN.mp nd).2;obtain⟨Lu,Ls,J1⟩:=TZ.mp Bm;have ow:aH X.prog X.w H1 (ds.eraseIdx m) (vs.eraseIdx m) (A1++A3):=by rw[i_,i_];exact g3.append g5
  have P2:(A1++A3).Nodup:=TZ.mpr ⟨CN,Ls,λx hx y hy=>CM x hx y (TM _ hy)⟩;obtain⟨s2,hA⟩:=s.putL (C:=C) (U:=C.U) (U2:=C.U) (ds':=ds.eraseIdx m) (vs':=vs.eraseIdx m) (A':=A1++A3) hb z1 h2 h3 ow P2 (λc hc=>.inl (by rcases S9.mp hc with hc|hc <;> simp[hc])) (λ_ z=>z) (λc hc n=>absurd (by rcases S9.mp hc with hc|hc <;> simp[hc]) n)
  have h0:∀c∈aA i,C.H0 c=none:=by obtain⟨_,_,_,h⟩:=s.ow i _ hb;exact h
  have kt:∀b xs,H1 b=some (.tup xs)->upd H1 a0 (.lst (vs.eraseIdx m)) b=some (.tup xs):=λb xs z=>by rw[ao (λz'=>by rw[z',h2]at z;cases z)];exact z
  have na:∀c∈A2,c≠a0:=λc hc z=>(TN.mp nd).1 (by rw[<- z];simp[hc])
  have le:∀c,Wn (aI aA i (a0::(A1++A3))) c->Wn aA c:=oX λc hc=>by
   rw[h3];rcases S5.mp hc with rfl|hc
   ·simp
   ·rcases S9.mp hc with hc|hc <;> simp[hc]
  refine⟨a0,vs,j,m,v,rfl,rfl,h2,j1,j2,by rw[h4.length];exact u7 hj,g1,?_⟩
  have u:=Sn.upd (Z:=(H1,Wn aA)) (o':=.lst (vs.eraseIdx m)) (Sn.refl (H:=H1) (W:=Wn aA)) h2 (λxs z=>by cases z) ⟨i,by rw[h3];simp⟩
  refine q v _ _ ⟨s2,o.sn.trans ⟨λb z=>.inl (le b z),u.k,u.d⟩,λz=>(nomatch z),λc z=>o.le c (le c z)⟩ (xD (C:=C) (g4.keep kt λc hc oc ec=>by rw[ao (na c hc)];exact ec) λc hc=>⟨λki=>?_,h0 c (by rw[h3];simp[hc])⟩)
  obtain⟨j',yI⟩:=ki
  by_cases aE:i=j'
  ·rw[<- aE,os_eq]at yI;rcases S5.mp yI with rfl|yI
   ·exact na _ hc rfl
   ·rcases S9.mp yI with yI|yI
    ·exact CM _ yI _ (Ut _ hc) rfl
    ·exact J1 _ hc _ yI rfl
  ·rw[bf aE]at yI;exact aE (s.ja i j' c (by rw[h3];simp[hc]) yI)⟩
end
abbrev Ic (l:Bool)(ds:List D):D:=match l with|true=>.lst ds|false=>.tup ds
section
variable {P:SW}{w:S_}{H:Hp}{A:List Addr}{v:V}{ds:List D}{l:Bool}
theorem oY {m:Nat}{es:List D}(r:Own P w H (Ic l ds) v A)(nd:A.Nodup)(hm:ds[m]?=some (.lst es)):∃a vs c us B,v=.ref a/\H a=some (match l with|true=>.lst vs|false=>.tup vs)/\vs.length=ds.length/\vs[m]?=some (.ref c)/\H c=some (.lst us)/\c∈A/\aH P w H es us B/\(∀x∈B,x∈A/\x≠c)/\B.Nodup /\
  ∀oe sU B',aH P w H oe sU B'->B'.Nodup->(∀x∈B',x∈B\/x∉A)->(∀x∈B',x≠c)->∃A',Own P w (upd H c (.lst sU)) (Ic l (ds.set m (.lst oe))) v A'/\A'.Nodup/\∀x∈A',x∈A\/x∈B':=by
 have core:∀{vs:List V} {A:List Addr},A.Nodup->aH P w H ds vs A->∃c us B,vs[m]?=some (.ref c)/\H c=some (.lst us)/\c∈A/\aH P w H es us B/\(∀x∈B,x∈A/\x≠c)/\B.Nodup /\
   ∀oe sU B',aH P w H oe sU B'->B'.Nodup->(∀x∈B',x∈B\/x∉A)->(∀x∈B',x≠c)->∃A',aH P w (upd H c (.lst sU)) (ds.set m (.lst oe)) vs A'/\A'.Nodup/\(∀x∈A',x∈A\/x∈B'):=λ{vs A} nd os=>by
  have hl:=os.length;have QK:m<ds.length:=(SY.mp hm).1;obtain⟨u,A1,A2,A3,g1,rfl,g3,⟨c,us,B,rfl,h2,rfl,h4⟩,g5⟩:=os.split hm;obtain⟨CN,Bm,CM⟩:=TZ.mp nd;obtain⟨Lu,Ls,J1⟩:=TZ.mp Bm;have P6:=(TN.mp Lu).1;refine⟨c,us,B,g1,h2,by simp,h4,λx hx=>⟨by simp[hx],λz=>P6 (by rw[<- z];exact hx)⟩,(TN.mp Lu).2,λoe sU B' o' n' pQ l9=>?_⟩
  have kt:∀b xs,H b=some (.tup xs)->upd H c (.lst sU) b=some (.tup xs):=λb xs z=>by rw[ao (λz'=>by rw[z',h2]at z;cases z)];exact z
  have n1:∀x∈A1,x≠c:=λx hx z=>CM x hx c (by simp) z
  have n3:∀x∈A3,x≠c:=λx hx z=>J1 c (by simp) x hx z.symm
  have off:∀x∈B',x∉A1/\x∉A3:=λx hx=>by
   rcases pQ x hx with z|z
   ·exact⟨λq=>CM x q x (by simp[z]) rfl,λq=>J1 x (by simp[z]) x q rfl⟩
   ·exact⟨λq=>z (by simp[q]),λq=>z (by simp[q])⟩
  have Ox:m<vs.length:=by lia
  have ev:vs=vs.take m++V.ref c::vs.drop (m+1):=by
   have e1:vs=vs.take m++vs.drop m:=(Ve _ _).symm;rw[Ts Ox]at e1;have:vs[m]=V.ref c:=by
    have:=Td Ox;rw[g1]at this;exact(TJ this).symm
   rwa [this]at e1
  refine⟨A1++((c::B')++A3),?_,TZ.mpr ⟨CN,TZ.mpr ⟨TN.mpr ⟨λz=>l9 c z rfl,n'⟩,Ls,λx hx y hy=>?_⟩,λx hx y hy z=>?_⟩,λx hx=>?_⟩
  ·rw[List.set_eq_take_append_cons_drop,if_pos QK];have q:aH P w (upd H c (.lst sU)) (ds.take m++.lst oe::ds.drop (m+1)) (vs.take m++.ref c::vs.drop (m+1)) (A1++((c::B')++A3)) :=
    (g3.keep kt λx hx oc ec=>by rw[ao (n1 x hx)];exact ec).append ⟨.ref c,_,c::B',A3,rfl,rfl,⟨c,sU,B',rfl,ah,rfl,o'.keep kt λx hx oc ec=>by rw[ao (l9 x hx)];exact ec⟩,g5.keep kt λx hx oc ec=>by rw[ao (n3 x hx)];exact ec⟩
   rw[<- ev]at q;exact q
  ·intro z;subst z;rcases S5.mp hx with rfl|hx
   ·exact n3 _ hy rfl
   ·exact(off x hx).2 hy
  ·subst z;rcases S9.mp hy with hy|hy
   ·rcases S5.mp hy with rfl|hy
    ·exact n1 _ hx rfl
    ·exact(off x hy).1 hx
   ·exact CM x hx x (by simp[hy]) rfl
  ·rcases S9.mp hx with hx|hx
   ·exact .inl (by simp[hx])
   ·rcases S9.mp hx with hx|hx
    ·rcases S5.mp hx with rfl|hx
     ·exact .inl (by simp)
     ·exact .inr hx
    ·exact .inl (by simp[hx])
 cases l with
 |true =>
  obtain⟨a,vs,A',rfl,h2,rfl,h4⟩:=r;obtain⟨na,P5⟩:=TN.mp nd;obtain⟨c,us,B,q1,q2,q3,q4,q5,q6,q7⟩:=core P5 h4;have ca:c≠a:=λz=>na (by rw[<- z];exact q3)
  refine⟨a,vs,c,us,B,rfl,h2,h4.length,q1,q2,by simp[q3],q4,λx hx=>⟨by simp[(q5 x hx).1],(q5 x hx).2⟩,q6,λoe sU B' o' n' pQ l9=>?_⟩
  obtain⟨A2,g1,g2,g3⟩:=q7 oe sU B' o' n' (λx hx=>(pQ x hx).imp id λz q=>z (by simp[q])) l9
  refine⟨a::A2,⟨a,vs,A2,rfl,by rw[ao ca.symm];exact h2,rfl,g1⟩,TN.mpr ⟨λz=>?_,g2⟩,λx hx=>?_⟩
  ·rcases g3 a z with z|z
   ·exact na z
   ·rcases pQ a z with z|z
    ·exact na (q5 a z).1
    ·exact z (by simp)
  ·rcases S5.mp hx with rfl|hx
   ·exact .inl (by simp)
   ·exact(g3 x hx).imp (λz=>by simp[z]) id
 |false =>
  obtain⟨a,vs,rfl,h2,h4⟩:=r;obtain⟨c,us,B,q1,q2,q3,q4,q5,q6,q7⟩:=core nd h4;have ca:a≠c:=λz=>by rw[z,q2]at h2;cases h2
  refine⟨a,vs,c,us,B,rfl,h2,h4.length,q1,q2,q3,q4,q5,q6,λoe sU B' o' n' pQ l9=>?_⟩;obtain⟨A2,g1,g2,g3⟩:=q7 oe sU B' o' n' pQ l9;exact⟨A2,⟨a,vs,rfl,by rw[ao ca];exact h2,g1⟩,g2,g3⟩
end
section
variable {X:Cx}{C:Cfg}{e k:Expr}{φ φk:aJ}{i:Nat}{x:Str}{pos px kp ap cp:Pos}
theorem i3 (l:Bool)(he:∀U,PQ X (C.u U) true e φ)(hk:∀U,PQ X (C.u U) true k φk)(hn:Nm X i x:=by exact rH)
  (QQ:jC k:=by exact λ_ _=>rfl)
  (eT:Vz (.Subscript (.Name x px) k kp) "append" X.env (eval (.Subscript (.Name x px) k kp) X.env)=eval (.Subscript (.Name x px) k kp) X.env:=by rfl)
  (nH:((UZ cp (Te [e] X.env)).all (λx=>!x.1)&&(XO cp (WR [] X.env)).all (λx=>x.1.isSome)&&decide ([e].length+([]:List Wh).length+(if ([]:List Wh).isEmpty then 0 else 1)<30))=true:=by rfl)
  (eR:(ap.endLine==cp.line)=true:=by rfl) (hs:Te [e] X.env=(false,eval e X.env)::Te [] X.env:=by rfl) (gj:(UZ cp (Te [] X.env)).any (·.1)=false:=by rfl)
  (rV:UB (.Call (.Attribute (.Subscript (.Name x px) k kp) "append" ap) [e] [] cp) none pos.line X.env=pure false:=by rfl) :
  PB X C (.Expr (.Call (.Attribute (.Subscript (.Name x px) k kp) "append" ap) [e] [] cp) pos) (λE β=>(∃d0,β[i]?=some (some (.own d0)))/\φk β λjd _ β1=>∃ds j m es,jd=.int j/\β1[i]?=some (some (.own (Ic l ds)))/\qF ds.length j=some m/\ds[m]?=some (.lst es)/\φ β1 λd kd β2=>Bv kd d/\β2[i]?=some (some (.own (Ic l ds)))/\es.length<S7/\E.nx (β2.set i (some (.own (Ic l (ds.set m (.lst (es++[d]))))))) ):=by
 refine⟨λE E' β l ji=>by obtain⟨q0,q⟩:=ji;exact⟨q0,(hk λ_=>False).mono _ _ _ (λjd _ β1 kl=>by obtain⟨ds,j,m,es,h1,h2,h3,h4,q⟩:=kl;exact⟨ds,j,m,es,h1,h2,h3,h4,(he λ_=>False).mono _ _ _ (λd kd β2 pN=>by obtain⟨g1,g2,g3,q⟩:=pN;exact⟨g1,g2,g3,l.nx _ q⟩) q⟩) q⟩,λpins s σ H De I fV=>?_⟩
 obtain⟨Z,E,β,⟨own,sq,n⟩,⟨⟨d0,Q0⟩,q⟩,ok⟩:=fV;have ix:Du X (λx y H Q=>Hj X.K x y H Q\/Hi X.K x y H Q):=λvalue slice pins s σ H x y v u Q I rx ry h hs=>h.elim (λh=>cQ value slice pins s σ H x y v u Q I rx ry h hs) λh=>yu value slice pins s σ H x y v u Q I rx ry h hs;refine tK (pos:=pos) (tS (apos:=ap) (cpos:=cp) PySem.F.plainAttrs_list PySem.F.slot_list_append PySem.F.type_list_append iB (fC (pos:=kp) ix (du (pos:=px) hn) (hk λa=>H a=none).pe QQ) (aw (he λa=>H a=none).pe bu hs) eT nH eR hs gj) rV pins s σ H De I ?_;have Pq:=sq.gy (C:=C.z) (U:=λa=>H a=none) λa z=>z;obtain⟨v0,nE,_,_⟩:=sq.ow i d0 Q0;refine⟨v0,nE,tQ.of (hk λa=>H a=none) Pq q λjd kk β1 kv H1 aA ki o r=>?_⟩;obtain⟨ds,j,m,es,e1,hb,hj,hm,q⟩:=ki;subst e1;cases r.rep;obtain⟨v,Iz,ow,h0⟩:=o.sq.ow i _ hb;rw[nE]at Iz;cases Iz;obtain⟨a,vs,c,us,B,rfl,q1,q2,q3,q4,q5,q6,q7,q8,q9⟩:=oY ow (o.sq.kS i) hm;have Kn:lx vs j=some (.ref c):=by unfold lx;rw[q2,hj];exact q3
 have N3:JQ X.K "list" (.ref c) H1/\Cv (tQ X (C.u λa=>H a=none) true φ) G3 σ H1 λxs H2=>tF (.ref c) xs H2 λ_ H1=>De.nx σ H1:=by
  refine⟨.inl ⟨rfl,us,cK.of q4⟩,tQ.of (he λa=>H a=none) o.sq q λd kd β2 v2 H2 aP rT o2 r2=>?_⟩;obtain⟨f,OJ,hl,q⟩:=rT;obtain⟨s2,e2⟩:=o2.pu rfl;obtain⟨v',Ol,PY,SF⟩:=o2.sq.ow i _ OJ;rw[nE]at Ol;cases Ol;obtain⟨a',vs',c',sU,B',ea,p1,p2,p3,p4,p5,p6,p7,p8,p9⟩:=oY PY (o2.sq.kS i) hm;cases ea;have e3:=s2 _ _ q1;rw[p1]at e3;have ev:vs'=vs:=by cases l <;> (cases e3;rfl)
  subst ev;rw[q3]at p3;cases p3;have e4:=s2 _ _ q4;rw[p4]at e4;cases e4;obtain⟨A,r1,rn,r3⟩:=r2.fl f;have ES:∀x∈A,x∉aP i:=λx hx z=>(r3 x hx).2.1 ⟨i,z⟩;obtain⟨A',g1,g2,g3⟩:=p9 (es++[d]) (us++[v2]) (B'++A) (p6.append (aH.one r1)) (TZ.mpr ⟨p8,rn,λx hx y hy z=>ES y hy (by rw[<- z];exact(p7 x hx).1)⟩)
   (λx hx=>(S9.mp hx).imp id (ES x)) (λx hx z=>by
    rcases S9.mp hx with hx|hx
    ·exact(p7 x hx).2 z
    ·exact ES x hx (by rw[z];exact p5))
  have hA:∀x∈A',x∈aP i\/(C.H0 x=none/\¬ Wn aP x/\H x=none):=λx hx=>by
   rcases g3 x hx with z|z
   ·exact .inl z
   ·rcases S9.mp z with z|z
    ·exact .inl (p7 x z).1
    ·exact .inr ⟨(r3 x z).2.2,(r3 x z).2.1,o.sn.free (r3 x z).1⟩
  exact⟨c,us,v2,rfl,rfl,p4,by rw[p6.length];exact hl,ok.nx _ _ _ ⟨_,o2.sq.putIn (C:=C) (U:=λa=>H a=none) OJ nE p5 g1 g2 hA,jN ((n.trans o.sn).trans o2.sn) (λb z=>n.free z) ⟨i,p5⟩ ⟨_,p4,λxs z=>by cases z⟩ hA⟩ q⟩
 cases l with
 |true=>exact .inl ⟨a,vs,j,.ref c,rfl,rfl,cK.of q1,Kn,N3⟩
 |false=>exact .inr ⟨a,vs,j,.ref c,rfl,rfl,og.of q1,Kn,N3⟩
end
end L2.Q
namespace L2
open PySem PySem.Spec PySem.SeqAt PyProof.Rows
theorem Ql {b:Bool}{p q:Prop}(h1:b=true->p)(h2:b=false->q):(if b=true then p else q):=by
 cases b
 ·exact n6 rfl (h2 rfl)
 ·exact Bz rfl (h1 rfl)
def nL (a b c d:Int):Bool:=(decide (a<c)&&(decide (c<b)&&decide (b<d))) || (decide (c<a)&&(decide (a<d)&&decide (d<b)))
def sG:List Int->List Int->Bool
 |[a,b],[c,d]=>nL a b c d
 |_,_=>false
def Pair (t:List Int):Prop:=∃a b,t=[a,b]
theorem GL.pair {n:Int}{t:List Int}(h:GL n t):Pair t:=let ⟨a,b,e,_⟩:=h;⟨a,b,e⟩
def jP (t u:List Int):Bool:=t.any λi=>decide (i∈u)
def Pairs (ts:List (List Int)):Prop:=∀t∈ts,Pair t
structure Bs2 (mg:Str->Option SO):Prop extends Bs mg where
 Og:mg "isinstance" = none
 tuple:mg "tuple" = none
 str:mg "str" = none
 bool:mg "bool" = none
 zip:mg "zip" = none
 enumerate:mg "enumerate" = none
theorem qg {d:D}{n:Nat}(h:d.pd.canLay0=true/\d.pd.depth<=n)(hn:n<=64:=by decide):z7 d d=some (.bl false):=sF (cG h hn) (cG h hn) (eqv_refl _ h.1)
end L2
namespace L2.Q
open PySem PySem.Spec PySem.SeqAt PyProof.Rows
structure lA (X:Cx)(C:Cfg)(p:Bool)(ifs:List Expr)(τ:aW):Prop where
 mono:∀β R R',(∀d β,R d β->R' d β)->τ β R->τ β R'
 pt:mI X ifs (ib X C p τ)
theorem dY {X:Cx}{C:Cfg}:lA X C true [] GZ:=⟨λ_ _ _ k h=>k _ _ h,xx⟩
theorem qT {X:Cx}{C:Cfg}{p:Bool}{c:Expr}{τ:aW}(h:sP X C p c τ):lA X C p [c] τ:=⟨h.mono,xw h⟩
section
variable {X:Cx}{C:Cfg}{lk:List (Option Nat)}{γ:cD}{τ:aW}{φ:aJ}{T:List Nat}{pc pe pi:Bool}{scope:UR}{N':List Str}{tg bz elt:Expr}{ifs:List Expr}{ι:bN}{pos pos' fx:Pos}{y:Str}{i:Nat}
theorem J4 (N':List Str)(lk:List (Option Nat))(L:fb X.env.scope.names X.N scope N' lk=true)(jw:N'.Nodup)(hc:X.calm=true)(hi:oh X C pi tg bz ι)
  (jh:∀U cl c s H ex,qL (az X scope N' cl c s H ex) (C.u U) tg T γ) (jg:∀U cl c s H ex,lA (az X scope N' cl c s H ex) (C.u U) pc ifs τ) (jk:∀U cl c s H ex,PQ (az X scope N' cl c s H ex) (C.u U) pe elt φ)
  (hT:T.all (λi=>match lk[i]? with|some (some _)=>false|_=>true)=true:=by rfl) (hs:∀x,TL bz X.env x=pure x:=by intro _;rfl):PQ X C (pi&&(pc&&pe)) (.ListComp elt [⟨tg,bz,ifs,0⟩] scope pos) (lN lk ι γ τ φ) :=
 CF (Links.of L) jw hT hc hi (λa=>jh _) (λa cl c s H ex=>(jg _ cl c s H ex).pt) (jg (λ_=>False) [] 0 X.s₀ X.H₀ []).mono (λa=>jk _) (jh (λ_=>False) [] 0 X.s₀ X.H₀ []).mono (jk (λ_=>False) [] 0 X.s₀ X.H₀ []).mono hs
theorem Ec (o:Bool)(N':List Str)(lk:List (Option Nat))(L:fb X.env.scope.names X.N scope N' lk=true)(jw:N'.Nodup)(hc:X.calm=true)(hi:∀U,oh X (C.u U) pi tg bz ι)
  (jh:∀U cl c s H ex,qL (az X scope N' cl c s H ex) (C.u U) tg T γ) (jg:∀U cl c s H ex,lA (az X scope N' cl c s H ex) (C.u U) pc ifs τ) (jk:∀U cl c s H ex,PQ (az X scope N' cl c s H ex) (C.u U) pe elt φ)
  (hN:X.N.Nodup) (hT:T.all (λi=>match lk[i]? with|some (some _)=>false|_=>true)=true:=by rfl) (hy:X.N[i]?=some y:=by rfl) (hx:Loc X.env.scope y:=by first|exact .inl rfl|exact .inr rfl) (hf:X.fn y=true\/X.env.scope.names.lookup y=some .local:=by first|exact .inl rfl|exact .inr rfl|assumption)
  (rV:UB (.ListComp elt [⟨tg,bz,ifs,0⟩] scope pos) (some (.Name y pos')) fx.line X.env=pure true:=by rfl)
  (sf:We (.ListComp elt [⟨tg,bz,ifs,0⟩] scope pos) X.env (assign (.Name y pos') X.env)=(do let _ <- comprehension (.ListComp elt [⟨tg,bz,ifs,0⟩] scope pos) scope X.env (W_ [⟨tg,bz,ifs,0⟩] pos) (newList []) false (eval bz X.env) (some (assign (.Name y pos') X.env));pure ()):=by first|rfl|exact VA ..)
  (hs:∀x,TL bz X.env x=pure x:=by intro _;rfl) :
  PB X C (.Assign [.Name y pos'] (.ListComp elt [⟨tg,bz,ifs,0⟩] scope pos) fx) (λE β=>lN lk ι γ τ φ β λd _ β'=>E.nx (β'.set i (some (match o with|true=>.own d|false=>.val true d)))) :=
 Hw (K:=λ_ _ _=>True) (Links.of L) jw hT hc hi jh (λU cl c s H ex=>(jg U cl c s H ex).pt) (jg (λ_=>False) [] 0 X.s₀ X.H₀ []).mono jk (jh (λ_=>False) [] 0 X.s₀ X.H₀ []).mono (jk (λ_=>False) [] 0 X.s₀ X.H₀ []).mono o hN hy hx hf rV sf hs
theorem d_:Du X (AD X z8 NF):=λvalue slice pins s σ H x y v u Q I rx ry ⟨W,d1,d2,d,hd,r1,r2,e,q⟩ hs =>
 Fg value slice pins s σ H x y v u Q I rx ry ⟨W,d1,d2,d,hd,r1,r2,e,λv H' s r=>q v H' s r λf=>ar.flat f r⟩ hs
end
section
end
theorem wb (ns:List Int)(lo hi:Option Int):∃ms:List Int,wd (ns.map V.int) lo hi=ms.map V.int/\ms.length<=ns.length:=by
 refine⟨(ns.drop (HT.n4 (ns.map V.int).length 0 lo)).take (HT.n4 (ns.map V.int).length (ns.map V.int).length hi-HT.n4 (ns.map V.int).length 0 lo),?_,?_⟩
 ·unfold wd;rw[List.map_take,List.map_drop]
 ·rw[Uj,List.length_drop];lia
section
variable {P:SW}{w:S_}
theorem bW {W:Addr->Prop}{H:Hp}:∀ns:List Int,ag P w W H (ns.map D.int) (ns.map V.int)
 |[]=>rfl
 |n::ns=>⟨_,_,rfl,rfl,bW ns⟩
theorem An {N:List Str}{vs:List V}{H H':Hp}{n:Nat}{ro:Bool}{U:Addr->Prop}(hl:(L2.start N vs).length=n)(sm:au H H'):bD P w ⟨H,λ_=>False,ro,U⟩ (L2.start N vs) H' (TX n none) (λ_=>[]) :=
 ⟨by rw[hl,WQ],λi y d h=>(fy h).elim,λi d h=>(fy h).elim,λi ok h=>(fy h).elim,λi a h=>(nomatch h),λi j a h=>(nomatch h),λi=>T4,sm.kp,λa z e=>z (sm.free e),λi y d h=>(fy h).elim⟩
theorem Hg {ro:Bool}{H H':Hp}{b:Bool}{v:V}(h:nX P w ro H H' (.bl b) v):v=.bl b:=by
 cases ro with
 |true=>obtain⟨A,h1,_⟩:=h;exact h1.1
 |false=>exact h
end
end L2.Q
namespace L2
open PySem PySem.Spec PySem.SeqAt PyProof.Rows
abbrev m7 (n:Int)(rows:List (List Int)):D:=.tup [.int n,.lst (rows.map kD)]
theorem u3 (n:Int)(rows:List (List Int)):(m7 n rows).pd.canLay0=true/\(m7 n rows).pd.depth<=4:=lJ λd hd=>by
 rcases S5.mp hd with rfl|hd
 ·exact⟨(cx n).1,T_ (cx n).2 (by decide)⟩
 ·rw[S3.mp hd];exact f9 rows
theorem Pairs.ne {ts:List (List Int)}(h:Pairs ts):∀k∈ts,k≠[]:=λk hk=>by
 obtain⟨a,b,rfl⟩:=h k hk;intro z;cases z
end L2
namespace L2.Q
open PySem PySem.Spec PySem.SeqAt PyProof.Rows
section
variable {X:Cx}{C:Cfg}{pos p2 p3 p4:Pos}{e a:Expr}{φ:aJ}{p:Bool}
def Lf (φ:aJ):aJ:=λβ R=>φ β λx k β1=>∃d,Nf x=some d/\kN NL d k.wk λk'=>R d k' β1
theorem Eo {j:Nat}(ha:PQ X C p a φ):PQ X C p (.Subscript a (.Slice none none (some (.UnaryOp .USub (.Constant (.int 1) j p3) p4)) p2) pos) (Lf φ) :=
 ⟨λβ R R' k h=>ha.mono β _ _ (λx kx β1 pN=>by obtain⟨d,e,q⟩:=pN;exact⟨d,e,q.mono λ_ z=>k _ _ _ z⟩) h,
  (Et ha.pe).pre λσ H Q ⟨β,own,s,h⟩=>tQ.of ha s h λd k β1 v H1 aA yB o1 r1=>by
    obtain⟨d',e,q⟩:=yB;have rr:=ar.aN Dl r1.rep
    match d,e with
    |.lst ds,e =>
      cases e;obtain⟨c,vs,rfl,h1,n1,rs⟩:=rr;refine .inl ⟨c,vs,rfl,h1,λp hp=>?_⟩;have sm:au H1 (upd H1 p (.lst vs.reverse)):=au.new hp;have hw:¬ av C (Wn aA) k.wk p:=λz=>o1.sq.BX _ p z hp;have r2:ar X.prog X.w (av C (Wn aA) k.wk) (upd H1 p (.lst vs.reverse)) (.lst ds.reverse) (.ref p):=⟨p,_,rfl,ah,hw,(ag.rev rs).same sm⟩;obtain⟨k',q,r⟩:=KV.kN (Z:=(H,Wn own)) GU r2 (λn=>js (H:=H1) o1.sq.uF o1.sq.f6 (λa z e=>o1.sn.d a z e) n ⟨p,_,rfl,ah,λz=>z hp,ag.flat n ((ag.rev rs).same sm)⟩) q;exact q _ _ aA (o1.same sm) r
    |.tup ds,e =>
      cases e;obtain⟨c,vs,rfl,h1,rs⟩:=rr;refine .inr ⟨c,vs,rfl,h1,λp hp=>?_⟩;have sm:au H1 (upd H1 p (.tup vs.reverse)):=au.new hp;exact q _ _ aA (o1.same sm) (by
        have r2:ar X.prog X.w (av C (Wn aA) k.wk) (upd H1 p (.tup vs.reverse)) (.tup ds.reverse) (.ref p):=⟨p,_,rfl,ah,(ag.rev rs).same sm⟩;cases k <;> exact r2)⟩
end
def kR (ns:List Int):Prop:=∃x y z:Int,ns=[x,y,z]/\0<=x
def yY:FD:=λds R=>∃c:Int,ds=[.int c]/\∀ns,kR ns->R (.lst (ns.map D.int))
theorem yY.mono:fI yY:=λds R R' k ⟨c,e,q⟩=>⟨c,e,λns o=>k _ (q ns o)⟩
section
variable {P:SW}{w:S_}{H:Hp}{h:Addr}
theorem oZ {H:Hp}:∀ns:List Int,aH P w H (ns.map D.int) (ns.map V.int) []
 |[]=>⟨rfl,rfl⟩
 |n::ns=>⟨_,_,[],[],rfl,rfl,⟨rfl,rfl⟩,oZ ns⟩
theorem xp {xs ys:List V}(e:H h=some (.lst xs)):Kp (·=h) H (upd H h (.lst ys)):=⟨λb u hb nb=>by rw[ao nb];exact hb,λb iU hb=>by rw[ao λz=>by rw[z,e]at hb;cases hb];exact hb⟩
theorem xq {ys:List V}:∀c,H c≠none->upd H h (.lst ys) c≠none:=λc hc=>by
 by_cases z:c=h
 ·rw[z,ah];exact λz=>(nomatch z)
 ·rw[ao z];exact hc
theorem tZ {H':Hp}{r:Int}:nX P w true H H' (.int r) (.int r):=eO (W:=λ_=>False) rfl rfl
end
end L2.Q
namespace jD
open PySem L2 L2.Q
def top (i:Nat):Stmt:=PySem.Challenge.pw_archrow_k41_shapes_counted.main.body.getD i (.Pass ⟨0,0,0,0⟩)
abbrev bE:Stmt:=top 4
abbrev cL:Stmt:=top 5
abbrev fL:Stmt:=top 7
abbrev cN:Stmt:=top 9
abbrev bx:Stmt:=top 10
abbrev eF:Stmt:=top 12
abbrev dk:Stmt:=top 13
abbrev cM:Stmt:=top 14
abbrev fK:Stmt:=top 15
abbrev c9:Stmt:=top 16
abbrev eV:Stmt:=top 17
abbrev fJ:Stmt:=top 18
abbrev dM:Stmt:=top 19
abbrev dN:Stmt:=top 20
abbrev dj:Stmt:=top 21
abbrev dJ:Stmt:=top 22
abbrev jR:Stmt:=top 23
section
variable (K:PySem.W.Frag)(mg:Str->Option SO)(f:Addr)(fd:T7)
abbrev D0:Prop:=Df K mg "_law_ways" dj ["near","opened","part","stretch","known"] f fd
abbrev D1:Prop:=Df K mg "_law_planted" cM ["pot","many"] f fd
abbrev D2:Prop:=Df K mg "_law_take" dk ["pot","many"] f fd
abbrev D3:Prop:=Df K mg "_law_row" fK ["pot"] f fd
abbrev D4:Prop:=Df K mg "arcs_in" fL ["text"] f fd
abbrev D5:Prop:=Df K mg "_law_count" dN ["row","shape"] f fd
abbrev D6:Prop:=Df K mg "stretches_rising" bE ["many"] f fd
abbrev D7:Prop:=Df K mg "partners_of" cL ["row"] f fd
abbrev D8:Prop:=Df K mg "counts_with_first" bx ["partners","beneath","behind"] f fd
abbrev D9:Prop:=Df K mg "count_shape" cN ["row","shape"] f fd
abbrev O6:Prop:=Df K mg "_law_shape" dM ["pot","most"] f fd
abbrev O5:Prop:=Df K mg "_law_copied" c9 ["row"] f fd
abbrev NC:Prop:=Df K mg "_law_meet" eV ["one","other"] f fd
abbrev O4:Prop:=Df K mg "_law_set" fJ ["pot","row"] f fd
abbrev O3:Prop:=Df K mg "_law_shown" dJ ["row","ties"] f fd
abbrev RV:Prop:=Df K mg "_law_pot" eF ["cell"] f fd
end
section
variable {P:SW}{w:S_}{K:PySem.W.Frag}{mg:Str->Option SO}{base:Heap}
theorem q_:aY ["cell"] ["cell"] (aD eF):=mkS
theorem EL {f:Addr} {fd:T7} (F:Ab K "_law_pot" "_law_pot" eF f fd) (B:Bs mg):bc P w K mg base cY 1 f fd ["cell"] (kP P w true yY):=by
 refine F.ok q_ (λvs H Q E h=>?_) (λc8 A outer s H vs Q E hr h=>?_)
 ·obtain⟨ds,r,c,rfl,_⟩:=h;obtain⟨x,rr,rfl,_,hr⟩:=r;cases (show rr=[] from hr)
  rfl
 ·obtain⟨ds,r,c,rfl,q⟩:=h;obtain⟨x,rr,rfl,hx,IH⟩:=r;cases (show rr=[] from IH)
  cases (show x=V.int c from hx)
  refine⟨_,cj (eY (rD (aw (jW (wj rfl) (by rfl) B.max Ga (aw aM (aw (bq e8 (pv 0) (bq EE aM aM)) bu)))
   (aw (bq iy (pv 0) aM) (aw aM bu))))),?_⟩
  refine⟨_,rfl,_,_,rfl,rfl,HB,_,_,rfl,rfl,_,_,rfl,?_⟩;refine⟨_,rfl,_,_,rfl,rfl,(by show (0:Int)<99999999977;decide),(by show 3<=S7;decide),λp hp=>?_⟩
  refine q [_,_,_] ⟨_,_,_,rfl,?_⟩ _ _ (au.new hp) ⟨[p],⟨p,_,[],rfl,ah,rfl,oZ [_,_,_]⟩,by simp,λc hc=>by rw[S3.mp hc];exact hp⟩
  split <;> lia
theorem cS:aY ["pot","many","found","number"] ["pot","many"] (aD dk):=mkS
theorem gK {f:Addr} {fd:T7} (F:Ab K "_law_take" "_law_take" dk f fd):bc P w K mg base cY 1 f fd ["pot","many"] (fS P w kR true bU):=by
 refine F.ok cS (λvs H Q E h=>?_) (λc8 A outer s H vs Q E hr h=>?_)
 ·obtain⟨h,vs',ds,ns,rfl,_,_,r,n,rfl,_⟩:=h;obtain⟨x,rr,rfl,_,hr⟩:=r;cases (show rr=[] from hr)
  rfl
 ·obtain⟨h,vs',ds,ns,rfl,e,⟨x,y,z,rfl,x0⟩,r,n,rfl,n0,n1,q⟩:=h;obtain⟨x',rr,rfl,CZ,IH⟩:=r;cases (show rr=[] from IH)
  cases (show x'=V.int n from CZ)
  have hx:H h=some (.lst [.int x,.int y,.int z]):=e;refine⟨_,aS (jT (eW tW (fC cQ (pv 0) aM (λ_ _=>rfl)) aM (j3 _))
    (aS (cZ (i:=2) cS.nd rfl (VH rfl) (bq iy (fC cQ (pv 0) aM (λ_ _=>rfl)) (pv 1)))
    (aS (gd (bq o4 (fC cQ (pv 0) aM (λ_ _=>rfl)) (pv 1)) (nj (pv 0) aM set_list))
    (cj (eY (pv 2))))) eX)
   (aS (gd (bq gg (fC cQ (pv 0) aM (λ_ _=>rfl)) aM) (nj (pv 0) aM set_list))
   (aS (cZ (i:=3) cS.nd rfl (VH rfl) (bq iy (bq gg (fC cQ (pv 0) aM (λ_ _=>rfl)) (bq jZ aM (fC cQ (pv 0) aM (λ_ _=>rfl)))) aM))
   (aS (cZ (i:=3) cS.nd rfl (VH rfl) (bq iy (bq jZ (pv 3) (pv 3)) aM))
   (aS (cZ (i:=3) cS.nd rfl (VH rfl) (bq iy (bq jZ (pv 3) (bq gg (pv 3) aM)) aM))
   (cj (eY (bq iy (bq o4 (pv 3) aM) (pv 1)))))))),?_⟩
  refine⟨_,rfl,h,_,_,_,rfl,rfl,cK.of hx,rfl,_,_,rfl,rfl,_,rfl,?_⟩;refine yw (λhp=>?_) (λhp=>?_)
  ·refine⟨_,rfl,h,_,_,_,rfl,rfl,cK.of hx,rfl,_,rfl,_,_,rfl,rfl,n0,?_⟩;refine⟨_,rfl,h,_,_,_,rfl,rfl,cK.of hx,rfl,_,rfl,_,_,rfl,rfl,qE.of n0 n1,?_⟩;refine⟨_,rfl,h,_,_,0,rfl,rfl,hx,rfl,?_⟩;have m:=ju (a:=x) n0;exact⟨_,rfl,q _ m.1 m.2 _ _ [x / n,y,z] (xp hx) xq ah ⟨_,_,_,rfl,Int.ediv_nonneg x0 (Int.le_of_lt n0)⟩ tZ⟩
  ·refine⟨_,rfl,h,_,_,_,rfl,rfl,cK.of hx,rfl,_,_,rfl,rfl,?_⟩;refine⟨_,rfl,h,_,_,2,rfl,rfl,hx,rfl,?_⟩;have hy:upd H h (.lst ([V.int x,V.int y,V.int z].set 2 (V.int (z+1)))) h=some (.lst [V.int x,V.int y,V.int (z+1)]):=ah;refine⟨_,rfl,h,_,_,_,rfl,rfl,cK.of hy,rfl,_,rfl,h,_,_,_,rfl,rfl,cK.of hy,rfl,_,_,rfl,rfl,.inl ⟨by decide,by decide⟩,_,_,rfl,rfl,_,_,rfl,rfl,(by show (0:Int)<99999999947;decide),?_⟩
   have m1:=ju (a:=y+700001*(z+1)) (b:=99999999947) (by decide)
   refine⟨_,rfl,_,rfl,_,_,rfl,rfl,.inl ⟨Int.lt_of_lt_of_le (by decide) m1.1,Int.lt_trans m1.2 (by decide)⟩,_,_,rfl,rfl,(by show (0:Int)<99999999821;decide),?_⟩
   have m2:=ju (a:=(y+700001*(z+1)) % 99999999947*((y+700001*(z+1)) % 99999999947)) (b:=99999999821) (by decide)
   refine⟨_,rfl,_,rfl,_,_,rfl,rfl,_,_,rfl,rfl,.inl ⟨Int.lt_of_lt_of_le (by decide) m2.1,Int.lt_trans m2.2 (by decide)⟩,_,_,rfl,rfl,(by show (0:Int)<9999999967;decide),?_⟩
   refine⟨_,rfl,_,_,rfl,rfl,qE.of (by decide) (by decide),_,rfl,_,_,rfl,rfl,n0,?_⟩
   have m:=λa:Int=>ju (a:=a) n0;exact q _ (m _).1 (m _).2 _ _ [x,y,z+1] (xp hx) xq ah ⟨_,_,_,rfl,x0⟩ tZ
end
end jD
namespace L2
open PySem PySem.Spec PyProof.Rows
section
variable {κ:Type}[DecidableEq κ]
def gz (kvs:List (κ×V))(k:κ):Option V:=(kvs.find? λkv=>decide (kv.1=k)).map (·.2)
def putK (kvs:List (κ×V))(k:κ)(v:V):List (κ×V) :=
 if (kvs.any λkv=>decide (kv.1=k))=true then kvs.map (λkv=>if kv.1=k then (kv.1,v) else kv) else kvs++[(k,v)]
theorem jG {p:κ×V}{r:List (κ×V)}{k:κ}(e:p.1=k):gz (p::r) k=some p.2:=by simp[gz,Uh,e]
theorem jH {p:κ×V}{r:List (κ×V)}{k:κ}(e:¬ p.1=k):gz (p::r) k=gz r k:=by simp[gz,Uh,e]
theorem ot (k:κ):∀kvs:List (κ×V),(kvs.any λkv=>decide (kv.1=k))=(gz kvs k).isSome
 |[]=>rfl
 |p::r=>by
  rw[VX]
  by_cases e:p.1=k
  ·simp only[jG e,decide_eq_true e,Bool.true_or,Option.isSome_some]
  ·rw[jH e,decide_eq_false e,Bool.false_or];exact ot k r
theorem i7 (kvs:List (κ×V))(k:κ)(v:V):(putK kvs k v).length<=kvs.length+1:=by
 unfold putK
 split
 ·rw[SS];lia
 ·rw[Tw,Tv,List.length_nil];lia
theorem kK.vK {o:Option V}{u:Option SO}(r:kK o u):o.isSome=u.isSome:=by
 cases o with
 |none=>cases u with
  |none=>rfl
  |some _=>exact(show False from r).elim
 |some _=>cases u with
  |none=>exact(show False from r).elim
  |some _=>rfl
theorem KV.val {kvs:List (κ×V)}{vs:List (κ×SO)}(r:KV kvs vs)(k:κ):kK (gz kvs k) (W8 vs k):=by
 unfold KV at r
 induction r with
 |nil=>exact VG
 | @cons p q ps qs h t ih =>
  obtain⟨h1,h2⟩:=h
  by_cases e:p.1=k
  ·have e':q.1=k:=h1.symm.trans e;have b:W8 (q::qs) k=some q.2:=by simp[W8,Uh,e']
   rw[jG e,b];exact h2
  ·have e':¬ q.1=k:=λz=>e (h1.trans z);have b:W8 (q::qs) k=W8 qs k:=by simp[W8,Uh,e']
   rw[jH e,b];exact ih
theorem KV.any {kvs:List (κ×V)}{vs:List (κ×SO)}(r:KV kvs vs)(k:κ):(kvs.any λkv=>decide (kv.1=k))=vs.any λkv=>decide (kv.1=k):=by
 unfold KV at r
 induction r with
 |nil=>rfl
 |cons h t ih=>rw[VX,VX,ih,h.1]
theorem KV.Ee {kvs:List (κ×V)}{vs:List (κ×SO)}(r:KV kvs vs)(k:κ){y:V}{u:SO}(ry:RelV y u):
  KV (kvs.map λkv=>if kv.1=k then (kv.1,y) else kv) (vs.map λkv=>if kv.1=k then (kv.1,u) else kv):=by
 unfold KV at r ⊢
 induction r with
 |nil=>exact .nil
 | @cons p q ps qs h t ih =>
  rw[S4,S4];refine .cons ?_ ih;obtain⟨h1,h2⟩:=h
  by_cases e:p.1=k
  ·rw[if_pos e,if_pos (h1.symm.trans e)];exact⟨h1,ry⟩
  ·rw[if_neg e,if_neg (λz=>e (h1.trans z))];exact⟨h1,h2⟩
theorem KV.put {kvs:List (κ×V)}{vs:List (κ×SO)}(r:KV kvs vs)(k:κ){y:V}{u:SO}(ry:RelV y u):KV (putK kvs k y) (stored vs k u):=by
 unfold putK stored;rw[r.any k]
 by_cases e:(vs.any λkv=>decide (kv.1=k))=true
 ·rw[if_pos e,if_pos e];exact r.Ee k ry
 ·rw[if_neg e,if_neg e];exact Paired.snoc r ⟨rfl,ry⟩
theorem KV.length {kvs:List (κ×V)}{vs:List (κ×SO)}(r:KV kvs vs):kvs.length=vs.length:=Paired.length r
end
theorem yr {P:SW}{w:S_}{k:Key}{u:SO}(r:RelV (kV k) u):(aZ P w).is k u=true:=by
 cases k with
 |inl i=>obtain⟨t,e⟩:=(show ∃t,u=Value.int i t from r);subst e;exact pj P w i t
 |inr x=>obtain⟨t,e⟩:=(show ∃t,u=Value.str x t from r);subst e;exact ph P w x t
theorem l3 {P:SW}{w:S_}:∀{ks:List Key} {us:List SO},Vals (ks.map kV) us->ItemsAre (aZ P w) ks us
 |[],_,r=>by rw[Xf]at r;cases r;exact .nil
 |k::ks,_,r=>by
  rw[S4]at r;cases r with
  |cons h t=>exact .cons (yr h) (l3 t)
abbrev KT (H:Hp):List (List Key×V)->List (List Key×Addr×SO)->Prop:=Paired λp q=>p.1=q.1/\H q.2.1=some (.tup (p.1.map kV))/\RelV p.2 q.2.2
theorem KT.val {H:Hp}{kvs:List (List Key×V)}{xs:List (List Key×Addr×SO)}(r:KT H kvs xs)(k:List Key):kK (gz kvs k) ((Vb xs k).map (·.2)):=by
 induction r with
 |nil=>exact VG
 | @cons p q ps qs h t ih =>
  obtain⟨h1,_,h2⟩:=h
  by_cases e:p.1=k
  ·have e':q.1=k:=h1.symm.trans e;have b:Vb (q::qs) k=some q.2:=by simp[Vb,Uh,e']
   rw[jG e,b];exact h2
  ·have e':¬ q.1=k:=λz=>e (h1.trans z);have b:Vb (q::qs) k=Vb qs k:=by simp[Vb,Uh,e']
   rw[jH e,b];exact ih
theorem KT.Ee {H:Hp}{kvs:List (List Key×V)}{xs:List (List Key×Addr×SO)}(r:KT H kvs xs)(k:List Key){y:V}{u:SO}(ry:RelV y u):
  KT H (kvs.map λkv=>if kv.1=k then (kv.1,y) else kv) (xs.map (putAt k u)):=by
 induction r with
 |nil=>exact .nil
 | @cons p q ps qs h t ih =>
  rw[S4,S4];refine .cons ?_ ih;obtain⟨h1,h2,h3⟩:=h;unfold putAt
  by_cases e:p.1=k
  ·rw[if_pos e,if_pos (h1.symm.trans e)];exact⟨h1,h2,ry⟩
  ·rw[if_neg e,if_neg (λz=>e (h1.trans z))];exact⟨h1,h2,h3⟩
theorem KT.put {H:Hp}{kvs:List (List Key×V)}{xs:List (List Key×Addr×SO)}(r:KT H kvs xs)(k:List Key){b:Addr}{y:V}{u:SO}(hb:H b=some (.tup (k.map kV)))(ry:RelV y u):
  KT H (putK kvs k y) (storedH xs k b u):=by
 have e:(kvs.any λkv=>decide (kv.1=k))=(Vb xs k).isSome:=by
  rw[ot,(r.val k).vK,Option.isSome_map]
 unfold putK storedH;rw[e]
 by_cases q:(Vb xs k).isSome=true
 ·rw[if_pos q,if_pos q];exact r.Ee k ry
 ·rw[if_neg q,if_neg q];exact Paired.snoc r ⟨rfl,hb,ry⟩
theorem KT.keeps {H H':Hp}{kvs:List (List Key×V)}{xs:List (List Key×Addr×SO)}(r:KT H kvs xs)(ht:∀b ys,H b=some (.tup ys)->H' b=some (.tup ys)):KT H' kvs xs :=
 Paired.EY r λ_ _ z=>⟨z.1,ht _ _ z.2.1,z.2.2⟩
section
variable {P:SW}{w:S_}{H:Hp}{h:Heap}{a:Addr}
theorem Cz {u:HO}(ok:fW P w H h)(e:Rd H a u):bb P w H h a u:=e.ok ok
theorem uG {kvs:List (Key×V)}(ok:fW P w H h)(e:Rd H a (.dK kvs)):kvs.length<=S7/\(a==Um)=false/\∃vs,KV kvs vs/\h.DictOf (aZ P w) a vs :=
 show bb P w H h a (.dK kvs) from Cz ok e
theorem Jr {kvs:List (Key×V)}(ok:fW P w H h)(e:H a=some (.dK kvs)):kvs.length<=S7/\(a==Um)=false/\∃vs,KV kvs vs/\h.DictOf (aZ P w) a vs:=uG ok (.inl e)
theorem ke {ks:List Key}(ok:fW P w H h)(e:H a=some (.tup (ks.map kV))):(WT (aZ P w)).is h ks a:=by
 obtain⟨_,its,r,o,h1,h2,n,h3⟩:=(show bb P w H h a (.tup (ks.map kV)) from ok a _ e)
 exact⟨o,its.toArray,n,h1,h2,h3,by simpa using l3 r⟩
theorem uD {kvs:List (List Key×V)}(ok:fW P w H h)(e:Rd H a (.dT kvs)):kvs.length<=S7/\(a==Um)=false /\
  ∃xs,KT H kvs xs/\h.DictOfH (WT (aZ P w)) a xs:=by
 obtain⟨z,y,xs,r,o,es,ep,h1,h2,h3,h4,h5⟩:=(show bb P w H h a (.dT kvs) from Cz ok e)
 refine⟨z,y,xs,r,o,es,ep,h1,h2,h3,h4,λx hx=>?_,h5⟩;have all:∀{l:List (List Key×V)} {m:List (List Key×Addr×SO)},KT H l m->∀x∈m,(WT (aZ P w)).is h x.1 x.2.1:=by
  intro l m q
  induction q with
  |nil=>intro x hx;exact nomatch hx
  | @cons p q ps qs hq t ih =>
   intro x hx;rcases S5.mp hx with e|hx
   ·subst e;exact ke ok (by rw[<- hq.1];exact hq.2.1)
   ·exact ih x hx
 exact all r x hx
theorem Jq {kvs:List (List Key×V)}(ok:fW P w H h)(e:H a=some (.dT kvs)):kvs.length<=S7/\(a==Um)=false /\
  ∃xs,KT H kvs xs/\h.DictOfH (WT (aZ P w)) a xs:=uD ok (.inl e)
end
def Gr (H:Hp)(a:Addr)(y:V)(r:Option V):Prop :=
 (∃kvs k,Rd H a (.dK kvs)/\y=kV k/\r=gz kvs k)\/∃kvs k b,Rd H a (.dT kvs)/\y=.ref b/\H b=some (.tup (k.map kV))/\r=gz kvs k
def JK (H:Hp)(a:Addr)(y v:V)(H':Hp):Prop :=
 (∃kvs k,H a=some (.dK kvs)/\y=kV k/\kvs.length<S7/\H'=upd H a (.dK (putK kvs k v))) \/
 ∃kvs k b,H a=some (.dT kvs)/\y=.ref b/\H b=some (.tup (k.map kV))/\kvs.length<S7/\H'=upd H a (.dT (putK kvs k v))
section
variable {X:Cx}{pins:List (Addr×Obj)}{σ:St}{H:Hp}{s:SU}{a:Addr}{y v:V}{u r:SO}{o:Option V}{A:Ud}{E:SO->SU->Prop}
theorem Inv.big (I:Inv X pins σ H s):Um<s.heap.objs.size:=by
 have h:UQ<s.heap.objs.size:=(I.mod.glob.keeps I.bk).lt;exact Nat.lt_trans (by decide) h
theorem v9 {Q:SO->SU->Prop}(hu:A.units+1<Vt)(I:Inv X pins σ H s)(g:Gr H a y (some v))(ry:RelV y u)(h:∀w' s',Inv X pins σ H s'->RelV v w'->Q w' s'):
  Tn (model X.prog X.w) A (Wz (.ref a) u) Q E s:=by
 rcases g with⟨kvs,k,e,ey,l⟩|⟨kvs,k,b,e,ey,eb,l⟩
 ·subst ey;obtain⟨z,hd,vs,rel,dd⟩:=uG I.a_ e;obtain⟨w',hw,vc⟩:=kK.some_of (v:=v) (o:=W8 vs k) (by rw[l];exact rel.val k)
  exact wpAny_getItem_of (yr ry) dd.mapOf hw (h w' _ (I.tok _) vc)
 ·subst ey;cases (show u=Value.ref b from ry)
  obtain⟨z,hd,xs,rel,dd⟩:=uD I.a_ e;obtain⟨w',hw,vc⟩:=kK.some_of (v:=v) (o:=(Vb xs k).map (·.2)) (by rw[l];exact rel.val k)
  obtain⟨p,hp,Kb⟩:=Tq.mp hw;refine wpAny_getItem_heap (tupleKind_room_in1 hu) (ke I.a_ eb) dd hp ?_;rw[Kb];exact h w' _ (I.tok _) vc
theorem uH {h':Heap}{t':Nat}{ob:HO}(I:Inv X pins σ H s)(mu:JH (H a))(hs:Vr a s.heap h')(he:∃q,h'.get? a=some q)(new:bb X.prog X.w (upd H a ob) h' a ob):
  Inv X pins σ (upd H a ob) {s with heap:=h',toks:=t'} :=
 I.write (x:=a) (e:=a) mu (.inl rfl) (λb q hb z=>(hs.2 b hb).trans z) he new
theorem FT {P:SW}{w:S_}{H':Hp}{h':Heap}{kvs:List (Key×V)}{vs:List (Key×SO)}(z:kvs.length<=S7)(hd:(a==Um)=false)(rel:KV kvs vs)(dd:h'.DictOf (aZ P w) a vs):
  bb P w H' h' a (.dK kvs):=⟨z,hd,vs,rel,dd⟩
theorem v8 {H':Hp}{Q:Unit->SU->Prop}(hu:A.units+1<Vt)(I:Inv X pins σ H s)(g:JK H a y v H')(ry:RelV y u)(rv:RelV v r)(h:∀s',Inv X pins σ H' s'->Q () s'):
  Tn (model X.prog X.w) A (setItem (.ref a) u r) Q E s:=by
 rcases g with⟨kvs,k,e,ey,l,eH⟩|⟨kvs,k,b,e,ey,eb,l,eH⟩
 ·subst ey eH;obtain⟨z,hd,vs,rel,dd⟩:=Jr I.a_ e;have hz:vs.length<=S7:=by rw[<- rel.length];exact z
  have hl:(putK kvs k v).length<=S7:=by have:=i7 kvs k v;lia
  refine wpAny_setItem_pairs (hsz:=hz) (yr ry) dd λh' FV hs=>h _ ?_;have he:∃q,h'.get? a=some q:=let ⟨q,_,_,hq,_⟩:=FV;⟨q,hq⟩
  exact uH I (by rw[e];exact VG) hs he (FT hl hd (rel.put k rv) FV)
 ·subst ey eH;cases (show u=Value.ref b from ry)
  obtain⟨z,hd,xs,rel,dd⟩:=Jq I.a_ e;have hz:xs.length<=S7:=by rw[<- Paired.length rel];exact z
  have hl:(putK kvs k v).length<=S7:=by have:=i7 kvs k v;lia
  refine wpAny_setItem_heap (hsz:=hz) (tupleKind_room_in1 hu) (ke I.a_ eb) dd λh' FV hs=>h _ ?_;obtain⟨q,es,ep,hq,h2,h3,h4,_,h5⟩:=FV;refine uH I (by rw[e];exact VG) hs ⟨q,hq⟩ ⟨hl,hd,_,(rel.put k eb rv).keeps λc ys ec=>?_,q,es,ep,hq,h2,h3,h4,h5⟩
  rw[ao (CL ec e (λz=>nomatch z))];exact ec
end
section
end
def JG (i:Expr):Prop:=∀ov iv,subscripted i false ov iv=operate [ov,iv] (Wz ov iv)
theorem Am {prog:SW}{w:S_}{A:Ud}{E:SO->SU->Prop}{s:SU}{env:Env}{value slice:Expr}{pos:Pos}{T id:String}{Q:SO->SU->Prop}
  (hl:typeLookup (.type T) "__getitem__" = pure (some (.builtin id))) (hs:JG slice)
  (h:Tn (model prog w) A (eval value env) (λo s₁=>Tn (model prog w) A (eval slice env) (λi s₂=>s₂.TypeIs o T/\Tn (model prog w) A (Wz o i) Q E s₂) E s₁) E s) :
  Tn (model prog w) A (eval (.Subscript value slice pos) env) Q E s:=by
 refine XR (Vk h (λo s₁ h₁=>Vk h₁ (λi s₂ h₂=>?_) λ_ _ x=>x) λ_ _ x=>x);obtain⟨hT,h₂⟩:=h₂;unfold WY;refine SN ?_;rw[getitemInPython_of_ne hT.not_modules];refine SN (VZ hT hl ?_);have fin:Tn (model prog w) A (subscripted slice false o i) (λr s₃=>Tn (model prog w) A (letTemporaryGo value o r >>= λ_=>pure r) Q E s₃) E s₂:=by
  rw[hs o i];exact wpAny_operating (Vk h₂ (λr s₃ h₃=>SN (wpAny_letTemporaryGo (SV h₃))) λ_ _ x=>x)
 first
  |exact SV (SN fin)
  |exact SN (SV (SN fin))
  |exact SN fin
theorem qf {X:Cx} {pins:List (Addr×Obj)} {σ:St} {H:Hp} {s:SU} {a:Addr} {y:V} {o:Option V} (I:Inv X pins σ H s) (g:Gr H a y o):s.TypeIs (.ref a) "dict" := by
 rcases g with⟨kvs,k,e,_,_⟩|⟨kvs,k,b,e,_,_,_⟩
 ·obtain⟨_,_,vs,_,dd⟩:=uG I.a_ e;exact dd.typeIs
 ·obtain⟨_,_,xs,_,dd⟩:=uD I.a_ e;exact dd.typeIs
def G6 (td ty:TE):TE:=λσ H Q=>td σ H λx H1=>ty σ H1 λy H2=>∃a v,x=.ref a/\Gr H2 a y (some v)/\Q v H2
def Hf (td ty tv:TE):TS:=λD σ H=>tv σ H λv H1=>td σ H1 λx H2=>ty σ H2 λy H3=>∃a H4,x=.ref a/\JK H3 a y v H4/\D.nx σ H4
section
variable {X:Cx}{o i value:Expr}{pos pos':Pos}{td ty tv:TE}
theorem AU (hu:X.A.units+1<Vt)(ho:PE X o td)(hi:PE X i ty)(hs:JG i):PE X (.Subscript o i pos) (G6 td ty):=by
 intro pins s σ H Q I h;refine Am PySem.F.slot_dict_getitem.lookup hs (bw (ho pins s σ H _ I h) λu s1 ⟨x,H1,I1,rx,q1⟩=>bw (hi pins s1 σ H1 _ I1 q1) λiv s2 ⟨y,H2,I2,ry,a,v,ex,g,q2⟩=>?_);subst ex;obtain rfl:u=Value.ref a:=rx;exact⟨qf I2 g,v9 hu I2 g ry λw' s3 I3 vc=>⟨v,H2,I3,vc,q2⟩⟩
theorem tL (hu:X.A.units+1<Vt)(ho:PE X o td)(hi:PE X i ty)(hv:PE X value tv)(hs:UB value (some (.Subscript o i pos')) pos.line X.env=pure false):
  PS X (.Assign [.Subscript o i pos'] value pos) (Hf td ty tv):=by
 intro pins s σ H D I h;refine wpAny_Assign_Subscript (bw (hv pins s σ H _ I h) λr s1 ⟨v,H1,I1,rv,q1⟩=>bw (ho pins s1 σ H1 _ I1 q1) λu s2 ⟨x,H2,I2,rx,q2⟩=>bw (hi pins s2 σ H2 _ I2 q2) λiv s3 ⟨y,H3,I3,ry,a,H4,ex,g,q3⟩=>?_) hs;subst ex;obtain rfl:u=Value.ref a:=rx;exact v8 hu I3 g ry rv λs4 I4=>⟨σ,H4,I4,q3⟩
end
theorem zg {P:SW}{w:S_}{H:Hp}(h:Heap)(hb:Um<h.objs.size):bb P w H (h.push {cls:=.type "dict",data:=.dict #[]}) h.objs.size (.dK []) :=
 ⟨Tb _,beq_eq_false_iff_ne.mpr (U_ (Tx hb)),[],.nil,Heap.DictOf.new h⟩
theorem zf {P:SW}{w:S_}{H:Hp}(h:Heap)(hb:Um<h.objs.size):bb P w H (h.push {cls:=.type "dict",data:=.dict #[]}) h.objs.size (.dT []) :=
 ⟨Tb _,beq_eq_false_iff_ne.mpr (U_ (Tx hb)),[],.nil,_,#[],0,TU _ rfl,⟨rfl,rfl,rfl⟩,rfl,rfl,T4⟩
def DQ:TE:=λ_ H Q=>∀p,H p=none->Q (.ref p) (upd H p (.dK []))
def DP:TE:=λ_ H Q=>∀p,H p=none->Q (.ref p) (upd H p (.dT []))
section
variable {X:Cx}{pos:Pos}
theorem xK:PE X (.Dict [] [] pos) DQ:=λpins s σ H Q I h =>
 Xm ⟨.ref s.heap.objs.size,_,I.laid (a:=s.heap.objs.size) (o:=.dK []) (t':=s.toks) (λ_ _ q=>S1 _ q) (SX _) (zg s.heap I.big),rfl,h _ (I.a_.fresh (SX _))⟩
theorem xI:PE X (.Dict [] [] pos) DP:=λpins s σ H Q I h =>
 Xm ⟨.ref s.heap.objs.size,_,I.laid (a:=s.heap.objs.size) (o:=.dT []) (t':=s.toks) (λ_ _ q=>S1 _ q) (SX _) (zf s.heap I.big),rfl,h _ (I.a_.fresh (SX _))⟩
end
def RA (H:Hp)(a:Addr):Prop:=(∃kvs,Rd H a (.dK kvs))\/∃kvs,Rd H a (.dT kvs)
theorem Fj {X:Cx}{pins:List (Addr×Obj)}{σ:St}{H:Hp}{s:SU}{a:Addr}(I:Inv X pins σ H s)(d:RA H a):
  s.TypeIs (.ref a) "dict" /\ (∀b,Value.ref a=.ref b->∃ob,s.heap.get? b=some ob/\ob.dict=none)/\(a==Um)=false:=by
 rcases d with⟨kvs,e⟩|⟨kvs,e⟩
 ·obtain⟨_,hd,vs,_,dd⟩:=uG I.a_ e;refine⟨dd.typeIs,λb q=>?_,hd⟩;cases q;obtain⟨ob,_,_,h1,h2,_⟩:=dd;exact⟨ob,h1,h2.2.1⟩
 ·obtain⟨_,hd,xs,_,dd⟩:=uD I.a_ e;refine⟨dd.typeIs,λb q=>?_,hd⟩;cases q;obtain⟨ob,_,_,h1,h2,_⟩:=dd;exact⟨ob,h1,h2.2.1⟩
section
end
section
end
section
end
section
end
section
end
section
variable {κ:Type}[DecidableEq κ]
end
end L2
namespace L2.Q
open PySem PySem.Spec PySem.SeqAt PyProof.Rows
theorem _root_.L2.cW.qQ {k:Nat}{A:Ud}(r:cW k A):A.units+1<Vt:=by have:=r.un;lia
def iK (t:List Int):List Key:=t.map VE
theorem Fl {t u:List Int}(h:iK t=iK u):t=u:=by
 unfold iK at h
 induction t generalizing u with
 |nil=>cases u with|nil=>rfl|cons _ _=>cases h
 |cons a t ih =>
  cases u with
  |nil=>cases h
  |cons b u =>
   rw[S4,S4]at h;injection h with h1 h2
   injection h1 with h1
   rw[h1,ih h2]
theorem CY (t:List Int):(iK t).map kV=t.map V.int:=by
 unfold iK;rw[T1];rfl
def dP (ts:List (List Int))(b:Bool):D:=.dT (ts.map iK) (TX ts.length (.bl b))
def qw (ts:List (List Int))(t:List Int):List (List Int):=if t∈ts then ts else ts++[t]
theorem m8 {v:V}:∀{ks:List (List Key)} {n:Nat},ks.length=n->ks.zip (TX n v)=ks.map λk=>(k,v)
 |[],_,_=>by simp
 |k::ks,0,h=>by cases h
 |k::ks,n+1,h=>by
  rw[List.replicate_succ,UC,m8 (VP h)];rfl
theorem AF {v:V}{ts:List (List Int)}{t:List Int}:putK ((ts.map iK).map λk=>(k,v)) (iK t) v=((qw ts t).map iK).map λk=>(k,v):=by
 unfold putK qw;have any:(((ts.map iK).map λk=>(k,v)).any λkv=>decide (kv.1=iK t))=decide (t∈ts):=by
  rw[UJ,List.any_eq_true,decide_eq_true_eq];constructor
  ·rintro⟨kv,h1,h2⟩;obtain⟨k,h3,rfl⟩:=Ti.mp h1;obtain⟨u,h4,rfl⟩:=Ti.mp h3;have:=Fl (of_decide_eq_true h2);rw[<- this];exact h4
  ·intro h;exact⟨(iK t,v),Ti.mpr ⟨iK t,Ti.mpr ⟨t,h,rfl⟩,rfl⟩,by simp⟩
 rw[any]
 by_cases h:t∈ts
 ·rw[if_pos (by simpa using h),if_pos h,T1]
  refine T5 λk _=>?_;show (if k=iK t then (k,v) else (k,v))=(k,v)
  split <;> rfl
 ·rw[if_neg (by simpa using h),if_neg h,TQ,TQ]
  rfl
section
variable {P:SW}{w:S_}{H:Hp}{a:Addr}
theorem tV {b:Bool}:∀{n:Nat},aH P w H (TX n (.bl b)) (TX n (V.bl b)) []
 |0=>⟨rfl,rfl⟩
 |n+1=>⟨_,_,[],[],rfl,rfl,⟨rfl,rfl⟩,tV⟩
theorem uM {b:Bool}:∀{n:Nat} {vs:List V} {A:List Addr},aH P w H (TX n (.bl b)) vs A->vs=TX n (V.bl b)/\A=[]
 |0,_,_,h=>h
 |n+1,_,_,⟨v,r,A1,A2,e,eA,h1,h2⟩=>by
  obtain⟨e1,e2⟩:=h1;obtain⟨e3,e4⟩:=uM h2;rw[e,eA,e1,e2,e3,e4];exact⟨rfl,rfl⟩
theorem xQ {ts:List (List Int)}{b:Bool}(h:H a=some (.dT ((ts.map iK).map λk=>(k,V.bl b)))):Own P w H (dP ts b) (.ref a) [a] :=
 ⟨a,TX ts.length (V.bl b),[],rfl,by rw[m8 (by simp)];exact h,by simp,rfl,tV⟩
theorem FW {ts:List (List Int)}{b:Bool}{v:V}{A:List Addr}(h:Own P w H (dP ts b) v A):∃a,v=.ref a/\A=[a]/\H a=some (.dT ((ts.map iK).map λk=>(k,V.bl b))):=by
 obtain⟨a,vs,A',e,h1,l,eA,h2⟩:=h;obtain⟨e3,e4⟩:=uM h2;rw[e3,m8 (by simp)]at h1
 exact⟨a,e,by rw[eA,e4],h1⟩
end
section
variable {X:Cx}{C:Cfg}{k:Expr}{φk:aJ}{i:Nat}{x:Str}{pos pos' px pc:Pos}{b:Bool}
theorem AM (b:Bool):PQ X C true (.Dict [] [] pos) (λβ R=>R (dP [] b) .own β) :=
 ⟨λβ R R' k h=>k _ _ _ h,xI.pre λσ H Q h p hp=>by
  obtain⟨β,own,s,q⟩:=h;refine q _ _ own ((Out.refl s _).same (au.new hp)) ⟨[p],xQ ah,by simp,λc hc=>?_⟩
  rw[S3.mp hc];exact⟨hp,λz=>s.uF p z hp,TV λz=>s.f6 p z hp⟩⟩
theorem tU {j}(hu:X.A.units+1<Vt)(hk:PQ X C.z true k φk)(hn:Nm X i x:=by exact rH)
  (hs:UB (.Constant (.bool b) j pc) (some (.Subscript (.Name x px) k pos')) pos.line X.env=pure false:=by rfl) :
  PB X C (.Assign [.Subscript (.Name x px) k pos'] (.Constant (.bool b) j pc) pos) (λE β=>(∃ts,β[i]?=some (some (.own (dP ts b))))/\φk β λjd _ β2=>∃ts t,jd=kD t/\β2[i]?=some (some (.own (dP ts b)))/\ts.length<S7/\E.nx (β2.set i (some (.own (dP (qw ts t) b))))):=by
 refine⟨λE E' β l h=>⟨h.1,hk.mono _ _ _ (λjd _ β2 h=>by obtain⟨ts,t,h1,h2,h3,q⟩:=h;exact⟨ts,t,h1,h2,h3,l.nx _ q⟩) h.2⟩,(tL hu (du (pos:=px) hn) hk.pe (xN (j:=j) (pos:=pc)) hs).pre λDe σ H h=>?_⟩
 obtain⟨Z,E,β,⟨own,s0,n⟩,⟨⟨RY,wF⟩,q⟩,ok⟩:=h;obtain⟨v0,nE,Sa,_⟩:=s0.ow i _ wF;refine⟨v0,nE,tQ.of hk s0 q λjd kk β2 v H1 aA h o r=>?_⟩;obtain⟨ts,t,e1,hb,hl,q⟩:=h;subst e1;obtain⟨v1,Iz,ow,h0⟩:=o.sq.ow i _ hb;rw[nE]at Iz;cases Iz;obtain⟨a,rfl,eA,ha⟩:=FW ow;obtain⟨p,vs,rfl,hp,rv⟩:=r.rep;have ev:vs=(iK t).map kV:=by
  rw[CY];have key:∀(t:List Int) (vs:List V),ag X.prog X.w (av C.z (Wn aA) kk) H1 (t.map D.int) vs->vs=t.map V.int:=λt=>by
   induction t with
   |nil=>intro vs h;exact h
   |cons y t ih =>
    intro vs h;obtain⟨z,r',e1,e2,e3⟩:=h;rw[e1,ih r' e3,show z=V.int y from e2]
    rfl
  exact key t vs rv
 have Mw:a∈aA i:=by rw[eA];simp
 refine⟨a,_,rfl,.inr ⟨_,iK t,p,ha,rfl,by rw[<- ev];exact hp,by rw[SS,SS];exact hl,rfl⟩,?_⟩
 have hA:∀c∈[a],c∈aA i\/(C.H0 c=none/\¬ Wn aA c/\(λ_=>False) c):=λc hc=>.inl (by rw[S3.mp hc];exact Mw)
 have r':Own X.prog X.w (upd H1 a (.dT (putK ((ts.map iK).map λk=>(k,V.bl b)) (iK t) (V.bl b)))) (dP (qw ts t) b) (.ref a) [a]:=xQ (by rw[AF];exact ah)
 exact ok.nx _ _ _ ⟨_,o.sq.Ei (C:=C) (U:=λ_=>False) (U2:=λ_=>False) hb nE Mw r' (by simp) hA (λ_ z=>z) (λ_ _ z=>z),jN (C:=C) (n.trans o.sn) (λ_ z=>z.elim) ⟨i,Mw⟩ ⟨_,ha,λxs z=>by cases z⟩ hA⟩ q
end
end L2.Q
namespace L2
open PySem PySem.Spec PySem.SeqAt PyProof.Rows
theorem F9:Ub "sum" = some (.builtin "sum"):=by decide +kernel
def D.int?:D->Option Int
 |.int i=>some i
 |_=>none
def D.Br:D->Option (List D)
 |.lst ds=>some ds
 |_=>none
theorem D.Bx {d:D}{i:Int}(h:d.int?=some i):d=.int i:=by
 cases d <;> first|(cases h;rfl)|cases h
theorem D.t7 {d:D}{ds:List D}(h:d.Br=some ds):d=.lst ds:=by
 cases d <;> first|(cases h;rfl)|cases h
noncomputable def mz:List D->Option (List Int)
 |[]=>some []
 |d::ds=>d.int?.bind λi=>(mz ds).map (i::·)
theorem qi:∀{ds:List D} {ns:List Int},mz ds=some ns->ds=ns.map D.int
 |[],_,h=>by cases h;rfl
 |d::ds,ns,h=>by
  obtain⟨i,h1,h2⟩:=Ui.mp h;obtain⟨ms,h3,rfl⟩:=Tq.mp h2;rw[D.Bx h1,qi h3];rfl
theorem my:∀ns:List Int,mz (ns.map D.int)=some ns
 |[]=>rfl
 |n::ns=>by
  show (some n).bind (λi=>(mz (ns.map D.int)).map (i::·))=_;rw[my ns];rfl
noncomputable def jA (f:List Int->Option Int):List D->Option D
 |[d]=>d.Br.bind λds=>(mz ds).bind λns=>(f ns).map D.int
 |_=>none
theorem sD {f:List Int->Option Int}{ds:List D}{d:D}(h:jA f ds=some d):∃ns i,ds=[.lst (ns.map D.int)]/\f ns=some i/\d=.int i:=by
 cases ds with
 |nil=>cases h
 |cons x r =>
  cases r with
  |cons _ _=>cases h
  |nil =>
   obtain⟨es,h1,h2⟩:=Ui.mp h;obtain⟨ns,h3,h4⟩:=Ui.mp h2;obtain⟨i,h5,rfl⟩:=Tq.mp h4;exact⟨ns,i,by rw[D.t7 h1,qi h3],h5,rfl⟩
theorem sC {f:List Int->Option Int}{ns:List Int}{i:Int}(h:f ns=some i):jA f [.lst (ns.map D.int)]=some (.int i):=by
 show (some (ns.map D.int)).bind (λds=>(mz ds).bind λns=>(f ns).map D.int)=_;rw[Xr,my,Xr,h];rfl
section
variable {X:Cx}
theorem jF:∀{ns:List Int} {us:List SO},Vals (ns.map V.int) us->∃xs:Array (Int×Tok),us.toArray=intItems xs/\xs.toList.map (·.1)=ns
 |[],_,h=>by cases h;exact⟨#[],by simp[intItems],rfl⟩
 |n::ns,_,h=>by
  cases h with
  |cons h1 h2 =>
   obtain⟨t,rfl⟩:=h1;obtain⟨xs,e1,e2⟩:=jF h2;refine⟨⟨(n,t)::xs.toList⟩,?_,by simp[e2]⟩
   have:=congrArg Array.toList e1;simp[intItems]at this ⊢
   exact this
theorem wm (hc:X.calm=true):cE X (.builtin "sum") (jA λns=>some ns.sum):=by
 intro pins s σ H xs us Q I r h;obtain⟨W,ds,d,hd,r1,e,q⟩:=h;obtain⟨ns,i,rfl,e1,rfl⟩:=sD e;cases e1;obtain⟨x,rfl,p,vs,rfl,h1,n1,q1⟩:=g_ r1;obtain⟨u,rfl,ru⟩:=vals1 r;cases ru;rw[bW q1]at h1;obtain⟨its,r2,ht,hz⟩:=I.list (cK.of h1);obtain⟨ys,e1,e2⟩:=jF r2;refine sum_intListG (I.ok.hd hc) (xs:=ys) (by rw[<- e1];exact ht.isList) λh' tk t' k=>⟨.int ns.sum,H,I.kept k,⟨t',?_⟩,q _ _ (au.refl _) rfl⟩
 rw[preSum_eq,UM (by simp),e2]
end
def Ks (lo:Int)(n:Nat):It:=⟨λi _=>i<n,λi H x H'=>H'=H/\x=.int (lo-i),λi _=>n<=i⟩
theorem oz {P:SW}{w:S_}{K:PySem.W.Frag}{tg:Expr}(it:Addr)(lo:Int)(n:Nat):Turn P w K tg (Ks lo n) [it] it (λi h=>Xv h it (lo+(i:Nat)*(-1)) ((n:Int)-(i:Nat)) (-1)) where
 mem:=by simp
 obj:=λi h st b hb=>by
  have e:b=it:=by simpa using hb
  subst e;exact⟨_,st,λv z=>by
   have z':Data.fields _=Data.cell v:=z;cases z'⟩
 keep:=λi h h' st k=>k it (by simp) _ st
 item:=by
  intro X hP hw hK hc i pins s σ H E I hf st hg;subst hP hw hK;obtain⟨f0,f1,f2,f3,f4,f5⟩:=hf it (by simp)
  have W:=Walks.range (prog:=X.prog) (w:=X.w) (I.ok.hd hc) it lo (-1) n;refine W.item i s _ _ hg st λv h' tk hv aC kk=>?_;obtain⟨t,rfl⟩:=hv;have I1:Inv X pins σ H {s with heap:=h',toks:=tk}:=I.turned (λb o hb e=>kk b o (by simpa using hb) e) f0 f1 f3 f4 f5
  refine⟨_,rfl,yO (s:={s with heap:=h',toks:=tk}) (n:="range_iterator") aC rfl rfl (by decide) ⟨.int (lo-i),H,I1,⟨t,?_⟩,⟨rfl,rfl⟩,aC,λb hb=>(hf b hb).1⟩⟩
  rw[Int.mul_neg,Int.mul_one];rfl
 done:=by
  intro X hP hw hK hc i pins s σ H E I hf st hg;subst hP hw hK;obtain⟨f0,f1,f2,f3,f4,f5⟩:=hf it (by simp)
  exact wpAny_pyNext_range_end (I.ok.hd hc) st (by have:n<=i:=hg;lia) λh' eb=>⟨rfl,I.turned (t':=s.toks) (λb o hb e=>eb b o hb e) f0 f1 f3 f4 f5⟩
 self:=λ_ _ _ _ _ st h=>wpAny_pyIter_rangeiter st h
theorem fX (a b:Int):VL a b (-1)=if b<a then a-b else 0:=by
 unfold VL;rw[if_neg (by decide)]
 by_cases h:b<a
 ·rw[if_pos h,if_pos h,show -(-1:Int)=1 by decide,Int.ediv_one];lia
 ·rw[if_neg h,if_neg h]
theorem u4 {a b:Int}(ha:-(2 ^ 62)<=a)(Kh:a<2 ^ 62)(hb:-(2 ^ 62)<=b)(pQ:b<2 ^ 62):Builtin.Range.small a b (-1)=true:=by
 unfold Builtin.Range.small;rw[fX];simp only[Builtin.Range.rangeFitsLong,TB,WM,decide_eq_true_eq,beq_iff_eq,show ¬ ((-1:Int)>0) by decide,if_false]
 split <;> lia
section
variable {X:Cx}{tg:Expr}
theorem vf {pins:List (Addr×Obj)}{σ:St}{H:Hp}{s:SU}{R:It->Hp->Prop}{E:SO->SU->Prop}{lo hi:Int}{t u v:Tok}{tk:Nat}(I:Inv X pins σ H s)(h1:-(2 ^ 62)<=lo)(h2:lo<2 ^ 62)(h3:-(2 ^ 62)<=hi)(h4:hi<2 ^ 62)
  (q:R (Ks lo (lo-hi).toNat) H):Tn (model X.prog X.w) X.A (XJ (.ref s.heap.objs.size)) (JF X pins σ tg R) E {s with heap:=s.heap.push {cls:=.type "range",data:=.fields #[.int lo t,.int hi u,.int (-1) v]},toks:=tk}:=by
 refine wpAny_pyIter_range (IsRange.new ..) (u4 h1 h2 h3 h4) ?_;have I1:Inv X pins σ H {s with heap:=s.heap.push {cls:=.type "range",data:=.fields #[.int lo t,.int hi u,.int (-1) v]},toks:=tk}:=I.kept λb o e=>S1 _ e
 refine⟨(s.heap.push {cls:=.type "range",data:=.fields #[.int lo t,.int hi u,.int (-1) v]}).objs.size,[(s.heap.push {cls:=.type "range",data:=.fields #[.int lo t,.int hi u,.int (-1) v]}).objs.size],_,_,H,rfl,
  I1.kept (t':=tk) λb o e=>S1 _ e,oz _ lo (lo-hi).toNat,?_,λb hb=>?_,q⟩
 ·have e1:lo+((0:Nat):Int)*(-1)=lo:=by simp
  have e2:(((lo-hi).toNat:Nat):Int)-((0:Nat):Int)=VL lo hi (-1):=by rw[fX];split <;> lia
  show Xv _ _ (lo+((0:Nat):Int)*(-1)) ((((lo-hi).toNat:Nat):Int)-((0:Nat):Int)) (-1);rw[e1,e2];exact TU _ rfl
 ·have e:b=(s.heap.push {cls:=.type "range",data:=.fields #[.int lo t,.int hi u,.int (-1) v]}).objs.size:=by simpa using hb
  subst e;exact I1.vR (SX _) (I1.a_.fresh (SX _))
def Ip (ta:TA):TI:=λσ H R=>ta σ H λvs H1=>∃i j:Int,vs=[.int i,.int j,.int (-1)]/\(-(2 ^ 62)<=i/\i<2 ^ 62/\-(2 ^ 62)<=j/\j<2 ^ 62)/\R (Ks i (i-j).toNat) H1
theorem vj {a b c:Expr} {ta:TA} {p pos:Pos} (hg:Gl X "range") (hm:X.mg "range" = none) (ha:PA X [a,b,c] ta) (hs:Te [a,b,c] X.env=[(false,eval a X.env),(false,eval b X.env),(false,eval c X.env)]:=by rfl) (rY:Te [b,c] X.env=[(false,eval b X.env),(false,eval c X.env)]:=by rfl) :
  PI X tg (.Call (.Name "range" p) [a,b,c] [] pos) (Ip ta):=by
 intro pins s σ H R I h;refine Call_ (gh I hg hm boot_range (UL (bw (ha pos pins s σ H _ I h) λus s1 fV=>?_) (by rw[hs,rY]) (by rw[rY];rfl)))
 obtain⟨vs,H1,I1,r1,q1⟩:=fV;obtain⟨i,j,e,⟨q1,q2,q3,q4⟩,q⟩:=q1;subst e;cases r1 with
 |cons r rr =>
  cases rr with
  |cons r' rr =>
   cases rr with
   |cons NU rr =>
    cases rr;obtain⟨t,rfl⟩:=r;obtain⟨t',rfl⟩:=r';obtain⟨R1,rfl⟩:=NU;exact call_range_3 (by decide) (vf I1 q1 q2 q3 q4 q) (.inl (PyProof.noPylong_of_log2 (by decide +kernel)))
def ve (hi:Int)(n:Nat):List D:=(Tt n).map λ(k:Nat)=>D.int (hi-(k:Int))
theorem oN {hi:Int}{n i:Nat}{d:D}(h:(ve hi n)[i]?=some d):i<n/\d=.int (hi-i):=by
 unfold ve at h;rw[Th]at h
 by_cases hi:i<n
 ·rw[Uv hi]at h;cases h;exact⟨hi,rfl⟩
 ·rw[UN (by simpa using hi)]at h;cases h
theorem oM {hi:Int}{n:Nat}:(ve hi n).length=n:=by unfold ve;simp
theorem rQ {W:Addr->Prop}{H:Hp}{lo:Int}{n:Nat}:wz X W (Ks lo n) (ve lo n) H:=λ_ _ i H' k=>by
 constructor
 ·intro d hd;obtain⟨hi,rfl⟩:=oN hd;refine⟨hi,λx H1 y=>?_⟩;obtain⟨rfl,rfl⟩:=y;exact⟨au.refl _,rfl⟩
 ·intro hl;rw[oM]at hl;exact hl
end
end L2
namespace L2.Q
open PySem PySem.Spec PySem.SeqAt PyProof.Rows
section
variable {X:Cx}{C:Cfg}{tg a b c:Expr}{φs:cg}{p:Bool}{pp pos:Pos}
def BA (φs:cg):bN:=λβ R=>φs β λds _ β'=>∃i j:Int,ds=[.int i,.int j,.int (-1)]/\(-(2 ^ 62)<=i/\i<2 ^ 62/\-(2 ^ 62)<=j/\j<2 ^ 62)/\R (ve i (i-j).toNat) .cy β'
theorem Jz {W:Addr->Prop}{H:Hp}{a b c:D}{xs:List V}(h:lz X W H [a,b,c] xs):∃x y z,xs=[x,y,z]/\Rp X W H a x/\Rp X W H b y/\Rp X W H c z:=by
 obtain⟨x,r,rfl,hx,y,r',rfl,hy,z,NU,rfl,hz,hr⟩:=h;cases hr;exact⟨x,y,z,rfl,hx,hy,hz⟩
theorem rj (hm:X.mg "range" = none) (ha:qA X C p [a,b,c] φs) (hg:Gl X "range" := by rfl) (hs:Te [a,b,c] X.env=[(false,eval a X.env),(false,eval b X.env),(false,eval c X.env)]:=by rfl) (rY:Te [b,c] X.env=[(false,eval b X.env),(false,eval c X.env)]:=by rfl) :
  oh X C p tg (.Call (.Name "range" pp) [a,b,c] [] pos) (BA φs) :=
 ⟨λβ R R' k q=>ha.mono β _ _ (λd kd β' h=>by obtain⟨i,j,e,h1,q⟩:=h;exact⟨i,j,e,h1,k _ _ _ q⟩) q,(vj hg hm ha.pa hs rY).pre λσ H R h=>by
  obtain⟨β,own,s,q⟩:=h;refine qU.of ha s q λds ks β' vs H1 aA h o1 r1=>?_;obtain⟨i,j,e,h1,q1⟩:=h;subst e;obtain⟨x,y,z,rfl,hx,hy,hz⟩:=Jz r1.gH;cases hx;cases hy;cases hz;exact⟨i,j,rfl,h1,q1 _ _ aA o1 rQ⟩⟩
end
structure O0 (X:Cx)(C:Cfg)(tg iter:Expr)(ι:bN):Prop where
 mono:∀β R R',(∀d k β,R d k β->R' d k β)->ι β R->ι β R'
 pi:PI X tg iter λσ H R=>∃β own,SQ X C σ H β own/\ι β λds k β'=>∀J H',au H H'->SQ X C σ H' β' own->wz X (fm C (Wn own) k) J ds H'->R J H'
section
variable {X:Cx}{C:Cfg}{tg a b:Expr}{φs:cg}{pp pos:Pos}{i:Nat}{x:Str}
theorem rh (hm:X.mg "range" = none) (ha:qA X C true [a,b] φs) (hg:Gl X "range" := by rfl) (hs:Te [a,b] X.env=[(false,eval a X.env),(false,eval b X.env)]:=by rfl) (rY:Te [b] X.env=[(false,eval b X.env)]:=by rfl) :
  O0 X C tg (.Call (.Name "range" pp) [a,b] [] pos) (ue φs) :=
 ⟨λβ R R' k q=>ha.mono β _ _ (λd kd β' h=>by obtain⟨i,j,e,h1,q⟩:=h;exact⟨i,j,e,h1,k _ _ _ q⟩) q,(lP hg hm ha.pa hs rY).pre λσ H R h=>by
  obtain⟨β,own,s,q⟩:=h;refine qU.of ha s q λds ks β' vs H1 aA h o1 r1=>?_;obtain⟨i,j,e,h1,q1⟩:=h;subst e;obtain⟨s1,rfl⟩:=o1.pu rfl;obtain⟨x,y,rfl,hx,hy⟩:=zJ r1.gH;cases hx;cases hy;exact⟨i,j,rfl,h1,q1 _ _ s1 o1.sq iF⟩⟩
end
structure SC (X:Cx)(C:Cfg)(W0:Addr->Prop)(T:List Nat)(σ0:St)(H1:Hp)(a:Addr)(Hb:Hp)(Wb:Addr->Prop)(Ac:Hp->Prop)(β:a9)(σ':St)(H':Hp)(own:Nat->List Addr):Prop where
 sq:SQ X (C.u λc=>c=a) σ' H' β own
 sn:Sn (H1,W0) H' (Wn own)
 le:∀c,Wn own c->Wb c
 ac:Ac H'
 pu:au H1 H'
 bs:∀b ob,b≠a->Hb b=some ob->H' b=some ob
 st:∀j,j∉T->σ'[j]?=σ0[j]?
abbrev sO {α:Type}(X:Cx)(C:Cfg)(W0:Addr->Prop)(T:List Nat)(σ0:St)(H1:Hp)(a:Addr)(Hb:Hp)(Wb:Addr->Prop)(Ac:α->Hp->Prop)(β:a9)(o:α)(σ':St)(H':Hp):Prop:=∃own,SC X C W0 T σ0 H1 a Hb Wb (Ac o) β σ' H' own
structure zU {α:Type}(a:Addr)(Ac:α->Hp->Prop):Prop where
 same:∀o H H',au H H'->Ac o H->Ac o H'
 HN:∀o H xs,Ac o H->H a≠some (.tup xs)
abbrev Gs (X:Cx)(C:Cfg)(a:Addr)(T:List Nat)(γ:cD):TG:=λv σ H Q=>∃own β d k,SQ X (C.u λc=>c=a) σ H β own/\Rp X (fm (C.u λc=>c=a) (Wn own) k) H d v/\γ d k β λβ'=>∀σ' aK,SQ X (C.u λc=>c=a) σ' H β' aK->(∀a,Wn aK a->Wn own a)->(∀j,j∉T->σ'[j]?=σ[j]?)->Q σ' H
abbrev KC (X:Cx)(C:Cfg)(a:Addr)(φ:aJ):iP:=λN σ H=>tQ X (C.u λc=>c=a) true φ σ H λv H1=>∃xs,H1 a=some (.lst xs)/\xs.length<S7/\N σ (upd H1 a (.lst (xs++[v])))
section
variable {α:Type}{X:Cx}{C:Cfg}{W0:Addr->Prop}{T Tg:List Nat}{σ0:St}{H1:Hp}{a:Addr}{Hb:Hp}{Wb:Addr->Prop}{γ:cD}{τ:aW}{φ:aJ}{Ac:α->Hp->Prop}
theorem SC.next {o:α}(hA:zU a Ac){β β':a9}{σ σ':St}{H H':Hp}{own aK:Nat->List Addr}(s:SC X C W0 T σ0 H1 a Hb Wb (Ac o) β σ H own)(sq:SQ X (C.u λc=>c=a) σ' H' β' aK)(w:∀c,Wn aK c->Wn own c)(sm:au H H')(t:∀j,j∉T->σ'[j]?=σ[j]?):
  SC X C W0 T σ0 H1 a Hb Wb (Ac o) β' σ' H' aK :=
 ⟨sq,gE (s.sn.same sm) w,λc z=>s.le c (w c z),hA.same o _ _ sm s.ac,s.pu.trans sm,λb ob n e=>sm _ _ (s.bs b ob n e),λj hj=>(t j hj).trans (s.st j hj)⟩
theorem SC.put {A:Hp->Prop}{A':Hp->Prop}(h0:C.H0 a=none)(ha:H1 a=none){β:a9}{σ:St}{H:Hp}{own:Nat->List Addr}{oa ob:HO}(s:SC X C W0 T σ0 H1 a Hb Wb A β σ H own)(e:H a=some oa)(nt:∀xs,oa≠.tup xs)(q:A' (upd H a ob)):
  SC X C W0 T σ0 H1 a Hb Wb A' β σ (upd H a ob) own:=by
 refine⟨s.sq.D_ e nt h0,⟨s.sn.w,s.sn.k.trans ((gi e nt).mono λb z=>.inr (by rw[z];exact ha)),λb z e=>?_⟩,s.le,q,λb o e=>?_,λb o n e=>?_,s.st⟩
 ·by_cases hb:b=a
  ·rw[hb,ah]at e;cases e
  ·rw[ao hb]at e;exact s.sn.d b z e
 ·rw[ao (λz'=>by rw[z',ha]at e;cases e)]
  exact s.pu b o e
 ·rw[ao n];exact s.bs b o n e
def Ku (P:SW)(w:S_)(H1:Hp)(a:Addr)(o:List D)(H:Hp):Prop:=∃vs A,H a=some (.lst vs)/\aH P w H o vs A/\A.Nodup/\∀c∈A,H1 c=none/\c≠a
theorem nR {P:SW}{w:S_}:zU a (Ku P w H1 a):=⟨λo H H' s h=>by
  obtain⟨vs,A,h1,h2,h3,h4⟩:=h;exact⟨vs,A,s _ _ h1,h2.keep (λb xs e=>s _ _ e) λc _ oc e=>s _ _ e,h3,h4⟩,λo H xs h z=>by
  obtain⟨vs,A,h1,_⟩:=h;rw[h1]at z;cases z⟩
def zd (φ:aJ)(o:List D)(β:a9)(N:a9->List D->Prop):Prop:=φ β λx kx β3=>Bv kx x/\o.length<S7/\N β3 (o++[x])
theorem tw (h0:C.H0 a=none)(ha:H1 a=none)(φm:∀β R R',(∀d k β,R d k β->R' d k β)->φ β R->φ β R'){β:a9}{o:List D}{σ:St}{H:Hp}{N:a9->List D->Prop}(s:sO X C W0 T σ0 H1 a Hb Wb (Ku X.prog X.w H1 a) β o σ H)(q:zd φ o β N):
  KC X C a φ (λσ' H'=>∃β' o',sO X C W0 T σ0 H1 a Hb Wb (Ku X.prog X.w H1 a) β' o' σ' H'/\N β' o') σ H:=by
 obtain⟨own,s⟩:=s;refine⟨β,own,s.sq,φm _ _ _ (λxd kx β6 fV v H6 EB o6 r6=>?_) q⟩;obtain⟨f,hz,q⟩:=fV;obtain⟨sm,rfl⟩:=o6.pu rfl;have s6:=s.next nR (o6.sq) (λ_ z=>z) sm (λ_ _=>rfl)
 obtain⟨B',r1,r2,r3⟩:=r6.fl f;obtain⟨vs,A,at',os,nd,nw⟩:=s.ac;have pR:H6 a=some (.lst vs):=sm _ _ at';have HR:∀c∈B',c≠a:=λc hc z=>by rw[z]at hc;exact absurd (at'.symm.trans (r3 a hc).1) (λz=>(nomatch z))
 have kt:∀b xs,H6 b=some (.tup xs)->upd H6 a (.lst (vs++[v])) b=some (.tup xs):=λb xs z=>by rw[ao (λz'=>by rw[z',pR]at z;cases z)];exact z
 refine⟨vs,pR,by rw[os.length];exact hz,β6,o++[xd],⟨EB,s6.put h0 ha pR (λxs z=>by cases z) ⟨vs++[v],A++B',ah,?_,?_,λc hc=>?_⟩⟩,q⟩
 ·exact(os.keep (λb xs e=>kt b xs (sm _ _ e)) λc hc oc e=>by rw[ao (nw c hc).2];exact sm _ _ e).append (aH.one (r1.keep kt λc hc oc e=>by rw[ao (HR c hc)];exact e))
 ·refine TZ.mpr ⟨nd,r2,λx hx y hy e=>?_⟩;subst e;exact(os.kU x hx).1 (r3 x hy).1
 ·rcases S9.mp hc with hc|hc
  ·exact nw c hc
  ·exact⟨s.sn.free (r3 c hc).1,HR c hc⟩
def gO {α:Type}(γ:cD)(τ:aW)(Af:α->a9->(a9->α->Prop)->Prop)(ds:List D)(k:Kd)(β0:a9)(o0:α)(F:a9->α->Prop):Prop:=∃I:Nat->a9->α->Prop,I 0 β0 o0 /\
 (∀i d β o,ds[i]?=some d->I i β o->γ d (sk k d) β λβ1=>τ β1 λt β2=>if t=true then Af o β2 (I (i+1)) else I (i+1) β2 o)/\∀β o,I ds.length β o->F β o
theorem gO.mono {Af:α->a9->(a9->α->Prop)->Prop}{ds:List D}{k:Kd}{β0:a9}{o0:α}{F F':a9->α->Prop}(h:∀β o,F β o->F' β o)(q:gO γ τ Af ds k β0 o0 F):gO γ τ Af ds k β0 o0 F':=by
 obtain⟨I,h0,h1,h2⟩:=q;exact⟨I,h0,h1,λβ o z=>h _ _ (h2 β o z)⟩
theorem tu (hA:zU a Ac)(hT:∀j∈Tg,j∈T)(γm:∀d k β R R',(∀r,R r->R' r)->γ d k β R->γ d k β R')(τm:∀β R R',(∀d β,R d β->R' d β)->τ β R->τ β R'){J:It}{ds:List D}{k:Kd}{Af:α->a9->(a9->α->Prop)->Prop}{ta:iP}{F:a9->α->Prop}{End:St->Hp->Prop}{β0:a9}{o0:α}{σ1:St}{Hs:Hp}
  (it:∀i β o σ' H',sO X C W0 T σ0 H1 a Hb Wb Ac β o σ' H'->(∀d,ds[i]?=some d->J.go i H'/\∀x H3,J.GS i H' x H3->au H' H3/\∀own,(∀c,Wn own c->Wb c)->ar X.prog X.w (fm (C.u λc=>c=a) (Wn own) k) H3 d x)/\(ds.length<=i->J.stop i H'))
  (ID:∀β o σ' H' N,sO X C W0 T σ0 H1 a Hb Wb Ac β o σ' H'->Af o β N->ta (λwH zS=>∃β' o',sO X C W0 T σ0 H1 a Hb Wb Ac β' o' wH zS/\N β' o') σ' H')
  (s0:sO X C W0 T σ0 H1 a Hb Wb Ac β0 o0 σ1 Hs) (q:gO γ τ Af ds k β0 o0 F) (fin:∀β o σ' H',sO X C W0 T σ0 H1 a Hb Wb Ac β o σ' H'->F β o->End σ' H') :
  df J (Gs X C a Tg γ) (ib X (C.u λc=>c=a) true τ) ta End σ1 Hs:=by
 obtain⟨I,i0,i1,i2⟩:=q;refine⟨λi m σ' H'=>i<=ds.length/\m=ds.length-i/\∃β o,sO X C W0 T σ0 H1 a Hb Wb Ac β o σ' H'/\I i β o,⟨_,Tb _,rfl,β0,o0,s0,i0⟩,?_⟩;rintro i m σ2 H2 ⟨hi,rfl,β,o,sE,hl⟩;obtain⟨bz,lh⟩:=it i β o σ2 H2 sE
 by_cases eQ:i<ds.length
 ·right
  have hd:ds[i]?=some ds[i]:=Td eQ;obtain⟨go,yl⟩:=bz _ hd;refine⟨go,λσ' H'=>∃β' o',sO X C W0 T σ0 H1 a Hb Wb Ac β' o' σ' H'/\I (i+1) β' o',λσ' H' h=>⟨_,by omega,eQ,rfl,h⟩,λx H3 y=>?_⟩
  obtain⟨s3,r3⟩:=yl x H3 y;obtain⟨own,s⟩:=sE;refine⟨own,β,_,_,s.sq.same s3,mY (r3 own s.le),γm _ _ _ _ _ (λβ4 q σ4 o3 s4 w4 t4=>?_) (i1 i _ β o hd hl)⟩;have PC:=s.next hA s4 w4 s3 λj hj=>t4 j λz=>hj (hT j z)
  refine⟨β4,o3,s4,τm _ _ _ (λt β5 q H5 nk o5=>?_) q⟩;obtain⟨Pw,rfl⟩:=o5.pu rfl;have NQ:=PC.next hA o5.sq (λ_ z=>z) Pw λ_ _=>rfl
  cases t with
  |false=>exact⟨β5,o,⟨_,NQ⟩,q⟩
  |true=>exact ID β5 o σ4 H5 _ ⟨_,NQ⟩ q
 ·left
  have e:i=ds.length:=by omega
  subst e;exact⟨lh (SX _),fin β o σ2 H2 sE (i2 β o hl)⟩
def CK {α:Type}(ι:bN)(γ:cD)(τ:aW)(Af:α->a9->(a9->α->Prop)->Prop)(o:α)(β:a9)(N:a9->α->Prop):Prop:=ι β λds k β1=>gO γ τ Af ds k β1 o N
theorem Ax (hA:zU a Ac){ι:bN}(hT:∀j∈Tg,j∈T)(γm:∀d k β R R',(∀r,R r->R' r)->γ d k β R->γ d k β R')(τm:∀β R R',(∀d β,R d β->R' d β)->τ β R->τ β R'){Af:α->a9->(a9->α->Prop)->Prop}{ta:iP}
  (ID:∀Hb Wb β o σ' H' N,sO X C W0 T σ0 H1 a Hb Wb Ac β o σ' H'->Af o β N->ta (λwH zS=>∃β' o',sO X C W0 T σ0 H1 a Hb Wb Ac β' o' wH zS/\N β' o') σ' H')
  (ιm:∀β R R',(∀d k β,R d k β->R' d k β)->ι β R->ι β R') {β:a9} {o:α} {σ:St} {H:Hp} {N:a9->α->Prop} (s:sO X C W0 T σ0 H1 a Hb Wb Ac β o σ H) (q:CK ι γ τ Af o β N) :
  ∃β own,SQ X (C.u λc=>c=a) σ H β own/\ι β λds k β'=>∀J H',au H H'->SQ X (C.u λc=>c=a) σ H' β' own->wz X (fm (C.u λc=>c=a) (Wn own) k) J ds H' ->
   df J (Gs X C a Tg γ) (ib X (C.u λc=>c=a) true τ) ta (λσ' H'=>∃β' o',sO X C W0 T σ0 H1 a Hb Wb Ac β' o' σ' H'/\N β' o') σ H':=by
 obtain⟨own,s⟩:=s;refine⟨β,own,s.sq,ιm _ _ _ (λds k β1 q J H' sm sq Qj=>?_) q⟩;have s1:=s.next hA sq (λ_ z=>z) sm λ_ _=>rfl
 have hu:fm (C.u λc=>c=a) (Wn own) k a:=.inr rfl;refine tu (Hb:=H') (Wb:=Wn own) hA hT γm τm (λi βx ox σx Hx sx=>?_) (λβx ox σx Hx Nx sx qx=>ID _ _ _ _ _ _ _ sx qx) ⟨own,⟨s1.sq,s1.sn,λ_ z=>z,s1.ac,s1.pu,λ_ _ _ e=>e,s1.st⟩⟩ q λβx ox σx Hx sx hx=>?_
 ·obtain⟨A6,sx⟩:=sx;have kp:Kp (λb=>fm (C.u λc=>c=a) (Wn own) k b\/H' b=none) H' Hx:=⟨λb ob e n=>sx.bs b ob (λz=>n (.inl (by rw[z];exact hu))) e,λb xs e=>sx.bs b _ (λz=>hA.HN _ _ _ s1.ac (by rw[<- z];exact e)) e⟩
  obtain⟨g1,g2⟩:=Qj (λb=>fm (C.u λc=>c=a) (Wn own) k b\/H' b=none) (λb z=>z) i Hx kp;refine⟨λd hd=>?_,g2⟩;obtain⟨go,yl⟩:=g1 d hd;refine⟨go,λx H3 y=>?_⟩;obtain⟨s3,r3⟩:=yl x H3 y;exact⟨s3,λaK LD=>ar.aN (λb z=>.inl (gY LD k b z)) r3⟩
 ·obtain⟨A6,sx⟩:=sx;exact⟨βx,ox,⟨A6,⟨sx.sq,sx.sn,λc z=>s.le c (sx.le c z),sx.ac,sx.pu,λb ob n e=>sx.bs b ob n (s1.bs b ob n e),sx.st⟩⟩,hx⟩
theorem oJ {lk:List (Option Nat)}{σ:St}{β:a9}{own:Nat->List Addr}{oa:HO}(hA:zU a Ac){Af:α->a9->(a9->α->Prop)->Prop}{ta:iP}{J:It}{ds:List D}{k:Kd}{o0:α}{K:α->Prop}{End:Hp->Prop}
  (γm:∀d k β R R',(∀r,R r->R' r)->γ d k β R->γ d k β R') (τm:∀β R R',(∀d β,R d β->R' d β)->τ β R->τ β R') (Q8:∀j∈Tg,j∈T)
  (inj:∀(i i' j:Nat),lk[i]?=some (some j)->lk[i']?=some (some j)->i=i') (hT:∀i∈T,∀j,lk[i]?≠some (some j))
  (s1:SQ X C σ H1 β own) (ha:H1 a=none) (hk:hold k false) (it:wz X (av C (Wn own) k) J ds H1) (a0:Ac o0 (upd H1 a oa)) (ent:SQ X (C.u λc=>c=a) (bR lk σ) (upd H1 a oa) (bM lk β) (bg lk β own))
  (ID:∀Hb Wb β' o σ' H' N,C.H0 a=none->sO X C (Wn (bg lk β own)) T (bR lk σ) H1 a Hb Wb Ac β' o σ' H'->Af o β' N->ta (λwH zS=>∃β' o',sO X C (Wn (bg lk β own)) T (bR lk σ) H1 a Hb Wb Ac β' o' wH zS/\N β' o') σ' H')
  (q:gO γ τ Af ds k (bM lk β) o0 λβf o=>dA (bM lk β) βf/\K o)
  (fin:∀o H',K o->Out X C σ H1 own true β H' own->Ac o H'->End H') :
  df J (Gs X C a Tg γ) (ib X (C.u λc=>c=a) true τ) ta (λ_ H'=>End H') (bR lk σ) (upd H1 a oa):=by
 have h0:C.H0 a=none:=TV λz=>s1.f6 a z ha;have sm:au H1 (upd H1 a oa):=au.new ha;refine tu (W0:=Wn (bg lk β own)) (T:=T) (σ0:=bR lk σ) (H1:=H1) (Hb:=H1) (Wb:=Wn (bg lk β own)) hA Q8 γm τm (λi βx ox σx Hx sx=>?_) (λβx ox σx Hx Nx sx qx=>ID _ _ _ _ _ _ _ h0 sx qx)
  ⟨bg lk β own,⟨ent,⟨λb z=>.inl z,sm.kp,λb z e=>z (sm.free e)⟩,λ_ z=>z,a0,sm,λb ob n e=>sm _ _ e,λ_ _=>rfl⟩⟩ q λβx ox σx Hx sx hx=>?_
 ·obtain⟨A6,sx⟩:=sx;have kI:Kp (λb=>av C (Wn own) k b\/H1 b=none) H1 Hx:=sx.pu.kp;obtain⟨g1,g2⟩:=it (λb=>av C (Wn own) k b\/H1 b=none) (λb z=>z) i Hx kI;refine⟨λd hd=>?_,g2⟩;obtain⟨go,yl⟩:=g1 d hd;refine⟨go,λx H3 y=>?_⟩;obtain⟨s3,r3⟩:=yl x H3 y;exact⟨s3,λaK LD=>ar.aN (λc z=>z.elim (λz=>.inl (gZ (λc z=>bj c (LD c z)) k c z)) λz=>.inr (by rw[z];exact ha)) r3⟩
 ·obtain⟨A6,sx⟩:=sx;obtain⟨hh,hK⟩:=hx;have lv:SQ X C σ Hx β own:=s1.leave sx.sq sx.sn sx.le hh λj ok i' e1 e2=>sx.st i' λz=>hT i' z j e2;exact fin ox Hx hK ⟨lv,⟨λb z=>.inl z,sx.sn.k.mono λb z=>z.imp (bj b) id,sx.sn.d⟩,λz=>⟨sx.pu,rfl⟩,λ_ z=>z⟩ sx.ac
end
theorem zP {X:Cx}{C:Cfg}{σ:St}{H1 H':Hp}{β:a9}{own:Nat->List Addr}{a:Addr}{o:List D}(s1:SQ X C σ H1 β own)(ha:H1 a=none)(h:Ku X.prog X.w H1 a o H'):KV X.prog X.w C (H1,Wn own) own H' .own (.lst o) (.ref a):=by
 obtain⟨vs,A,at',os,nd,nw⟩:=h;refine⟨a::A,⟨a,vs,A,rfl,at',rfl,os⟩,TN.mpr ⟨λz=>(nw a z).2 rfl,nd⟩,λc hc=>?_⟩;have h_:H1 c=none:=by
  rcases S5.mp hc with rfl|hc
  ·exact ha
  ·exact(nw c hc).1
 exact⟨h_,λh=>by obtain⟨j,hj⟩:=h;exact(s1.dm j c hj).1 h_,TV λz=>s1.f6 c z h_⟩
def Eh (lk:List (Option Nat))(ι:bN)(γ:cD)(τ:aW)(ι2:bN)(γ2:cD)(τ2:aW)(φ:aJ):aJ:=λβ R=>ι β λds k β1=>hold k false/\gO γ τ (CK ι2 γ2 τ2 (zd φ)) ds k (bM lk β1) [] λβf o=>dA (bM lk β1) βf/\R (.lst o) .own β1
section
variable {X:Cx}{C:Cfg}{lk:List (Option Nat)}{γ γ2:cD}{τ τ2:aW}{φ:aJ}{T T2:List Nat}
variable {scope:UR}{tg bz wX lh elt:Expr}{ifs lj:List Expr}{ι ι2:bN}{pi:Bool}{pos:Pos}{i:Nat}
theorem Qc (N':List Str)(lk:List (Option Nat))(L:fb X.env.scope.names X.N scope N' lk=true)(jw:N'.Nodup)(hc:X.calm=true)(hi:oh X C pi tg bz ι)
  (jh:∀a cl c s H ex,qL (az X scope N' cl c s H ex) (C.u λc=>c=a) tg T γ) (jg:∀a cl c s H ex,lA (az X scope N' cl c s H ex) (C.u λc=>c=a) true ifs τ)
  (OG:∀a cl c s H ex,O0 (az X scope N' cl c s H ex) (C.u λc=>c=a) wX lh ι2)
  (IC:∀a cl c s H ex,qL (az X scope N' cl c s H ex) (C.u λc=>c=a) wX T2 γ2) (IB:∀a cl c s H ex,lA (az X scope N' cl c s H ex) (C.u λc=>c=a) true lj τ2)
  (jk:∀a cl c s H ex,PQ (az X scope N' cl c s H ex) (C.u λc=>c=a) true elt φ) (hT:(T++T2).all (λi=>match lk[i]? with|some (some _)=>false|_=>true)=true:=by rfl)
  (hs:∀x,TL bz X.env x=pure x:=by intro _;rfl) (rY:∀cl c s H ex x,TL lh (az X scope N' cl c s H ex).env x=pure x:=by intro _ _ _ _ _ _;rfl):PQ X C pi (.ListComp elt [⟨tg,bz,ifs,0⟩,⟨wX,lh,lj,0⟩] scope pos) (Eh lk ι γ τ ι2 γ2 τ2 φ):=by
 have L:=Links.of L;have BL:∀i∈T++T2,∀j,lk[i]?≠some (some j):=λi hi j e=>by
  have:=U6.mp hT i hi;rw[e]at this;cases this
 have ax:Addr:=0;have SJ:List (Str×Addr):=[];have γm:=(jh 0 [] 0 X.s₀ X.H₀ []).mono;have τm:=(jg 0 [] 0 X.s₀ X.H₀ []).mono;have Kw:=(IC 0 [] 0 X.s₀ X.H₀ []).mono;have Kv:=(IB 0 [] 0 X.s₀ X.H₀ []).mono;have φm:=(jk 0 [] 0 X.s₀ X.H₀ []).mono;have ιm:=(OG 0 [] 0 X.s₀ X.H₀ []).mono;refine⟨λβ R R' k h=>hi.mono β _ _ (λds kd β1 q=>⟨q.1,q.2.mono λ_ _ z=>⟨z.1,k _ _ _ z.2⟩⟩) h,?_⟩;refine(jV (g:=⟨tg,bz,ifs,0⟩) (gs:=[⟨wX,lh,lj,0⟩]) (tg:=λa=>Gs X C a T γ) (tt:=λa=>ib X (C.u λc=>c=a) true τ)
  (ta:=λa N σ H=>∃β own,SQ X (C.u λc=>c=a) σ H β own/\ι2 β λds k β'=>∀J H',au H H'->SQ X (C.u λc=>c=a) σ H' β' own->wz X (fm (C.u λc=>c=a) (Wn own) k) J ds H' ->
   df J (Gs X C a T2 γ2) (ib X (C.u λc=>c=a) true τ2) (KC X C a φ) N σ H')
  L hc eM rfl rfl (λ_ _=>F8) hi.pi (λa cl c s H ex=>⟨(jh a cl c s H ex).pg,(jg a cl c s H ex).pt,A5 (X:=az X scope N' cl c s H ex) (g':=⟨wX,lh,lj,0⟩) rfl hc F7 (OG a cl c s H ex).pi (IC a cl c s H ex).pg (IB a cl c s H ex).pt (eI (X:=az X scope N' cl c s H ex) rfl (jk a cl c s H ex).pe) (rY cl c s H ex)⟩) hs).pre λσ H Q h=>?_
 obtain⟨β,own,s,h⟩:=h;refine⟨β,own,s,hi.mono β _ _ (λds k β1 h J H1 aA o1 it a ha=>?_) h⟩;obtain⟨hk,q⟩:=h;refine oJ (T:=T++T2) (nR (P:=X.prog) (w:=X.w) (H1:=H1)) γm τm (λj hj=>Ut _ hj) (dc L jw) BL o1.sq ha hk it ⟨[],[],ah,(show aH _ _ _ [] [] [] from ⟨rfl,rfl⟩),T4,λc hc=>(nomatch hc)⟩ (o1.sq.enter ha (dc L jw))
  (λHb Wb βx ox σx Hx Nx h0 sx qx=>Ax nR (λj hj=>TM _ hj) Kw Kv (λHb Wb βy oy σy Hy Ny sy qy=>tw h0 ha φm sy qy) ιm sx qx) q λo H' q o2 r=>?_
 refine q _ _ aA ⟨o2.sq,o1.sn.trans o2.sn,λz=>⟨(o1.pu z).1.trans (o2.pu rfl).1,(o1.pu z).2⟩,o1.le⟩ ((zP o1.sq ha r).later o1.sn)
end
end L2.Q
namespace L2
open PySem PySem.Spec PyProof.Rows
def bA (X:Cx)(x0:Str)(scope:UR)(N':List Str)(cl:List (Str×Addr))(C:Addr)(s:SU)(H:Hp)(ex:List Addr):Cx :=
 {X with N:=N',s₀:=s,H₀:=H,env:=compEnvC scope ((x0,C+1)::cl) C X.env,outer:=X.stack,stack:=X.stack,ex:=ex,fn:=λx=>x==x0,pn:=[],xe:=λ_ _=>False}
structure gq (X:Cx)(x0:Str)(scope:UR)(N':List Str)(lk:List (Option Nat)):Prop where
 kind:scope.kind=.function
 one:scope.names.filter (λx=>x.2==T6)=[(x0,.cell)]
 names:∀x∈scope.names,x.2=.local->scope.names.lookup x.1=some .local
 free:∀x,(x,Tz)∈scope.names->x≠x0/\(X.env.kindOf x=some .cell\/X.env.kindOf x=some .free)
 len:lk.length=N'.length
 link:∀(i j:Nat),lk[i]?=some (some j)->∃x,N'[i]?=some x/\X.N[j]?=some x/\(x,Tz)∈scope.names/\scope.names.lookup x=some .free
def rL (outer:List (Str×U1))(N:List Str)(x0:Str)(scope:UR)(N':List Str)(lk:List (Option Nat)):Bool :=
 (scope.kind==.function)&&(scope.names.filter (λx=>x.2==T6)==[(x0,.cell)])&&scope.names.all (λx=>(x.2 != .local || scope.names.lookup x.1==some .local)&&(x.2 != .free || x.1 != x0&&(outer.lookup x.1==some .cell || outer.lookup x.1==some .free))) &&
 lk.length==N'.length&&(Tt lk.length).all λi=>match lk[i]? with
  |some (some j)=>match N'[i]? with
   |some x=>N[j]?==some x&&scope.names.contains (x,.free)&&scope.names.lookup x==some .free
   |none=>false
  |_=>true
theorem gq.of {X:Cx}{x0:Str}{scope:UR}{N':List Str}{lk:List (Option Nat)}(h:rL X.env.scope.names X.N x0 scope N' lk=true):gq X x0 scope N' lk:=by
 simp only[rL,TB]at h;obtain⟨⟨⟨⟨h1,h0⟩,h2⟩,h3⟩,h4⟩:=h;rw[U6]at h2 h4;refine⟨by simpa using h1,by simpa using h0,λx hx hl=>?_,λx hx=>?_,by simpa using h3,λi j aE=>?_⟩
 ·have:=h2 x hx;simp only[TB]at this;have q:=this.1;rw[hl]at q;simpa using q
 ·have:=h2 _ hx;simp only[TB]at this;have q:=this.2;simp only[WM,TB]at q;rcases q with q|⟨q1,q⟩
  ·simp at q
  ·refine⟨by simpa using q1,?_⟩
   rcases q with q|q
   ·exact .inl (show X.env.scope.names.lookup x=some .cell by simpa using q)
   ·exact .inr (show X.env.scope.names.lookup x=some .free by simpa using q)
 ·have hi:i<lk.length:=(SY.mp aE).1;have q:=h4 i (U3.mpr hi);rw[aE]at q;simp only at q;cases e:N'[i]? with
  |none=>rw[e]at q;simp at q
  |some x =>
   rw[e]at q;simp only[TB]at q;obtain⟨⟨q1,q2⟩,q3⟩:=q;exact⟨x,rfl,by simpa using q1,by simpa using q2,by simpa using q3⟩
theorem d9 {env:Env}{k:U1}(hk:k=.cell\/k=.free):∀{names:List (Str×U1)} {x:Str},
  (names.map λ(n,k)=>if (k==Tz&&env.scope.kind==.function&&env.kindOf n==some .cell) then (n,T6) else (n,k)).lookup x=some k->(x,Tz)∈names\/(x,T6)∈names
 |[],_,h=>by simp at h
 | (n,k')::r,x,h=>by
  have ih:=@d9 env k hk r x;rw[S4]at h
  by_cases hc:(k'==Tz&&env.scope.kind==.function&&env.kindOf n==some .cell)=true
  ·simp only[hc,if_true]at h;rw[T3]at h;cases q:x==n with
   |true =>
    rw[eq_of_beq q];simp only[TB]at hc;have:k'=.free:=by simpa using hc.1.1
    rw[this];simp
   |false =>
    rw[q]at h;exact(ih h).imp (λz=>Tc _ z) λz=>Tc _ z
  ·simp only[hc]at h;simp only[T9,if_false]at h;rw[T3]at h;cases q:x==n with
   |true =>
    rw[q]at h;cases h;rw[eq_of_beq q];rcases hk with rfl|rfl
    ·exact .inr (by simp)
    ·exact .inl (by simp)
   |false =>
    rw[q]at h;exact(ih h).imp (λz=>Tc _ z) λz=>Tc _ z
theorem zC {x0:Str}:∀{names:List (Str×U1)} {n:Nat} {cl:List (Str×Addr)} {h:Heap},names.filter (λx=>x.2==T6)=[(x0,.cell)]->Wu n names cl=(x0,n)::cl/\pushCells h names=h.push {cls:=.type "cell",data:=.cell none}
 |[],_,_,_,e=>by cases e
 | (y,k)::r,n,cl,h,e=>by
  have no:∀{r:List (Str×U1)} {n:Nat} {cl:List (Str×Addr)} {h:Heap},r.filter (λx=>x.2==T6)=[]->Wu n r cl=cl/\pushCells h r=h:=λ{r}=>by
   induction r with
   |nil=>intro n cl h _;exact⟨rfl,rfl⟩
   |cons p r ih =>
    intro n cl h e;obtain⟨y,k⟩:=p;rw[U4]at e
    by_cases hk:(k==T6)=true
    ·rw[if_pos hk]at e;cases e
    ·rw[if_neg hk]at e;unfold Wu pushCells;rw[if_neg hk,if_neg hk];exact ih e
  rw[U4]at e;unfold Wu pushCells
  by_cases hk:(k==T6)=true
  ·rw[if_pos hk]at e;rw[if_pos hk,if_pos hk];injection e with e1 e2
   injection e1 with e1 _
   subst e1;exact no e2
  ·rw[if_neg hk]at e;rw[if_neg hk,if_neg hk];exact zC e
section
variable {X:Cx}{x0:Str}{scope:UR}{N':List Str}{lk:List (Option Nat)}{cl:List (Str×Addr)}{pins:List (Addr×Obj)}{σ:St}{H:Hp}{s:SU}{ex:List Addr}
theorem vM {h':Heap}{t':Nat}(I:Inv X pins σ H s)(L:gq X x0 scope N' lk)(hex:∀b∈ex,dH X pins H b)(BH:∀b∈ex,∃o,s.heap.get? b=some o)
  (h_:∀x,(x,Tz)∈scope.names->∃c,cl.lookup x=some c) (kT:∀x c,cl.lookup x=some c->X.env.cells.lookup x=some c)
  (hn:h'.Ns s.heap.objs.size (λ_=>none)) (hk:∀b o,s.heap.get? b=some o->h'.get? b=some o) (h0:h'.IsCell (s.heap.objs.size+1) none) :
  Inv (bA X x0 scope N' cl s.heap.objs.size s H ex) [] (bR lk σ) H {s with heap:=h',toks:=t'}:=by
 obtain⟨m,hm,hl⟩:=I.loc;have Kk:∀b∈ex,b<s.heap.objs.size:=λb hb=>by
  obtain⟨o,e⟩:=BH b hb;exact Ta e
 have two:∀x c,(((x0,s.heap.objs.size+1)::cl).lookup x=some c)->(x=x0/\c=s.heap.objs.size+1)\/(x≠x0/\X.env.cells.lookup x=some c):=λx c e=>by
  rw[T3]at e;cases q:x==x0 with
  |true=>rw[q]at e;cases e;exact .inl ⟨eq_of_beq q,rfl⟩
  |false=>rw[q]at e;exact .inr ⟨λz=>by rw[z]at q;simp at q,kT _ _ e⟩
 have old:∀x c,X.env.cells.lookup x=some c->c<s.heap.objs.size:=λx c e=>by
  obtain⟨v,o,ho,_⟩:=I.cell x c e;exact Ta ho
 have skip:∀x c,x≠x0->cl.lookup x=some c->((x0,s.heap.objs.size+1)::cl).lookup x=some c:=λx c n e=>by
  rw[T3];have:(x==x0)=false:=beq_eq_false_iff_ne.mpr n;rw[this];exact e
 refine⟨⟨I.ok.mod,L.kind,I.ok.glob,I.ok.blt,SX _,λx y c h1 h2=>?_,λx hx=>?_,λx c z e=>?_,I.ok.hd,I.ok.frames,.inl rfl,
  λb hb=>⟨Tx (Kk b hb),λx c e=>?_⟩,I.bs,T_ I.ok.z_ I.sz,λb o e z=>?_,λb hb z=>?_,I.stack,I.mT⟩,
  rfl,I.bare,Un.kept hk,⟨_,hn,λi x v h1 h2 h3=>?_⟩,λx c e=>?_,I.a_.fresh (SX _),λx c e=>?_,λp hp=>absurd (show p∈([]:List (Addr×Obj)) from hp) (by simp),I.a_.kept hk,?_⟩
 ·rcases two x c h1 with⟨rfl,e1⟩|⟨n1,e1⟩ <;> rcases two y c h2 with⟨rfl,e2⟩|⟨n2,e2⟩
  ·rfl
  ·exact absurd (show s.heap.objs.size+1<s.heap.objs.size from e1▸old _ _ e2) (Nat.not_lt.mpr (VJ _))
  ·exact absurd (show s.heap.objs.size+1<s.heap.objs.size from e2▸old _ _ e1) (Nat.not_lt.mpr (VJ _))
  ·exact I.ok.inj x y c e1 e2
 ·have CZ:(relabel scope X.env).names.lookup x=some .cell\/(relabel scope X.env).names.lookup x=some .free:=hx;have key:(x,Tz)∈scope.names\/(x,T6)∈scope.names:=CZ.elim (λq=>d9 (.inl rfl) q) λq=>d9 (.inr rfl) q;rcases key with q|q
  ·obtain⟨c,hc⟩:=h_ x q;exact⟨c,skip x c (L.free x q).1 hc⟩
  ·have:(x,T6)∈scope.names.filter (λx=>x.2==T6):=Uy.mpr ⟨q,rfl⟩;rw[L.one]at this;have e:=congrArg Prod.fst (S3.mp this);exact⟨s.heap.objs.size+1,by show ((x0,_)::cl).lookup x=_;rw[show x=x0 from e,T3];simp⟩
 ·rcases two x c e with⟨_,e1⟩|⟨n1,_⟩
  ·show s.heap.objs.size<=c;lia
  ·exact absurd (eq_of_beq z) n1
 ·rcases two x c e with⟨_,e1⟩|⟨_,e1⟩
  ·intro q;exact absurd (show s.heap.objs.size+1<s.heap.objs.size from (e1▸q:s.heap.objs.size+1=b)▸Kk b hb) (Nat.not_lt.mpr (VJ _))
  ·exact(hex b hb).2.2.2.2.1 x c e1
 ·obtain⟨f0,f1,f2,f3,_⟩:=hex b z;rcases f3 with q|q
  ·exact I.ok.vw b o e q
  ·have h1:=Ta e;have h2:=I.ok.z_;exact absurd (TH h1 (T_ h2 q)) (VB _)
 ·obtain⟨f0,f1,f2,f3,_⟩:=hex b hb;rcases S5.mp (I.mS b z)with q|q
  ·exact f1 q
  ·exact f2 q
 ·have hi:∃j,lk[i]?=some (some j)/\σ[j]?=some (some v):=by
   have jx:(bR lk σ)[i]?=some (some v):=h2;unfold bR at jx;rw[Th]at jx;cases e:lk[i]? with
   |none=>rw[e]at jx;cases jx
   |some l =>
    cases l with
    |none=>rw[e]at jx;cases jx
    |some j =>
     rw[e]at jx;cases e2:σ[j]? with
     |none=>simp[e2]at jx
     |some w' =>
      simp only[V1,e2,Wf]at jx;subst jx;exact⟨j,rfl,e2⟩
  obtain⟨j,hj,hσ⟩:=hi;obtain⟨y,e1,e2,e3,e4⟩:=L.link i j hj;have M7:x=y:=by
   have n_:N'[i]?=some x:=h1;rw[e1]at n_;exact(TJ n_).symm
  subst M7;have Fm:Dn X.env.scope x:=by
   rcases (L.free x e3).2 with q|q
   ·exact .inr (.inl q)
   ·exact .inr (.inr q)
  obtain⟨u,ru,lu⟩:=hl j x v e2 hσ Fm;refine⟨u,ru,.inr ⟨?_,?_⟩⟩
  ·exact b_ e4
  ·rcases lu with⟨k,_⟩|⟨_,c,hc,z⟩
   ·rcases (L.free x e3).2 with q|q <;> (rw[k]at q;cases q)
   ·obtain⟨c',l9⟩:=h_ x e3;have:=kT x c' l9;rw[hc]at this;cases this;obtain⟨o,ho,hd⟩:=z;exact⟨c,skip x c (L.free x e3).1 l9,o,hk _ _ ho,hd⟩
 ·rcases two x c e with⟨_,e1⟩|⟨_,e1⟩
  ·exact⟨none,by rw[e1];exact h0⟩
  ·obtain⟨v,o,ho,hd⟩:=I.cell x c e1;exact⟨v,o,hk _ _ ho,hd⟩
 ·rcases two x c e with⟨_,e1⟩|⟨_,e1⟩
  ·rw[e1];exact I.a_.fresh (by lia)
  ·exact I.fE x c e1
 ·show (bR lk σ).length=N'.length;unfold bR;rw[SS,L.len]
theorem vN {s':SU}{σ':St}{H':Hp}{pl:List (Addr×Obj)}{h'':Heap}(I:Inv X pins σ H s)(hex:∀b∈ex,dH X pins H b)
  (J:Inv (bA X x0 scope N' cl s.heap.objs.size s H ex) pl σ' H' s') (hs:Vr s.heap.objs.size s'.heap h''):Inv X pins σ H' {s' with heap:=h''}:=by
 have hC:H' s.heap.objs.size=none:=J.free;have u:=J.base;refine I.Di (ch:=ex) (s':={s' with heap:=h''}) J.os ?_ ?_ J.bare (λb hb=>?_)
 ·have kk:∀b o,b≠s.heap.objs.size->s'.heap.get? b=some o->h''.get? b=some o:=λb o hb e=>(hs.2 b hb).trans e;have ne:∀b o,s.heap.get? b=some o->b≠s.heap.objs.size:=λb o e=>Tx (Ta e);refine⟨λb o e n hb hx=>kk b _ (ne b o e) (u.keep b o e n hb hx),λb o e n hb hx=>?_,u.free,λb o e hx=>?_,u.kZ,u.ku,u.k0⟩
  ·obtain⟨sl,q⟩:=u.slot b o e n hb hx;exact⟨sl,kk b _ (ne b o e) q⟩
  ·obtain⟨o',q⟩:=u.there b o e hx;exact⟨o',kk b _ (ne b o e) q⟩
 ·intro b o e;have hb:b≠s.heap.objs.size:=λz=>by rw[z]at e;rw[hC]at e;cases e
  refine(J.a_ b o e).mU (λc v hc q=>(hs.2 c ?_).trans q) (λ_ q=>q) λ_ _ q=>q;rcases hc with z|z
  ·rw[z];exact hb
  ·intro z';rw[z']at z;rw[hC]at z;cases z
 ·obtain⟨f0,f1,f2,f3,f4,f5⟩:=hex b hb;exact⟨f3,f1,f4,f5⟩
end
section
variable {X:Cx}{x0:Str}{e:Expr}{g:UX}{gs:List UX}{scope:UR}{N':List Str}{lk:List (Option Nat)}{tg:Addr->TG}{tt:Addr->TT}{wi:TI}
theorem qp {bH:Sem SO}{o:HO}{after:SO->Env->Sem Fin->Sem Fin}{ta:Addr->iP}(L:gq X x0 scope N' lk)(hc:X.calm=true)(hA:kO X bH o)
  (F:∀acc env,ft e 0 g acc env (after acc env))
  (r_:∀a cl C s H ex,PG (bA X x0 scope N' cl C s H ex) g.target (tg a)/\mI (bA X x0 scope N' cl C s H ex) g.ifs (tt a)/\kM (bA X x0 scope N' cl C s H ex) (after (.ref a) (bA X x0 scope N' cl C s H ex).env) (ta a))
  {cl:List (Str×Addr)} (h_:∀x,(x,Tz)∈scope.names->∃c,cl.lookup x=some c) (kT:∀x c,cl.lookup x=some c->X.env.cells.lookup x=some c)
  {pins:List (Addr×Obj)} {σ:St} {s:SU} {Q:V->Hp->Prop} {wD:SO} {E:SO->SU->Prop} {RR:SO->Addr->Result->SU->Prop}
  (h:JF X pins σ g.target (λJ H1=>∀a,H1 a=none->df J (tg a) (tt a) (ta a) (λ_ H'=>Q (.ref a) H') (bR lk σ) (upd H1 a o)) wD s)
  (hR:∀a H' C s',Inv X pins σ H' s'->dH X pins H' C->(∃m,s'.heap.Ns C m)->Q (.ref a) H'->RR (.ref a) C (.ok .next) s') :
  Tn (model X.prog X.w) X.A bH (λacc s₃=>Tn (model X.prog X.w) X.A (XM scope X.env.globals cl [] X.env.qual none .none (some X.env)) (λzB s₄ =>
   WB (model X.prog X.w) X.A (.compStart e 0 wD acc {zB with scope:=relabel scope X.env}) (RR acc zB.locals) s₄) E s₃) E s:=by
 obtain⟨it,fp,tn,J,H2,e1,I2,T,eD,f2,hl⟩:=h;subst e1;refine hA.ok pins s σ H2 _ E I2 λa s3 ha hn hk I3=>?_;simp only[XM,Option.isSome_some,if_true];refine SN (wpAny_alloc ?_);refine SN (wpAny_layCells _ (λname kind cells=>by cases QO:kind==T6 <;> simp[QO]) _ _ _ _ ?_)
 obtain⟨c1,c2⟩:=zC (n:=s3.heap.objs.size+1) (cl:=cl) (h:=s3.heap.push {cls:=.type "dict",data:=.dict #[]}) L.one;have hsz:(s3.heap.push {cls:=.type "dict",data:=.dict #[]}).objs.size=s3.heap.objs.size+1:=Heap.size_push ..
 dsimp only;rw[hsz,c1,c2];refine SN ?_;rw[List.forIn_nil];refine SV (SV ?_);generalize MN:(s3.heap.push {cls:=.type "dict",data:=.dict #[]}).push {cls:=.type "cell",data:=.cell none}=h₁;have BH:∀b∈fp,∃o,s3.heap.get? b=some o:=λb hb=>by
  obtain⟨ob,q,_⟩:=T.obj _ _ eD b hb;exact⟨ob,hk b ob q⟩
 have MV:∀b∈fp,b≠a:=λb hb=>by
  obtain⟨ob,q,_⟩:=T.obj _ _ eD b hb;exact Tx (TH (Ta q) ha)
 have f3:∀b∈fp,dH X pins (upd H2 a o) b:=λb hb=>⟨by rw[ao (MV b hb)];exact(f2 b hb).1,(f2 b hb).2⟩
 have C1:∀b ob,s3.heap.get? b=some ob->h₁.get? b=some ob:=λb ob q=>by rw[<- MN];exact S1 _ (S1 _ q)
 have Gx:h₁.Ns s3.heap.objs.size (λ_=>none):=by rw[<- MN];exact(Heap.Ns.new s3.heap (.type "dict")).keeps λb ob q=>S1 _ q
 have i8:h₁.IsCell (s3.heap.objs.size+1) none:=by rw[<- MN,<- hsz];exact⟨_,TU _ rfl,rfl⟩
 have I4:=vM (t':=s3.toks) I3 L f3 BH h_ kT Gx C1 i8;obtain⟨g1,g2,g3⟩:=r_ a cl s3.heap.objs.size s3 (upd H2 a o) fp;have f4:∀b∈fp,dH (bA X x0 scope N' cl s3.heap.objs.size s3 (upd H2 a o) fp) [] (upd H2 a o) b:=λb hb =>
  ⟨(f3 b hb).1,(I4.ok.GF b hb).1,I4.ok.vZ b hb,.inl hb,(I4.ok.GF b hb).2,λp hp=>absurd (show p∈([]:List (Addr×Obj)) from hp) (by simp)⟩
 have DS:tn 0 h₁:=T.keep 0 _ _ eD λb hb ob q=>C1 b ob (hk b ob q);refine V6 (gk (X:=bA X x0 scope N' cl s3.heap.objs.size s3 (upd H2 a o) fp) rfl hc (F (.ref a) _) g1 g2 g3 T I4 DS f4 (hl a hn)) λr s' hr=>?_;obtain⟨rfl,σ',H',J',q⟩:=hr;have I5:Inv X pins σ H' s':=vN (h'':=s'.heap) I3 f3 J' (.refl ..);refine hR a H' s3.heap.objs.size s' I5 (I3.vR (SX _) J'.free) ?_ q;obtain⟨m,hm,_⟩:=J'.loc;exact⟨m,hm⟩
theorem xt {bH:Sem SO}{o:HO}{after:SO->Env->Sem Fin->Sem Fin}{ta:Addr->iP}{pos pos' fx:Pos}{y:Str}{i:Nat}(L:gq X x0 scope N' lk)(hc:X.calm=true)(hA:kO X bH o)
  (rV:UB e (some (.Name y pos')) fx.line X.env=pure true)
  (sf:We e X.env (assign (.Name y pos') X.env)=(do let _ <- comprehension e scope X.env pos bH false (eval g.iter X.env) (some (assign (.Name y pos') X.env));pure ())) (yM:Xq e=g::gs)
  (hN:X.N.Nodup) (hy:X.N[i]?=some y) (hx:Loc X.env.scope y) (hf:X.fn y=true\/X.env.scope.names.lookup y=some .local)
  (F:∀acc env,ft e 0 g acc env (after acc env)) (hi:PI X g.target g.iter wi)
  (r_:∀a cl C s H ex,PG (bA X x0 scope N' cl C s H ex) g.target (tg a)/\mI (bA X x0 scope N' cl C s H ex) g.ifs (tt a)/\kM (bA X x0 scope N' cl C s H ex) (after (.ref a) (bA X x0 scope N' cl C s H ex).env) (ta a))
  (hs:∀x,TL g.iter X.env x=pure x) :
  PS X (.Assign [.Name y pos'] e fx) (λD σ H=>wi σ H λJ H1=>∀a,H1 a=none->df J (tg a) (tt a) (ta a) (λ_ H'=>D.nx (σ.set i (some (.ref a))) H') (bR lk σ) (upd H1 a o)):=by
 intro pins s σ H D I h;rw[exec_Assign_Name_used _ _ _ _ rV,sf];refine SN (Vc (SN (SN ?_)));obtain⟨cl,pP,h_,kT⟩:=eh (env:=X.env) (scope:=scope) λx hx=>I.ok.has x (L.free x hx).2;refine bw (Wm (use:=some (assign (.Name y pos') X.env)) (Q:=λ_ s'=>SP X pins D .next s') yM hs pP L.kind L.names (bw (hi pins s σ H _ I h) λv s1 h1=>bw h1 λwD s2 h2=>?_)) λ_ s' q=>SV (SV q)
 refine qp (Q:=λv H'=>D.nx (σ.set i (some v)) H') (RR:=λacc C=>compPost (model X.prog X.w) X.A X.xe (some (assign (.Name y pos') X.env)) (λ_ s'=>SP X pins D .next s') acc C) L hc hA F r_ h_ kT h2 λa H' C s' I' f hm q=>?_
 obtain⟨m,hm⟩:=hm;show Tn _ _ (assign (.Name y pos') X.env (.ref a)) _ _ s';have Ra:∃o,s'.heap.get? C=some o:=by obtain⟨o,_,_,ho,_⟩:=hm;exact⟨o,ho⟩
 refine W7 (ic I' hN hy hx (v:=.ref a) (u:=.ref a) rfl (λs4 I4 k4=>?_) hf);obtain⟨a4,K2,MW⟩:=k4;have ug:C≠a4:=by
  rcases MW with z|z
  ·rw[z];exact f.2.1
  ·exact(f.2.2.2.2.1 y a4 z).symm
 exact⟨m,hm.at' (λo e=>(K2.2 C ug).trans e),λh' rX=>⟨_,H',I4.sameBut f rX,q⟩⟩
end
end L2
namespace L2.Q
open PySem PySem.Spec PySem.SeqAt PyProof.Rows
def Eg (lk:List (Option Nat))(ι:bN)(γ:cD)(τ:aW)(φ:aJ):aJ:=λβ R=>ι β λds k β1=>hold k false/\gO γ τ (zd φ) ds k (bM lk β1) [] λβf o=>dA (bM lk β1) βf/\R (.lst o) .own β1
section
variable {X:Cx}{C:Cfg}{γ:cD}{τ:aW}{φ:aJ}{T:List Nat}{scope:UR}{tg bz elt:Expr}{ifs:List Expr}{ι:bN}{pi:Bool}{pos pos' fx:Pos}{y:Str}{i:Nat}
theorem j8 {x0:Str}{N':List Str}{lk:List (Option Nat)}(L:gq X x0 scope N' lk)(hN:N'.Nodup):∀(i i' j:Nat),lk[i]?=some (some j)->lk[i']?=some (some j)->i=i':=λi i' j h1 h2=>by
 obtain⟨x,a1,a2,_⟩:=L.link i j h1;obtain⟨y,b1,b2,_⟩:=L.link i' j h2;rw[a2]at b2;cases b2;exact(List.getElem?_inj (SY.mp a1).1 hN).mp (a1.trans b1.symm)
theorem K4 (x0:Str)(o:Bool)(N':List Str)(lk:List (Option Nat))(L:rL X.env.scope.names X.N x0 scope N' lk=true)(jw:N'.Nodup)(hc:X.calm=true)(hi:∀U,oh X (C.u U) pi tg bz ι)
  (jh:∀U cl c s H ex,qL (bA X x0 scope N' cl c s H ex) (C.u U) tg T γ) (jg:∀U cl c s H ex,lA (bA X x0 scope N' cl c s H ex) (C.u U) true ifs τ)
  (jk:∀U cl c s H ex,PQ (bA X x0 scope N' cl c s H ex) (C.u U) true elt φ)
  (hN:X.N.Nodup) (hT:T.all (λi=>match lk[i]? with|some (some _)=>false|_=>true)=true:=by rfl) (hy:X.N[i]?=some y:=by rfl) (hx:Loc X.env.scope y:=by first|exact .inl rfl|exact .inr rfl) (hf:X.fn y=true\/X.env.scope.names.lookup y=some .local:=by first|exact .inl rfl|exact .inr rfl|assumption)
  (rV:UB (.ListComp elt [⟨tg,bz,ifs,0⟩] scope pos) (some (.Name y pos')) fx.line X.env=pure true:=by rfl)
  (sf:We (.ListComp elt [⟨tg,bz,ifs,0⟩] scope pos) X.env (assign (.Name y pos') X.env)=(do let _ <- comprehension (.ListComp elt [⟨tg,bz,ifs,0⟩] scope pos) scope X.env (W_ [⟨tg,bz,ifs,0⟩] pos) (newList []) false (eval bz X.env) (some (assign (.Name y pos') X.env));pure ()):=by first|rfl|exact VA ..)
  (hs:∀x,TL bz X.env x=pure x:=by intro _;rfl) :
  PB X C (.Assign [.Name y pos'] (.ListComp elt [⟨tg,bz,ifs,0⟩] scope pos) fx) (λE β=>Eg lk ι γ τ φ β λd _ β'=>E.nx (β'.set i (some (match o with|true=>.own d|false=>.val true d)))):=by
 have L:=gq.of L;have BL:∀i∈T,∀j,lk[i]?≠some (some j):=λi hi j e=>by
  have:=U6.mp hT i hi;rw[e]at this;cases this
 have γm:=(jh (λ_=>False) [] 0 X.s₀ X.H₀ []).mono;have τm:=(jg (λ_=>False) [] 0 X.s₀ X.H₀ []).mono;have φm:=(jk (λ_=>False) [] 0 X.s₀ X.H₀ []).mono;refine⟨λE E' β l h=>(hi λ_=>False).mono β _ _ (λds kd β1 q=>⟨q.1,q.2.mono λ_ _ z=>⟨z.1,l.nx _ z.2⟩⟩) h,λpins s σ H D I0 hh=>?_⟩;obtain⟨Z,E,β,⟨own,sq,n⟩,h,ok⟩:=hh;refine xt (g:=⟨tg,bz,ifs,0⟩) (gs:=[]) (tg:=λa=>Gs X C a T γ) (tt:=λa=>ib X (C.u λc=>c=a) true τ) (ta:=λa=>KC X C a φ)
  L hc eM rV sf rfl hN hy hx hf (λ_ _=>qq) (hi λa=>H a=none).pi (λa cl c s H ex=>⟨(jh _ cl c s H ex).pg,(jg _ cl c s H ex).pt,eI (X:=bA X x0 scope N' cl c s H ex) rfl (jk _ cl c s H ex).pe⟩) hs pins s σ H D I0 ?_
 refine⟨β,own,sq.gy (C:=C.z) (U:=λa=>H a=none) λa z=>z,(hi λ_=>False).mono β _ _ (λds k β1 h J H1 aA o1 it a ha=>?_) h⟩;obtain⟨hk,q⟩:=h;refine oJ (C:=C.u λa=>H a=none) (T:=T) (nR (P:=X.prog) (w:=X.w) (H1:=H1)) γm τm (λj hj=>hj) (j8 L jw) BL o1.sq ha hk it ⟨[],[],ah,(show aH _ _ _ [] [] [] from ⟨rfl,rfl⟩),T4,λc hc=>(nomatch hc)⟩ (o1.sq.enter ha (j8 L jw))
  (λHb Wb βx ox σx Hx Nx h0 sx qx=>tw h0 ha φm sx qx) q λol H' q o2 r=>?_
 have r':=(zP o1.sq ha r).later o1.sn;have Pu:=o1.sn.trans o2.sn;have m:=n.trans Pu;cases o with
 |false=>exact ok.nx _ _ _ ⟨_,(bD.N5 o2.sq).d4 (ar.aN (λa z=>z.elim id λz=>z.elim) (KV.rep r')),qY m⟩ q
 |true =>
  obtain⟨A,h1,h2,h3⟩:=r';refine ok.nx _ _ _ ⟨_,o2.sq.jQ h1 h2 λc hc=>⟨(h3 c hc).2.2,(h3 c hc).2.1,(h3 c hc).1⟩,?_⟩ q;exact⟨λb hq=>by
   obtain⟨j,hj⟩:=hq
   by_cases aE:i=j
   ·rw[<- aE,os_eq]at hj;exact .inr (n.free (h3 b hj).1)
   ·rw[bf aE]at hj;exact m.w b ⟨j,hj⟩,m.k,m.d⟩
end
section
end
section
end
section
variable {X:Cx}{C:Cfg}{γ:cD}{τ:aW}{φ:aJ}{T:List Nat}{scope:UR}{tg bz elt:Expr}{ifs:List Expr}{ι:bN}{pos:Pos}
theorem Ob (N':List Str)(lk:List (Option Nat))(L:fb X.env.scope.names X.N scope N' lk=true)(jw:N'.Nodup)(hc:X.calm=true)(hi:oh X C true tg bz ι)
  (jh:∀a cl c s H ex,qL (az X scope N' cl c s H ex) (C.u λc=>c=a) tg T γ) (jg:∀a cl c s H ex,lA (az X scope N' cl c s H ex) (C.u λc=>c=a) true ifs τ)
  (jk:∀a cl c s H ex,PQ (az X scope N' cl c s H ex) (C.u λc=>c=a) true elt φ) (hT:T.all (λi=>match lk[i]? with|some (some _)=>false|_=>true)=true:=by rfl)
  (hs:∀x,TL bz X.env x=pure x:=by intro _;rfl):PQ X C true (.ListComp elt [⟨tg,bz,ifs,0⟩] scope pos) (lN lk ι γ τ φ) :=
 CF (pi:=true) (pc:=true) (pe:=true) (Links.of L) jw hT hc hi jh (λa cl c s H ex=>(jg a cl c s H ex).pt) (jg 0 [] 0 X.s₀ X.H₀ []).mono jk (jh 0 [] 0 X.s₀ X.H₀ []).mono (jk 0 [] 0 X.s₀ X.H₀ []).mono hs
end
section
variable {X:Cx}{C:Cfg}{a:Expr}{φ:aJ}{p:Bool}
def Ld (φ:aJ):aW:=λβ R=>φ β λd _ β'=>∃ds,d=.lst ds/\R (!ds.isEmpty) β'
theorem tN (ha:PQ X C p a φ)(he:∀whole,Xo a X.env whole=(do let v <- whole;Wy a.pos;holding [v] (truthy v)):=by intro _;rfl):sP X C p a (Ld φ) :=
 ⟨λβ R R' k h=>ha.mono β _ _ (λd kd β' h=>by obtain⟨b,e,q⟩:=h;exact⟨b,e,k _ _ q⟩) h,(xr ha.pe he).pre λσ H Q h=>by
  obtain⟨β,own,s,h⟩:=h;refine tQ.of ha s h λd k β' v H1 aA h o1 r1=>?_;obtain⟨ds,e,q⟩:=h;subst e;obtain⟨c,vs,rfl,h1,n1,rs⟩:=r1.rep;refine⟨!ds.isEmpty,.inl ⟨vs,cK.of h1,?_⟩,q H1 aA o1⟩;have:=rs.length;cases ds <;> cases vs <;> first|rfl|cases this⟩
end
section
variable {X:Cx}{C:Cfg}{lk:List (Option Nat)}{γ:cD}{τ:aW}{φ:aJ}{T:List Nat}{scope:UR}{N':List Str}{tg bz elt:Expr}{ifs:List Expr}{ι:bN}{pos:Pos}
def xm (lk:List (Option Nat))(ι:bN)(γ:cD)(τ:aW)(φ:aJ):aJ:=λβ R=>ι β λds k β1=>hold k true/\i5 γ τ φ ds k (bM lk β1) λo=>R (.lst o) .own β1
theorem Er (L:Links X scope N' lk)(jw:N'.Nodup)(hT:T.all (λi=>match lk[i]? with|some (some _)=>false|_=>true)=true)(hc:X.calm=true)(hi:oh X C true tg bz ι)
  (jh:∀a cl c s H ex,qL (az X scope N' cl c s H ex) (C.u λc=>c=a) tg T γ) (jg:∀a cl c s H ex,mI (az X scope N' cl c s H ex) ifs (ib (az X scope N' cl c s H ex) (C.u λc=>c=a) true τ)) (τm:∀β R R',(∀d β,R d β->R' d β)->τ β R->τ β R')
  (jk:∀a cl c s H ex,PQ (az X scope N' cl c s H ex) (C.u λc=>c=a) true elt φ) (γm:∀d k β R R',(∀r,R r->R' r)->γ d k β R->γ d k β R') (φm:∀β R R',(∀d k β,R d k β->R' d k β)->φ β R->φ β R')
  (hs:∀x,TL bz X.env x=pure x:=by intro _;rfl):PQ X C true (.ListComp elt [⟨tg,bz,ifs,0⟩] scope pos) (xm lk ι γ τ φ):=by
 have BL:∀i∈T,∀j,lk[i]?≠some (some j):=λi hi j e=>by
  have:=U6.mp hT i hi;rw[e]at this;cases this
 refine⟨λβ R R' k h=>hi.mono β _ _ (λds kd β1 q=>⟨q.1,q.2.mono λo z=>k _ _ _ z⟩) h,?_⟩;refine(jV (g:=⟨tg,bz,ifs,0⟩) (gs:=[]) (tg:=λa v σ H Q=>∃own β d k,SQ X (C.u λc=>c=a) σ H β own/\Rp X (fm (C.u λc=>c=a) (Wn own) k) H d v/\γ d k β λβ'=>∀σ' aK,SQ X (C.u λc=>c=a) σ' H β' aK->(∀a,Wn aK a->Wn own a)->(∀j,j∉T->σ'[j]?=σ[j]?)->Q σ' H)
  (tt:=λa=>ib X (C.u λc=>c=a) true τ) (ta:=λa N σ H=>tQ X (C.u λc=>c=a) true φ σ H λv H1=>∃xs,H1 a=some (.lst xs)/\xs.length<S7/\N σ (upd H1 a (.lst (xs++[v]))))
  L hc eM rfl rfl (λ_ _=>qq) hi.pi (λa cl c s H ex=>⟨(jh a cl c s H ex).pg,jg a cl c s H ex,eI rfl (jk a cl c s H ex).pe⟩) hs).pre λσ H Q ⟨β,own,s,h⟩=>?_
 refine⟨β,own,s,hi.mono β _ _ (λds k β1 fV J H1 aA o1 it a ha=>?_) h⟩;obtain⟨hk,q⟩:=fV;exact iN γm τm φm (dc L jw) BL o1.sq ha (hp:=true) (λ_=>rfl) hk it q λo H' q o2 r=>q _ _ aA (o1.trans o2) (r.later o1.sn)
theorem Qb (N':List Str)(lk:List (Option Nat))(L:fb X.env.scope.names X.N scope N' lk=true)(jw:N'.Nodup)(hc:X.calm=true)(hi:oh X C true tg bz ι)
  (jh:∀U cl c s H ex,qL (az X scope N' cl c s H ex) (C.u U) tg T γ) (jg:∀U cl c s H ex,lA (az X scope N' cl c s H ex) (C.u U) true ifs τ) (jk:∀U cl c s H ex,PQ (az X scope N' cl c s H ex) (C.u U) true elt φ)
  (hT:T.all (λi=>match lk[i]? with|some (some _)=>false|_=>true)=true:=by rfl) (hs:∀x,TL bz X.env x=pure x:=by intro _;rfl):PQ X C true (.ListComp elt [⟨tg,bz,ifs,0⟩] scope pos) (xm lk ι γ τ φ) :=
 Er (Links.of L) jw hT hc hi (λa=>jh _) (λa cl c s H ex=>(jg _ cl c s H ex).pt) (jg (λ_=>False) [] 0 X.s₀ X.H₀ []).mono (λa=>jk _) (jh (λ_=>False) [] 0 X.s₀ X.H₀ []).mono (jk (λ_=>False) [] 0 X.s₀ X.H₀ []).mono hs
end
def xi:Option Addr->Sk
 |none=>.one
 |some h=>.at h
def Jo:V->D
 |.bJ=>.bJ
 |.bl b=>.bl b
 |.int i=>.int i
 |.str x=>.str x
 |.ref a=>.obj a
 |_=>.bJ
def Kx:D->List V->D
 |.lst _,vs=>.lst (vs.map Jo)
 |.dT ks _,vs=>.dT ks (vs.map Jo)
 |.dK ks _,vs=>.dK ks (vs.map Jo)
 |d,_=>d
section
variable {P:SW}{w:S_}{C:Cfg}{σ:St}{H:Hp}{β:a9}{own:Nat->List Addr}{i:Nat}
theorem EA {W:Addr->Prop}{H':Hp}{d:D}{v:V}(r:ar P w W H' d v):Own P w H (Jo v) v []:=by
 cases d with
 |tup ds=>obtain⟨a,vs,rfl,_⟩:=r;exact⟨rfl,rfl⟩
 |lst ds=>obtain⟨a,vs,rfl,_⟩:=r;exact⟨rfl,rfl⟩
 |dT ks ds=>obtain⟨a,vs,rfl,_⟩:=r;exact⟨rfl,rfl⟩
 |dK ks ds=>obtain⟨a,vs,rfl,_⟩:=r;exact⟨rfl,rfl⟩
 |sT ts=>obtain⟨a,rfl,_⟩:=r;exact⟨rfl,rfl⟩
 |ob φ=>obtain⟨a,rfl,_⟩:=r;exact⟨rfl,rfl⟩
 |bJ=>cases (show v=_ from r);exact⟨rfl,rfl⟩
 |bl b=>cases (show v=_ from r);exact⟨rfl,rfl⟩
 |int b=>cases (show v=_ from r);exact⟨rfl,rfl⟩
 |str b=>cases (show v=_ from r);exact⟨rfl,rfl⟩
 |obj b=>cases (show v=_ from r);exact⟨rfl,rfl⟩
theorem jq {W:Addr->Prop}{H':Hp}:∀{ds:List D} {vs:List V},ag P w W H' ds vs->aH P w H (vs.map Jo) vs []
 |[],_,e=>by cases e;exact⟨rfl,rfl⟩
 |_::_,_,⟨v,vs,rfl,h1,h2⟩=>⟨v,vs,[],[],rfl,rfl,EA h1,jq h2⟩
theorem jr {W:Addr->Prop}{H':Hp}{d:D}{o:HO}{vs:List V}{a:Addr}(r:ag P w W H' (Gu d) vs)(sh:DY d o vs)(h:H a=some o):Own P w H (Kx d vs) (.ref a) [a]:=by
 cases d with
 |lst ds=>cases sh;exact⟨a,vs,[],rfl,h,rfl,jq r⟩
 |dT ks ds=>obtain⟨rfl,l⟩:=sh;exact⟨a,vs,[],rfl,h,l,rfl,jq r⟩
 |dK ks ds=>obtain⟨rfl,l⟩:=sh;exact⟨a,vs,[],rfl,h,l,rfl,jq r⟩
 |_=>exact sh.elim
theorem Hd {d:D}{o:HO}{vs:List V}(sh:DY d o vs):∀xs,o≠.tup xs:=λxs z=>by
 cases d with
 |lst ds=>cases sh;cases z
 |dT ks ds=>obtain⟨rfl,l⟩:=sh;cases z
 |dK ks ds=>obtain⟨rfl,l⟩:=sh;cases z
 |_=>exact sh.elim
theorem bD.toShl {d0 d:D}{v:V}{y:Sk}(s:bD P w C σ H β own)(e:β[i]?=some (some (.own d0)))(hσ:σ[i]?=some (some v))(r:wG P w (fm C (Wn own) (yk true)) H y d v (own i)):bD P w C σ H (β.set i (some (.shl y d))) own:=by
 refine⟨by simp[s.len],λj y' d' q=>?_,λj d' q=>?_,λj ok q=>?_,s.dm,s.ja,s.kS,s.kp,s.f6,λj y' d' q=>?_⟩
 ·by_cases aE:i=j
  ·subst aE;obtain⟨e',_⟩:=aX q;cases e'
  ·rw[aQ aE]at q;exact s.val j y' d' q
 ·by_cases aE:i=j
  ·subst aE;obtain⟨e',_⟩:=aX q;cases e'
  ·rw[aQ aE]at q;exact s.ow j d' q
 ·by_cases aE:i=j
  ·subst aE;obtain⟨e',_⟩:=aX q;cases e'
  ·rw[aQ aE]at q;exact s.nF j ok q
 ·by_cases aE:i=j
  ·subst aE;obtain⟨e',_⟩:=aX q;cases e';obtain⟨_,_,_,h0⟩:=s.ow i d0 e;exact⟨v,hσ,r,h0⟩
  ·rw[aQ aE]at q;exact s.shl j y' d' q
theorem wG.at {W:Addr->Prop}{t:Option Addr}{d:D}{v:V}{A:List Addr}(h:wG P w W H (xi t) d v A):hZ P w W H d v A/\∀b,t=some b->v=.ref b:=by
 cases t with
 |none=>exact⟨h,λ_ z=>(nomatch z)⟩
 |some b=>exact⟨h.1,λ_ z=>by cases z;exact h.2⟩
theorem wG.to {W:Addr->Prop}{t:Option Addr}{d:D}{v:V}{A:List Addr}(h:hZ P w W H d v A)(e:∀b,t=some b->v=.ref b):wG P w W H (xi t) d v A:=by
 cases t with
 |none=>exact h
 |some b=>exact⟨h,e b rfl⟩
theorem bD.ia {d:D}(t:Option Addr)(s:bD P w C σ H β own)(e:β[i]?=some (some (.shl (xi t) d))):∃a o vs,(σ[i]?=some (some (.ref a))/\∀b,t=some b->a=b)/\own i=[a]/\H a=some o/\DY d o vs/\ag P w (fm C (Wn own) (yk true)) H (Gu d) vs/\C.H0 a=none/\bD P w C σ H (β.set i (some (.own (Kx d vs)))) own:=by
 obtain⟨v,h1,hs,h6⟩:=s.shl i _ d e;obtain⟨⟨a,o,vs,rfl,h2,h3,h4,h5⟩,ht⟩:=hs.at
 refine⟨a,o,vs,⟨h1,λb z=>by cases ht b z;rfl⟩,h2,h3,h4,h5,h6 a (by rw[h2];simp),by simp[s.len],λj y' d' q=>?_,λj d' q=>?_,λj ok q=>?_,s.dm,s.ja,s.kS,s.kp,s.f6,λj y' d' q=>?_⟩
 ·by_cases aE:i=j
  ·subst aE;obtain⟨e',_⟩:=aX q;cases e'
  ·rw[aQ aE]at q;exact s.val j y' d' q
 ·by_cases aE:i=j
  ·subst aE;obtain⟨e',_⟩:=aX q;cases e';exact⟨.ref a,h1,by rw[h2];exact jr h5 h4 h3,h6⟩
  ·rw[aQ aE]at q;exact s.ow j d' q
 ·by_cases aE:i=j
  ·subst aE;obtain⟨e',_⟩:=aX q;cases e'
  ·rw[aQ aE]at q;exact s.nF j ok q
 ·by_cases aE:i=j
  ·subst aE;obtain⟨e',_⟩:=aX q;cases e'
  ·rw[aQ aE]at q;exact s.shl j y' d' q
theorem bD.Ct {d:D}(s:bD P w C σ H β own)(e:β[i]?=some (some (.shl .one d))):∃a o vs,σ[i]?=some (some (.ref a))/\own i=[a]/\H a=some o/\DY d o vs/\ag P w (fm C (Wn own) (yk true)) H (Gu d) vs/\C.H0 a=none/\bD P w C σ H (β.set i (some (.own (Kx d vs)))) own :=
 let ⟨a,o,vs,h1,h⟩:=s.ia none e;⟨a,o,vs,h1.1,h⟩
end
abbrev LI (k:Kd)(d:D):Prop:=match k with
 |.own=>True
 |.cy=>True
 |_=>d.flat=true
theorem KV.yg {P:SW}{w:S_}{C:Cfg}{Z:Hp×(Addr->Prop)}{own:Nat->List Addr}{H:Hp}{d:D}{v:V}{k:Kd}(f:LI k d)(r:KV P w C Z own H k d v):ar P w (av C (Wn own) .cy) H d v:=by
 cases k with
 |own=>exact r.cy
 |cy=>exact r
 |old=>exact ar.flat f r
 |bor=>exact ar.flat f r
theorem ag.snoc {P:SW}{w:S_}{W:Addr->Prop}{H:Hp}{d:D}{v:V}(h:ar P w W H d v):∀{ds:List D} {vs:List V},ag P w W H ds vs->ag P w W H (ds++[d]) (vs++[v])
 |[],_,e=>by cases e;exact⟨v,[],rfl,h,rfl⟩
 |_::_,_,⟨u,r,rfl,h1,h2⟩=>⟨u,r++[v],rfl,h1,ag.snoc h h2⟩
section
variable {C:Cfg}{e:Expr}{i:Nat}
theorem DR {own:Nat->List Addr}{i:Nat}{a:Addr}(h:own i=[a]):∀c,Wn (aI own i [a]) c->Wn own c:=λc kl=>by
 obtain⟨j,hj⟩:=kl
 by_cases aE:i=j
 ·rw[<- aE,os_eq]at hj;exact⟨i,by rw[h];exact hj⟩
 ·rw[bf aE]at hj;exact⟨j,hj⟩
theorem bD.CB {P:SW}{w:S_}{U:Addr->Prop}{σ:St}{H:Hp}{β:a9}{own:Nat->List Addr}{d d':D}{a:Addr}{o:HO}{vs':List V}(t:Option Addr)(b:bD P w (C.u U) σ H β own)(e:β[i]?=some (some (.shl (xi t) d)))(hσ:σ[i]?=some (some (.ref a)))
  (sh:DY d' o vs') (r:ag P w (av (C.u U) (Wn own) .cy) (upd H a o) (Gu d') vs'):bD P w C.z σ (upd H a o) (β.set i (some (.shl (xi t) d'))) (aI own i [a])/\(∀c∈[a],c∈own i\/(C.H0 c=none/\¬ Wn own c/\U c))/\Wn own a/\∃oc,H a=some oc/\∀xs,oc≠.tup xs:=by
 obtain⟨a',o1,vs,h1,h2,h3,h4,h5,h6,s'⟩:=b.ia t e;rw[hσ]at h1;have ea:a=a':=by cases h1.1;rfl
 subst ea;have hl:i<β.length:=(SY.mp e).1;have ha:a∈own i:=by rw[h2];simp
 have hA:∀c∈[a],c∈own i\/(C.H0 c=none/\¬ Wn own c/\U c):=λc hc=>.inl (by rw[h2];exact hc)
 have q:=s'.putIn (get_set hl) hσ ha (jr r sh ah) (by simp) hA
 rw[V7]at q;have q2:=q.toShl (d:=d') (y:=xi t) (get_set (by simpa using hl)) hσ (wG.to ⟨a,o,vs',rfl,by rw[os_eq],ah,sh,ag.aN (λc z=>?_) r⟩ λb z=>by rw[h1.2 b z])
 ·rw[V7]at q2;exact⟨q2,hA,⟨i,ha⟩,o1,h3,Hd h4⟩
 ·rcases z with z|z
  ·exact gZ (C:=C) (DR h2) .cy c z
  ·exact z.elim
theorem bD.Lm {P:SW}{w:S_}{U:Addr->Prop}{σ:St}{H:Hp}{β:a9}{own:Nat->List Addr}{d d':D}{a:Addr}{o:HO}{vs':List V}(b:bD P w (C.u U) σ H β own)(e:β[i]?=some (some (.shl .one d)))(hσ:σ[i]?=some (some (.ref a)))
  (sh:DY d' o vs') (r:ag P w (av (C.u U) (Wn own) .cy) (upd H a o) (Gu d') vs'):bD P w C.z σ (upd H a o) (β.set i (some (.shl .one d'))) (aI own i [a])/\(∀c∈[a],c∈own i\/(C.H0 c=none/\¬ Wn own c/\U c))/\Wn own a/\∃oc,H a=some oc/\∀xs,oc≠.tup xs:=b.CB none e hσ sh r
theorem rO {H:Hp}{a:Addr}{o oc:HO}{W:Addr->Prop}(h:H a=some oc)(ht:∀xs,oc≠.tup xs)(hw:W a):Kp W H (upd H a o):=(gi h ht).mono λc z=>by rw[z];exact hw
end
end L2.Q
namespace L2
open PySem PySem.Spec PySem.SeqAt PyProof.Rows
section
variable {X:Cx}{a:Expr}{t:TA}{p2:Pos}
def fu (c:Nat):Str:=⟨#[c]⟩
def cw (cs:List Nat):Str:=⟨cs.toArray⟩
theorem uj:∀(cs:List Nat) (acc:Array Nat),(cs.map fu).foldl (λacc p=>acc++(#[]:Array Nat)++p.cps) acc=acc++cs.toArray
 |[],acc=>by simp
 |c::cs,acc=>by
  rw[S4,VF,uj cs];simp[fu]
theorem yP (cs:List Nat):Xi ⟨#[]⟩ (cs.map fu)=cw cs:=by
 unfold Xi cw;cases cs with
 |nil=>rfl
 |cons c cs =>
  show (⟨((cs.map fu).foldl (λacc p=>acc++(#[]:Array Nat)++p.cps) (fu c).cps)⟩:Str)=_;rw[uj];simp[fu]
theorem lD:∀{xs:List Str} {us:List SO},Vals (xs.map V.str) us->∃l:List (Str×Tok),us=strValues l/\l.map (·.1)=xs
 |[],_,h=>by cases h;exact⟨[],rfl,rfl⟩
 |x::xs,_,h=>by
  cases h with
  |cons h1 h2 =>
   obtain⟨t,rfl⟩:=h1;obtain⟨l,rfl,rfl⟩:=lD h2;exact⟨(x,t)::l,rfl,rfl⟩
theorem t9:∀(xs:List Str) (n:Nat),(∀x∈xs,x.length=1)->xs.foldl (λa x=>a+x.length+(⟨#[]⟩:Str).length) n=n+xs.length
 |[],_,_=>rfl
 |x::xs,n,h=>by
  rw[VF,t9 xs _ λy hy=>h y (Tc _ hy),h x Tr,Tv];show n+1+0+xs.length=_;lia
theorem Bp:Nt X "str.join" (λx xs H Q=>∃a cs,x=.str ⟨#[]⟩/\xs=[.ref a]/\cK X.K H a (cs.map λc=>V.str (fu c))/\cs.length<=1000/\Q (.str (cw cs)) H):=by
 intro pins s σ H x xs v us Q I rx rs h;obtain⟨a,cs,rfl,rfl,hl,hc,q⟩:=h;obtain⟨t,rfl⟩:=rx;obtain⟨u,rfl,ru⟩:=vals1 rs;cases ru;obtain⟨its,r,ht,hz⟩:=I.list hl;rw[show (cs.map λc=>V.str (fu c))=(cs.map fu).map V.str by rw[T1];rfl]at r
 obtain⟨l,rfl,el⟩:=lD r;have hlen:l.length=cs.length:=by have:=congrArg List.length el;rwa [SS,SS]at this
 have LV:Builtin.Str.tooLong ((l.map (·.1)).toArray.foldl (·+·.length+(⟨#[]⟩:Str).length) 0)=false:=by
  rw[el,List.foldl_toArray,t9 _ _ (λx hx=>by obtain⟨c,_,rfl⟩:=Ti.mp hx;rfl),SS]
  exact decide_eq_false (by rw[TF];lia)
 refine XN PySem.F.slot_str_join (typeIs_str _ _ _) PySem.F.entry_str_join (PySem.F.args_str_join_2 _ _) (meets_str_join_list ⟨#[]⟩ t a l LV) ⟨ht.isList,?_⟩;have eg:Xi ⟨#[]⟩ (l.map (·.1))=cw cs:=by rw[el];exact yP cs
 have yK:(cw cs).length<=S7:=by
  show cs.toArray.size<=_;rw[Tf,TF];lia
 have fin:∀tk,EP X pins σ Q (.str (cw cs) tk) {s with toks:=s.toks+1}:=λtk=>⟨.str (cw cs),H,I.tok _,⟨tk,rfl⟩,q⟩
 cases l with
 |nil =>
  refine⟨by rw[eg];exact yK,?_⟩
  rw[eg];exact fin _
 |cons p l =>
  cases l with
  |nil =>
   have e1:p.1=cw cs:=by
    cases cs with
    |nil=>cases el
    |cons c cs =>
     cases cs with
     |nil=>exact(List.cons.inj el).1
     |cons _ _=>cases (List.cons.inj el).2
   show EP X pins σ Q (.str p.1 p.2) s;rw[e1];exact⟨.str (cw cs),H,I,⟨_,rfl⟩,q⟩
  |cons p2 l =>
   refine⟨by rw[eg];exact yK,?_⟩
   rw[eg];exact fin _
end
end L2
namespace L2.Q
open PySem PySem.Spec PySem.SeqAt PyProof.Rows
theorem F6:("(" : Str)=fu 40:=by decide +kernel
theorem F5:(")" : Str)=fu 41:=by decide +kernel
theorem Jw:("." : Str)=fu 46:=by decide +kernel
theorem Ky:("" : Str)=⟨#[]⟩:=by decide +kernel
theorem E9 {P:SW}{w:S_}{C:Cfg}{Z:Hp×(Addr->Prop)}{own:Nat->List Addr}{H:Hp}{x:Str}:KV P w C Z own H .own (.str x) (.str x):=⟨[],⟨rfl,rfl⟩,T4,λc hc=>(nomatch hc)⟩
theorem lM {P:SW}{w:S_}{W:Addr->Prop}{H:Hp}{f:Nat->Str}:∀{cs:List Nat} {vs:List V},ag P w W H (cs.map λc=>D.str (f c)) vs->vs=cs.map λc=>V.str (f c)
 |[],_,h=>h
 |c::cs,_,⟨v,r,e,h1,h2⟩=>by rw[e,lM h2,show v=V.str (f c) from h1];rfl
section
variable {X:Cx}{C:Cfg}{e:Expr}{φ:aJ}{p:Bool}{apos cpos p1:Pos}{j:Nat}
def Hn (φ:aJ):aJ:=λβ R=>φ β λd _ β1=>∃cs,d=.lst (cs.map λc=>D.str (fu c))/\cs.length<=1000/\R (.str (cw cs)) .own β1
theorem AK (he:PQ X C p e φ) (eT:Vz (.Constant (.str "") j p1) "join" X.env (eval (.Constant (.str "") j p1) X.env)=eval (.Constant (.str "") j p1) X.env:=by rfl)
  (nH:((UZ cpos (Te [e] X.env)).all (λx=>!x.1)&&(XO cpos (WR [] X.env)).all (λx=>x.1.isSome)&&decide ([e].length+([]:List Wh).length+(if ([]:List Wh).isEmpty then 0 else 1)<30))=true:=by rfl)
  (eR:(apos.endLine==cpos.line)=true:=by rfl) (hs:Te [e] X.env=(false,eval e X.env)::Te [] X.env:=by rfl) (hpl:(UZ cpos (Te [] X.env)).any (·.1)=false:=by rfl) :
  PQ X C p (.Call (.Attribute (.Constant (.str "") j p1) "join" apos) [e] [] cpos) (Hn φ) :=
 ⟨λβ R R' k h=>he.mono β _ _ (λd kd β1 h=>by obtain⟨cs,h1,h2,q⟩:=h;exact⟨cs,h1,h2,k _ _ _ q⟩) h,
  (tS (apos:=apos) (cpos:=cpos) PySem.F.plainAttrs_str PySem.F.slot_str_join PySem.F.type_str_join Bp xF (aw he.pe bu hs) eT nH eR hs hpl).pre λσ H Q ⟨β,own,s,h⟩ =>
  ⟨rfl,tQ.of he s h λd k β1 v H1 aA hq o1 r1=>by
   obtain⟨cs,rfl,hc,q⟩:=hq;obtain⟨b,us,rfl,OK,_,rb⟩:=r1.rep;rw[lM rb]at OK;exact⟨b,cs,by rw[Ky],rfl,cK.of OK,hc,q _ _ aA o1 E9⟩⟩⟩
end
def D.xb:D->Option Str
 |.str x=>some x
 |_=>none
theorem D.jm {d:D}{x:Str}(h:D.xb d=some x):d=.str x:=by
 cases d <;> first|(cases h;rfl)|cases h
def uI (a b:D):Option D:=(D.xb a).bind λx=>(D.xb b).bind λy=>if x.length+y.length<=1000000 then some (.str (x++y)) else none
theorem qk {a b:List Nat}(h:a.length+b.length<=1000000):uI (.str (cw a)) (.str (cw b))=some (.str (cw (a++b))):=by
 show (if (cw a).length+(cw b).length<=1000000 then some (D.str (cw a++cw b)) else none)=_
 rw[if_pos (show (cw a).length+(cw b).length<=1000000 from h)]
 have:cw a++cw b=cw (a++b):=by
  show (⟨a.toArray++b.toArray⟩:Str)=⟨(a++b).toArray⟩;rw[List.append_toArray]
 rw[this]
section
variable {X:Cx}
theorem o7:cv X (Vl .Add) uI:=by
 intro pins s σ H x y v u Q I rx ry h;obtain⟨W,d1,d2,d,hd,r1,r2,e,q⟩:=h;obtain⟨a,h1,e⟩:=Ui.mp e;obtain⟨b,h2,e⟩:=Ui.mp e;rw[D.jm h1]at r1;rw[D.jm h2]at r2;cases (show x=.str a from r1)
 cases (show y=.str b from r2)
 obtain⟨t,rfl⟩:=rx;obtain⟨t2,rfl⟩:=ry
 by_cases hl:a.length+b.length<=1000000
 ·rw[if_pos hl]at e;cases e;exact PyProof.Rows.add_str (λt' tk=>⟨.str (a++b),H,I.tok _,⟨t',rfl⟩,q _ _ (au.refl _) rfl⟩) (by rw[TF];lia)
 ·rw[if_neg hl]at e;cases e
end
end L2.Q
namespace L2
open PySem PySem.Spec PySem.SeqAt PyProof.Rows
def ud (x:Str):Prop:=x.cps.all (·<128)=true
theorem Gg {x:Str} (h:ud x):strIterType x="str_ascii_iterator" := by unfold strIterType;exact if_pos h
def JJ (x:Str):It:=⟨λi H=>i<x.cps.size,λi H v H'=>∃T c,H T=none/\v=.ref T/\x.cps[i]?=some c/\H'=upd H T (.tup [.int i,.str ⟨#[c]⟩]),λi H=>x.cps.size<=i⟩
theorem qS {P:SW}{w:S_}{K:PySem.W.Frag}{elts:List Expr}{kk:Nat}{pos:Pos}{e it:Addr}{x:Str}{t:Tok}(ne:e≠it):
  Turn P w K (.Tuple elts kk pos) (JJ x) [e,it] e (λk h=>k<=x.cps.size/\(∃old,IsEnum h e it (k:Int) old)/\h.IsStrIter it "str_ascii_iterator" x t k) where
 mem:=by simp
 obj:=λk h ji c hc=>by
  obtain⟨_,⟨old,h1⟩,h2⟩:=ji;simp only[S5,UD,or_false]at hc;rcases hc with rfl|rfl
  ·exact⟨_,h1,λv z=>by cases (show Data.fields _=Data.cell v from z)⟩
  ·obtain⟨o,a,_,d⟩:=h2;exact⟨o,a,λv z=>by rw[d]at z;cases z⟩
 keep:=λk h h' ⟨le,⟨old,h1⟩,h2⟩ kp=>⟨le,⟨old,kp e (by simp) _ h1⟩,let ⟨o,ho,r⟩:=h2;⟨o,kp it (by simp) o ho,r⟩⟩
 item:=by
  intro X hP hw hK hc i pins s σ H E I hf st hg;subst hP hw hK;obtain⟨le,⟨old,g1⟩,g2⟩:=st;have hg:i<x.cps.size:=hg;refine wpAny_pyNext_enum_itemD (Draws.strAscii (A:=X.A.in1) (I.ok.hd hc) it x t) g1 g2 hg ne (by simpa using ne) λy h' tk hP y1 y2 y3 y4 y5=>?_
  obtain⟨c,u,Q1,rfl⟩:=hP;have I1:=(I.Aj (fp:=[e,it]) (x:=.int i) (u:=.int i tk) (y:=.str ⟨#[c]⟩) (v:=.str ⟨#[c]⟩ u) hf (λc o zZ q=>y5 c o (λz=>zZ (by simp[z])) (λz=>zZ (by simp[z])) q) ⟨_,rfl⟩ ⟨_,rfl⟩ y3).tok (tk+1)
  have nT:∀b∈[e,it],upd H s.heap.objs.size (.tup [.int i,.str ⟨#[c]⟩]) b=none:=λb hb=>by
   have:b≠s.heap.objs.size:=by
    simp only[S5,UD,or_false]at hb;rcases hb with rfl|rfl
    ·exact Tx (Ta g1)
    ·obtain⟨o,a,_⟩:=g2;exact Tx (Ta a)
   rw[ao this];exact(hf b hb).1
  refine⟨_,rfl,wpAny_letOwnedTupleGo_enum y1 λh'' z' sb=>?_⟩;have I2:Inv X pins σ (upd H s.heap.objs.size (.tup [.int i,.str ⟨#[c]⟩])) {s with heap:=h'',toks:=tk+1}:=by
   refine I1.sY (fp:=[e]) (λb hb=>?_) λc o zZ q=>sb.extBut _ _ (by simpa using zZ) q
   have q:b=e:=by simpa using hb
   subst q;exact⟨nT b (by simp),(hf b (by simp)).2⟩
  exact⟨.ref s.heap.objs.size,_,I2,rfl,⟨s.heap.objs.size,c,I.a_.fresh (SX _),rfl,Q1,rfl⟩,⟨hg,⟨_,z'⟩,y2.extBut sb.extBut (U_ ne)⟩,nT⟩
 done:=by
  intro X hP hw hK hc i pins s σ H E I hf st hg;subst hP hw hK;obtain⟨le,⟨old,g1⟩,g2⟩:=st;have hg:i=x.cps.size:=Nat.le_antisymm le hg;subst hg;refine wpAny_pyNext_enum_endD (Draws.strAscii (A:=X.A.in1) (I.ok.hd hc) it x t) g1 g2 λh' y=>?_;exact⟨rfl,I.sY (fp:=[e,it]) hf λc o zZ q=>y c o (λz=>zZ (by simp[z])) q⟩
 self:=λA i s Q E ⟨_,⟨old,h1⟩,_⟩ q=>wpAny_pyIter_enum h1 q
end L2
namespace Ko
open PySem PySem.Spec PyProof.Rows TS
section
variable {prog:SW}{w:S_}{A:Ud}{E:SO->SU->Prop}{s:SU}
theorem xh {x:SO}{vs:List SO}{κ:U0}{c:SO->SO->Bool}{Q:SO->SU->Prop}(hz:vs.length<=1000000)
  (col:∀(R:List SO->SU->Prop),(∀(h':Heap) (tk:Nat),(∀b o,s.heap.get? b=some o->h'.get? b=some o)->s.heap.objs.size<=h'.objs.size->R vs {s with heap:=h',toks:=tk})->Tn (model prog w) A.in1 (collect x) R E s)
  (O:bZ λx y=>c x.1 y.1)
  (T:∀s':SU,(∀t o,s.heap.get? t=some o->s'.heap.get? t=some o)->(2<=vs.length->∀(Q:U0->SU->Prop),Q κ s'->Tn (model prog w) A.in1.in1 (keyKind' vs.toArray) Q E s')/\eC prog w A.in1.in1 E s' κ (λx y=>c x.1 y.1) (·∈(vs.toArray.zip vs.toArray).toList))
  (h:∀(out:List SO) (l:Addr) (h':Heap) (tk:Nat) (n:Nat),out.Perm vs->out.Pairwise (λx y=>c y x=false)->s.heap.objs.size<=l->(∀b o,s.heap.get? b=some o->h'.get? b=some o)->h'.get? l=some (UK "list" out.toArray n)->Q (.ref l) {s with heap:=h',toks:=tk}) :
  Tn (model prog w) A (call (.builtin "sorted") [x]) Q E s:=by
 refine Vu kind_sorted plain_sorted entry_sorted (args_sorted1 _) ?_;unfold Wi.«sorted»
 refine SN (m:=checkCount "sorted" 1 1 _) (SV ?_);refine SN (col _ λh' tk kp LC=>?_);have nl:vs.length<=S7:=by rw[TF];lia
 refine SN (WW ?_ nl);have hl:(h'.push (UK "list" vs.toArray 0)).get? h'.objs.size=some (UK "list" vs.toArray 0):=TU _ rfl;refine SN (Uu (UA XH ⟨_,hl,rfl⟩ XA (j7 (κ:=κ) (c:=c) (s:={s with heap:=h'.push (UK "list" vs.toArray 0),toks:=tk}) hl hz O (λs' k=>T s' λt o e=>k t o (Tx (Ta (kp _ _ e))) (S1 _ (kp _ _ e))) λout hp hs=>⟨_,rfl,?_⟩) (XQ _)))
 obtain⟨n,hn⟩:=sortedHeap_at (out:=out.toArray) hl;refine SV ⟨_,rfl,h out h'.objs.size _ tk n hp hs LC (λb o e=>?_) hn⟩;have hb:=Ta (kp _ _ e);rw[XG (Tx hb) (by rw[W5];exact Xe hb)]
 exact S1 _ (kp _ _ e)
end
end Ko
namespace Dk
open PySem PySem.Spec PyProof.Rows
section
variable {prog:SW}{w:S_}{A:Ud}{E:SO->SU->Prop}{s:SU}
theorem vy (d:Addr)(hd:(d==Um)=false):
  MeetsIn prog w (Wi.«dict.__len__» ⟨[.ref d],[]⟩) (λ_ R s=>∃o es ep,s.heap.get? d=some o/\o.data=.dict es ep/\R (.ok (.ret (.int es.size s.toks))) {s with toks:=s.toks+1}) :=
 .of_wp λA R s h=>by
  obtain⟨o,es,ep,ho,pO,h⟩:=h;show Tn _ _ (dictSize d >>= _) _ _ s;unfold dictSize;refine SN (SN (Wd ho pO (SV ?_)));show Tn _ _ (Builtin.Dict.pendingCount d >>= _) _ _ s;refine SN (wpAny_pendingCount_other hd ?_);refine wpAny_ret_mkInt ?_;rw[Nat.add_zero];exact h
theorem ym {d:Addr} {o:Obj} {es:Array Vs} {ep:Nat} {Q:SO->SU->Prop} (hd:(d==Um)=false) (hT:s.TypeIs (.ref d) "dict") (ho:s.heap.get? d=some o) (pO:o.data=.dict es ep) (yK:(es.size:Int)<2 ^ 63)
  (h:Q (.int es.size (s.toks+1)) {s with toks:=s.toks+1+1}):Tn (model prog w) A (Wi.«len» ⟨[.ref d],[]⟩) (λfin s'=>∃r,fin=.done (.ret r)/\Q r s') E s:=by
 unfold Wi.«len»
 refine SN (m:=oneArg "len" _) (SV ?_);refine SN (m:=callSpecial? (.ref d) (WC "__len__")) (VI (name:=WC "__len__") hT F.slot_dict_len
  (call_meetsIn F.slot_dict_len hT F.entry_dict_len (F.args_dict_len_1 _) (vy d hd) ⟨o,es,ep,ho,pO,?_⟩))
 show Tn _ _ _ _ _ {s with toks:=s.toks+1}
 refine SN (Uu (SV ?_));refine SN (wpAny_letGo ?_);show Tn _ _ (if ((es.size:Nat):Int)<0 then _ else _) _ _ _
 rw[if_neg (by lia)]
 show Tn _ _ (if ((es.size:Nat):Int) >= 2 ^ 63 then _ else _) _ _ _
 rw[if_neg (by lia)]
 exact SN (wpAny_mkInt (SV ⟨_,rfl,h⟩))
theorem zD {d:Addr} {o:Obj} {es:Array Vs} {ep:Nat} {Q:SO->SU->Prop} (hd:(d==Um)=false) (hT:s.TypeIs (.ref d) "dict") (ho:s.heap.get? d=some o) (pO:o.data=.dict es ep) (yK:(es.size:Int)<2 ^ 63)
  (h:Q (.int es.size (s.toks+1)) {s with toks:=s.toks+1+1}):Tn (model prog w) A (call (.builtin "len") [.ref d]) Q E s :=
 Vu kind_len plain_len entry_len (args_len1 _) (ym hd hT ho pO yK h)
end
end Dk
namespace L2.Q
open PySem PySem.Spec PySem.SeqAt PyProof.Rows
theorem sJ {X:Cx}:cE X (.builtin "len") (λds=>match ds with | [.dT ks _]=>some (.int ks.length)|_=>none):=by
 intro pins s σ H xs us Q I r h;obtain⟨W,ds,d,hd,r1,e,q⟩:=h
 match ds,e with
 |[.dT ks es],e =>
  cases e;obtain⟨x,rfl,a,vs,rfl,ha,hl,nW,rs⟩:=g_ r1;obtain⟨u,rfl,rx⟩:=vals1 r;cases rx;have T:=(Fj I (.inr ⟨_,.inl ha⟩)).1;obtain⟨z,y,iU,pr,o,oe,ep,h1,h2,h3,h4,h5⟩:=(show bb X.prog X.w H s.heap a (.dT (ks.zip vs)) from I.a_ a _ ha)
  have hlen:oe.size=ks.length:=by
   have e1:oe.toList.length=iU.length:=by rw[h4,SS]
   have e2:(ks.zip vs).length=iU.length:=by
    clear h4 h5 e1 z
    generalize ks.zip vs=kv at pr
    induction pr with
    |nil=>rfl
    |cons _ _ ih=>simp[ih]
   rw[XC,<- hl,Nat.min_self]at e2;rw[<- Tj,e1,e2]
  have zk:(ks.zip vs).length=ks.length:=by rw[XC,<- hl,Nat.min_self]
  refine Dk.zD y T h1 h3 (by rw[hlen,<- zk];rw[TF]at z;lia) ?_
  rw[hlen];exact⟨.int ks.length,H,I.tok _,⟨_,rfl⟩,q _ _ (au.refl _) rfl⟩
end L2.Q
namespace Dk
open PySem PySem.Spec PyProof.Rows
def At (h:Heap)(d:Addr)(es:Array Vs)(ep:Nat):Prop:=∃o,h.get? d=some o/\o.ExactDict/\o.data=.dict es ep
theorem At.at' {h h':Heap}{d:Addr}{es:Array Vs}{ep:Nat}(x:At h d es ep)(e:∀o,h.get? d=some o->h'.get? d=some o):At h' d es ep:=by
 obtain⟨o,h1,r⟩:=x;exact⟨o,e _ h1,r⟩
theorem At.lt {h:Heap}{d:Addr}{es:Array Vs}{ep:Nat}(x:At h d es ep):d<h.objs.size:=by
 obtain⟨o,h1,_⟩:=x;exact Ta h1
theorem At.typeIs {s:SU} {d:Addr} {es:Array Vs} {ep:Nat} (x:At s.heap d es ep):s.TypeIs (.ref d) "dict" := by
 obtain⟨o,h1,h2,_⟩:=x;exact⟨o,h1,h2.1⟩
section
variable {prog:SW}{w:S_}{A:Ud}{E:SO->SU->Prop}{s:SU}{d it:Addr}{es:Array Vs}{i ep:Nat}
theorem vH {Q:SO->SU->Prop}(hd:(d==Um)=false)(hm:At s.heap d es ep)
  (hQ:Q (.ref s.heap.objs.size) {s with heap:=s.heap.push {cls:=.type "dict_keyiterator",data:=.fields #[.ref d,.int 0 0,.int es.size 0,.int ep 0]}}):Tn (model prog w) A (XJ (.ref d)) Q E s:=by
 have hT:=hm.typeIs;obtain⟨o,ho,hc,pO⟩:=id hm;refine wpAny_pyIter_slot hT F.slot_dict_iter (UA F.slot_dict_iter hT F.entry_dict_iter ?_ (F.args_dict_iter_1 _));unfold Wi.«dict.__iter__»
 refine SN ?_;unfold Builtin.Dict.dictSlotNone;refine SN (wpAny_notOrdered_dict hT ?_);show Tn _ _ (pure (Value.ref d)) _ _ s;refine SV ?_;show Tn _ _ (Builtin.Dict.showsAll d >>= _) _ _ s;unfold Builtin.Dict.showsAll;rw[if_neg (by rw[hd];exact Uk)]
 refine SN (SV ?_);refine SN (Wd ho pO ?_);refine SN (Xz ho pO ?_);refine SN (UI (SV ⟨_,rfl,"dict_keyiterator",_,⟨_,TU _ rfl,rfl⟩,F.slot_dict_keyiterator_next.lookup,?_⟩));simpa[rawInt] using hQ
theorem next_item {Q:Option SO->SU->Prop}(hit:s.heap.IsKeyIter it d i es.size ep)(hm:At s.heap d es ep)(Mz:i<es.size)
  (hQ:∀h',h'.IsKeyIter it d (i+1) es.size ep->Vr it s.heap h'->Q (some es[i].key) {s with heap:=h'}):Tn (model prog w) A (XI (.ref it)) Q E s:=by
 obtain⟨o,ho,hc,hd⟩:=id hit;obtain⟨od,Jb,ui,Ji⟩:=id hm;unfold XI;refine SN (WX (VI (name:=WC "__next__") hit.typeIs F.slot_dict_keyiterator_next
  (UA F.slot_dict_keyiterator_next hit.typeIs F.entry_dict_keyiterator_next ?_ (F.args_dict_keyiterator_next_1 _))))
 refine SN (SV ?_);refine SN ?_;refine SN ?_
 first|refine SN (U7 hit.typeIs (SV ?_))|refine SN (Vy hit.typeIs (SV ?_))
 refine SN (wpAny_fieldsOf ho hd ?_);have Fx:XE "dict_keyiterator" = false:=by decide
 simp only[Fx,T9,if_false];show Tn _ _ (if (Value.ref d==Value.none)=true then _ else _) _ _ s
 rw[if_neg (show ¬ ((Value.ref d==Value.none)=true) from Uk)]
 refine SN (SV ?_);refine SN (Wd Jb Ji ?_);rw[if_neg (by simp)]
 refine SN (SV ?_);refine SN (Xz Jb Ji ?_);rw[if_neg (by simp)]
 refine SV ?_;simp only[show ¬ ((i:Int)<0) from by lia,if_false,UW,Array.getElem?_eq_getElem Mz]
 refine SN ?_
 first|refine SN (U7 hit.typeIs (SV ?_))|refine SN (Vy hit.typeIs (SV ?_))
 refine SN (wpAny_isOneOf_keyiter hit.typeIs ?_);show Tn _ _ (setField (.ref it) 1 (rawInt ((i:Int)+1)) >>= _) _ _ s;refine SN (wpAny_setField ho hd (by simp) ?_)
 have BI:(s.heap.update it (Obj.mapFields (·.setIfInBounds 1 (rawInt ((i:Int)+1))))).IsKeyIter it d (i+1) es.size ep :=
  ⟨_,Heap.get?_update_self _ ho (Obj.isFreed_of_fields (Obj.data_mapFields hd _)),(Obj.cls_mapFields ..).trans hc,by rw[Obj.data_mapFields hd];simp[rawInt]⟩
 refine SN (Uu ?_);refine SN (wpAny_isOneOf_keyiter (s:={s with heap:=s.heap.update it (Obj.mapFields (·.setIfInBounds 1 (rawInt ((i:Int)+1))))}) BI.typeIs ?_)
 show Tn _ _ (pure es[i].key) _ _ _;exact SV (SV ⟨_,rfl,SV (hQ _ BI (Heap.SameBut.update ..))⟩)
end
section
variable {prog:SW}{w:S_}{A:Ud}{E:SO->SU->Prop}{s:SU}{d it:Addr}{es:Array Vs}{i ep:Nat}
theorem next_end {Q:Option SO->SU->Prop}(hh:A.handled=none)(hit:s.heap.IsKeyIter it d i es.size ep)(hm:At s.heap d es ep)(MO:es.size<=i)
  (hQ:∀h',Heap.ExtBut it s.heap h'->Q none {s with heap:=h'}):Tn (model prog w) A (XI (.ref it)) Q E s:=by
 obtain⟨o,ho,hc,hd⟩:=id hit;obtain⟨od,Jb,ui,Ji⟩:=id hm;unfold XI;refine SN (WX (VI (name:=WC "__next__") hit.typeIs F.slot_dict_keyiterator_next
  (UA F.slot_dict_keyiterator_next hit.typeIs F.entry_dict_keyiterator_next ?_ (F.args_dict_keyiterator_next_1 _))))
 refine SN (SV ?_);refine SN ?_;refine SN ?_
 first|refine SN (U7 hit.typeIs (SV ?_))|refine SN (Vy hit.typeIs (SV ?_))
 refine SN (wpAny_fieldsOf ho hd ?_);have Fx:XE "dict_keyiterator" = false:=by decide
 simp only[Fx,T9,if_false];show Tn _ _ (if (Value.ref d==Value.none)=true then _ else _) _ _ s
 rw[if_neg (show ¬ ((Value.ref d==Value.none)=true) from Uk)]
 refine SN (SV ?_);refine SN (Wd Jb Ji ?_);rw[if_neg (by simp)]
 refine SN (SV ?_);refine SN (Xz Jb Ji ?_);rw[if_neg (by simp)]
 refine SV ?_;simp only[show ¬ ((i:Int)<0) from by lia,if_false,UW,VT MO]
 refine SN ?_
 first|refine SN (U7 hit.typeIs (SV ?_))|refine SN (Vy hit.typeIs (SV ?_))
 show Tn _ _ (setField (.ref it) 0 .none >>= _) _ _ s;refine SN (wpAny_setField ho hd (by simp) ?_)
 show Tn _ _ (newExc (.type "StopIteration") [] >>= _) _ _ _;refine SN ?_;simp only[newExc,newTuple];refine SN (UI ?_ (by size_fits))
 refine SN (m:=firstArgMember _ _) (wpAny_of_eq (a:=Value.none) (by first|rfl|(simp only[firstArgMember];rfl)) ?_)
 refine UI ?_ (by size_fits)
 simp only[raiseNew];refine SN (wpAny_handled ?_);rw[show A.in1.handled=none from hh]
 refine SN (SV (wpAny_throw ?_));refine SN (Ws (T:="StopIteration") (b:=true) ⟨_,TU _ rfl,rfl⟩ isSubtype_stop ?_);exact SV (hQ _ (((Heap.SameBut.update ..).extBut.push _).push _))
theorem walks (hh:A.handled=none)(I d:Addr)(ug:d≠I)(es:Array Vs)(ep:Nat):
  Walks prog w A I [I,d] [I] es.size (λi v=>∃h:i<es.size,v=es[i].key) (λi h=>h.IsKeyIter I d i es.size ep/\At h d es ep) where
 sub:=λb hb=>by simp at hb;simp[hb]
 frame:=λ_ _ _ st hk=>⟨st.1.at λo e=>hk I (by simp) o e,st.2.at' λo e=>hk d (by simp) o e⟩
 item:=λi s Q E hi st hQ=>by
  refine next_item st.1 st.2 hi λh' BI Ot=>?_;exact hQ _ h' s.toks ⟨hi,rfl⟩ ⟨BI,st.2.at' λo e=>Ot.extBut d o ug e⟩ λb o hb e=>Ot.extBut b o (λh=>hb (by simp[h])) e
 done:=λs Q E st hQ=>next_end hh st.1 st.2 (SX _) λh' QW=>hQ h' s.toks λb o hb e=>QW b o (λh=>hb (by simp[h])) e
 self:=λ_ _ _ _ st hQ=>wpAny_pyIter_keyiter st.1 hQ
theorem src (lo:(d==Um)=false):PySem.W.KdlSrc prog w "dict" d d es.size (λi v=>∃h:i<es.size,v=es[i].key) (λh=>At h d es ep) where
 type:=λ_ hm=>hm.typeIs
 there:=λ_ hm=>⟨hm.lt,hm.lt⟩
 keep:=λ_ _ hm hk=>hm.at' λo e=>hk d (.inl rfl) o e
 notList:=by decide
 notTuple:=by decide
 hint:=λ_ _ _ _ hm hq=>PySem.W.kdl_hint_dict hm.typeIs hq
 iter:=λ_ _ hh hm=>⟨_,_,(λ_ _ hq=>vH lo hm hq),walks hh _ d (Tx hm.lt) es ep,⟨⟨_,TU _ rfl,rfl,rfl⟩,hm.at' λo e=>S1 _ e⟩⟩
theorem nM {R:List SO->SU->Prop}(lo:(d==Um)=false)(hm:At s.heap d es ep)(hn:es.size<=S7)(hh:A.handled=none)
  (h:∀(h':Heap) (tk:Nat),(∀b o,s.heap.get? b=some o->h'.get? b=some o)->R (es.toList.map (·.key)) {s with heap:=h',toks:=tk}):Tn (model prog w) A (collect (.ref d)) R E s:=by
 refine PySem.W.kdu_collect (src (es:=es) (ep:=ep) lo) hh hm hn λh' tk acc hk Jl=>?_;have e:acc.toList=es.toList.map (·.key):=by
  apply VR;intro i;rw[Th,To,To]
  by_cases hi:i<acc.size
  ·obtain⟨g1,g2⟩:=Jl.2 i acc[i] (getElem?_pos acc i hi);rw[getElem?_pos acc i hi,getElem?_pos es i g1,g2];rfl
  ·have:=Jl.1;rw[VT (by lia),VT (by lia)]
   rfl
 rw[e];exact h h' tk hk
end
end Dk
namespace L2.Q
open PySem PySem.Spec PySem.SeqAt PyProof.Rows HT
noncomputable def Ai:List Key->Option (List Int)
 |[]=>some []
 |.inl i::r=>(Ai r).map (i::·)
 |.inr _::_=>none
noncomputable def kY:List (List Key)->Option (List (List Int))
 |[]=>some []
 |k::r=>match Ai k,kY r with
  |some t,some ts=>some (t::ts)
  |_,_=>none
theorem wR:∀t:List Int,Ai (iK t)=some t
 |[]=>rfl
 |i::t=>by
  show (Ai (iK t)).map (i::·)=_;rw[wR t];rfl
theorem ou:∀ts:List (List Int),kY (ts.map iK)=some ts
 |[]=>rfl
 |t::ts=>by
  show (match Ai (iK t),kY (ts.map iK)with|some t,some ts=>some (t::ts)|_,_=>none)=_
  rw[wR,ou ts]
theorem wU:∀{k:List Key} {t:List Int},Ai k=some t->k=iK t
 |[],t,h=>by cases h;rfl
 |.inl i::r,t,h=>by
  obtain⟨u,h1,h2⟩:=Tq.mp (show (Ai r).map (i::·)=some t from h)
  rw[<- h2,wU h1];rfl
 |.inr _::_,t,h=>by cases h
theorem sX:∀{ks:List (List Key)} {ts:List (List Int)},kY ks=some ts->ks=ts.map iK
 |[],ts,h=>by cases h;rfl
 |k::r,ts,h=>by
  have h:(match Ai k,kY r with|some t,some ts=>some (t::ts)|_,_=>none)=some ts:=h
  cases h1:Ai k with
  |none=>rw[h1]at h;cases h
  |some t =>
   cases h2:kY r with
   |none=>rw[h1,h2]at h;cases h
   |some us =>
    rw[h1,h2]at h;cases h;rw[wU h1,sX h2];rfl
noncomputable def zi:List D->Option D
 |[.dT ks _]=>match kY ks with
  |some ts=>if ts.length<=1000/\(∀k∈ts,k≠[]) then some (.lst ((d3 ts).map kD)) else none
  |none=>none
 |_=>none
theorem Ao {ts:List (List Int)}{b:Bool}(h:∀k∈ts,k≠[])(l:ts.length<=1000):zi [dP ts b]=some (.lst ((d3 ts).map kD)):=by
 show (match kY (ts.map iK)with|some ts=>if ts.length<=1000/\(∀k∈ts,k≠[]) then some (D.lst ((d3 ts).map kD)) else none|none=>none)=_
 rw[ou];exact if_pos ⟨l,h⟩
theorem t_ {H:Hp}:∀{ts:List (List Int)} {vs:List V} {xs:List (List Key×Addr×SO)},(ts.map iK).length=vs.length ->
  Paired (λ(p:List Key×V) (q:List Key×Addr×SO)=>p.1=q.1/\H q.2.1=some (.tup (p.1.map kV))/\RelV p.2 q.2.2) ((ts.map iK).zip vs) xs->∃us:List (Addr×List Int),xs.map (λq=>Value.ref q.2.1)=us.map (λx=>Value.ref x.1)/\us.map (·.2)=ts/\∀u∈us,H u.1=some (.tup (u.2.map V.int))
 |[],vs,xs,_,p=>by cases p;exact⟨[],rfl,rfl,λ_ z=>(nomatch z)⟩
 |t::ts,[],xs,l,p=>by cases l
 |t::ts,v::vs,xs,l,p=>by
  cases p with
  |cons h r =>
   obtain⟨us,h1,h2,h3⟩:=t_ (VP l) r
   rename_i q iU
   refine⟨(q.2.1,t)::us,by rw[S4,S4,h1],by rw[S4,h2],λu hu=>?_⟩
   rcases S5.mp hu with rfl|hu
   ·have:=h.2.1;rw[CY]at this;exact this
   ·exact h3 u hu
theorem nP {X:Cx} (hc:X.calm=true):nZ X (.builtin "sorted") zi:=by
 intro pins s σ H xs RX Q I r h;obtain⟨W,ds,d,hd,r1,e,q⟩:=h
 match ds,e with
 |[.dT ks fs],e =>
  have e:(match kY ks with|some ts=>if ts.length<=1000/\(∀k∈ts,k≠[]) then some (D.lst ((d3 ts).map kD)) else none|none=>none)=some d:=e
  cases hk:kY ks with
  |none=>rw[hk]at e;cases e
  |some ts =>
   rw[hk]at e;obtain⟨⟨hl,ug⟩,rfl⟩:=ff e;have:=sX hk;subst this;obtain⟨x,rfl,p,vs,rfl,hp,QM,nW,rs⟩:=g_ r1;obtain⟨u,rfl,rx⟩:=vals1 r;cases rx;obtain⟨z,y,iU,pr,o,es,ep,h1,h2,h3,h4,h5⟩:=(show bb X.prog X.w H s.heap p (.dT ((ts.map iK).zip vs)) from I.a_ p _ hp)
   obtain⟨us,eu,ek,T⟩:=t_ QM pr;have T2:zR H us:=λt ht=>⟨T t ht,ug _ (by rw[<- ek];exact Ti.mpr ⟨t,ht,rfl⟩)⟩
   have ul:us.length=ts.length:=by rw[<- ek,SS]
   have ev:es.toList.map (·.key)=us.map λx=>Value.ref x.1:=by
    rw[h4,T1,<- eu];rfl
   have Rk:es.size=us.length:=by
    have:=congrArg List.length ev;rw[SS,SS,Tj]at this;exact this
   refine TS.qW (vs:=us.map λx=>Value.ref x.1) (kf:=rP H) (by rw[SS];lia) (λR hR=>Dk.nM (es:=es) (ep:=ep) y ⟨o,h1,h2,h3⟩ (by rw[Rk,ul,TF];lia) (by simp[I.ok.hd hc]) λh' tk kp=>by rw[ev];exact hR h' tk kp) (sZ I.a_ T2 (SX _)) λout n_ h' tk n BG hs k1 kp qG=>?_
   ·obtain⟨e1,e2⟩:=lQ T2 BG;have zl:out.length=us.length:=by rw[BG.length_eq,SS]
    have eq:(out.map (BN H)).map (·.2)=d3 ts:=by
     refine xc (by rw[<- ek];exact e2.map _) ?_
     refine T8.mpr (T8.mpr ?_);refine hs.imp_of_mem λ{x y} hx hy hh=>?_;obtain⟨t,ht,rfl⟩:=Ti.mp (BG.mem_iff.mp hx);obtain⟨t',Gw,rfl⟩:=Ti.mp (BG.mem_iff.mp hy);exact hh
    have I1:Inv X pins σ H {s with heap:=n_,toks:=s.toks}:=I.kept k1
    have MP:H n_.objs.size=none:=I1.a_.fresh (SX _);have rk:ag X.prog X.w W H ((d3 ts).map kD) ((out.map (BN H)).map mQ):=by rw[<- eq];exact il λt ht=>(T2 t (e2.mem_iff.mp ht)).1
    refine⟨.ref n_.objs.size,_,I1.laid (t':=tk) (o:=.lst ((out.map (BN H)).map mQ)) kp (SX _) ?_,rfl,q _ _ (au.new MP) (Rp.iD hd MP rk) λf=>vx MP f rk⟩;refine⟨by rw[SS,SS,zl,ul,TF];lia,out,n,?_,qG⟩
    have:=ip (out.map (BN H));rw[<- e1]at this;exact this
def Cy (x:Str):List D:=x.cps.toList.map λc=>.str ⟨#[c]⟩
theorem As (x:Str):(Cy x).length=x.cps.size:=by simp[Cy]
theorem Au {x:Str}{i:Nat}{d:D}(h:(Cy x)[i]?=some d):∃c,x.cps[i]?=some c/\d=.str ⟨#[c]⟩:=by
 rw[Cy,Th]at h;obtain⟨c,e,rfl⟩:=Tq.mp h;exact⟨c,by simpa using e,rfl⟩
section
variable {X:Cx}{C:Cfg}{p:Bool}{a:Expr}{φs:cg}{pp pos:Pos}{elts:List Expr}{kk:Nat}{KA:Pos}
theorem vI {W:Addr->Prop}{x:Str}{H:Hp}:wz X W (JJ x) (mv (Cy x)) H:=λW' hW i H' k=>by
 constructor
 ·intro d hd;obtain⟨b,hb,rfl⟩:=iL hd;obtain⟨c,ec,rfl⟩:=Au hb;have hi:i<x.cps.size:=(Array.getElem?_eq_some_iff.mp ec).1;refine⟨hi,λv H1 fV=>?_⟩;obtain⟨T,c',hT,e,OT,eH⟩:=fV;rw[ec]at OT;cases OT;subst e eH;exact⟨au.new hT,Rp.DH hT (.cons rfl (.cons rfl .nil))⟩
 ·intro hl;rw[iJ,As]at hl;exact hl
def BC (φs:cg):bN:=λβ R=>φs β λl ks β1=>∃x,l=[.str x]/\ud x/\R (mv (Cy x)) .old β1
theorem lO (hm:X.mg "enumerate" = none) (ha:qA X C p [a] φs) (hg:Gl X "enumerate" := by rfl) (hs:Te [a] X.env=[(false,eval a X.env)]:=by rfl) :
  oh X C p (.Tuple elts kk KA) (.Call (.Name "enumerate" pp) [a] [] pos) (BC φs):=by
 refine⟨λβ R R' k q=>ha.mono β _ _ (λl ks β1 ji=>by obtain⟨x,e,ex,q⟩:=ji;exact⟨x,e,ex,k _ _ _ q⟩) q,λpins s σ H R I h=>?_⟩
 obtain⟨β,own,sq,h⟩:=h;refine Call_ (gh I hg hm Cf (UL (bw (ha.pa pos pins s σ H _ I (qU.of ha sq h λds ks β' vs H1 aA h o1 r1=>(⟨ds,ks,β',aA,h,o1,r1.gH⟩:∃ds ks β' aA,(∃x,ds=[.str x]/\ud x/\∀J H' aK,Out X C σ H own p β' H' aK->wz X (av C (Wn aK) .old) J (mv (Cy x)) H'->R J H')/\Out X C σ H own p β' H1 aA/\ag X.prog X.w (av C (Wn aA) (fU ks)) H1 ds vs)))
  λus s1 ⟨vs,H1,I1,rv,h⟩=>?_) hs rfl))
 obtain⟨ds,ks,β',aA,⟨x,rfl,ex,q⟩,o1,r1⟩:=h;obtain⟨y,rfl,ry⟩:=g_ r1;cases (show y=.str x from ry)
 obtain⟨v1,rfl,e1⟩:=vals1 rv;obtain⟨t,rfl⟩:=e1;refine call_enumerate_str λh' y1 y2 y3 y4=>wpAny_pyIter_enum y1 ?_;have I2:Inv X pins σ H1 {s1 with heap:=h'}:=I1.kept (t':=s1.toks) y4
 rw[Gg ex]at y2;refine⟨_,_,_,_,H1,rfl,I2,qS (Nat.succ_ne_self _),⟨Tb _,⟨_,y1⟩,y2⟩,λb hb=>?_,q _ _ aA o1 vI⟩;have pQ:s1.heap.objs.size<=b:=by
  simp only[S5,UD,or_false]at hb;rcases hb with rfl|rfl <;> first|exact Nat.le_add_right _ _|exact SX _
 exact I1.vR pQ (I1.a_.fresh pQ)
end
section
end
theorem B5 (a b:Str)(ha:(D.str a).lb=true:=by decide +kernel)(hb:(D.str b).lb=true:=by decide +kernel):z7 (.str a) (.str b)=some (.bl (!decide (a=b))):=by
 unfold z7;rw[if_pos ⟨ha,hb⟩];show some (D.bl (!(a==b)))=_;rw[show (a==b)=decide (a=b) from UJ.mpr (by rw[beq_iff_eq,decide_eq_true_iff])]
theorem Ca (a b:Str)(ha:(D.str a).lb=true:=by decide +kernel)(hb:(D.str b).lb=true:=by decide +kernel):z9 (.str a) (.str b)=some (.bl (decide (a=b))):=by
 unfold z9;rw[if_pos ⟨ha,hb⟩];show some (D.bl (a==b))=_;rw[show (a==b)=decide (a=b) from UJ.mpr (by rw[beq_iff_eq,decide_eq_true_iff])]
def cV:List Nat->Int->List Int->List (List Int)->Option (List Int×List (List Int))
 |[],_,ws,fs=>some (ws,fs)
 |c::cs,at_,ws,fs =>
  if c=40 then cV cs (at_+1) (ws++[at_]) fs
  else if c=41/\ws≠[] then cV cs (at_+1) ws.dropLast (fs++[[ws.getLastD 0,at_]])
  else if c≠46 then none
  else cV cs (at_+1) ws fs
def JA (cs:List Nat):D :=
 match cV cs 0 [] []with
 |none=>.bJ
 |some (ws,fs)=>if ws=[] then .lst ((d3 fs).map kD) else .bJ
theorem xk (cs:List Nat):Cy (cw cs)=cs.map λc=>D.str (fu c):=by
 show (cs.toArray.toList.map _)=_;rw[List.toList_toArray];rfl
theorem pK {cs:List Nat}(h:∀c∈cs,c<128):ud (cw cs):=by
 show (cs.toArray.all λx=>decide (x<128))=true;simpa using h
theorem w_ (a b:Nat):(fu a=fu b)↔a=b:=by
 constructor
 ·intro h;have:(#[a]:Array Nat)=#[b]:=congrArg Str.cps h;simpa using this
 ·rintro rfl;rfl
theorem xa {cs:List Nat}(h:∀c∈cs,c<128):PyData.strOk (cw cs)=true:=by
 unfold PyData.strOk cw;rw[Array.all_eq_true'];intro x hx;have:=h x (List.mem_toArray.mp hx);exact decide_eq_true (by lia)
theorem DX {cs:List Nat}(h:∀c∈cs,c<128):(D.str (cw cs)).lb=true :=
 cG (n:=3) ⟨xa h,by show US (.str _)<=3;simp[US]⟩
theorem mZ {c:Nat}(h:c<128):(D.str (fu c)).lb=true:=DX (cs:=[c]) λx z=>by rw[S3.mp z];exact h
theorem zu {a b:Nat}(ha:a<128)(hb:b<128):z9 (.str (fu a)) (.str (fu b))=some (.bl (decide (a=b))):=by
 rw[Ca _ _ (mZ ha) (mZ hb),decide_eq_decide.mpr (w_ a b)]
theorem FX {a b:Nat}(ha:a<128)(hb:b<128):z7 (.str (fu a)) (.str (fu b))=some (.bl (!decide (a=b))):=by
 rw[B5 _ _ (mZ ha) (mZ hb),decide_eq_decide.mpr (w_ a b)]
theorem zv {c:Nat} (h:c<128):z9 (.str (fu c)) (.str "(")=some (.bl (decide (c=40))):=by rw[F6];exact zu h (by decide)
theorem F0 {c:Nat} (h:c<128):z9 (.str (fu c)) (.str ")")=some (.bl (decide (c=41))):=by rw[F5];exact zu h (by decide)
theorem zj {c:Nat} (h:c<128):z7 (.str (fu c)) (.str ".")=some (.bl (!decide (c=46))):=by rw[Jw];exact FX h (by decide)
end L2.Q
namespace L2
open PySem PySem.Spec PySem.SeqAt PyProof.Rows
def Apart (t u:List Int):Prop:=jP t u=false/\sG t u=false
def Good (rows ts:List (List Int)):Prop:=(∀t∈ts,t∈rows)/\ts.Pairwise (λa b=>HT.lexLt a b=true)/\ts.Pairwise Apart
theorem dg {t u:List Int}:jP t u=true↔∃i∈t,i∈u:=by
 unfold jP;rw[List.any_eq_true];simp
theorem oI (t u:List Int):jP t u=jP u t:=by
 rw[UJ,dg,dg];exact⟨λji=>by obtain⟨i,a,b⟩:=ji;exact⟨i,b,a⟩,λkl=>by obtain⟨i,a,b⟩:=kl;exact⟨i,b,a⟩⟩
theorem sH {a b c d:Int}:nL a b c d=true↔(a<c/\c<b/\b<d)\/(c<a/\a<d/\d<b):=by
 unfold nL;simp[WM,TB]
theorem qm (t u:List Int):sG t u=sG u t:=by
 match t,u with
 |[a,b],[c,d] =>
  exact Bool.or_comm _ _
 |[],[]=>rfl
 |[],[_]=>rfl
 |[],[_,_]=>rfl
 |[],_::_::_::_=>rfl
 |[_],[]=>rfl
 |[_],[_]=>rfl
 |[_],[_,_]=>rfl
 |[_],_::_::_::_=>rfl
 |[_,_],[]=>rfl
 |[_,_],[_]=>rfl
 |[_,_],_::_::_::_=>rfl
 |_::_::_::_,[]=>rfl
 |_::_::_::_,[_]=>rfl
 |_::_::_::_,[_,_]=>rfl
 |_::_::_::_,_::_::_::_=>rfl
theorem Apart.symm {t u:List Int}(h:Apart t u):Apart u t:=⟨(oI u t).trans h.1,(qm u t).trans h.2⟩
theorem Apart.ne {t u:List Int}(p:Pair t)(h:Apart t u):t≠u:=λe=>by
 obtain⟨a,b,rfl⟩:=p;have:=h.1;rw[<- e,Wl]at this;exact this (dg.mpr ⟨a,by simp,by simp⟩)
theorem pw_iff {R:List Int->List Int->Prop}{ts:List (List Int)}:ts.Pairwise R↔∀(i j:Nat) (u t:List Int),i<j->ts[i]?=some u->ts[j]?=some t->R u t:=by
 rw[V_];refine⟨λh i j u t aE e1 e2=>?_,λh i j hi hj aE=>h i j _ _ aE (Td hi) (Td hj)⟩;obtain⟨hi,rfl⟩:=SY.mp e1;obtain⟨hj,rfl⟩:=SY.mp e2;exact h i j hi hj aE
theorem yN {rows l:List (List Int)}(p:Pairs l):Good rows (d3 l)↔(∀t∈l,t∈rows)/\l.Pairwise Apart:=by
 have pm:=bp l;have ps:Pairs (d3 l):=λt ht=>p t (pm.mem_iff.mp ht);constructor
 ·rintro⟨h1,_,h3⟩;exact⟨λt ht=>h1 t (pm.mem_iff.mpr ht),(pm.pairwise_iff λh=>Apart.symm h).mp h3⟩
 ·rintro⟨h1,h3⟩;have OQ:(d3 l).Pairwise Apart:=(pm.pairwise_iff λh=>Apart.symm h).mpr h3;refine⟨λt ht=>h1 t (pm.mem_iff.mp ht),?_,OQ⟩;have nd:(d3 l).Pairwise (λa b=>a≠b):=OQ.imp_of_mem λha _ h=>h.ne (ps _ ha);refine((fw l).and nd).imp λ{a b} ⟨h,n⟩=>?_;cases q:HT.lexLt a b with
  |true=>rfl
  |false=>exact absurd (fc q h) n
theorem uo (t:List Int):(kD t).flat=true:=by
 have:=dB [t];show D.dS (t.map D.int)=true;have h:(D.dS (t.map D.int)&&true)=true:=this
 rwa [Bool.and_true]at h
end L2
namespace L2.Q
open PySem PySem.Spec PySem.SeqAt PyProof.Rows
structure Bs3 (mg:Str->Option SO):Prop extends Bs2 mg where
 sum:mg "sum" = none
def tI (p:Nat×Nat):List Int:=[(p.1:Int),(p.2:Int)]
theorem DO {p q:Nat×Nat}(h:tI p=tI q):p=q:=by
 unfold tI at h;injection h with h1 h2
 injection h2 with h2 _
 exact Prod.ext (Int.ofNat.inj h1) (Int.ofNat.inj h2)
def JR (ps:List (Nat×Nat)):D:=.lst (ps.map λp=>kD (tI p))
def zW (n:Nat)(ps:List (Nat×Nat)):D:=.tup [.int n,JR ps]
structure Gp (n:Nat)(ps:List (Nat×Nat)):Prop where
 lt:∀p∈ps,p.1<p.2/\p.2<n
 nd:ps.Nodup
 le:n<=80
 sm:ps.length<=400
theorem oA {n:Int}{ts:List (List Int)}(n0:0<=n)(h:cJ n ts):∃ps:List (Nat×Nat),ts=ps.map tI/\∀p∈ps,p.1<p.2/\p.2<n.toNat:=by
 induction ts with
 |nil=>exact⟨[],rfl,λ_ z=>(nomatch z)⟩
 |cons t ts ih =>
  obtain⟨ps,e,q⟩:=ih λu hu=>h u (by simp[hu])
  obtain⟨a,b,rfl,h1,h2,h3⟩:=h t (by simp)
  refine⟨(a.toNat,b.toNat)::ps,?_,λp hp=>?_⟩
  ·rw[S4,<- e]
   congr 1
   show [a,b]=[((a.toNat:Nat):Int),((b.toNat:Nat):Int)];rw[WU h1,WU (by lia)]
  ·rcases S5.mp hp with rfl|hp
   ·exact⟨by show a.toNat<b.toNat;lia,by show b.toNat<n.toNat;lia⟩
   ·exact q p hp
theorem Az {n:Int}{ts:List (List Int)}(n0:0<=n)(n1:n<=80)(l:ts.length<=400)(h:cJ n ts)(nd:ts.Nodup):∃(m:Nat) (ps:List (Nat×Nat)),Gp m ps/\n=m/\ts=ps.map tI/\D.tup [.int n,.lst (ts.map kD)]=zW m ps:=by
 obtain⟨ps,e,q⟩:=oA n0 h;refine⟨n.toNat,ps,⟨q,?_,by lia,by rw[e,SS]at l;exact l⟩,by lia,e,?_⟩
 ·rw[e]at nd;exact(T8.mp nd).imp λz e=>z (congrArg tI e)
 ·unfold zW JR;rw[e,T1,WU n0];rfl
noncomputable def c6 (l:List Nat):List D:=l.map λ(k:Nat)=>D.int (k:Int)
def kQ (ps:List (Nat×Nat))(i:Nat):List Nat:=(ps.filter λp=>decide (p.1=i)).map (·.2)
theorem nB {ps:List (Nat×Nat)}{i k:Nat}:k∈kQ ps i↔(i,k)∈ps:=by
 unfold kQ;rw[Ti];constructor
 ·rintro⟨p,hp,rfl⟩;obtain⟨h1,h2⟩:=Uy.mp hp;rw[<- of_decide_eq_true h2];exact h1
 ·intro h;exact⟨(i,k),Uy.mpr ⟨h,by simp⟩,rfl⟩
def El (n:Nat)(ps:List (Nat×Nat)):D:=.lst ((Tt n).map λi=>.lst (c6 (kQ ps i)))
theorem cA {α:Type}{n i:Nat}{f:Nat->α}(h:i<n):((Tt n).map f)[i]?=some (f i):=by
 rw[Th,Uv h];rfl
theorem yv {ds:List D}{x:Int}{i:Nat}{d:D}(hx:x=(i:Int))(h:ds[i]?=some d):z8 (.lst ds) (.int x)=some d:=by rw[hx];exact B9 h
theorem LK {n:Nat}{ps:List (Nat×Nat)}{x:Int}{i:Nat}(hx:x=(i:Int))(h:i<n):z8 (El n ps) (.int x)=some (.lst (c6 (kQ ps i))):=yv hx (cA h)
def mP (L:Nat)(T:Nat->Int):List D:=(Tt L).map λl=>.int (T l)
def mO (n:Nat)(L:Nat->Nat)(T:Nat->Nat->Int):D:=.lst ((Tt (n+1)).map λi=>.lst (mP (L i) λl=>T l i))
theorem ub {L:Nat}{T:Nat->Int}{x:Int}{l:Nat}(hx:x=(l:Int))(h:l<L):z8 (.lst (mP L T)) (.int x)=some (.int (T l)):=yv hx (cA h)
theorem ua {n:Nat}{L:Nat->Nat}{T:Nat->Nat->Int}{x:Int}{i:Nat}(hx:x=(i:Int))(h:i<=n):z8 (mO n L T) (.int x)=some (.lst (mP (L i) λl=>T l i)):=yv hx (cA (by lia))
def dF (n a:Nat):List (Nat×Nat):=(Tt (a+1)).map λb=>(n-1-a,n-a+b)
def mR (n:Nat):List (Nat×Nat):=(Tt n).flatMap (dF n)
def Ln (p:Nat×Nat):D:=.tup [.int (p.1:Int),.int (p.2:Int)]
def dO (n a b:Nat):List (Nat×Nat):=(dF n a).drop b++((Tt n).drop (a+1)).flatMap (dF n)
theorem f_ {n a b:Nat}(h:b<=a):dO n a b=(n-1-a,n-a+b)::dO n a (b+1):=by
 unfold dO dF;rw[Ts (by rw[SS,TR];lia)]
 simp
theorem mx {n a:Nat}(h:a<n):((Tt n).drop a).flatMap (dF n)=dO n a 0:=by
 unfold dO;rw[Ts (by rw[TR];exact h)]
 simp
theorem lL {n a:Nat}(h:a+1<n):dO n a (a+1)=dO n (a+1) 0:=by
 rw[<- mx h];unfold dO dF;simp
theorem rd {n a:Nat}(h:n<=a+1):dO n a (a+1)=[]:=by
 unfold dO dF;rw[List.drop_eq_nil_of_le (by simp),List.drop_eq_nil_of_le (by simpa using h)]
 rfl
theorem uW {n:Nat}(h:0<n):mR n=dO n 0 0:=by rw[<- mx h];rfl
theorem iE {α:Type}{γ:cD}{τ:aW}{φ:aJ}{l:List α}{f:α->D}{k:Kd}{kJ:a9}{K:List D->Prop}(t:α->Bool)(g:α->D)(h0:dA kJ kJ)(hl:l.length<=S7)
  (h:∀x∈l,∀(x0:Option B) (o:List D) (J:a9->List D->Prop),o.length<S7->(t x=true->∀x0,J (x0::kJ) (o++[g x]))->(t x=false->∀x0,J (x0::kJ) o)->γ (f x) (sk k (f x)) (x0::kJ) λβ1=>τ β1 λt β2=>if t=true then φ β2 λx kx β3=>Bv kx x/\o.length<S7/\J β3 (o++[x]) else J β2 o)
  (q:K ((l.filter t).map g)):i5 γ τ φ (l.map f) k (none::kJ) K:=by
 refine⟨λi β o=>i<=l.length/\(∃x0,β=x0::kJ)/\o=((l.take i).filter t).map g,⟨Tb _,⟨_,rfl⟩,rfl⟩,?_,?_⟩
 ·rintro i d β o hd ⟨hi,⟨x0,rfl⟩,rfl⟩;rw[Th]at hd;obtain⟨x,hx,rfl⟩:=Tq.mp hd;have eQ:i<l.length:=(SY.mp hx).1;have hle:(((l.take i).filter t).map g).length<S7:=by
   rw[SS];have:=VV t (l.take i);rw[Uj]at this;lia
  have e:l.take (i+1)=l.take i++[x]:=by rw[UU,hx];rfl
  refine h x (TY hx) x0 _ (λβ o=>i+1<=l.length/\(∃x0,β=x0::kJ)/\o=((l.take (i+1)).filter t).map g) hle (λht x0=>?_) λht x0=>?_
  ·exact⟨eQ,⟨_,rfl⟩,by rw[e,Va,TQ,U4,if_pos ht];rfl⟩
  ·exact⟨eQ,⟨_,rfl⟩,by rw[e,Va,TQ,U4,if_neg (by rw[ht];simp)];simp⟩
 ·rintro β o ⟨_,⟨x0,rfl⟩,rfl⟩;rw[SS,Wv];exact⟨h0,q⟩
theorem nC {α:Type}{γ:cD}{τ:aW}{φ:aJ}{l:List α}{f:α->D}{k:Kd}{kJ:a9}{K:List D->Prop}(t:α->Bool)(g:α->D)(h0:dA kJ kJ)(hl:l.length<=S7)
  (h:∀x∈l,∀(x0 x1:Option B) (o:List D) (J:a9->List D->Prop),o.length<S7->(t x=true->∀x0 x1,J (x0::x1::kJ) (o++[g x]))->(t x=false->∀x0 x1,J (x0::x1::kJ) o)->γ (f x) (sk k (f x)) (x0::x1::kJ) λβ1=>τ β1 λt β2=>if t=true then φ β2 λx kx β3=>Bv kx x/\o.length<S7/\J β3 (o++[x]) else J β2 o)
  (q:K ((l.filter t).map g)):i5 γ τ φ (l.map f) k (none::none::kJ) K:=by
 refine⟨λi β o=>i<=l.length/\(∃x0 x1,β=x0::x1::kJ)/\o=((l.take i).filter t).map g,⟨Tb _,⟨_,_,rfl⟩,rfl⟩,?_,?_⟩
 ·rintro i d β o hd ⟨hi,⟨x0,x1,rfl⟩,rfl⟩;rw[Th]at hd;obtain⟨x,hx,rfl⟩:=Tq.mp hd;have eQ:i<l.length:=(SY.mp hx).1;have hle:(((l.take i).filter t).map g).length<S7:=by
   rw[SS];have:=VV t (l.take i);rw[Uj]at this;lia
  have e:l.take (i+1)=l.take i++[x]:=by rw[UU,hx];rfl
  refine h x (TY hx) x0 x1 _ (λβ o=>i+1<=l.length/\(∃x0 x1,β=x0::x1::kJ)/\o=((l.take (i+1)).filter t).map g) hle (λht x0 x1=>?_) λht x0 x1=>?_
  ·exact⟨eQ,⟨_,_,rfl⟩,by rw[e,Va,TQ,U4,if_pos ht];rfl⟩
  ·exact⟨eQ,⟨_,_,rfl⟩,by rw[e,Va,TQ,U4,if_neg (by rw[ht];simp)];simp⟩
 ·rintro β o ⟨_,⟨x0,x1,rfl⟩,rfl⟩;rw[SS,Wv];exact⟨h0,q⟩
theorem bS {α:Type}{l:List α}:l.filter (λ_=>true)=l:=List.filter_eq_self.mpr λ_ _=>rfl
theorem qj {a b:List D}(h:a.length+b.length<=1000000):Jv (.lst a) (.lst b)=some (.lst (a++b)):=by
 show (if a.length+b.length<=S7 then _ else _)=_
 rw[if_pos (T_ h (by decide))]
def yW:FD:=λds R=>∃n:Nat,ds=[.int n]/\n<=80/\R (.lst ((mR n).map Ln))
theorem yW.mono:fI yW:=λds R R' k h=>by obtain⟨n,e,h1,q⟩:=h;exact⟨n,e,h1,k _ q⟩
def qa:FD:=λds R=>∃n ps,ds=[zW n ps]/\Gp n ps/\R (El n ps)
theorem qa.mono:fI qa:=λds R R' k h=>by obtain⟨n,ps,e,h1,q⟩:=h;exact⟨n,ps,e,h1,k _ q⟩
abbrev cU (n:Nat)(T:Nat->Nat->Int):D:=mO n (λi=>n+1-i) T
theorem oB {n:Nat}(h:n<=1000):n<=S7:=T_ h (by decide)
theorem Cw {n:Nat}(h:n<=1000):n<S7:=Nat.lt_of_le_of_lt h (by decide)
theorem vG {n i:Nat}{x:Int}(hx:x=(i:Int))(h:i<n):qF n x=some i:=by
 subst hx;unfold qF;rw[if_pos (by lia),if_pos (by lia)]
 simp
theorem m6 {α:Type}{n i:Nat}{f:Nat->α}{y:α}(h:i<n):((Tt n).map f).set i y=(Tt n).map λk=>if k=i then y else f k:=by
 refine VR λk=>?_;rw[VQ]
 by_cases hk:k<n
 ·rw[cA hk,cA hk,SS,TR]
  by_cases e:i=k
  ·rw[if_pos e,if_pos (e▸hk),if_pos e.symm]
  ·rw[if_neg e,if_neg (U_ e)]
 ·rw[UN (l:=(Tt n).map f) (by simpa using hk),UN (l:=(Tt n).map λk=>if k=i then y else f k) (by simpa using hk),if_neg (by lia)]
theorem DZ {n i k:Nat}{ps:List (Nat×Nat)}(h:i<n):((Tt n).map λj=>D.lst (c6 (kQ ps j))).set i (.lst (c6 (kQ ps i)++[D.int k]))=(Tt n).map λj=>D.lst (c6 (kQ (ps++[(i,k)]) j)):=by
 rw[m6 h];refine T5 λj _=>?_;unfold kQ c6;rw[Va,TQ,TQ]
 by_cases e:j=i
 ·rw[if_pos e,e];simp
 ·rw[if_neg e,U4,if_neg (by simpa using U_ e)];simp
theorem AI {ps:List (Nat×Nat)}{i:Nat}:(kQ ps i).length<=ps.length:=by
 unfold kQ;rw[SS];exact VV _ _
def fe (n a b:Nat)(i:Nat):Nat:=if n-1-a<i then n+1-i else if i=n-1-a then b+1 else 1
theorem Av {n a b:Nat}{T:Nat->Nat->Int}(ha:a<n)(hb:b<=a):
  ((Tt (n+1)).map λi=>D.lst (mP (fe n a b i) λl=>T l i)).set (n-1-a) (.lst (mP (b+1) (λl=>T l (n-1-a))++[D.int (T (b+1) (n-1-a))]))=(Tt (n+1)).map λi=>D.lst (mP (fe n a (b+1) i) λl=>T l i):=by
 rw[m6 (by lia)]
 refine T5 λi _=>?_;unfold fe
 by_cases e:i=n-1-a
 ·rw[if_pos e,e,if_neg (by lia),if_pos rfl]
  unfold mP;rw[List.range_succ (n:=b+1),TQ];rfl
 ·rw[if_neg e,if_neg e,if_neg e]
theorem vC {n a:Nat}(h:a+1<n)(i:Nat)(hi:i<=n):fe n a (a+1) i=fe n (a+1) 0 i:=by
 unfold fe
 by_cases h1:n-1-a<i
 ·rw[if_pos h1,if_pos (by omega)]
 ·rw[if_neg h1]
  by_cases h2:i=n-1-a
  ·rw[if_pos h2,if_pos (by omega)];omega
  ·rw[if_neg h2,if_neg (by omega)]
   split <;> rfl
theorem yn {n a:Nat}(h:n=a+1)(i:Nat)(hi:i<=n):fe n a (a+1) i=n+1-i:=by
 unfold fe
 split
 ·rfl
 ·split <;> lia
theorem rM {n:Nat}(h:0<n)(i:Nat)(hi:i<=n):fe n 0 0 i=1:=by
 unfold fe
 split
 ·lia
 ·split <;> rfl
theorem lH {n:Nat}{L L':Nat->Nat}{T:Nat->Nat->Int}(h:∀i,i<=n->L i=L' i):mO n L T=mO n L' T:=by
 unfold mO
 congr 1
 refine T5 λi hi=>?_;rw[h i (by have:=U3.mp hi;lia)]
def uT (n idx:Nat)(L:Nat->Nat):Prop:=(n=0/\L 0=1)\/∃a b,a<n/\b<=a+1/\(∀i,i<=n->L i=fe n a b i)/\(mR n).drop idx=dO n a b
theorem qe {n:Nat}:uT n 0 λ_=>1:=by
 rcases Nat.eq_zero_or_pos n with h|h
 ·exact .inl ⟨h,rfl⟩
 ·exact .inr ⟨0,0,h,Tb _,λi hi=>(rM h i hi).symm,uW h⟩
theorem v7 {n:Nat}{L:Nat->Nat}(h:uT n (mR n).length L):∀i,i<=n->L i=n+1-i:=by
 rcases h with⟨rfl,h⟩|⟨a,b,h1,h2,h3,h4⟩
 ·intro i hi;rw[show i=0 by lia,h]
 ·intro i hi;rw[U5]at h4;have hb:b=a+1:=by
   rcases UT a b with q|q
   ·lia
   ·rw[f_ q]at h4;cases h4
  have ha:n=a+1:=by
   rcases UT (a+1) n with q|q
   ·rw[hb,lL q,f_ (Tb _)]at h4;cases h4
   ·lia
  rw[h3 i hi,hb];exact yn ha i hi
theorem sv {n idx:Nat}{L:Nat->Nat}{p:Nat×Nat}(h:uT n idx L)(hp:(mR n)[idx]?=some p):∃a b,a<n/\b<=a/\p=(n-1-a,n-a+b)/\(∀i,i<=n->L i=fe n a b i)/\(mR n).drop (idx+1)=dO n a (b+1):=by
 have hd:(mR n).drop idx=p::(mR n).drop (idx+1):=by
  obtain⟨h1,h2⟩:=SY.mp hp;rw[Ts h1,h2]
 rcases h with⟨rfl,h⟩|⟨a,b,h1,h2,h3,h4⟩
 ·cases hp
 ·have key:∃a b,a<n/\b<=a/\(∀i,i<=n->L i=fe n a b i)/\(mR n).drop idx=dO n a b:=by
   rcases UT a b with q|q
   ·have e:b=a+1:=by lia
    rcases UT (a+1) n with q2|q2
    ·exact⟨a+1,0,q2,Tb _,λi hi=>by rw[h3 i hi,e,vC q2 i hi],by rw[h4,e,lL q2]⟩
    ·rw[h4,e,rd q2]at hd;cases hd
   ·exact⟨a,b,h1,q,h3,h4⟩
  obtain⟨a,b,h1,h2,h3,h4⟩:=key;rw[h4,f_ h2]at hd;injection hd with e1 e2
  exact⟨a,b,h1,h2,e1.symm,h3,e2.symm⟩
theorem oK {n a:Nat}:(dF n a).length=a+1:=by unfold dF;simp
theorem vd {n a b:Nat}(h:b<a+1):(dF n a).take (b+1)=(dF n a).take b++[(n-1-a,n-a+b)]:=by
 rw[UU];unfold dF;rw[cA h];rfl
theorem xl {n a:Nat}:(dF n a).take (a+1)=dF n a:=UM (by rw[oK];exact SX _)
theorem pV {n:Nat}:∀a:Nat,a<=n->(((Tt n).take a).flatMap (dF n)).length<=a*a
 |0,_=>by simp
 |a+1,h=>by
  have:=pV (n:=n) a (by lia)
  rw[UU,Uv (show a<n by lia),List.flatMap_append,Tw]
  have e:((some a).toList.flatMap (dF n)).length=a+1:=by simp[oK]
  rw[e,Nat.mul_add,Nat.add_mul];lia
theorem w9 {n a b:Nat}(hn:n<=80)(ha:a<n)(hb:b<a+1):(((Tt n).take a).flatMap (dF n)).length+((dF n a).take b).length<S7:=by
 have h1:=pV (n:=n) a (by lia)
 have h2:((dF n a).take b).length<=b:=by rw[Uj];exact XB _ _
 have h3:a*a<=80*80:=Nat.mul_le_mul (by lia) (by lia)
 have h4:80*80+80<S7:=by decide
 lia
def mq:Nat->Nat
 |0=>1
 |n+1=>(n+1)*mq n
theorem uA (a:Nat):∀b,mq a*mq b<=mq (a+b)
 |0=>by show mq a*1<=mq a;lia
 |b+1=>by
  show mq a*((b+1)*mq b)<=(a+b+1)*mq (a+b);rw[Nat.mul_left_comm];exact Nat.mul_le_mul (by lia) (uA a b)
theorem pZ {a b:Nat}(h:a<=b):mq a<=mq b:=by
 induction b with
 |zero=>rw[show a=0 by lia];exact SX _
 |succ b ih =>
  rcases UT b a with q|q
  ·rw[show a=b+1 by lia];exact SX _
  ·exact T_ (ih q) (Nat.le_mul_of_pos_left _ (by lia))
theorem FZ {a b:Int}(h:iT a b):B7 (.int a) (.int b)=some (.int (a*b)):=by
 show (if iT a b then _ else _)=_
 rw[if_pos h]
theorem sum_ints {α:Type}{f:α->Int}{l:List α}:jA (λns=>some ns.sum) [.lst (l.map λk=>D.int (f k))]=some (.int (l.map f).sum):=by
 have e:(l.map λk=>D.int (f k))=(l.map f).map D.int:=by simp
 rw[e];exact sC rfl
theorem En {ps:List (Nat×Nat)}{i:Nat}(h:ps.Nodup):(kQ ps i).Nodup:=by
 unfold kQ;refine T8.mpr (List.Pairwise.imp_of_mem ?_ (List.Pairwise.filter _ h));intro a b ha hb FH e;have h1:=(Uy.mp ha).2;have h2:=(Uy.mp hb).2;simp only[decide_eq_true_eq]at h1 h2;exact FH (Prod.ext (by rw[h1,h2]) e)
theorem yd:∀{n i:Nat} {l:List Nat},l.Nodup->(∀x∈l,i<=x/\x<i+n)->l.length<=n
 |0,i,l,_,h=>by
  cases l with
  |nil=>exact SX _
  |cons x l=>have:=h x (by simp);lia
 |n+1,i,l,nd,h=>by
  have q:=yd (n:=n) (i:=i) (nd.erase (i+n)) λx hx=>by
   have:=nd.mem_erase_iff.mp hx;have:=h x this.2;lia
  have:=List.length_erase (a:=i+n) (l:=l)
  split at this <;> lia
def Gj (ps:List (Nat×Nat))(i j:Nat):List (Option Nat):=((kQ ps i).filter λk=>decide (k<j)).map some++[none]
theorem zN {ps:List (Nat×Nat)}(hp:∀p∈ps,p.1<p.2)(nd:ps.Nodup){l i:Nat}:(Gj ps i (i+l+1)).length<=l+1:=by
 unfold Gj;rw[Tw,SS];have h:=yd (n:=l) (i:=i+1) ((En nd).sublist (List.filter_sublist (p:=λk=>decide (k<i+l+1)))) λx hx=>by
  obtain⟨h1,h2⟩:=Uy.mp hx;have:=hp (i,x) (nB.mp h1);have:=of_decide_eq_true h2;dsimp only at *
  lia
 show _+1<=_;lia
theorem uz (n:Nat):1<=mq n:=by
 induction n with
 |zero=>exact SX _
 |succ n ih=>exact T_ ih (Nat.le_mul_of_pos_left _ (by lia))
end L2.Q
namespace L2
open PySem PySem.Spec PySem.SeqAt PyProof.Rows
theorem B6 {a b:Int}(h:iT a b):B7 (.int a) (.int b)=some (.int (a*b)):=by
 show (if iT a b then some (D.int (a*b)) else none)=_
 rw[if_pos h]
theorem wx {rows ch:List (List Int)}{t u:List Int}(g:Good rows ch)(ht:t∈ch)(hu:u∈ch)(hn:t≠u):Apart t u:=by
 obtain⟨i,hi⟩:=WO.mp ht;obtain⟨j,hj⟩:=WO.mp hu
 by_cases h:i<j
 ·exact pw_iff.mp g.2.2 i j t u h hi hj
 ·by_cases h2:j<i
  ·exact(pw_iff.mp g.2.2 j i u t h2 hj hi).symm
  ·have:i=j:=by lia
   subst this;rw[hi]at hj;cases hj;exact absurd rfl hn
end L2
namespace L2.Q
open PySem PySem.Spec PySem.SeqAt PyProof.Rows
def fY (a b c d:Int):Bool:=decide (a∈[c,d]) || decide (b∈[c,d]) || !decide ((decide (a<c)&&decide (c<b))=(decide (a<d)&&decide (d<b)))
def CP:List Int->List Int->Bool
 |[a,b],[c,d]=>fY a b c d
 |_,_=>false
theorem rJ {a b c d:Int}(ab:a<b)(cd:c<d)(h:CP [a,b] [c,d]=false):Apart [a,b] [c,d]:=by
 have h:fY a b c d=false:=h;unfold fY at h;simp only[Bool.or_eq_false_iff,decide_eq_false_iff_not,V9,decide_eq_true_eq]at h;obtain⟨⟨h1,h2⟩,h3⟩:=h;have h4:(a<c/\c<b)↔(a<d/\d<b):=by
  have:=congrArg (·=true) h3;simpa using this
 have m1:=h1;have m2:=h2;simp only[S5,UD,or_false,not_or]at m1 m2;refine⟨Wl.mpr λz=>?_,Wl.mpr λz=>?_⟩
 ·obtain⟨i,hi,hj⟩:=dg.mp z;simp only[S5,UD,or_false]at hi;rcases hi with rfl|rfl
  ·exact h1 hj
  ·exact h2 hj
 ·have:=sH.mp (show nL a b c d=true from z)
  lia
theorem uK {β:a9}{i j k:Nat}{y1 y2 y3:Bool}{a b c:Int}{R:D->Kd->a9->Prop}(h1:β[i]?=some (some (.val y1 (.int a))))(h2:β[j]?=some (some (.val y2 (.int b))))(h3:β[k]?=some (some (.val y3 (.int c))))
  (q:R (.bl (decide (a<b)&&decide (b<c))) .own β):xn (AE i) (Ht Nh (AE j) (Hu Nh (AE k))) β R:=by
 refine⟨_,h1,_,h2,_,rfl,n9 (λz1=>⟨_,h3,_,rfl,?_⟩) (λz1=>?_)⟩
 ·simpa[z1] using q
 ·simpa[z1] using q
theorem FP (i j:Bool):Ue (D.bl i).pd (D.bl j).pd=decide (i=j):=by
 cases i <;> cases j <;> rfl
theorem FY (i j:Bool):z7 (.bl i) (.bl j)=some (.bl (!decide (i=j))):=sF (cG (oH i)) (cG (oH j)) (FP i j)
def qb:FD:=λds R=>∃a b c d:Int,ds=[kD [a,b],kD [c,d]]/\R (.bl (fY a b c d))
theorem qb.mono:fI qb:=λds R R' k ⟨a,b,c,d,e,q⟩=>⟨a,b,c,d,e,k _ q⟩
def kz:FD:=λds R=>∃(n:Int) (rows:List (List Int)),ds=[m7 n rows]/\R (m7 n rows)
theorem kz.mono:fI kz:=λds R R' k ⟨n,rows,e,q⟩=>⟨n,rows,e,k _ q⟩
def p0:FD:=λds R=>∃(n:Int) (rows:List (List Int)),ds=[m7 n rows]/\cJ n rows/\rows.length<=400/\∀ts,Good rows ts->ts.length<=400->R (.lst (ts.map kD))
theorem p0.mono:fI p0:=λds R R' k ⟨n,rows,e,h1,h2,q⟩=>⟨n,rows,e,h1,h2,λts a b=>k _ (q ts a b)⟩
theorem gN {α β:Type}{f:α->β}:∀(l:List α) (m:Nat),(l.eraseIdx m).map f=(l.map f).eraseIdx m
 |[],_=>rfl
 |_::_,0=>rfl
 |x::l,m+1=>by
  show f x::(l.eraseIdx m).map f=f x::(l.map f).eraseIdx m;rw[gN l m]
theorem ye:∀{i:Nat} {l:List Nat},l.Nodup->(∀x∈l,x<i)->l.length<=i
 |0,l,_,h=>by
  cases l with
  |nil=>exact SX _
  |cons x l=>exact absurd (h x (by simp)) (V2 _)
 |i+1,l,nd,h=>by
  have q:=ye (i:=i) (nd.erase i) λx hx=>by
   have:=nd.mem_erase_iff.mp hx;have:=h x this.2;lia
  have:=List.length_erase (a:=i) (l:=l)
  split at this <;> lia
structure JM (mg:Str->Option SO):Prop extends Bs3 mg where
 any:mg "any" = none
def GK (ps:List (Nat×Nat))(F G:Nat->Nat->Int)(i j:Nat):Int:=(((kQ ps i).filter λk=>decide (k<j)).map λk=>F (k-i-1) (i+1)*G (j-k-1) (k+1)).sum
def jB (ps:List (Nat×Nat))(F G:Nat->Nat->Int):Nat->Nat->Int
 |0,_=>0
 |l+1,i=>jB ps F G l (i+1)+GK ps F G i (i+(l+1))
def Bd (T:Nat->Nat->Int):Prop:=∀l i,0<=T l i/\T l i<=(mq (l+1):Nat)
theorem Bd.mul {F G:Nat->Nat->Int}(hF:Bd F)(hG:Bd G){l m i j:Nat}(h:l+m<=38):iT (F l i) (G m j):=by
 have h3:mq 20<2 ^ 64:=by decide
 obtain⟨a0,a1⟩:=hF l i;obtain⟨b0,b1⟩:=hG m j;rcases UT 19 l with q|q
 ·have:=pZ (show m+1<=20 by lia)
  exact .inr ⟨by lia,by lia⟩
 ·have:=pZ (show l+1<=20 by lia)
  exact .inl ⟨by lia,by lia⟩
theorem Al {l:List Nat}{f:Nat->Int}{c:Int}(h:∀k∈l,0<=f k/\f k<=c):0<=(l.map f).sum/\(l.map f).sum<=(l.length:Int)*c:=by
 induction l with
 |nil=>exact⟨Xw _,by simp⟩
 |cons x l ih =>
  obtain⟨i0,i1⟩:=ih λk hk=>h k (Tc _ hk);obtain⟨x0,x1⟩:=h x Tr;rw[S4,UE,Tv];refine⟨by lia,?_⟩
  rw[Int.natCast_add,Int.add_mul];lia
theorem Dj {ps:List (Nat×Nat)}{F G:Nat->Nat->Int}(hp:∀p∈ps,p.1<p.2)(nd:ps.Nodup)(hF:Bd F)(hG:Bd G):Bd (jB ps F G):=by
 intro l
 induction l with
 |zero=>exact λi=>⟨Xw _,by show (0:Int)<=_;lia⟩
 |succ l ih =>
  intro i;obtain⟨i0,i1⟩:=ih (i+1);have hl:=zN hp nd (l:=l) (i:=i);unfold Gj at hl;rw[Tw,SS,Uz]at hl;obtain⟨s0,s1⟩:=Al (l:=(kQ ps i).filter λk=>decide (k<i+(l+1))) (f:=λk=>F (k-i-1) (i+1)*G (i+(l+1)-k-1) (k+1)) (c:=(mq (l+1):Nat)) λk hk=>by
   obtain⟨h1,h2⟩:=Uy.mp hk;have h1:i<k:=hp _ (nB.mp h1);have h2:k<i+(l+1):=of_decide_eq_true h2;obtain⟨a0,a1⟩:=hF (k-i-1) (i+1);obtain⟨b0,b1⟩:=hG (i+(l+1)-k-1) (k+1);refine⟨Int.mul_nonneg a0 b0,?_⟩;have h3:=uA (k-i-1+1) (i+(l+1)-k-1+1);rw[show k-i-1+1+(i+(l+1)-k-1+1)=l+1 by lia]at h3
   exact Int.le_trans (Int.mul_le_mul a1 b1 b0 (by lia)) (by rw[<- Int.natCast_mul];lia)
  have e:jB ps F G (l+1) i=jB ps F G l (i+1)+GK ps F G i (i+(l+1)):=rfl;rw[e];unfold GK;refine⟨by lia,?_⟩
  have h4:((((kQ ps i).filter λk=>decide (k<i+(l+1))).length:Nat):Int)*(mq (l+1):Nat)<=(l:Int)*(mq (l+1):Nat):=Int.mul_le_mul_of_nonneg_right (by have:(List.filter (λk=>decide (k<i+(l+1))) (kQ ps i)).length+1<=l+1:=hl;lia) (by lia)
  have h5:((mq (l+1+1):Nat):Int)=((l:Int)+2)*(mq (l+1):Nat):=by
   show (((l+1+1)*mq (l+1):Nat):Int)=_;rw[Int.natCast_mul]
   congr 1
  rw[h5,Int.add_mul];lia
def yZ:FD:=λds R=>∃(n:Nat) (ps:List (Nat×Nat)) (F G:Nat->Nat->Int),ds=[El n ps,cU n F,cU n G]/\Gp n ps/\n<=40/\Bd F/\Bd G/\R (cU n (jB ps F G))
theorem yZ.mono:fI yZ:=λds R R' k ⟨n,ps,F,G,e,h1,h2,h3,h4,q⟩=>⟨n,ps,F,G,e,h1,h2,h3,h4,k _ q⟩
inductive Fo where
 |nil|cons (g r:Fo)
def Fo.sz:Fo->Nat
 |.nil=>0
 |.cons g r=>g.sz+r.sz+1
def Fo.snoc:Fo->Fo->Fo
 |.nil,g=>.cons g .nil
 |.cons h r,g=>.cons h (r.snoc g)
theorem Fo.mV:∀f g:Fo,(f.snoc g).sz=f.sz+g.sz+1
 |.nil,g=>by show g.sz+0+1=0+g.sz+1;lia
 |.cons h r,g=>by show h.sz+(r.snoc g).sz+1=h.sz+r.sz+1+g.sz+1;rw[mV r g];lia
def aF (ps:List (Nat×Nat)):Fo->Nat->Nat->Int
 |.nil=>λ_ _=>1
 |.cons g r=>jB ps (aF ps g) (aF ps r)
theorem zQ {ps:List (Nat×Nat)}(hp:∀p∈ps,p.1<p.2)(nd:ps.Nodup):∀f,Bd (aF ps f)
 |.nil=>λl i=>⟨Int.zero_le_ofNat 1,by have:=uz (l+1);show (1:Int)<=_;lia⟩
 |.cons g r=>Dj hp nd (zQ hp nd g) (zQ hp nd r)
inductive iR (op:Nat->Option Nat):Nat->Nat->Fo->Prop where
 |nil (a:Nat):iR op a a .nil
 |snoc {a t b:Nat} {f g:Fo}:iR op a t f->iR op (t+1) b g->op b=some t->iR op a (b+1) (f.snoc g)
theorem iR.len {op:Nat->Option Nat}{a b:Nat}{f:Fo}(h:iR op a b f):b=a+2*f.sz:=by
 induction h with
 |nil a=>rfl
 |snoc h1 h2 e i1 i2=>rw[Fo.mV];lia
theorem iR.inv {op:Nat->Option Nat}{a b:Nat}{f:Fo}(h:iR op a b f)(ne:a≠b):∃t c f' g,b=c+1/\f=f'.snoc g/\iR op a t f'/\iR op (t+1) c g/\op c=some t:=by
 cases h with
 |nil=>exact absurd rfl ne
 |snoc h1 h2 e=>exact⟨_,_,_,_,rfl,rfl,h1,h2,e⟩
theorem iR.uniq {op:Nat->Option Nat}{a b:Nat}{f f':Fo}(h:iR op a b f)(h':iR op a b f'):f=f':=by
 induction h generalizing f' with
 |nil a =>
  have:=h'.len;cases f' with
  |nil=>rfl
  |cons g r=>have e:(Fo.cons g r).sz=g.sz+r.sz+1:=rfl;lia
 | @snoc a t b f g h1 h2 e i1 i2 =>
  have l1:=h1.len;have l2:=h2.len;obtain⟨t',c,f1,g1,e1,rfl,k1,k2,e2⟩:=h'.inv (by lia)
  obtain rfl:b=c:=by lia
  rw[e]at e2;obtain rfl:=TJ e2;rw[i1 k1,i2 k2]
def yc (ps:List (Nat×Nat))(b:Nat):List Nat:=(ps.filter λp=>decide (p.2=b)).map (·.1)
def sm (ps:List (Nat×Nat))(F:Nat->Nat->Int):Int:=(ps.map λp=>F p.1 p.2).sum
theorem cz {ps:List (Nat×Nat)}{F G:Nat->Nat->Int}(h:∀p∈ps,F p.1 p.2=G p.1 p.2):sm ps F=sm ps G:=congrArg List.sum (T5 h)
theorem gF {ps:List (Nat×Nat)}{F:Nat->Nat->Int}(h:∀p∈ps,F p.1 p.2=0):sm ps F=0:=by
 unfold sm
 induction ps with
 |nil=>rfl
 |cons p ps ih=>rw[S4,UE,h p Tr,ih λq hq=>h q (Tc _ hq)];rfl
theorem qZ (ps:List (Nat×Nat))(F G:Nat->Nat->Int):sm ps (λa b=>F a b+G a b)=sm ps F+sm ps G:=by
 unfold sm
 induction ps with
 |nil=>rfl
 |cons p ps ih=>rw[S4,UE,S4,UE,S4,UE,ih];show F p.1 p.2+G p.1 p.2+_=_;lia
theorem tp (ps:List (Nat×Nat))(c:Int)(F:Nat->Nat->Int):sm ps (λa b=>c*F a b)=c*sm ps F:=by
 unfold sm
 induction ps with
 |nil=>exact(Int.mul_zero c).symm
 |cons p ps ih=>rw[S4,UE,S4,UE,ih,Int.mul_add]
theorem Aq (ps:List (Nat×Nat))(c:Int)(F:Nat->Nat->Int):sm ps (λa b=>F a b*c)=sm ps F*c:=by
 rw[Int.mul_comm,<- tp];exact cz λp _=>Int.mul_comm _ _
theorem Ap (ps qs:List (Nat×Nat))(F:Nat->Nat->Nat->Nat->Int):sm ps (λa b=>sm qs (F a b))=sm qs λc d=>sm ps λa b=>F a b c d:=by
 induction ps with
 |nil=>exact(gF λ_ _=>rfl).symm
 |cons p ps ih =>
  have e:∀G:Nat->Nat->Int,sm (p::ps) G=G p.1 p.2+sm ps G:=λG=>by unfold sm;rw[S4,UE]
  rw[e,ih,<- qZ];exact cz λq _=>(e λa b=>F a b q.1 q.2).symm
theorem jl {α:Type}(P:α->Bool)(f:α->Int):∀l:List α,((l.filter P).map f).sum=(l.map λx=>if P x=true then f x else 0).sum
 |[]=>rfl
 |x::l=>by
  rw[S4,UE,<- jl P f l];cases h:P x with
  |true=>rw[List.filter_cons_of_pos h,S4,UE,if_pos rfl]
  |false=>rw[List.filter_cons_of_neg (by rw[h];decide),if_neg (by decide)];lia
theorem F2 (ps:List (Nat×Nat))(F G:Nat->Nat->Int)(i j:Nat):GK ps F G i j=sm ps λa b=>if a=i/\b<j then F (b-i-1) (i+1)*G (j-b-1) (b+1) else 0:=by
 unfold GK kQ;rw[jl,T1,jl];refine congrArg List.sum (T5 λp _=>?_);show (if decide (p.1=i)=true then (if decide (p.2<j)=true then _ else 0) else 0)=if p.1=i/\p.2<j then _ else 0
 by_cases h1:p.1=i
 ·rw[if_pos (decide_eq_true h1)]
  by_cases h2:p.2<j
  ·rw[if_pos (decide_eq_true h2),if_pos ⟨h1,h2⟩]
  ·rw[if_neg (by rw[decide_eq_false h2];decide),if_neg λz=>h2 z.2]
 ·rw[if_neg (by rw[decide_eq_false h1];decide),if_neg λz=>h1 z.1]
section
variable {ps:List (Nat×Nat)}(hp:∀p∈ps,p.1<p.2)
include hp
theorem kG (F G:Nat->Nat->Int):∀l i,jB ps F G l i=sm ps λa b=>if i<=a/\b<i+l then F (b-a-1) (a+1)*G (i+l-b-1) (b+1) else 0
 |0,i=>by
  show (0:Int)=_;exact(gF λp h=>if_neg λz=>by have:=hp p h;lia).symm
 |l+1,i=>by
  show jB ps F G l (i+1)+GK ps F G i (i+(l+1))=_;rw[kG F G l (i+1),F2,<- qZ];refine cz λp h=>?_;have eQ:=hp p h;rw[show i+1+l=i+(l+1) by lia]
  by_cases h1:p.1=i
  ·by_cases h2:p.2<i+(l+1)
   ·rw[if_neg (by lia),if_pos ⟨h1,h2⟩,if_pos ⟨by lia,h2⟩,h1,Xh]
   ·rw[if_neg (by lia),if_neg (by lia),if_neg (by lia)];rfl
  ·by_cases h2:i+1<=p.1/\p.2<i+(l+1)
   ·rw[if_pos h2,if_neg (by lia),if_pos ⟨by lia,h2.2⟩,WH]
   ·rw[if_neg h2,if_neg (by lia),if_neg (by lia)];rfl
theorem nS:∀(f g:Fo) (l i:Nat),aF ps (f.snoc g) l i=sm ps λc d=>if i<=c/\d<i+l then aF ps f (c-i) i*aF ps g (d-c-1) (c+1) else 0
 |.nil,g,l,i=>by
  show jB ps (aF ps g) (aF ps .nil) l i=_;rw[kG hp];refine cz λp _=>?_
  split
  ·show _*(1:Int)=(1:Int)*_;lia
  ·rfl
 |.cons h r,g,l,i=>by
  show jB ps (aF ps h) (aF ps (r.snoc g)) l i=_;rw[kG hp];have e1:∀p∈ps,(if i<=p.1/\p.2<i+l then aF ps h (p.2-p.1-1) (p.1+1)*aF ps (r.snoc g) (i+l-p.2-1) (p.2+1) else 0)=(λa b=>sm ps λc d=>if i<=a/\b<c/\d<i+l then aF ps h (b-a-1) (a+1)*(aF ps r (c-b-1) (b+1)*aF ps g (d-c-1) (c+1)) else 0) p.1 p.2:=λp zY=>by
   show (if _ then _ else _)=sm ps _
   by_cases hc:i<=p.1/\p.2<i+l
   ·rw[if_pos hc,nS r g,<- tp];refine cz λq hq=>?_;have:=hp q hq
    by_cases hd:p.2+1<=q.1/\q.2<p.2+1+(i+l-p.2-1)
    ·rw[if_pos hd,if_pos ⟨hc.1,by lia,by lia⟩,show q.1-(p.2+1)=q.1-p.2-1 by lia]
    ·rw[if_neg hd,if_neg (by lia),Int.mul_zero]
   ·rw[if_neg hc];exact(gF λq hq=>if_neg (by have:=hp q hq;lia)).symm
  refine(cz (G:=λa b=>sm ps λc d=>if i<=a/\b<c/\d<i+l then aF ps h (b-a-1) (a+1)*(aF ps r (c-b-1) (b+1)*aF ps g (d-c-1) (c+1)) else 0) e1).trans ?_
  rw[Ap];refine cz λq hq=>?_;show sm ps (λa b=>if i<=a/\b<q.1/\q.2<i+l then _ else 0)=if i<=q.1/\q.2<i+l then jB ps (aF ps h) (aF ps r) (q.1-i) i*_ else 0
  rw[kG hp]
  by_cases hc:i<=q.1/\q.2<i+l
  ·rw[if_pos hc,<- Aq];refine cz λp zY=>?_
   by_cases hd:i<=p.1/\p.2<i+(q.1-i)
   ·rw[if_pos hd,if_pos ⟨hd.1,by lia,hc.2⟩,show i+(q.1-i)-p.2-1=q.1-p.2-1 by lia,Int.mul_assoc]
   ·rw[if_neg hd,if_neg (by lia),Int.zero_mul]
  ·rw[if_neg hc];exact gF λp zY=>if_neg (by have:=hp p zY;lia)
theorem Cn (f g:Fo)(l i:Nat):aF ps (f.snoc g) (l+1) i=aF ps (f.snoc g) l i+((yc ps (i+l)).map λc=>if i<=c then aF ps f (c-i) i*aF ps g (i+l-c-1) (c+1) else 0).sum:=by
 have e:((yc ps (i+l)).map λc=>if i<=c then aF ps f (c-i) i*aF ps g (i+l-c-1) (c+1) else 0).sum=sm ps λc d=>if d=i+l then (if i<=c then aF ps f (c-i) i*aF ps g (i+l-c-1) (c+1) else 0) else 0:=by
  unfold yc;rw[T1,jl];refine congrArg List.sum (T5 λp _=>?_);show (if decide (p.2=i+l)=true then (if i<=p.1 then _ else 0) else 0)=if p.2=i+l then (if i<=p.1 then _ else 0) else 0
  by_cases h:p.2=i+l
  ·rw[if_pos (decide_eq_true h),if_pos h]
  ·rw[if_neg (by rw[decide_eq_false h];decide),if_neg h]
 rw[e,nS hp,nS hp,<- qZ];refine cz λp zY=>?_;have:=hp p zY
 by_cases h1:i<=p.1
 ·by_cases h2:p.2=i+l
  ·rw[if_pos ⟨h1,by lia⟩,if_neg (by lia),if_pos h2,if_pos h1,Xh,h2]
  ·by_cases h3:p.2<i+l
   ·rw[if_pos ⟨h1,by lia⟩,if_pos ⟨h1,h3⟩,if_neg h2,WH]
   ·rw[if_neg (by lia),if_neg (by lia),if_neg h2];rfl
 ·rw[if_neg (by lia),if_neg (by lia),if_neg h1]
  split <;> rfl
theorem hE:∀(f:Fo) (l i:Nat),l<2*f.sz->aF ps f l i=0
 |.nil,l,i,h=>absurd h (V2 _)
 |.cons g r,l,i,h=>by
  have e:(Fo.cons g r).sz=g.sz+r.sz+1:=rfl;show jB ps (aF ps g) (aF ps r) l i=0;rw[kG hp];refine gF λp zY=>?_;have:=hp p zY
  split
  ·rename_i hc
   rcases UT (p.2-p.1-1) (2*g.sz)with q|q
   ·rw[hE g _ _ q,Int.zero_mul]
   ·rw[hE r _ _ (show i+l-p.2-1<2*r.sz by lia),Int.mul_zero]
  ·rfl
end
end L2.Q
namespace NK
open PySem PyProof.Rows
section
variable {prog:SW}{w:S_}{K:Type}[DecidableEq K](knd:KeyKind prog w K)
def gu (h:Heap)(k:List K×List K)(a:Addr):Prop:=∃o p q n,h.get? a=some o/\o.cls=.type "tuple" /\ o.data=.seq #[.ref p,.ref q] n/\IsTupleKey knd h k.1 p/\IsTupleKey knd h k.2 q
variable {knd}
theorem gu.typeIs {s:SU} {k:List K×List K} {a:Addr} (x:gu knd s.heap k a):s.TypeIs (.ref a) "tuple" := let ⟨o,_,_,_,ho,hc,_⟩:=x;⟨o,ho,hc⟩
theorem gu.inj {h:Heap}{a:Addr}{x y:List K×List K}(hx:gu knd h x a)(hy:gu knd h y a):x=y:=by
 obtain⟨o,p,q,n,ho,_,hd,h1,h2⟩:=hx;obtain⟨o',p',q',n',qG,_,C4,n_,jx⟩:=hy;obtain rfl:o=o':=TJ (ho.symm.trans qG);rw[hd]at C4;injection C4 with e _
 injection e with e
 injection e with e1 e2
 injection e1 with e1
 injection e2 with e2 _
 injection e2 with e2
 subst e1 e2;exact Prod.ext (h1.inj n_) (h2.inj jx)
theorem gu.keeps {h h':Heap}{k:List K×List K}{a d:Addr}{o:Obj}{es ep}(x:gu knd h k a)(ho:h.get? d=some o)(hd:o.data=.dict es ep)(hs:Vr d h h'):gu knd h' k a:=by
 obtain⟨o',p,q,n,qG,hc,C4,h1,h2⟩:=x;have ug:a≠d:=by
  rintro rfl;obtain rfl:o'=o:=TJ (qG.symm.trans ho);rw[hd]at C4;exact nomatch C4
 exact⟨o',p,q,n,(hs.2 a ug).trans qG,hc,C4,h1.keeps ho hd hs,h2.keeps ho hd hs⟩
def rA (knd:KeyKind prog w K)(k:List K×List K):Int:=reduceHash (Wa [VM knd k.1,VM knd k.2])
variable {A:Ud}{E:SO->SU->Prop}{s:SU}
theorem AS {k:List K×List K}{a:Addr}{Q:Int->SU->Prop}(hu:A.units+1<Vt)(hk:gu knd s.heap k a)(h:Q (rA knd k) {s with toks:=s.toks+(k.1.length+1+(k.2.length+1)+1)}):
  Tn (model prog w) A (pyHash (.ref a)) Q E s:=by
 have hT:=hk.typeIs;obtain⟨o,p,q,n,ho,_,hd,h1,h2⟩:=hk;unfold pyHash
 first|unfold pyHashByItsType|skip
 first|refine SN (wpAny_cRoomFor_or (.inr (by lia)) ?_)|skip
 refine SN (VZ hT F.slot_tuple_hash.lookup ?_);show Tn _ _ (if (some (Value.builtin "tuple.__hash__")==some Value.none)=true then _ else _) Q E s
 rw[if_neg (by rw[beq_builtin_none];exact Uk)]
 refine SN (VZ hT F.slot_tuple_hash.lookup ?_);show Tn _ _ (callSpecialIfBoundUnlessNone? (.ref a) "__hash__" _ >>= _) Q E s;refine SN (wpAny_callSpecialIfBoundUnlessNone?_slot hT F.slot_tuple_hash (UA F.slot_tuple_hash hT F.entry_tuple_hash ?_ (F.args_tuple_hash_1 _)));show Tn _ _ (XU (.ref a) >>= _) _ _ s;refine SN (W3 ho hd ?_);refine SN ?_;rw[<- W6];refine Wt _
  (λrest (b:Array Int) s'=>(rest=[.ref p,.ref q]/\b.toList=[]/\s'=s)\/(rest=[.ref q]/\b.toList=[VM knd k.1]/\s'={s with toks:=s.toks+(k.1.length+1)})\/(rest=[]/\b.toList=[VM knd k.1,VM knd k.2]/\s'={s with toks:=s.toks+(k.1.length+1)+(k.2.length+1)}))
  _ ?_ ?_ _ _ (.inl ⟨rfl,rfl,rfl⟩)
 ·rintro x rest b s' (⟨e,eb,rfl⟩|⟨e,eb,rfl⟩|⟨e,_⟩)
  ·injection e with e1 e2
   subst e1 e2;refine SN (wpAny_pyHash_tuple (A:=A.in1) hu h1 ?_)
   first
    |exact SV (.inr (.inl ⟨rfl,by simp[eb],rfl⟩))
    |exact SN (SV (SV (.inr (.inl ⟨rfl,by simp[eb],rfl⟩))))
  ·injection e with e1 e2
   subst e1 e2;refine SN (wpAny_pyHash_tuple (A:=A.in1) hu h2 ?_)
   first
    |exact SV (.inr (.inr ⟨rfl,by simp[eb],rfl⟩))
    |exact SN (SV (SV (.inr (.inr ⟨rfl,by simp[eb],rfl⟩))))
  ·cases e
 ·rintro b s' (⟨e,_⟩|⟨e,_⟩|⟨_,hb,rfl⟩)
  ·cases e
  ·cases e
  show Tn _ _ (retInt (Wa b.toList)) _ _ _;rw[hb];refine wpAny_ret_mkInt ?_;generalize hz:Wa [VM knd k.1,VM knd k.2]=z;show Tn _ _ (if (decide (-(2:Int) ^ 63<=z)&&decide (z<2 ^ 63))=true then _ else _) Q E _
  unfold rA reduceHash at h;rw[hz]at h
  by_cases hr:(decide (-(2:Int) ^ 63<=z)&&decide (z<2 ^ 63))=true
  ·rw[if_pos hr];rw[if_pos hr]at h;exact SV (by simpa[WZ] using h)
  ·rw[if_neg hr];rw[if_neg hr]at h;exact SN (Vj (SV (by simpa[WZ] using h)))
end
section
variable {prog:SW}{w:S_}{K:Type}[DecidableEq K]{knd:KeyKind prog w K}{A:Ud}{E:SO->SU->Prop}{s:SU}
theorem rq {x y:List K×List K}{a b:Addr}{P:PySem.Fin->SU->Prop}(hu:A.units<Vt)(hx:gu knd s.heap x a)(hy:gu knd s.heap y b)(h:P (.done (.ret (.bool (decide (x=y))))) s):
  Tn (model prog w) A (Wi.«tuple.__eq__» ⟨[.ref a,.ref b],[]⟩) P E s:=by
 have Q9:=hy.typeIs;obtain⟨oa,p,q,na,QB,_,QY,x1,x2⟩:=hx;obtain⟨ob,p',q',nb,BH,_,hdb,y1,y2⟩:=hy;show Tn _ _ (isInstance (.ref b) (.type "tuple") >>= _) _ _ s;refine SN (Ws Q9 WN ?_);simp only[VD,T9,if_false];refine SN (W3 QB QY ?_);refine SN (W3 BH hdb ?_);refine SN ?_;have dx:decide (x=y)=(decide (x.1=y.1)&&decide (x.2=y.2)):=by
  rw[UJ,TB,decide_eq_true_eq,decide_eq_true_eq,decide_eq_true_eq];exact Prod.ext_iff
 rw[dx]at h;refine Wt _
  (λrest r s'=>r.1=none/\s'=s/\((rest=[(.ref p,.ref p'),(.ref q,.ref q')])\/(rest=[(.ref q,.ref q')]/\x.1=y.1)\/(rest=[]/\x.1=y.1/\x.2=y.2)))
  _ ?_ ?_ _ _ ⟨rfl,rfl,.inl rfl⟩
 ·rintro⟨u,v⟩ rest r s' ⟨hr,rfl,(hz|⟨hz,e1⟩|⟨hz,_⟩)⟩
  ·injection hz with h1 h2
   injection h1 with h3 h4
   subst h2 h3 h4;refine SN (wpAny_eqBool_tuple hu x1 y1 ?_)
   by_cases hk:x.1=y.1
   ·rw[decide_eq_true hk];simp only[VD,T9,if_false];exact SV ⟨rfl,rfl,.inr (.inl ⟨by first|rfl|trivial,hk⟩)⟩
   ·rw[decide_eq_false hk];simp only[Bool.not_false,if_true];rw[decide_eq_false hk]at h;exact SN (SV (SV (SV h)))
  ·injection hz with h1 h2
   injection h1 with h3 h4
   subst h2 h3 h4;refine SN (wpAny_eqBool_tuple hu x2 y2 ?_)
   by_cases hk:x.2=y.2
   ·rw[decide_eq_true hk];simp only[VD,T9,if_false];exact SV ⟨rfl,rfl,.inr (.inr ⟨by first|rfl|trivial,e1,hk⟩)⟩
   ·rw[decide_eq_false hk];simp only[Bool.not_false,if_true];rw[decide_eq_false hk,Bool.and_false]at h;exact SN (SV (SV (SV h)))
  ·cases hz
 ·rintro⟨r1,r2⟩ s' ⟨hr,rfl,(hz|⟨hz,_⟩|⟨_,e1,e2⟩)⟩
  ·cases hz
  ·cases hz
  simp only at hr;subst hr;refine SV ?_;rw[decide_eq_true e1,decide_eq_true e2]at h;exact h
theorem vi {x y:List K×List K}{a b:Addr}{Q:Bool->SU->Prop}(hu:A.units+1<Vt)(hx:gu knd s.heap x a)(hy:gu knd s.heap y b)(h:Q (decide (x=y)) s):
  Tn (model prog w) A (eqBool (.ref a) (.ref b)) Q E s:=by
 unfold eqBool
 try with_reducible refine Uu ?_
 show Tn _ _ (if (Value.ref a==Value.ref b)=true then _ else _) Q E s
 by_cases FH:(Value.ref a==Value.ref b)=true
 ·rw[if_pos FH];have e:a=b:=by have:=eq_of_beq FH;injection this
  subst e;obtain rfl:=hx.inj hy;exact SN (Vj (SV (by simpa using h)))
 ·rw[if_neg FH];exact SN (wpAny_richCompare_same_room (op:=.Eq) hx.typeIs hy.typeIs F.slot_tuple_eq
   (UA F.slot_tuple_eq hx.typeIs F.entry_tuple_eq (rq (A:=A.in1) hu hx hy ⟨_,rfl,(λe=>nomatch e),UH h⟩) (F.args_tuple_eq_2 _ _)) (by lia))
theorem iW {m:Nat}{ks:List K}{a:Addr}{Q:Bool->SU->Prop}(hk:IsTupleKey knd s.heap ks a)(h:Q true s):Tn (model prog w) A (Xp (m+1) (.ref a)) Q E s:=by
 have hT:=hk.typeIs;obtain⟨o,items,n,ho,_,hd,hi⟩:=hk;unfold Xp;refine SN (VZ hT F.slot_tuple_eq.lookup ?_);show Tn _ _ (isInstance (.ref a) (.type "tuple") >>= _) _ _ s;refine SN (Ws hT WN ?_);simp only[VD,T9,if_false];refine SN (wpAny_seqItems ho hd ?_);refine SN ?_;show Tn _ _ (forIn items _ _) _ _ s;rw[<- W6];refine Wt _ (λrest r s'=>r.1=none/\s'=s/\∀v∈rest,carriedByValue v=true) _ ?_ ?_ _ _ ⟨rfl,rfl,hi.byValue⟩
 ·rintro v rest r s' ⟨hr,rfl,sg⟩;rw[eqIsQuiet_byValue _ (sg v Tr)];refine SN (SV ?_);simp only[VD,T9,if_false];exact SV ⟨rfl,rfl,λu LS=>sg u (Tc _ LS)⟩
 ·rintro⟨r1,r2⟩ s' ⟨hr,rfl,_⟩;simp only at hr;subst hr;exact SV h
theorem xE {k:List K×List K}{a:Addr}{Q:Bool->SU->Prop}(hk:gu knd s.heap k a)(h:Q true s):Tn (model prog w) A (Xp 8 (.ref a)) Q E s:=by
 have hT:=hk.typeIs;obtain⟨o,p,q,n,ho,_,hd,h1,h2⟩:=hk;unfold Xp;refine SN (VZ hT F.slot_tuple_eq.lookup ?_);show Tn _ _ (isInstance (.ref a) (.type "tuple") >>= _) _ _ s;refine SN (Ws hT WN ?_);simp only[VD,T9,if_false];refine SN (wpAny_seqItems ho hd ?_);refine SN ?_;show Tn _ _ (forIn #[Value.ref p,Value.ref q] _ _) _ _ s;rw[<- W6];refine Wt _ (λrest r s'=>r.1=none/\s'=s/\∀v∈rest,v=.ref p\/v=.ref q) _ ?_ ?_ _ _ ⟨rfl,rfl,λv hv=>by simpa using hv⟩
 ·rintro v rest r s' ⟨hr,rfl,sg⟩;have hv:∀{Q:Bool->SU->Prop},Q true s'->Tn (model prog w) A (Xp 7 v) Q E s':=λhq=>by
   rcases sg v Tr with rfl|rfl
   ·exact iW h1 hq
   ·exact iW h2 hq
  refine SN (hv ?_);simp only[VD,T9,if_false];exact SV ⟨rfl,rfl,λu LS=>sg u (Tc _ LS)⟩
 ·rintro⟨r1,r2⟩ s' ⟨hr,rfl,_⟩;simp only at hr;subst hr;exact SV h
end
def dw {prog:SW}{w:S_}{K:Type}[DecidableEq K](knd:KeyKind prog w K):HeapKind prog w (List K×List K) where
 is:=gu knd
 hash:=rA knd
 draws:=λk=>k.1.length+1+(k.2.length+1)+1
 room:=λA=>A.units+1<Vt
 inj:=λhx hy=>hx.inj hy
 keeps:=λx ho hd hs=>x.keeps ho hd hs
 pyHash:=λhu hk h=>AS hu hk h
 eqBool:=λhu hx hy h=>vi hu hx hy h
 quiet:=λhk h=>xE hk h
end NK
namespace L2
open PySem PySem.Spec PySem.SeqAt PyProof.Rows
abbrev MK:=List Key×List Key
def j5 (P:SW)(w:S_)(a:Addr)(xs:List (MK×Addr×SO))(h:Heap):Prop:=(a==Um)=false/\xs.length<=S7/\∃o es ep,h.get? a=some o/\o.ExactDict/\o.data=.dict es ep/\es.toList=xs.map (entryOfKey (NK.dw (aZ P w)))/\(xs.map (·.1)).Nodup
abbrev lB (P:SW)(w:S_)(a:Addr)(xs:List (MK×Addr×SO)):HO:=.ext (j5 P w a xs)
def nV (H:Hp)(k:MK)(b:Addr):Prop:=∃p q,H b=some (.tup [.ref p,.ref q])/\H p=some (.tup (k.1.map kV))/\H q=some (.tup (k.2.map kV))
structure mJ (P:SW)(w:S_)(H:Hp)(a:Addr)(xs:List (MK×Addr×SO)):Prop where
 here:H a=some (lB P w a xs)
 ks:∀x∈xs,nV H x.1 x.2.1
theorem j5.ok {P:SW}{w:S_}{h:Heap}{a:Addr}{xs:List (MK×Addr×SO)}(m:j5 P w a xs h)(H:Hp):bb P w H h a (lB P w a xs) :=
 ⟨m,(let ⟨_,_,o,_,_,ho,_⟩:=m;⟨o,ho⟩),λh1 h2 z k=>let ⟨y1,y2,o,es,ep,ho,r⟩:=z;⟨y1,y2,o,es,ep,k _ ho,r⟩⟩
theorem tP {P:SW}{w:S_}{H:Hp}{h:Heap}{k:MK}{b:Addr}(ok:fW P w H h)(e:nV H k b):(NK.dw (aZ P w)).is h k b:=by
 obtain⟨p,q,e1,e2,e3⟩:=e;obtain⟨_,its,r,o,h1,h2,n,h3⟩:=(show bb P w H h b (.tup [.ref p,.ref q]) from ok b _ e1)
 cases r with
 |cons r1 r2 =>
  cases r2 with
  |cons r3 r4 =>
   cases r4;cases r1;cases r3;exact⟨o,p,q,n,h1,h2,h3,ke ok e2,ke ok e3⟩
theorem mJ.dict {P:SW}{w:S_}{H:Hp}{h:Heap}{a:Addr}{xs:List (MK×Addr×SO)}(m:mJ P w H a xs)(ok:fW P w H h):(a==Um)=false/\xs.length<=S7/\h.DictOfH (NK.dw (aZ P w)) a xs:=by
 obtain⟨⟨y1,y2,o,es,ep,ho,h1,h2,h3,h4⟩,_,_⟩:=(show bb P w H h a (lB P w a xs) from ok a _ m.here)
 exact⟨y1,y2,o,es,ep,ho,h1,h2,h3,λx hx=>tP ok (m.ks x hx),h4⟩
section
variable {X:Cx}
theorem vq (hu:X.A.units+2<Vt):h9 X (Ul .NotIn) (λx y H Q=>∃b a xs k,x=.ref b/\y=.ref a/\mJ X.prog X.w H a xs/\nV H k b/\Q (.bl (!(Vb xs k).isSome)) H):=by
 intro pins s σ H x y v u Q I rx ry h;obtain⟨b,a,xs,k,rfl,rfl,m,hk,q⟩:=h;cases rx;cases ry;obtain⟨y1,y2,dd⟩:=m.dict I.a_;exact wpAny_notIn_heap (knd:=NK.dw (aZ X.prog X.w)) (show X.A.in1.units+1<Vt from hu) (tP I.a_ hk) y1 dd ⟨.bl _,H,I.tok _,rfl,q⟩
theorem Ff (hu:X.A.units+2<Vt):Du X (λx y H Q=>∃b a xs k p n t,x=.ref a/\y=.ref b/\mJ X.prog X.w H a xs/\nV H k b/\Vb xs k=some (p,.int n t)/\Q (.int n) H):=by
 intro value slice pins s σ H x y v u Q I rx ry h hs;obtain⟨b,a,xs,k,p,n,t,rfl,rfl,m,hk,e,q⟩:=h;cases rx;cases ry;obtain⟨y1,y2,dd⟩:=m.dict I.a_;exact tail_any dd.typeIs PySem.F.slot_dict_getitem.lookup (wpAny_getItem_heap (knd:=NK.dw (aZ X.prog X.w)) (show X.A.in1.units+1<Vt from hu) (tP I.a_ hk) dd e ⟨.int n,H,I.tok _,⟨t,rfl⟩,q⟩) hs
theorem Aw (hu:X.A.units+2<Vt):Gm X (λo i v H Q=>∃b a xs k n,o=.ref a/\i=.ref b/\v=.int n/\mJ X.prog X.w H a xs/\nV H k b/\Vb xs k=none/\xs.length<S7/\∀t,Q (upd H a (lB X.prog X.w a (xs++[(k,b,.int n t)])))):=by
 intro pins s σ H o i v ov iv u Q I ro ri rv h;obtain⟨b,a,xs,k,n,rfl,rfl,rfl,m,hk,e,hl,q⟩:=h;cases ro;cases ri;obtain⟨t,rfl⟩:=rv;obtain⟨y1,y2,dd⟩:=m.dict I.a_;refine wpAny_setItem_heap (hsz:=y2) (knd:=NK.dw (aZ X.prog X.w)) (show X.A.in1.units+1<Vt from hu) (tP I.a_ hk) dd λh' FV sb=>?_
 rw[storedH_new e]at FV;obtain⟨o,es,ep,ho,h1,h2,h3,h4,h5⟩:=FV;have mp:j5 X.prog X.w a (xs++[(k,b,.int n t)]) h':=⟨y1,by rw[Tw];exact hl,o,es,ep,ho,h1,h2,h3,h5⟩
 exact⟨_,I.write (x:=a) (e:=a) (by rw[m.here];exact trivial) (.inl rfl) (λc u hc hu=>(sb.2 c hc).trans hu) ⟨_,ho⟩ (mp.ok _),q t⟩
theorem xJ {pos:Pos}:PE X (.Dict [] [] pos) (λσ H Q=>∀a,H a=none->Q (.ref a) (upd H a (lB X.prog X.w a []))):=λpins s σ H Q I h =>
 Xm ⟨.ref s.heap.objs.size,_,I.laid (a:=s.heap.objs.size) (o:=lB X.prog X.w s.heap.objs.size []) (t':=s.toks) (λ_ _ q=>S1 _ q) (SX _) (j5.ok (by
  obtain⟨o,es,ep,ho,h1,h2,h3,h4,h5⟩:=Heap.DictOfH.new (knd:=NK.dw (aZ X.prog X.w)) s.heap;exact⟨beq_eq_false_iff_ne.mpr (U_ (Tx I.big)),Tb _,o,es,ep,ho,h1,h2,h3,h5⟩) _),rfl,h _ (I.a_.fresh (SX _))⟩
end
end L2
namespace L2.Q
open PySem PySem.Spec PySem.SeqAt PyProof.Rows
def pf (a b i j:Nat):MK:=([.inl a,.inl b],[.inl i,.inl j])
def yb (n:Nat)(ps:List (Nat×Nat)):D:=.lst ((Tt n).map λb=>.lst ((yc ps b).map λa:Nat=>D.int a))
def Ent (ps:List (Nat×Nat))(op:Nat->Option Nat)(x:MK×Addr×SO):Prop:=∃(a b i l:Nat) (f:Fo) (t:Tok),x.1=pf a b i (i+l)/\iR op a b f/\b<=50/\i+l<=40/\x.2.2=.int (aF ps f l i) t
structure Mem (P:SW)(w:S_)(H:Hp)(kn:Addr)(ps:List (Nat×Nat))(op:Nat->Option Nat)(xs:List (MK×Addr×SO)):Prop where
 m:mJ P w H kn xs
 nd:(xs.map (·.1)).Nodup
 en:∀x∈xs,Ent ps op x
theorem zH {xs:List (MK×Addr×SO)}{k:MK}{r:Addr×SO}(h:Vb xs k=some r):(k,r)∈xs:=by
 unfold Vb at h;obtain⟨x,hx,rfl⟩:=Tq.mp h;have e:=List.find?_some hx;have e:x.1=k:=of_decide_eq_true e;subst e;exact List.mem_of_find?_eq_some hx
theorem zI {xs:List (MK×Addr×SO)}{k:MK}(h:Vb xs k=none):k∉xs.map (·.1):=λz=>by
 unfold Vb at h;obtain⟨x,hx,rfl⟩:=Ti.mp z;have:=List.find?_eq_none.mp (VO.mp h) x hx;exact this (decide_eq_true rfl)
theorem sL {xs:List (MK×Addr×SO)}{k:MK}{r:Addr×SO}(h:Vb xs k=none):Vb (xs++[(k,r)]) k=some r:=by
 unfold Vb at h ⊢
 rw[Xg,VO.mp h,List.find?_cons_of_pos (by exact decide_eq_true rfl)]
 rfl
theorem t5 {a b i j a' b' i' j':Nat}(h:pf a b i j=pf a' b' i' j'):a=a'/\b=b'/\i=i'/\j=j':=by
 unfold pf at h;injection h with h1 h2
 injection h1 with h3 h4
 injection h4 with h5 _
 injection h2 with h6 h7
 injection h7 with h8 _
 injection h3 with h3
 injection h5 with h5
 injection h6 with h6
 injection h8 with h8
 lia
def nY (l:Nat)(xs ys:List (MK×Addr×SO)):Prop:=∀a b i j:Nat,i+l<j->Vb xs (pf a b i j)=none->Vb ys (pf a b i j)=none
theorem nY.refl {l:Nat}{xs:List (MK×Addr×SO)}:nY l xs xs:=λ_ _ _ _ _ z=>z
theorem nY.trans {l l':Nat}{xs ys zs:List (MK×Addr×SO)}(h:nY l xs ys)(h':nY l' ys zs)(e:l'<=l):nY l xs zs:=λa b i j q z=>h' a b i j (by lia) (h a b i j q z)
theorem nY.mono {l l':Nat}{xs ys:List (MK×Addr×SO)}(h:nY l' xs ys)(e:l'<=l):nY l xs ys:=λa b i j q z=>h a b i j (by lia) z
theorem nY.put {l:Nat}{xs ys:List (MK×Addr×SO)}{a b i:Nat}{r:Addr×SO}(h:nY l xs ys):nY l xs (ys++[(pf a b i (i+l),r)]):=λa' b' i' j' q z=>by
 have e:=h a' b' i' j' q z;unfold Vb at e ⊢
 rw[Xg,VO.mp e,List.find?_cons_of_neg (λz=>?_)]
 ·rfl
 ·have e2:pf a b i (i+l)=pf a' b' i' j':=of_decide_eq_true z;obtain⟨_,_,h1,h2⟩:=t5 e2;lia
def uJ (a b i j:Nat):Nat:=((a*51+b)*41+i)*41+j
section
variable {P:SW}{w:S_}{H H':Hp}{kn:Addr}{ps:List (Nat×Nat)}{op:Nat->Option Nat}{xs:List (MK×Addr×SO)}
theorem Mem.len (m:Mem P w H kn ps op xs):xs.length<S7:=by
 have hx:∀x∈xs,∃a b i j:Nat,x.1=pf a b i j/\a<=50/\b<=50/\i<=40/\j<=40:=λx h=>by
  obtain⟨a,b,i,l,f,t,e,sp,hb,hl,_⟩:=m.en x h;have:=sp.len;exact⟨a,b,i,i+l,e,by lia,hb,by lia,by lia⟩
 have dec:∀k:MK,k∈xs.map (·.1)->∃a b i j:Nat,k=pf a b i j/\a<=50/\b<=50/\i<=40/\j<=40:=λk h=>by
  obtain⟨x,h1,rfl⟩:=Ti.mp h;exact hx x h1
 let cd:MK->Nat:=λk=>match k with
  | ([.inl a,.inl b],[.inl i,.inl j])=>uJ a.toNat b.toNat i.toNat j.toNat
  |_=>0
 have hc:∀a b i j:Nat,cd (pf a b i j)=uJ a b i j:=λa b i j=>rfl;have nd:((xs.map (·.1)).map cd).Nodup:=by
  refine T8.mpr (m.nd.imp_of_mem λ{x y} h1 h2 z e=>z ?_);obtain⟨a,b,i,j,rfl,a1,b1,i1,j1⟩:=dec x h1;obtain⟨a',b',i',j',rfl,a2,b2,i2,j2⟩:=dec y h2;rw[hc,hc]at e;unfold uJ at e;have:a=a'/\b=b'/\i=i'/\j=j':=by lia
  obtain⟨rfl,rfl,rfl,rfl⟩:=this;rfl
 have:=ye (i:=4372400) nd λy hy=>by
  obtain⟨k,hk,rfl⟩:=Ti.mp hy;obtain⟨a,b,i,j,rfl,a1,b1,i1,j1⟩:=dec k hk;rw[hc];unfold uJ;lia
 rw[SS,SS]at this;exact Nat.lt_of_le_of_lt this (by decide)
theorem Mem.keep (m:Mem P w H kn ps op xs)(s:au H H'):Mem P w H' kn ps op xs:=⟨⟨s _ _ m.m.here,λx hx=>let ⟨p,q,e1,e2,e3⟩:=m.m.ks x hx;⟨p,q,s _ _ e1,s _ _ e2,s _ _ e3⟩⟩,m.nd,m.en⟩
structure Go (P:SW)(w:S_)(H:Hp)(kn:Addr)(ps:List (Nat×Nat))(op:Nat->Option Nat)(H':Hp)(xs:List (MK×Addr×SO)):Prop where
 kp:Kp (·=kn) H H'
 dm:∀c,H c≠none->H' c≠none
 mm:Mem P w H' kn ps op xs
theorem Go.new {p:Addr}{o:HO}(g:Go P w H kn ps op H' xs)(n:H' p=none):Go P w H kn ps op (upd H' p o) xs :=
 have s:au H' (upd H' p o):=au.new n
 ⟨g.kp.trans s.kp,λc z=>by
  cases e:H' c with
  |none=>exact absurd e (g.dm c z)
  |some u=>rw[s _ _ e];exact λz=>(nomatch z),g.mm.keep s⟩
theorem Go.go {H2:Hp}{JP:List (MK×Addr×SO)}(g:Go P w H kn ps op H' xs)(g2:Go P w H' kn ps op H2 JP):Go P w H kn ps op H2 JP:=⟨g.kp.trans g2.kp,λc z=>g2.dm c (g.dm c z),g2.mm⟩
theorem Go.put {b:Addr}{k:MK}{n:Int}{t:Tok}(g:Go P w H kn ps op H' xs)(hk:nV H' k b)(e:Vb xs k=none)(en:Ent ps op (k,b,.int n t)):Go P w H kn ps op (upd H' kn (lB P w kn (xs++[(k,b,.int n t)]))) (xs++[(k,b,.int n t)]):=by
 have hh:=g.mm.m.here;have kp:Kp (·=kn) H' (upd H' kn (lB P w kn (xs++[(k,b,.int n t)]))):=gi hh λxs z=>by cases z
 have pk:∀{k' b'},nV H' k' b'->nV (upd H' kn (lB P w kn (xs++[(k,b,.int n t)]))) k' b':=λ⟨p,q,e1,e2,e3⟩=>⟨p,q,kp.tup _ _ e1,kp.tup _ _ e2,kp.tup _ _ e3⟩;refine⟨g.kp.trans kp,λc z=>?_,⟨⟨ah,λx hx=>?_⟩,?_,λx hx=>?_⟩⟩
 ·by_cases hc:c=kn
  ·rw[hc,ah];exact λz=>nomatch z
  ·rw[ao hc];exact g.dm c z
 ·rcases S9.mp hx with hx|hx
  ·exact pk (g.mm.m.ks x hx)
  ·rw[S3.mp hx];exact pk hk
 ·rw[TQ,TZ];refine⟨g.mm.nd,by simp,λy hy z hz e'=>?_⟩
  have hz:z=k:=S3.mp hz;subst hz e';exact zI e hy
 ·rcases S9.mp hx with hx|hx
  ·exact g.mm.en x hx
  ·rw[S3.mp hx];exact en
theorem Go.refl (m:Mem P w H kn ps op xs):Go P w H kn ps op H xs:=⟨Kp.refl,λ_ z=>z,m⟩
theorem Mem.val (m:Mem P w H kn ps op xs){a b i l:Nat}{f:Fo}{r:Addr×SO}(sp:iR op a b f)(e:Vb xs (pf a b i (i+l))=some r):∃t,r.2=.int (aF ps f l i) t:=by
 obtain⟨a',b',i',l',f',t',e1,Pt,_,_,e2⟩:=m.en _ (zH e);obtain⟨rfl,rfl,rfl,e3⟩:=t5 e1;obtain rfl:l=l':=by lia
 rw[sp.uniq Pt];exact⟨t',e2⟩
theorem Bl {n:Nat}{nr:Addr}(h:ar P w (·=kn) H (yb n ps) (.ref nr)){b:Nat}(hb:b<n):∃vs c,H nr=some (.lst vs)/\vs.length=n/\vs[b]?=some (.ref c)/\c≠kn/\H c=some (.lst ((yc ps b).map λa:Nat=>V.int a)):=by
 obtain⟨Se,vs,e,h1,h2,h3⟩:=h;cases e;have hl:vs.length=n:=by rw[h3.length,SS,TR]
 obtain⟨v,hv,r⟩:=h3.get (i:=b) (d:=.lst ((yc ps b).map λa:Nat=>D.int a)) (by rw[Th,Uv hb];rfl)
 obtain⟨c,us,rfl,g1,g2,g3⟩:=r;have eu:us=((yc ps b).map λa:Nat=>(a:Int)).map V.int:=L2.bW (P:=P) (w:=w) (W:=(·=kn)) (H:=H) (by rw[T1];exact g3)
 rw[T1]at eu;exact⟨vs,c,h1,hl,hv,g2,by rw[g1,eu];rfl⟩
end
def Hc (P:SW)(w:S_)(N:Nat):L2.Sp:=λvs H Q _=>∃(nr op pt st kn:Addr) (n:Nat) (ps:List (Nat×Nat)) (jt:Nat->Option Nat) (kvs:List (Key×V)) (a b:Nat) (f:Fo) (i l:Nat) (xs:List (MK×Addr×SO)),vs=[.ref nr,.ref op,.ref pt,.ref st,.ref kn]/\Gp n ps/\n<=40/\ar P w (·=kn) H (yb n ps) (.ref nr)/\H op=some (.dK kvs)/\op≠kn/\(∀c t,jt c=some t->gz kvs (.inl (c:Int))=some (.int (t:Int)))/\H pt=some (.tup [.int a,.int b])/\H st=some (.tup [.int i,.int ((i:Int)+(l:Int))])/\iR jt a b f/\b<=50/\i+l<=n/\l<N/\Mem P w H kn ps jt xs /\
 ∀H' iU,Kp (·=kn) H H'->(∀c,H c≠none->H' c≠none)->Mem P w H' kn ps jt iU->nY l xs iU->Q (.int (aF ps f l i)) H'
end L2.Q
namespace jD
open PySem L2 L2.Q
section
variable {P:SW}{w:S_}{K:PySem.W.Frag}{mg:Str->Option SO}{base:Heap}
theorem a5:aY ["near","opened","part","stretch","known","first","last","begin","end","there","found","point","beside","inside"] ["near","opened","part","stretch","known"] (aD dj):=mkS
theorem xX {ux iI} (dW:D0 K mg ux iI) (N:Nat) (G:bc P w K mg base cY (N+1) ux iI ["near","opened","part","stretch","known"] (Hc P w N)):bc P w K mg base cY (N+2) ux iI ["near","opened","part","stretch","known"] (Hc P w (N+1)):=by
 refine dW.F.ok a5 (λvs H Q E h=>?_) (λc8 A outer s H vs Q E hr h=>?_)
 ·obtain⟨_,_,_,_,_,_,_,_,_,_,_,_,_,_,_,rfl,_⟩:=h;rfl
 ·have hu:(A.deeper (PyProof.Rows.envOfC "_law_ways" (aD dj) s.heap.objs.size ux c8)).units+2<Vt:=by have:=hr.un;lia
  refine⟨_,(aS (gd (pv 2) (rB rfl (fB (eZ (i:=5) a5.nd rfl (VH rfl)) (fB (eZ (i:=6) a5.nd rfl (VH rfl)) ni))))
    (aS (gd (pv 3) (rB rfl (fB (eZ (i:=7) a5.nd rfl (VH rfl)) (fB (eZ (i:=8) a5.nd rfl (VH rfl)) ni))))
    (aS (jT (eW HG (pv 5) (pv 6) (j3 _)) (cj (eY aM)) eX)
    (aS (jT (eW tW (bq e8 (pv 6) (pv 5)) (bq e8 (pv 8) (pv 7)) (j3 _)) (cj (eY aM)) eX)
    (AH (jT (eW (vq hu) (e7 (aw (pv 2) (aw (pv 3) bu))) (pv 4) rfl) (aS (cZ (i:=9) a5.nd rfl (VH rfl) (AU (Nat.lt_of_succ_lt hu) (pv 1) (bq e8 (pv 6) aM) (λ_ _=>rfl)))
    (aS (cZ (i:=10) a5.nd rfl (VH rfl) (fM G (hr.mono (by lia)) (by rfl) dW.m dW.F.kp dW.b .nil lR (aw (pv 0) (aw (pv 1) (aw (pv 2) (aw (e7 (aw (pv 7) (aw (bq e8 (pv 8) aM) bu))) (aw (pv 4) bu)))))))
    (aS (rg Ug rfl (nh (fC cQ (pv 0) (bq e8 (pv 8) aM) (λ_ _=>rfl))) (eZ (i:=11) a5.nd rfl (VH rfl)) (cj (jT (eW HF (pv 11) (pv 7) (j3 _)) (aS (cZ (i:=12) a5.nd rfl (VH rfl) (fM G (hr.mono (by lia)) (by rfl) dW.m dW.F.kp dW.b .nil lR (aw (pv 0) (aw (pv 1) (aw (e7 (aw (pv 5) (aw (pv 9) bu))) (aw (e7 (aw (pv 7) (aw (pv 11) bu))) (aw (pv 4) bu)))))))
    (cj (jT (eW tW (pv 12) aM (j3 _)) (aS (cZ (i:=13) a5.nd rfl (VH rfl) (fM G (hr.mono (by lia)) (by rfl) dW.m dW.F.kp dW.b .nil lR (aw (pv 0) (aw (pv 1) (aw (e7 (aw (bq gg (pv 9) aM) (aw (bq e8 (pv 6) aM) bu))) (aw (e7 (aw (bq gg (pv 11) aM) (aw (bq e8 (pv 8) aM) bu))) (aw (pv 4) bu)))))))
    (cj (cZ (i:=10) a5.nd rfl (VH rfl) (bq gg (pv 10) (bq jZ (pv 12) (pv 13)))))) eX))) eX)))
    (cj (gd (pv 10) (nj (pv 4) (e7 (aw (pv 2) (aw (pv 3) bu))) (Aw hu))))))) eX) (cj (eY (fC (Ff hu) (pv 4) (e7 (aw (pv 2) (aw (pv 3) bu))) (λ_ _=>rfl))))))))),?_⟩
  obtain⟨nr,op,pt,st,kn,n,ps,jt,kvs,a,b,f,i,l,xs,rfl,ok,hn,rn,ho,a_,Kc,Mp,C0,sp,hb,GA,hl,mm,q⟩:=h;have hp:∀p∈ps,p.1<p.2:=λp h=>(ok.lt p h).1;have sl:=sp.len;refine⟨_,rfl,pt,_,rfl,og.of Mp,rfl,_,_,rfl,_,_,rfl,rfl,?_⟩;refine⟨_,rfl,st,_,rfl,og.of C0,rfl,_,_,rfl,_,_,rfl,rfl,?_⟩;refine⟨_,rfl,_,rfl,rfl,_,rfl,?_⟩;refine yw (λz=>?_) (λz=>?_)
  ·have z:(a:Int)=(b:Int):=V.int.inj z;obtain rfl:a=b:=by lia
   obtain rfl:=sp.uniq (.nil a);exact q H xs Kp.refl (λ_ z=>z) mm nY.refl
  have ug:a≠b:=λe=>z (by rw[e])
  refine⟨_,rfl,_,rfl,_,_,rfl,rfl,_,rfl,_,rfl,_,_,rfl,rfl,_,_,rfl,rfl,_,rfl,?_⟩;refine yw (λz2=>?_) (λz2=>?_)
  ·have:=q H xs Kp.refl (λ_ z=>z) mm nY.refl;rw[hE hp f l i (by lia)]at this
   exact this
  obtain⟨t,c,f1,g1,rfl,rfl,s1,s2,et⟩:=sp.inv ug;have l1:=s1.len;have l2:=s2.len;have hsz:=Fo.mV f1 g1;obtain⟨l,rfl⟩:∃m,l=m+1:=⟨l-1,by lia⟩
  have SD:∀{H':Hp} {ky:Addr},Go P w H kn ps jt H' xs->True:=λ_=>trivial;have g0:Go P w H kn ps jt H xs:=Go.refl mm;have Lo:∀{H':Hp} {iU:List (MK×Addr×SO)} {ky:Addr},Go P w H kn ps jt H' iU->H' ky=some (.tup [.ref pt,.ref st])->nV H' (pf a (c+1) i (i+(l+1))) ky:=λg e=>⟨pt,st,e,g.kp.tup _ _ Mp,by rw[g.kp.tup _ _ C0];rfl⟩
  refine⟨λσ' H'=>∃(iU:List (MK×Addr×SO)) (p:Addr) (t:Tok) (y9 NG Dx Dw Dv:Option V),σ'=[some (.ref nr),some (.ref op),some (.ref pt),some (.ref st),some (.ref kn),some (.int a),some (.int (c+1:Nat)),some (.int i),some (.int ((i:Int)+((l+1:Nat):Int))),y9,NG,Dx,Dw,Dv]/\Go P w H kn ps jt H' iU/\nY (l+1) xs iU/\Vb iU (pf a (c+1) i (i+(l+1)))=some (p,.int (aF ps (f1.snoc g1) (l+1) i) t),?_,?_⟩
  ·refine⟨_,rfl,_,rfl,(by show 2<=S7;decide),λky Kf=>?_⟩
   have ga:=g0.new (o:=.tup [.ref pt,.ref st]) Kf;refine⟨_,rfl,ky,kn,xs,_,rfl,rfl,ga.mm.m,Lo ga ah,_,rfl,?_⟩;generalize upd H ky (.tup [.ref pt,.ref st])=Ha at ga;rcases hk:Vb xs (pf a (c+1) i (i+(l+1)))with _|⟨p,v⟩
   ·refine Bz rfl ?_;have Q3:c<=50:=by lia
    have eS:((c+1:Nat):Int)-1=(c:Int):=by lia
    have eL:(i:Int)+((l+1:Nat):Int)-1=(i:Int)+(l:Int):=by lia
    have rb:=zQ hp ok.nd;refine⟨_,rfl,_,rfl,_,_,rfl,rfl,op,.int t,rfl,.inl ⟨kvs,.inl (c:Int),.inl (ga.kp.out _ _ ho a_),congrArg V.int eS,(Kc c t et).symm⟩,?_⟩;refine⟨_,rfl,_,rfl,_,rfl,_,rfl,_,rfl,_,_,rfl,rfl,(by show 2<=S7;decide),λk1 C1=>?_⟩
    have gb:=ga.new (o:=.tup [.int i,.int ((i:Int)+((l+1:Nat):Int)-1)]) C1;refine⟨_,rfl,nr,op,pt,k1,kn,n,ps,jt,kvs,a,c+1,f1.snoc g1,i,l,xs,rfl,ok,hn,rn.keep gb.kp,gb.kp.out _ _ ho a_,a_,Kc,gb.kp.tup _ _ Mp,by
     rw[ah];show some (HO.tup [V.int i,V.int ((i:Int)+((l+1:Nat):Int)-1)])=_;rw[eL],sp,hb,by lia,by lia,gb.mm,λH2 JP Of OV m2 Ri=>?_⟩
    have gc:=gb.go ⟨Of,OV,m2⟩;generalize upd Ha k1 (.tup [.int i,.int ((i:Int)+((l+1:Nat):Int)-1)])=Hb at gb Of OV;obtain⟨vs,cn,QE,Sm,Qs,OI,yM⟩:=Bl (rn.keep gc.kp) (b:=i+l) (by lia)
    refine⟨_,rfl,_,rfl,_,_,rfl,rfl,nr,_,_,_,rfl,rfl,cK.of QE,by
     rw[eL];unfold lx;rw[vG (i:=i+l) (by lia) (by lia)]
     exact Qs,cn,rfl,⟨_,cK.of yM⟩,?_⟩
    generalize Ov:yc ps (i+l)=nl at yM;have hpl:∀p∈nl,p<i+l:=λp BG=>by
     rw[<- Ov]at BG;obtain⟨r,IH,rfl⟩:=Ti.mp BG;obtain⟨h1,h2⟩:=Uy.mp IH;have:=hp r h1;have:r.2=i+l:=of_decide_eq_true h2;lia
    let tm:Nat->Int:=λc'=>if i<=c' then aF ps f1 (c' - i) i*aF ps g1 (i+l-c' - 1) (c'+1) else 0
    refine⟨λm cnt σ' H'=>m<=nl.length/\cnt=nl.length-m/\∃(iU:List (MK×Addr×SO)) (Dx Dw Dv:Option V),σ'=[some (.ref nr),some (.ref op),some (.ref pt),some (.ref st),some (.ref kn),some (.int a),some (.int (c+1:Nat)),some (.int i),some (.int ((i:Int)+((l+1:Nat):Int))),some (.int t),some (.int (aF ps (f1.snoc g1) l i+((nl.take m).map tm).sum)),Dx,Dw,Dv]/\Go P w H kn ps jt H' iU/\nY l xs iU/\H' cn=some (.lst (nl.map λa:Nat=>V.int a)),⟨_,Tb _,rfl,JP,none,none,none,by rw[List.take_zero,Xf,List.sum_nil,WH];rfl,gc,Ri,yM⟩,?_⟩
    rintro m cnt σ3 H3 ⟨hm,rfl,JO,Dx,Dw,Dv,rfl,g3,z5,yL⟩
    by_cases eQ:m<nl.length
    ·right
     refine⟨⟨_,.int (nl[m]),cK.of yL,by rw[Th,Td eQ];rfl⟩,λσ' H'=>∃(iU:List (MK×Addr×SO)) (Dx Dw Dv:Option V),σ'=[some (.ref nr),some (.ref op),some (.ref pt),some (.ref st),some (.ref kn),some (.int a),some (.int (c+1:Nat)),some (.int i),some (.int ((i:Int)+((l+1:Nat):Int))),some (.int t),some (.int (aF ps (f1.snoc g1) l i+((nl.take (m+1)).map tm).sum)),Dx,Dw,Dv]/\Go P w H kn ps jt H' iU/\nY l xs iU/\H' cn=some (.lst (nl.map λa:Nat=>V.int a)),λσ' H' z=>⟨_,by lia,eQ,rfl,z⟩,?_⟩
     rintro x H4 ⟨rfl,hx⟩;have hx:=hx _ (cK.of yL);rw[Th,Td eQ]at hx;obtain rfl:V.int (nl[m]:Nat)=x:=TJ hx;have J_:((nl.take (m+1)).map tm).sum=((nl.take m).map tm).sum+tm nl[m]:=by
      rw[UU,Td eQ,TQ,List.sum_append];show _+(tm nl[m]+0)=_;lia
     have Ka:=hpl _ (Ww eQ);rw[J_];generalize nl[m]=p at Ka hx;refine⟨_,rfl,_,rfl,_,_,rfl,rfl,_,rfl,?_⟩;refine yw (λz=>?_) λz=>?_
     ·have z:i<=p:=by lia
      have Kl:tm p=aF ps f1 (p-i) i*aF ps g1 (i+l-p-1) (p+1):=if_pos z;have ep:(p:Int)=(i:Int)+((p-i:Nat):Int):=by lia
      refine⟨_,rfl,_,rfl,_,rfl,_,rfl,(by show 2<=S7;decide),λk2 OC=>⟨_,rfl,_,rfl,(by show 2<=S7;decide),λk3 MG=>?_⟩⟩
      have g4:=g3.new (o:=.tup [.int a,.int t]) OC;have g5:=g4.new (o:=.tup [.int i,.int p]) MG;refine⟨_,rfl,nr,op,k2,k3,kn,n,ps,jt,kvs,a,t,f1,i,p-i,JO,rfl,ok,hn,rn.keep g5.kp,g5.kp.out _ _ ho a_,a_,Kc,au.new MG _ _ ah,by
       rw[ah];show some (HO.tup [V.int i,V.int p])=_;rw[ep],s1,by lia,by lia,by lia,g5.mm,λH5 NH Oe Rr m5 Jm=>?_⟩
      have g6:=g5.go ⟨Oe,Rr,m5⟩;have OR:=z5.trans Jm (by lia)
      have OW:=Oe.out _ _ (au.new MG _ _ (au.new OC _ _ yL)) OI;obtain⟨b0,b1⟩:=rb f1 (p-i) i;refine⟨_,rfl,_,_,rfl,rfl,_,rfl,?_⟩;refine yw (λz3=>?_) λz3=>?_
      ·refine⟨_,rfl,_,rfl,_,rfl,_,_,rfl,rfl,_,rfl,_,_,rfl,rfl,(by show 2<=S7;decide),λk6 OB=>⟨_,rfl,_,_,rfl,rfl,_,rfl,_,_,rfl,rfl,(by show 2<=S7;decide),λk7 MF=>?_⟩⟩
       have g7:=g6.new (o:=.tup [.int ((t:Int)+1),.int (((c+1:Nat):Int)-1)]) OB;have g8:=g7.new (o:=.tup [.int ((p:Int)+1),.int ((i:Int)+((l+1:Nat):Int)-1)]) MF;refine⟨_,rfl,nr,op,k6,k7,kn,n,ps,jt,kvs,t+1,c,g1,p+1,i+l-p-1,NH,rfl,ok,hn,rn.keep g8.kp,g8.kp.out _ _ ho a_,a_,Kc,by
        refine(au.new MF _ _ ah).trans ?_;show some (HO.tup [V.int ((t:Int)+1),V.int (((c+1:Nat):Int)-1)])=_;rw[eS];rfl,by
        rw[ah];show some (HO.tup [V.int ((p:Int)+1),V.int ((i:Int)+((l+1:Nat):Int)-1)])=_;rw[eL,show (i:Int)+(l:Int)=((p+1:Nat):Int)+((i+l-p-1:Nat):Int) by lia]
        rfl,s2,by lia,by lia,by lia,g8.mm,λH9 O8 Od Rq m9 Rh=>?_⟩
       have Rf:=g8.go ⟨Od,Rq,m9⟩;have Ru:=Od.out _ _ (au.new MF _ _ (au.new OB _ _ OW)) OI;exact⟨_,rfl,_,rfl,_,rfl,_,_,rfl,rfl,(rb f1).mul (rb g1) (by lia),_,_,rfl,rfl,O8,_,_,_,by rw[Kl,<- Int.add_assoc];rfl,Rf,OR.trans Rh (by lia),Ru⟩
      ·have e0:aF ps f1 (p-i) i=0:=by lia
       exact⟨NH,_,_,_,by rw[Kl,e0,Int.zero_mul,WH];rfl,g6,OR,OW⟩
     ·have Kl:tm p=0:=if_neg (by lia)
      rw[Kl,WH];exact⟨JO,_,_,_,rfl,g3,z5,yL⟩
    ·left
     obtain rfl:m=nl.length:=by lia
     refine⟨⟨_,cK.of yL,by rw[SS];exact SX _⟩,?_⟩
     rw[Wv];have M8:aF ps (f1.snoc g1) l i+(nl.map tm).sum=aF ps (f1.snoc g1) (l+1) i:=by rw[<- Ov];exact(Cn hp f1 g1 l i).symm
     rw[M8];refine⟨_,rfl,_,rfl,_,rfl,_,rfl,(by show 2<=S7;decide),λk9 QP=>?_⟩
     have g9:=g3.new (o:=.tup [.ref pt,.ref st]) QP;have ya:Vb JO (pf a (c+1) i (i+(l+1)))=none:=z5 _ _ _ _ (by lia) hk
     have NY:=Lo g9 ah;exact⟨k9,kn,JO,_,_,rfl,rfl,rfl,g9.mm.m,NY,ya,g9.mm.len,λtk=>⟨_,k9,tk,_,_,_,_,_,rfl,g9.put NY ya ⟨a,c+1,i,l+1,f1.snoc g1,tk,rfl,sp,hb,by lia,rfl⟩,(z5.mono (by lia)).put,sL ya⟩⟩
   ·obtain⟨tt,e2⟩:=mm.val sp hk;have e2:v=_:=e2;subst e2;exact n6 rfl ⟨xs,p,tt,_,_,_,_,_,rfl,ga,nY.refl,hk⟩
  ·rintro σ' H' ⟨iU,p,tt,y9,NG,Dx,Dw,Dv,rfl,g,fr,hk⟩;refine⟨_,rfl,_,rfl,_,rfl,(by show 2<=S7;decide),λky Kf=>?_⟩
   have ga:=g.new (o:=.tup [.ref pt,.ref st]) Kf;exact⟨ky,kn,iU,_,p,_,tt,rfl,rfl,ga.mm.m,Lo ga ah,hk,q _ iU ga.kp ga.dm ga.mm fr⟩
theorem xY {ux iI} (dW:D0 K mg ux iI):bc P w K mg base cY 1 ux iI ["near","opened","part","stretch","known"] (Hc P w 0) :=
 ⟨λvs H Q E h=>by
  obtain⟨_,_,_,_,_,_,_,_,_,_,_,_,_,_,_,_,_,_,_,_,_,_,_,_,_,_,_,hl,_⟩:=h;exact absurd hl (V2 _),λA outer s H args us vs Q E hr e0 hb r h=>by
  obtain⟨_,_,_,_,_,_,_,_,_,_,_,_,_,_,_,_,_,_,_,_,_,_,_,_,_,_,_,hl,_⟩:=h;exact absurd hl (V2 _)⟩
theorem tY {ux iI} (dW:D0 K mg ux iI):∀N:Nat,bc P w K mg base cY (N+1) ux iI ["near","opened","part","stretch","known"] (Hc P w N)
 |0=>xY dW
 |N+1=>xX dW N (tY dW N)
end
def fF:FD:=λds R=>∃n:Int,ds=[.int n]/\0<=n/\n<=40/\∀ts:List (List Int),ts.length<=n.toNat->cJ n ts->R (.lst (ts.map kD))
theorem fF.mono:fI fF:=λds R R' k ⟨n,e,h1,h2,q⟩=>⟨n,e,h1,h2,λts a b=>k _ (q ts a b)⟩
def p_:FD:=λds R=>ds=[]/\∀(n:Int) ts,0<=n->n<=40->ts.length<=400->cJ n ts->sN ts->ts.Nodup->R (.tup [.int n,.lst (ts.map kD)])
theorem p_.mono:fI p_:=λds R R' k ⟨e,q⟩=>⟨e,λn ts a b c d f g=>k _ (q n ts a b c d f g)⟩
section
variable {P:SW}{w:S_}{K:PySem.W.Frag}{mg:Str->Option SO}{base:Heap}
theorem bC:aY ["pot","many","often","pile","found","point","way"] ["pot","many"] (aD cM):=mkS
theorem rF {vU mf} (C9:D1 K mg vU mf) {BQ nI} (dT:D2 K mg BQ nI) (B:Bs mg):bc P w K mg base cY 2 vU mf ["pot","many"] (fS P w kR true fF):=by
 have GT:bc P w K mg base cY 1 _ _ _ (fS P w kR true bU):=gK dT.F;refine Be C9.F bC (λds R I9=> by obtain⟨n,e,_⟩ := I9;subst e;rfl) λc8 A outer s H E IO hr=>⟨_,(ai (a7 (i:=2) (cc aj d_ (bK (aa ak (aa ak (aa ak af)))) (ba (ih:=0) bU.mono GT (hr.mono (by decide)) dT.m dT.F.kp dT.b (aa ak af))) bC.nd)
    (ai (cP (i:=3) (λ_=>(bK af)) bC.nd)
    (ai (cP (i:=4) (λ_=>(bK af)) bC.nd)
    (ai (c4 Ug rfl (bt B.range (aa (ae (i:=1)) af)) (ay (i:=5) bC.nd) (ai (a7 (i:=6) (ba (ih:=0) bU.mono GT (hr.mono (by decide)) dT.m dT.F.kp dT.b (aa (aV a8 aU ak (ae (i:=2))) af)) bC.nd)
    (aB (eG (qz.t (ir (qz.t (gJ (aT aj (cv.m (e9 hr.units)) (ae (i:=6)) ak) (fA (aT aj (cv.m (iA hr.units)) (ae (i:=3)) (bK af))))) (jo (qz.t (gJ (aT aj (cv.m j0) (bh aj (cE.m fQ) B.len fH (aa (ae (i:=3)) af)) (aV aj (cv.m bL) (aV aj (cv.m bL) (ae (i:=1)) (ae (i:=5))) ak)) (fA (aT aj (cv.m (iA hr.units)) (ae (i:=3)) (bK af)))))))) (aB (cI (i:=4) (λ_=>(d7 (aa (rm (i:=3)) (aa (ae (i:=5)) af)))))) (aB (eG (aT aj (cv.m gf) (ae (i:=6)) ak) (aB (cI (i:=3) (λ_=>(ae (i:=5))))) dQ))))))
    (aB (cC (bh a8 fh B.sorted eU (aa (ae (i:=4)) af)))))))),λds R h=>?_⟩
 obtain⟨n,rfl,n0,n1,q⟩:=h;refine⟨trivial,trivial,trivial,G9,trivial,rfl,trivial,rfl,trivial,3,rfl,by lia,by lia,λr r0 r1=>pick r0 (by simpa using r1) λd hd=>?_⟩
 obtain⟨m,rfl,m0,m1⟩:∃m:Int,d=.int m/\0<=m/\m<=4:=by
  simp only[S5,UD,or_false]at hd;rcases hd with rfl|rfl|rfl
  ·exact⟨0,rfl,by lia,by lia⟩
  ·exact⟨1,rfl,by lia,by lia⟩
  ·exact⟨4,rfl,by lia,by lia⟩
 refine⟨Tb _,trivial,Tb _,trivial,_,rfl,trivial,n,rfl,by lia,by lia,trivial,?_⟩
 refine⟨λi β=>∃(ps:List Int) (fs:List (List Int)) (x5 x6:Option Q.B),β=[some (.hand kR),some (.val false (.int n)),some (.val true (.int m)),some (.own (.lst (ps.map D.int))),some (.own (.lst (fs.map kD))),x5,x6]/\fs.length<=i/\ps.length<=i/\i<=n.toNat/\cJ n fs/\(∀p∈ps,0<=p/\p<i),⟨[],[],_,_,rfl,SX _,SX _,Tb _,cJ.nil,λ_ z=>(nomatch z)⟩,?_,?_⟩
 ·rintro i d β hd ⟨ps,fs,x5,x6,rfl,h1,h2,h3,h4,h5⟩;obtain⟨hi,rfl⟩:=dt hd;refine⟨rfl,trivial,_,rfl,_,rfl,trivial,rfl,trivial,_,rfl,by lia,by lia,λr r0 r1=>?_⟩
  refine(λ(pop:ps≠[]->_) (Na:_)=>(λsecond=>⟨_,rfl,trivial,_,gV _ _,_,rfl,n9 (λ_=>⟨_,rfl,trivial,Tb _,_,qh ps [],_,rfl,J9 (λhp=>Bz rfl (pop hp)) (λhp=>second)⟩) (λ_=>n6 rfl second)⟩)
   ⟨_,rfl,trivial,_,rfl,trivial,_,rfl,trivial,_,rfl,_,rfl,trivial,_,rfl,_,rfl,_,rfl,n9 (λ_=>⟨_,rfl,trivial,Tb _,_,qh ps [],_,rfl,J9 (λhp=>pop hp) (λhp=>Na)⟩) (λ_=>n6 rfl Na)⟩) ?_ ?_
  ·intro hp;obtain⟨qs,p,rfl⟩:∃qs p,ps=qs++[p]:=⟨ps.dropLast,ps.getLast hp,(V4 hp).symm⟩;have zY:=h5 p (by simp)
   rw[Tw,Uz]at h2;refine⟨⟨_,rfl⟩,qs.map D.int,.int p,by simp,trivial,_,rfl,trivial,wA,trivial,fs.map kD,rfl,by rw[SS,TF];lia,?_⟩
   refine⟨qs,fs++[[p,0+(i:Int)]],_,_,by rw[mW];rfl,by simp;lia,by lia,by lia,h4.app (cJ.one (by lia) (by lia) (by lia)),λx hx=>?_⟩
   have:=h5 x (by simp[hx])
   lia
  ·refine⟨_,rfl,trivial,_,rfl,_,rfl,n9 (λ_=>?_) (λ_=>⟨ps,fs,_,_,rfl,by lia,by lia,by lia,h4,λp hp=>by have:=h5 p hp;lia⟩)⟩
   refine⟨⟨_,rfl⟩,_,rfl,trivial,_,rfl,by rw[SS,TF];lia,?_⟩
   refine⟨ps++[0+(i:Int)],fs,_,_,by rw[oF];rfl,by lia,by simp;lia,by lia,h4,λp hp=>?_⟩
   rcases S9.mp hp with z|z
   ·have:=h5 p z;lia
   ·rw[S3.mp z];lia
 ·rintro β ⟨ps,fs,x5,x6,rfl,h1,h2,h3,h4,h5⟩;rw[dq]at h1;refine⟨_,rfl,trivial,_,f7 h4.ne (by lia),.inl ⟨dB _,trivial,rfl,q _ ?_ (oD h4)⟩⟩
  rw[(bp fs).length_eq];exact h1
theorem bO:aY ["pot","many","found","tie","reach","k","a","b"] ["pot"] (aD fK):=mkS
theorem EK {Kj BP} (dR:D3 K mg Kj BP) {BQ nI} (dT:D2 K mg BQ nI) {vU mf} (C9:D1 K mg vU mf) (B:Bs mg):bc P w K mg base cY 3 Kj BP ["pot"] (fS P w kR true p_):=by
 have GT:bc P w K mg base cY 1 _ _ _ (fS P w kR true bU):=gK dT.F;have RL:bc P w K mg base cY 2 _ _ _ (fS P w kR true fF):=rF C9 dT B;refine Be dR.F bO (λds R IZ=> by obtain⟨e,_⟩ := IZ;subst e;rfl) λc8 A outer s H E IO hr=>⟨_,(ai (a7 (i:=1) (ba (ih:=0) bU.mono GT (hr.mono (by decide)) dT.m dT.F.kp dT.b (aa (cc aj d_ (bK (aa ak (aa ak (aa ak af)))) (ba (ih:=0) bU.mono GT (hr.mono (by decide)) dT.m dT.F.kp dT.b (aa ak af))) af)) bO.nd)
    (ai (cP (i:=2) (λ_=>(AM true)) bO.nd)
    (AX (eG (aT aj (cv.m (e9 hr.units)) (ba (ih:=0) bU.mono GT (hr.mono (by decide)) dT.m dT.F.kp dT.b (aa ak af)) ak) (aB (c4 Ug rfl (bP (ba (ih:=0) fF.mono RL (hr.mono (by decide)) C9.m C9.F.kp C9.b (aa (ae (i:=1)) af))) (ay (i:=3) bO.nd) (aB (tU (i:=2) hr.qQ (ae (i:=3)))))) dQ)
    (ai (a7 (i:=4) (cc aj d_ (bK (aa ak (aa ak af))) (ba (ih:=0) bU.mono GT (hr.mono (by decide)) dT.m dT.F.kp dT.b (aa ak af))) bO.nd)
    (ai (c4 Ug rfl (bt B.range (aa (aV aj (cv.m nu) (ba (ih:=0) bU.mono GT (hr.mono (by decide)) dT.m dT.F.kp dT.b (aa (cc aj d_ (bK (aa ak (aa ak (aa ak af)))) (ba (ih:=0) bU.mono GT (hr.mono (by decide)) dT.m dT.F.kp dT.b (aa ak af))) af)) (iu aj (cE.m wo) B.int zG (aa (ng aj (cv.m j0) (ae (i:=1)) ak) af))) af)) (ay (i:=5) bO.nd) (ai (a7 (i:=6) (ba (ih:=0) bU.mono GT (hr.mono (by decide)) dT.m dT.F.kp dT.b (aa (aV aj (cv.m bL) (ae (i:=1)) ak) af)) bO.nd)
    (ai (a7 (i:=7) (aV a8 aU (aV a8 aU (ae (i:=6)) ak) (ba (ih:=0) bU.mono GT (hr.mono (by decide)) dT.m dT.F.kp dT.b (aa (bh aj (cE.m (sI rfl)) B.min F_ (aa (ae (i:=4)) (aa (aV aj (cv.m bL) (aV aj (cv.m bL) (ae (i:=1)) ak) (ae (i:=6))) af))) af))) bO.nd)
    (aB (eG (aT aj (cv.m gf) (bh aj (cE.m sJ) B.len fH (aa (ae (i:=2)) af)) ak) (aB (tU (i:=2) hr.qQ (d7 (aa (ae (i:=6)) (aa (ae (i:=7)) af))))) dQ)))))
    (aB (cC (d7 (aa (ae (i:=1)) (aa (bh a8 (nP rfl) B.sorted eU (aa (ae (i:=2)) af)) af)))))))))),λds R h=>?_⟩
 obtain⟨rfl,q⟩:=h;refine⟨rfl,trivial,trivial,trivial,G9,trivial,rfl,trivial,rfl,trivial,3,rfl,by lia,by lia,λr r0 r1=>pick r0 (by simpa using r1) λd hd=>?_⟩
 obtain⟨m,rfl,m0,m1⟩:∃m:Int,d=.int m/\0<m/\m<=41:=by
  simp only[S5,UD,or_false]at hd;rcases hd with rfl|rfl|rfl
  ·exact⟨9,rfl,by lia,by lia⟩
  ·exact⟨17,rfl,by lia,by lia⟩
  ·exact⟨41,rfl,by lia,by lia⟩
 refine⟨trivial,rfl,trivial,m,rfl,m0,by lia,λn n0 n1=>⟨trivial,?_⟩⟩
 have add:∀{ts:List (List Int)} {t:List Int},ts.Nodup->cJ n ts->GL n t->(qw ts t).Nodup/\cJ n (qw ts t)/\(qw ts t).length<=ts.length+1:=λ{ts t} h1 h2 h3=>by
  unfold qw
  split
  ·exact⟨h1,h2,by lia⟩
  ·next hn =>
   refine⟨TZ.mpr ⟨h1,by simp,λx hx y hy z=>?_⟩,λu hu=>?_,by simp⟩
   ·rw[S3.mp hy]at z;exact hn (by rw[<- z];exact hx)
   ·rcases S9.mp hu with z|z
    ·exact h2 u z
    ·rw[S3.mp z];exact h3
 refine⟨λβ=>∃(ts:List (List Int)) (x3:Option Q.B),β=[some (.hand kR),some (.val true (.int n)),some (.own (dP ts true)),x3,none,none,none,none]/\ts.Nodup/\cJ n ts/\ts.length<=40,?_,?_⟩
 ·refine⟨rfl,trivial,rfl,trivial,2,rfl,by lia,by lia,λr r0 r1=>⟨trivial,_,gV _ _,_,rfl,n9 (λ_=>?_) (λ_=>⟨[],_,rfl,T4,cJ.nil,by simp⟩)⟩⟩
  refine⟨rfl,_,rfl,trivial,rfl,trivial,n,rfl,n0,by lia,λus ul ut=>⟨_,rfl,trivial,?_⟩⟩
  refine⟨λi β=>∃(ts:List (List Int)) (x3:Option Q.B),β=[some (.hand kR),some (.val true (.int n)),some (.own (dP ts true)),x3,none,none,none,none]/\ts.Nodup/\cJ n ts/\ts.length<=i,⟨[],_,rfl,T4,cJ.nil,by simp⟩,?_,?_⟩
  ·rintro i d β hd ⟨ts,x3,rfl,h1,h2,h3⟩;rw[Th]at hd;obtain⟨t,et,rfl⟩:=Tq.mp hd;have hi:i<us.length:=(SY.mp et).1;obtain⟨g1,g2,g3⟩:=add h1 h2 (ut t (TY et));exact⟨⟨_,rfl⟩,_,rfl,ts,t,rfl,rfl,by rw[TF];lia,_,_,rfl,g1,g2,by lia⟩
  ·rintro β ⟨ts,x3,rfl,h1,h2,h3⟩;rw[SS]at h3;exact⟨ts,_,rfl,h1,h2,by lia⟩
 rintro β ⟨ts,x3,rfl,h1,h2,h3⟩;refine⟨trivial,trivial,wA,trivial,rfl,trivial,rfl,trivial,2,rfl,by lia,by lia,λr r0 r1=>pick r0 (by simpa using r1) λd hd=>?_⟩
 obtain⟨rc,rfl,R8,R7⟩:∃m:Int,d=.int m/\0<m/\m<=41:=by
  simp only[S5,UD,or_false]at hd;rcases hd with rfl|rfl
  ·exact⟨4,rfl,by lia,by lia⟩
  ·exact⟨41,rfl,by lia,by lia⟩
 refine⟨rfl,trivial,trivial,trivial,G9,trivial,rfl,trivial,rfl,trivial,3,rfl,by lia,by lia,λr r0 r1=>pick r0 (by simpa using r1) λd hd=>?_⟩
 obtain⟨mm,rfl,P_,Sh⟩:∃m:Int,d=.int m/\0<m/\m<=301:=by
  simp only[S5,UD,or_false]at hd;rcases hd with rfl|rfl|rfl
  ·exact⟨9,rfl,by lia,by lia⟩
  ·exact⟨40,rfl,by lia,by lia⟩
  ·exact⟨301,rfl,by lia,by lia⟩
 refine⟨trivial,rfl,trivial,mm,rfl,P_,by lia,λc c0 c1=>?_⟩
 have Jp:B7 (.int c) (.int (if decide (n>1)=true then 1 else 0))=some (.int (c*(if decide (n>1)=true then 1 else 0))):=by
  show (if iT c _ then some _ else none)=_
  rw[if_pos (show iT c (if decide (n>1)=true then 1 else 0) from .inl ⟨by lia,by lia⟩)]
 have hj:0<=c*(if decide (n>1)=true then 1 else 0)/\c*(if decide (n>1)=true then 1 else 0)<=300/\(¬ n>1->c*(if decide (n>1)=true then 1 else 0)=0):=by
  by_cases hn:n>1
  ·simp[hn];lia
  ·simp[hn]
 generalize c*(if decide (n>1)=true then 1 else 0)=j at Jp hj
 refine⟨trivial,_,rfl,trivial,_,rfl,trivial,_,rfl,_,Jp,trivial,j,rfl,by lia,by lia,trivial,?_⟩
 refine⟨λi β=>∃(ts:List (List Int)) (x3 x5 x6 x7:Option Q.B),β=[some (.hand kR),some (.val true (.int n)),some (.own (dP ts true)),x3,some (.val true (.int rc)),x5,x6,x7]/\ts.Nodup/\cJ n ts/\ts.length<=40+i,⟨ts,_,_,_,_,rfl,h1,h2,by lia⟩,?_,?_⟩
 ·rintro i d β hd ⟨ts,x3,x5,x6,x7,rfl,h1,h2,h3⟩;obtain⟨hi,rfl⟩:=dt hd;have hn:n>1:=TV λz=>by have:=hj.2.2 z;lia
  refine⟨rfl,_,rfl,trivial,_,rfl,trivial,rfl,trivial,_,rfl,by lia,by lia,λa a0 a1=>?_⟩
  refine⟨_,rfl,trivial,_,rfl,trivial,rfl,_,rfl,trivial,_,rfl,trivial,_,rfl,trivial,_,rfl,_,rfl,trivial,_,rfl,trivial,rfl,trivial,_,rfl,by split <;> lia,by split <;> lia,λr r0 r1=>⟨_,rfl,?_⟩⟩
  have hb:a+1+r<n:=by split at r1 <;> lia
  refine⟨_,rfl,trivial,_,rfl,trivial,_,rfl,_,rfl,n9 (λ_=>?_) (λ_=>⟨ts,_,_,_,_,rfl,h1,h2,by lia⟩)⟩
  obtain⟨g1,g2,g3⟩:=add h1 h2 (t:=[a,a+1+r]) ⟨_,_,rfl,by lia,by lia,by lia⟩
  exact⟨⟨_,rfl⟩,_,rfl,trivial,_,rfl,trivial,wA,ts,[a,a+1+r],rfl,rfl,by rw[TF];lia,_,_,_,_,_,rfl,g1,g2,by lia⟩
 ·rintro β ⟨ts,x3,x5,x6,x7,rfl,h1,h2,h3⟩;rw[dq]at h3;refine⟨_,rfl,trivial,_,rfl,trivial,_,Ao h2.ne (by lia),.inl ⟨dB _,trivial,wA,trivial,rfl,q n (d3 ts) n0 (by lia) (by rw[(bp ts).length_eq];lia) (oD h2) (fw ts) ((bp ts).nodup_iff.mpr h1)⟩⟩
end
end jD
namespace L2.Q
open PySem PySem.Spec PySem.SeqAt PyProof.Rows
abbrev kI (kvs:List (Int×D)):List Key:=kvs.map λp=>.inl p.1
def dI (kvs:List (Int×D)):D:=.dK (kI kvs) (kvs.map (·.2))
def de (kvs:List (Int×D))(k:Int):Option D:=(kvs.find? λp=>decide (p.1=k)).map (·.2)
section
variable {P:SW}{w:S_}{W:Addr->Prop}{H:Hp}
theorem oP {k:Int}:∀{kvs:List (Int×D)} {vs:List V},ag P w W H (kvs.map (·.2)) vs->(gz ((kI kvs).zip vs) (.inl k)).isSome=(de kvs k).isSome/\∀d,de kvs k=some d->∃v,gz ((kI kvs).zip vs) (.inl k)=some v/\ar P w W H d v
 |[],_,h=>by cases h;exact⟨rfl,λd z=>by cases z⟩
 |p::kvs,_,⟨v,r,rfl,h1,h2⟩=>by
  obtain⟨i1,i2⟩:=oP (k:=k) (kvs:=kvs) h2;unfold gz de kI at *
  rw[S4,UC,Uh,Uh]
  by_cases hk:p.1=k
  ·rw[decide_eq_true (show (VE p.1:Key)=.inl k by rw[hk]),decide_eq_true hk]
   exact⟨rfl,λd' e=>by cases e;exact⟨v,rfl,h1⟩⟩
  ·rw[decide_eq_false (show ¬ (VE p.1:Key)=.inl k from λz=>hk (by cases z;rfl)),decide_eq_false hk]
   exact⟨i1,i2⟩
theorem E6 {kvs:List (Int×D)}{vs:List V}(r:ag P w W H (kvs.map (·.2)) vs):(kI kvs).length=vs.length:=by rw[SS,r.length,SS]
end
section
end
section
end
section
end
section
variable {X:Cx}{C:Cfg}{k e:Expr}{φ φk:aJ}{i:Nat}{x:Str}{pos pos' px:Pos}{p pk:Bool}
def Ho (i:Nat)(φk:aJ)(t0:Option Addr:=none):aJ:=λβ R=>(∃d,β[i]?=some (some (.shl (xi t0) d)))/\φk β λjd _ β1=>∃ds t m d,jd=.int t/\β1[i]?=some (some (.shl (xi t0) (.lst ds)))/\qF ds.length t=some m/\ds[m]?=some d/\R d .cy β1
theorem nc (hk:PQ X C pk k φk)(hn:Nm X i x:=by exact rH)(hs:jC k:=by exact λ_ _=>rfl)(t0:Option Addr:=none):
  PQ X C pk (.Subscript (.Name x px) k pos) (Ho i φk t0) :=
 ⟨λβ R R' kk h=>⟨h.1,hk.mono _ _ _ (λjd _ β1 kl=>by obtain⟨ds,t,m,d,h1,h2,h3,h4,q⟩:=kl;exact⟨ds,t,m,d,h1,h2,h3,h4,kk _ _ _ q⟩) h.2⟩,(fC cQ (du (pos:=px) hn) hk.pe hs).pre λσ H Q pN=>by
  obtain⟨β,own,sq,⟨d0,wF⟩,q⟩:=pN;obtain⟨a0,_,_,⟨nE,_⟩,_⟩:=sq.ia t0 wF;refine⟨_,nE,tQ.of hk sq q λjd kj β1 jv H1 aA fV o r=>?_⟩;obtain⟨ds,t,m,d,e1,hb,hm,hg,q⟩:=fV;subst e1;obtain⟨a,o1,vs,⟨g1,_⟩,g2,g3,g4,g5,_,_⟩:=o.sq.ia t0 hb;rw[nE]at g1;cases g1;cases g4;cases (show jv=.int t from r.rep)
  obtain⟨w',hw,vc⟩:=ag.get g5 hg;have Kn:lx vs t=some w':=by unfold lx;rw[show vs.length=ds.length from g5.length,hm];exact hw
  exact⟨a0,vs,t,w',rfl,rfl,cK.of g3,Kn,q _ _ aA o (ar.aN (λc z=>.inl z) vc)⟩⟩
theorem AY (he:∀U,PQ X (C.u U) p e φ)(hk:∀U,PQ X (C.u U) pk k φk)(hn:Nm X i x:=by exact rH)
  (hs:swapsWithSole [.Subscript (.Name x px) k pos'] e pos.line X.env=pure false:=by rfl) (C0:swappedStores [.Subscript (.Name x px) k pos'] e X.env=pure none:=by rfl)
  (ha:∀v,assign (.Subscript (.Name x px) k pos') X.env v=(do
   let ov <- holding [v] (eval (.Name x px) X.env)
   let iv <- holding [v,ov] (eval k X.env)
   Wy pos'
   holding [v,ov,iv] (setItem ov iv v)
   release [v,ov,iv] []):=by intro _;rfl) (t0:Option Addr:=none) :
  PB X C (.Assign [.Subscript (.Name x px) k pos'] e pos) (λE β=>φ β λd kd β1=>(LI kd d/\kd≠.bor)/\(∃ds,β1[i]?=some (some (.shl (xi t0) (.lst ds))))/\φk β1 λjd _ β2=>∃ds t m,jd=.int t/\β2[i]?=some (some (.shl (xi t0) (.lst ds)))/\qF ds.length t=some m/\E.nx (β2.set i (some (.shl (xi t0) (.lst (ds.set m d)))))):=by
 refine⟨λE E' β l q=>(he λ_=>False).mono _ _ _ (λd kd β1 yC=>by obtain⟨f,h0,q⟩:=yC;exact⟨f,h0,(hk λ_=>False).mono _ _ _ (λjd _ β2 yB=>by obtain⟨ds,t,m,h1,h2,h3,q⟩:=yB;exact⟨ds,t,m,h1,h2,h3,l.nx _ q⟩) q⟩) q,λpins s σ H De I ki=>?_⟩
 obtain⟨Z,E,β,⟨own,sq,n⟩,q,ok⟩:=ki;refine gd (he λa=>H a=none).pe (nj (du (pos:=px) hn) (hk λa=>H a=none).pe set_list ha) hs C0 rfl pins s σ H De I ?_;refine tQ.of (he λa=>H a=none) (sq.gy (C:=C.z) (U:=λa=>H a=none) λa z=>z) q λd kd β1 v H1 aA rT o r=>?_;obtain⟨⟨f,nb⟩,⟨OU,wF⟩,q⟩:=rT;obtain⟨a0,_,_,⟨nE,_⟩,_⟩:=o.sq.ia t0 wF;refine⟨_,nE,tQ.of (hk λa=>H a=none) o.sq q λjd kj β2 jv H2 aP Iy o2 r2=>?_⟩;obtain⟨ds,t,m,e1,hb,hm,q⟩:=Iy;subst e1;have rv:=(KV.held (Z:=(H,Wn own)) nb r o2.sn).yg f;obtain⟨a,o1,vs,⟨g1,_⟩,g2,g3,g4,g5,_,_⟩:=o2.sq.ia t0 hb;rw[nE]at g1;cases g1;cases g4;cases (show jv=.int t from r2.rep)
 refine⟨a0,vs,t,m,rfl,rfl,g3,by rw[show vs.length=ds.length from g5.length];exact hm,?_⟩
 have wa:av (C.u λa=>H a=none) (Wn aP) .cy a0:=.inl ⟨i,by rw[g2];simp⟩
 have kp:Kp (av (C.u λa=>H a=none) (Wn aP) .cy) H2 (upd H2 a0 (.lst (vs.set m v))):=rO g3 (λxs z=>by cases z) wa
 obtain⟨s2,hA,hw,yF⟩:=o2.sq.CB t0 (d':=.lst (ds.set m d)) (o:=.lst (vs.set m v)) (vs':=vs.set m v) hb nE rfl (ag.set (rv.keep kp) m ((ag.aN (λc z=>.inl z) g5).keep kp));exact ok.nx _ _ _ ⟨_,s2,jN (C:=C) ((n.trans o.sn).trans o2.sn) (λb z=>n.free z) hw yF hA⟩ q
end
section
end
end L2.Q
namespace L2
open PySem PySem.Spec PySem.SeqAt PyProof.Rows L2.Q
theorem tx {n:Nat}{ps:List (Nat×Nat)}:zW n ps=.tup [.int (n:Int),.lst ((ps.map tI).map kD)]:=by
 unfold zW JR;rw[T1];rfl
end L2
namespace L2.Q
open PySem
theorem yU {γ:cD}{ψ:Dr}{E:cX}{ds:List D}{k:Kd}{β:a9}(I:Nat->a9->Prop)(h0:I 0 β)(h1:∀E':cX,(∀d β,E.rt d β->E'.rt d β)->∀i:Nat,(∀β,I (i+1) β->E'.nx β)->∀d β,ds[i]?=some d->I i β->γ d (sk k d) β λβ1=>ψ E' β1)
  (h2:∀β,I ds.length β->E.nx β):yT γ ψ E ds k β:=⟨I,h0,λi d β e q=>h1 (E.lp (I (i+1))) (λ_ _ q=>q) i (λ_ q=>q) d β e q,h2⟩
end L2.Q
namespace jD
open PySem L2 L2.Q
def qc:FD:=λds R=>∃cs:List Nat,ds=[.str (cw cs)]/\(∀c∈cs,c<128)/\cs.length<=600/\R (JA cs)
theorem qc.mono:fI qc:=λds R R' k ⟨cs,e,h1,h2,q⟩=>⟨cs,e,h1,h2,k _ q⟩
section
variable {P:SW}{w:S_}{K:PySem.W.Frag}{mg:Str->Option SO}{base:Heap}
theorem di:aY ["text","waiting","arcs","at","sign"] ["text"] (aD fL):=mkS
theorem Bc {vX mn} (Dh:D4 K mg vX mn) (B:JM mg):bc P w K mg base cY 2 vX mn ["text"] (kP P w true qc):=by
 refine Bf Dh.F di (λds R IY=> by obtain⟨cs,e,_⟩ := IY;subst e;rfl) λc8 A outer s H E hr=>⟨_,(ai (cP (i:=1) (λ_=>(bK af)) di.nd)
    (ai (cP (i:=2) (λ_=>(bK af)) di.nd)
    (ai (c4 Ug rfl (lO B.enumerate (aa (ae (i:=0)) af)) (ck (n:=2) rfl (aG (ay (i:=3) di.nd) (aG (ay (i:=4) di.nd) bI))) (aB (eG (aT aj (cv.m (e9 hr.units)) (ae (i:=4)) cH) (aB (cI (i:=1) (λ_=>(ae (i:=3))))) (aB (eG (qz.t (gJ (aT aj (cv.m (e9 hr.units)) (ae (i:=4)) cH) (fA (tN (ae (i:=1)))))) (aB (cI (i:=2) (λ_=>(d7 (aa (rm (i:=1)) (aa (ae (i:=3)) af)))))) (aB (eG (aT aj (cv.m (iA hr.units)) (ae (i:=4)) cH) (aB (cC rp)) dQ)))))))
    (aB (cC (Hz (tN (ae (i:=1))) rp (bh a8 fh B.sorted eU (aa (ae (i:=2)) af)))))))),λds R h=>?_⟩
 obtain⟨cs,rfl,asc,hl,q⟩:=h;refine⟨Tb _,trivial,Tb _,trivial,_,rfl,trivial,_,rfl,pK asc,trivial,?_⟩;rw[xk];refine yU (λi β=>∃(ws:List Int) (fs:List (List Int)) (x3 x4:Option Q.B),β=[some (.val false (.str (cw cs))),some (.own (.lst (ws.map D.int))),some (.own (.lst (fs.map kD))),x3,x4]/\cV (cs.drop i) (i:Int) ws fs=cV cs 0 [] []/\ws.length<=i/\fs.length<=i/\i<=cs.length/\∀f∈fs,f≠[]) ⟨[],[],_,_,rfl,rfl,Tb _,Tb _,Tb _,λ_ z=>nomatch z⟩ (λE1 r1 i n1 d β hd hv=>?_) λβ hv=>?_
 ·obtain⟨ws,fs,x3,x4,rfl,h1,h2,h3,h4,h5⟩:=hv;obtain⟨b,hb,rfl⟩:=iL hd;rw[Th]at hb;obtain⟨c,hc,rfl⟩:=Tq.mp hb;obtain⟨hi,ec⟩:=SY.mp hc;have vQ:c<128:=asc c (TY hc);rw[Ts hi,ec,cV]at h1;refine⟨_,rfl,rfl,_,_,rfl,_,_,rfl,rfl,_,rfl,trivial,_,zv vQ,_,rfl,n9 (λq1=>?_) λq1=>?_⟩
  ·rw[if_pos q1]at h1;refine⟨⟨_,rfl⟩,_,rfl,trivial,_,rfl,by rw[SS,TF];omega,n1 _ ⟨ws++[(i:Int)],fs,_,_,by rw[oF];rfl,h1,by simp;omega,by omega,by omega,h5⟩⟩
  rw[if_neg q1]at h1;have rest:¬ (c=41/\ws≠[])->(¬ c=46->E1.rt .bJ [some (.val false (.str (cw cs))),some (.own (.lst (ws.map D.int))),some (.own (.lst (fs.map kD))),some (.val true (.int i)),some (.val true (.str (fu c)))])/\(c=46->E1.nx [some (.val false (.str (cw cs))),some (.own (.lst (ws.map D.int))),some (.own (.lst (fs.map kD))),some (.val true (.int i)),some (.val true (.str (fu c)))]):=λt=>by
   rw[if_neg t]at h1;refine⟨λq3=>?_,λq3=>?_⟩
   ·rw[if_pos q3]at h1;refine r1 _ _ ?_;show R .bJ
    rwa [JA,<- h1]at q
   ·rw[if_neg (λz=>z q3)]at h1;exact n1 _ ⟨ws,fs,_,_,rfl,h1,by omega,by omega,by omega,h5⟩
  refine⟨_,rfl,trivial,_,F0 vQ,_,rfl,n9 (λq2=>?_) λq2=>?_⟩
  ·by_cases hw:ws=[]
   ·subst hw;refine⟨_,rfl,_,rfl,n6 rfl ?_⟩;obtain⟨hA,hB⟩:=rest (λz=>z.2 rfl);exact⟨_,rfl,trivial,_,zj vQ,_,rfl,J9 (λq3=>⟨trivial,hA q3⟩) λq3=>hB q3⟩
   ·rw[if_pos ⟨q2,hw⟩]at h1;obtain⟨qs,p,rfl⟩:∃qs p,ws=qs++[p]:=⟨ws.dropLast,ws.getLast hw,(V4 hw).symm⟩;rw[Vo,VY]at h1;rw[Tw,Uz]at h2;refine⟨_,rfl,_,rfl,Bz (by simp) ?_⟩
    refine⟨⟨_,rfl⟩,qs.map D.int,.int p,by simp,trivial,_,rfl,trivial,wA,trivial,fs.map kD,rfl,by rw[SS,TF];omega,n1 _ ⟨qs,fs++[[p,(i:Int)]],_,_,by rw[mW];rfl,h1,by omega,by simp;omega,by omega,λf hf=>?_⟩⟩
    rcases S9.mp hf with z|z
    ·exact h5 f z
    ·rw[S3.mp z];exact λz=>nomatch z
  ·obtain⟨hA,hB⟩:=rest (λz=>q2 z.1);exact n6 rfl ⟨_,rfl,trivial,_,zj vQ,_,rfl,J9 (λq3=>⟨trivial,hA q3⟩) λq3=>hB q3⟩
 ·obtain⟨ws,fs,x3,x4,rfl,h1,h2,h3,h4,h5⟩:=hv;rw[iJ,SS]at h1 h3 h2;rw[U5,cV]at h1;unfold JA at q;rw[<- h1]at q
  by_cases hw:ws=[]
  ·subst hw;refine⟨_,rfl,_,rfl,n6 rfl ⟨_,rfl,trivial,_,f7 h5 (by omega),.inl ⟨dB _,trivial,q⟩⟩⟩
  ·refine⟨_,rfl,_,rfl,Bz (by cases ws <;> first|exact absurd rfl hw|rfl) ⟨trivial,?_⟩⟩
   show R .bJ;have q:R (if ws=[] then .lst ((d3 fs).map kD) else .bJ):=q
   rwa [if_neg hw]at q
end
end jD
namespace L2.Q
open PySem PySem.Spec PySem.SeqAt PyProof.Rows
def iq (kvs:List (Int×D))(t:Int)(d:D):List (Int×D):=if (kvs.any λp=>decide (p.1=t))=true then kvs.map (λp=>if p.1=t then (p.1,d) else p) else kvs++[(t,d)]
section
variable {kvs:List (Int×D)}{t s:Int}{d:D}
theorem wO:(kvs.any λp=>decide (p.1=t))=(de kvs t).isSome:=by
 unfold de;rw[Option.isSome_map]
 induction kvs with
 |nil=>rfl
 |cons p kvs ih =>
  rw[VX,Uh]
  by_cases h:p.1=t
  ·rw[decide_eq_true h];rfl
  ·rw[decide_eq_false h];exact ih
theorem gA:de (iq kvs t d) s=if s=t then some d else de kvs s:=by
 unfold iq;rw[wO];cases h:(de kvs t).isSome with
 |true =>
  rw[if_pos rfl];have key:∀l:List (Int×D),(de l t).isSome=true\/s≠t->de (l.map λp=>if p.1=t then (p.1,d) else p) s=if s=t then some d else de l s:=λl=>by
   induction l with
   |nil =>
    intro z;rcases z with z|z
    ·cases z
    ·rw[if_neg z];rfl
   |cons p l ih =>
    intro z;unfold de at z ih ⊢
    rw[S4,Uh,Uh]
    by_cases h1:p.1=t
    ·rw[if_pos h1]
     by_cases h2:s=t
     ·rw[if_pos h2,decide_eq_true (show p.1=s by rw[h1,h2])];rfl
     ·rw[if_neg h2,decide_eq_false (show ¬ p.1=s from λe=>h2 (by rw[<- e,h1]))]
      have:=ih (.inr h2);rw[if_neg h2]at this;exact this
    ·rw[if_neg h1]
     by_cases h3:p.1=s
     ·rw[decide_eq_true h3,if_neg (λe=>h1 (by rw[h3,e]))]
     ·rw[decide_eq_false h3];refine ih ?_;rcases z with z|z
      ·rw[Uh,decide_eq_false h1]at z;exact .inl z
      ·exact .inr z
  exact key kvs (.inl h)
 |false =>
  rw[if_neg (by decide)]
  have hn:de kvs t=none:=by cases e:de kvs t with|none=>rfl|some _=>rw[e]at h;cases h
  unfold de at hn ⊢
  rw[Xg]
  by_cases h2:s=t
  ·subst h2;rw[if_pos rfl,VO.mp hn,Uh,decide_eq_true rfl];rfl
  ·rw[if_neg h2,Uh,decide_eq_false (λe=>h2 (Eq.symm e))];cases List.find? (λp=>decide (p.1=s)) kvs <;> rfl
end
section
variable {P:SW}{w:S_}{W:Addr->Prop}{H:Hp}
theorem sS {t:Int}:∀{kvs:List (Int×D)} {vs:List V},(kI kvs).length=vs.length->(((kI kvs).zip vs).any λkv=>decide (kv.1=.inl t))=kvs.any λp=>decide (p.1=t)
 |[],_,_=>rfl
 |p::kvs,[],l=>by cases l
 |p::kvs,v::vs,l=>by
  unfold kI at l ⊢
  rw[S4,UC,VX,VX];have:=sS (t:=t) (kvs:=kvs) (vs:=vs) (VP l);unfold kI at this;rw[this]
  by_cases h:p.1=t
  ·rw[decide_eq_true h,decide_eq_true (show (VE p.1:Key)=.inl t by rw[h])]
  ·rw[decide_eq_false h,decide_eq_false (show ¬ (VE p.1:Key)=.inl t from λz=>h (by cases z;rfl))]
theorem sR {t:Int}{d:D}{v:V}(hv:ar P w W H d v):∀{kvs:List (Int×D)} {vs:List V},ag P w W H (kvs.map (·.2)) vs->∃vs',((kI kvs).zip vs).map (λkv=>if kv.1=.inl t then (kv.1,v) else kv)=(kI (kvs.map λp=>if p.1=t then (p.1,d) else p)).zip vs'/\ag P w W H ((kvs.map λp=>if p.1=t then (p.1,d) else p).map (·.2)) vs'
 |[],_,h=>by cases h;exact⟨[],rfl,rfl⟩
 |p::kvs,_,⟨u,r,rfl,h1,h2⟩=>by
  obtain⟨vs',e,r'⟩:=sR hv h2;unfold kI at e ⊢
  by_cases h:p.1=t
  ·refine⟨v::vs',?_,?_⟩
   ·rw[S4,UC,S4,if_pos (show (VE p.1:Key)=.inl t by rw[h]),S4,if_pos h,S4,UC,e]
   ·rw[S4,if_pos h,S4];exact⟨v,vs',rfl,hv,r'⟩
  ·refine⟨u::vs',?_,?_⟩
   ·rw[S4,UC,S4,if_neg (show ¬ (VE p.1:Key)=.inl t from λz=>h (by cases z;rfl)),S4,if_neg h,S4,UC,e]
   ·rw[S4,if_neg h,S4];exact⟨u,vs',rfl,h1,r'⟩
theorem AA {t:Int}{d:D}{v:V}{kvs:List (Int×D)}{vs:List V}(hv:ar P w W H d v)(r:ag P w W H (kvs.map (·.2)) vs):∃vs',putK ((kI kvs).zip vs) (.inl t) v=(kI (iq kvs t d)).zip vs'/\ag P w W H ((iq kvs t d).map (·.2)) vs':=by
 unfold putK iq;rw[sS (E6 r)]
 by_cases h:(kvs.any λp=>decide (p.1=t))=true
 ·rw[if_pos h,if_pos h];exact sR hv r
 ·rw[if_neg h,if_neg h];refine⟨vs++[v],?_,by rw[TQ];exact ag.snoc hv r⟩
  have l:=E6 r;unfold kI at l ⊢
  rw[TQ,List.zip_append l];rfl
end
section
end
section
variable {X:Cx}{C:Cfg}{k e:Expr}{φ φk:aJ}{i:Nat}{x:Str}{pos pos' px pc:Pos}{p pk:Bool}
theorem xO (hu:X.A.units+1<Vt)(he:∀U,PQ X (C.u U) p e φ)(hk:∀U,PQ X (C.u U) pk k φk)(hn:Nm X i x:=by exact rH)
  (hs:UB e (some (.Subscript (.Name x px) k pos')) pos.line X.env=pure false:=by rfl) :
  PB X C (.Assign [.Subscript (.Name x px) k pos'] e pos) (λE β=>φ β λd kd β1=>(LI kd d/\kd≠.bor)/\(∃kvs,β1[i]?=some (some (.shl .one (dI kvs))))/\φk β1 λjd _ β2=>∃kvs t,jd=.int t/\β2[i]?=some (some (.shl .one (dI kvs)))/\kvs.length<S7/\E.nx (β2.set i (some (.shl .one (dI (iq kvs t d)))))):=by
 refine⟨λE E' β l q=>(he λ_=>False).mono _ _ _ (λd kd β1 h=>by obtain⟨f,h0,q⟩:=h;exact⟨f,h0,(hk λ_=>False).mono _ _ _ (λjd _ β2 h=>by obtain⟨kvs,t,h1,h2,h4,q⟩:=h;exact⟨kvs,t,h1,h2,h4,l.nx _ q⟩) q⟩) q,λpins s σ H De I fV=>?_⟩
 obtain⟨Z,E,β,⟨own,sq,n⟩,q,ok⟩:=fV;refine tL hu (du (pos:=px) hn) (hk λa=>H a=none).pe (he λa=>H a=none).pe hs pins s σ H De I ?_;refine tQ.of (he λa=>H a=none) (sq.gy (C:=C.z) (U:=λa=>H a=none) λa z=>z) q λd kd β1 v H1 aA ki o r=>?_;obtain⟨⟨f,nb⟩,⟨Qd,wF⟩,q⟩:=ki;obtain⟨a0,_,_,nE,_⟩:=o.sq.Ct wF;refine⟨_,nE,tQ.of (hk λa=>H a=none) o.sq q λjd kj β2 jv H2 aP rT o2 r2=>?_⟩;obtain⟨kvs,t,e1,hb,hl,q⟩:=rT;subst e1;have rv:=(KV.held (Z:=(H,Wn own)) nb r o2.sn).yg f;obtain⟨a,o1,vs,g1,g2,g3,g4,g5,_,_⟩:=o2.sq.Ct hb;rw[nE]at g1;cases g1;obtain⟨rfl,l⟩:=g4;cases (show jv=.int t from r2.rep)
 refine⟨a0,_,rfl,.inl ⟨_,.inl t,g3,rfl,by rw[XC,<- l,Nat.min_self,SS];exact hl,rfl⟩,?_⟩
 have wa:av (C.u λa=>H a=none) (Wn aP) .cy a0:=.inl ⟨i,by rw[g2];simp⟩
 have kp:Kp (av (C.u λa=>H a=none) (Wn aP) .cy) H2 (upd H2 a0 (.dK (putK ((kI kvs).zip vs) (.inl t) v))):=rO g3 (λxs z=>by cases z) wa
 obtain⟨vs',ev,NR⟩:=AA (t:=t) (rv.keep kp) ((ag.aN (λc z=>.inl z) g5).keep kp);obtain⟨s2,hA,hw,yF⟩:=o2.sq.Lm (d':=dI (iq kvs t d)) (o:=.dK (putK ((kI kvs).zip vs) (.inl t) v)) (vs':=vs') hb nE ⟨by rw[ev],E6 NR⟩ NR
 exact ok.nx _ _ _ ⟨_,s2,jN (C:=C) ((n.trans o.sn).trans o2.sn) (λb z=>n.free z) hw yF hA⟩ q
theorem xP (hN:X.N.Nodup)(hi:X.N[i]?=some x:=by rfl)(hx:Loc X.env.scope x:=by first|exact .inl rfl|exact .inr rfl)
  (hs:UB (.Dict [] [] pc) (some (.Name x pos')) pos.line X.env=pure false:=by rfl) (hf:X.fn x=true\/X.env.scope.names.lookup x=some .local:=by first|exact .inl rfl|exact .inr rfl|assumption) :
  PB X C (.Assign [.Name x pos'] (.Dict [] [] pc) pos) (λE β=>i<β.length/\E.nx (β.set i (some (.shl .one (dI []))))) :=
 ⟨λE E' β l h=>⟨h.1,l.nx _ h.2⟩,λpins s σ H D I pN=>by
  obtain⟨Z,E,β,⟨own,sq,n⟩,⟨GA,q⟩,ok⟩:=pN;refine cZ hN hi hx xK hs hf pins s σ H D I λa ha=>?_;have h0:C.H0 a=none:=TV λz=>sq.f6 a z ha;have nw:¬ Wn own a:=λz=>sq.uF a z ha;have s1:=(sq.gy (C:=C.z) (U:=λc=>c=a) λc z=>by rw[z];exact ha).same (au.new (o:=.dK []) ha)
  have s2:=s1.jQ (i:=i) (jr (d:=dI []) (vs:=[]) (W:=λ_=>False) (H':=H) (by rfl) ⟨rfl,rfl⟩ ah) (by simp) λc hc=>⟨by rw[S3.mp hc];exact h0,by rw[S3.mp hc];exact nw,S3.mp hc⟩
  have s3:=s2.toShl (d:=dI []) (y:=.one) (get_set GA) (get_set (by rw[<- sq.len];exact GA)) ⟨a,.dK [],[],rfl,by rw[os_eq],ah,⟨rfl,rfl⟩,rfl⟩
  rw[V7]at s3;refine ok.nx _ _ _ ⟨_,s3,?_⟩ q;have m:=n.same (au.new (o:=.dK []) ha);exact⟨λb yC=>by
   obtain⟨j,hj⟩:=yC
   by_cases aE:i=j
   ·rw[<- aE,os_eq]at hj;rw[S3.mp hj];exact .inr (n.free ha)
   ·rw[bf aE]at hj;exact m.w b ⟨j,hj⟩,m.k,m.d⟩⟩
end
section
variable {X:Cx}{C:Cfg}{k N i1 i2:Nat}{f:Addr}{fd:T7}{ns:List Str}{x x1 x2:Str}{pp pos p1 p2 p5:Pos}{e3 e4:Expr}{φ3 φ4:aJ}
def qM (N i1 i2:Nat)(φ3 φ4:aJ):aJ:=λβ R=>∃(y1:Bool) (n:Nat) (ps:List (Nat×Nat)) (kvs:List (Int×D)),β[i1]?=some (some (.val y1 (yb n ps)))/\β[i2]?=some (some (.shl .one (dI kvs)))/\φ3 β λt3 k3 β1=>hold k3 true/\φ4 β1 λt4 k4 β2=>∃(a b l:Nat) (jt:Nat->Option Nat) (fo:Fo),t3=.tup [.int a,.int b]/\t4=.tup [.int 0,.int l]/\(∀c t,jt c=some t->de kvs (c:Int)=some (.int (t:Int)))/\Gp n ps/\n<=40/\iR jt a b fo/\b<=50/\l<=n/\l<N/\R (.int (aF ps fo l 0)) .own β2
theorem xC (G:bc X.prog X.w X.K X.mg X.base cY k f fd ns (Hc X.prog X.w N))(hr:cW k X.A)(hm:X.mg x=some (.ref f))(hk:PySem.W.keepIn X.K (.ref f)=true)(hb:Binds X.K fd ns [])(h3:PQ X C true e3 φ3)(h4:PQ X C true e4 φ4)(Ke:Nm X i1 x1:=by exact rH)(Gy:Nm X i2 x2:=by exact rH)(hg:Gl X x:=by rfl)(hdb:(x==("__debug__" : Str))=false:=by decide)
  (Oq:Te [.Name x1 p1,.Name x2 p2,e3,e4,.Dict [] [] p5] X.env=(false,eval (.Name x1 p1) X.env)::Te [.Name x2 p2,e3,e4,.Dict [] [] p5] X.env:=by rfl)
  (rY:Te [.Name x2 p2,e3,e4,.Dict [] [] p5] X.env=(false,eval (.Name x2 p2) X.env)::Te [e3,e4,.Dict [] [] p5] X.env:=by rfl)
  (Qx:Te [e3,e4,.Dict [] [] p5] X.env=(false,eval e3 X.env)::Te [e4,.Dict [] [] p5] X.env:=by rfl)
  (LX:Te [e4,.Dict [] [] p5] X.env=(false,eval e4 X.env)::Te [.Dict [] [] p5] X.env:=by rfl)
  (Qw:Te [.Dict [] [] p5] X.env=(false,eval (.Dict [] [] p5) X.env)::Te [] X.env:=by rfl)
  (hpl:(UZ pos (Te [.Name x2 p2,e3,e4,.Dict [] [] p5] X.env)).any (·.1)=false:=by rfl) :
  PQ X C true (.Call (.Name x pp) [.Name x1 p1,.Name x2 p2,e3,e4,.Dict [] [] p5] [] pos) (qM N i1 i2 φ3 φ4) :=
 ⟨λβ R R' kk h=>by
  obtain⟨y1,n,ps,kvs,a1,a2,h⟩:=h;exact⟨y1,n,ps,kvs,a1,a2,h3.mono _ _ _ (λt3 k3 β1 h=>⟨h.1,h4.mono _ _ _ (λt4 k4 β2 h=>by
   obtain⟨a,b,l,jt,fo,b1,b2,b3,b4,b5,b6,b7,b8,b9,q⟩:=h;exact⟨a,b,l,jt,fo,b1,b2,b3,b4,b5,b6,b7,b8,b9,kk _ _ _ q⟩) h.2⟩) h⟩,
  (fM G hr hg hm hk hb .nil lR (aw (du Ke) (aw (du Gy) (aw h3.pe (aw h4.pe (aw xJ bu Qw) LX) Qx) rY) Oq) (hdb:=hdb) (he:=Oq) (hpl:=hpl)).pre λσ H Q hq=>by
  obtain⟨β,own,s,y1,n,ps,kvs,a1,a2,h⟩:=hq;obtain⟨v1,g1,r1⟩:=s.val i1 y1 _ a1;obtain⟨v2,g2,r2,_⟩:=s.shl i2 _ _ a2;obtain⟨op,o,vs,rfl,_,ho,⟨rfl,hl⟩,rv⟩:=(show hZ X.prog X.w _ H (dI kvs) v2 _ from r2)
  refine⟨v1,g1,.ref op,g2,tQ.of h3 s h λt3 k3 β1 v3 H1 aA hq o1 r3=>?_⟩;obtain⟨hh,hq⟩:=hq;refine tQ.of h4 o1.sq hq λt4 k4 β2 v4 H2 aP hq o2 r4=>?_;obtain⟨a,b,l,jt,fo,rfl,rfl,b3,b4,b5,b6,b7,b8,b9,q⟩:=hq;have oo:=o1.trans o2;obtain⟨sm,eo⟩:=oo.pu rfl;obtain⟨Px,_⟩:=o2.pu rfl;obtain⟨p3,Pd,rfl,Ro,PH⟩:=r3.rep;obtain⟨p4,Pc,rfl,Rn,PF⟩:=r4.rep;obtain rfl:Pd=[.int (a:Int),.int (b:Int)]:=L2.bW (ns:=[(a:Int),(b:Int)]) PH;obtain rfl:Pc=[.int 0,.int (l:Int)]:=L2.bW (ns:=[0,(l:Int)]) PF;intro kn Gz;have qH:H kn=none:=sm.free Gz;have sn:au H (upd H2 kn (lB X.prog X.w kn [])):=sm.trans (au.new Gz);have a_:op≠kn:=λe=>by rw[e,qH]at ho;cases ho
  have r0:=r1;obtain⟨nr,_,e,_⟩:=r1;subst e;refine⟨nr,op,p3,p4,kn,n,ps,jt,_,a,b,fo,0,l,[],rfl,b4,b5,(ar.grow (λc z=>.inr (by rw[z];exact qH)) r0).same sn,sn _ _ ho,a_,λc t z=>?_,(Px.trans (au.new Gz)) _ _ Ro,?_,b6,b7,by lia,b9,⟨⟨ah,λx hx=>(nomatch hx)⟩,T4,λx hx=>(nomatch hx)⟩,λH' iU kp dm _ _=>?_⟩
  ·obtain⟨v,h1,h2⟩:=(oP rv).2 _ (b3 c t z);cases (show v=V.int (t:Int) from h2)
   exact h1
  ·refine(au.new Gz _ _ Rn).trans ?_;show some (HO.tup [V.int 0,V.int (l:Int)])=some (HO.tup [V.int 0,V.int (0+(l:Int))]);rw[Xh]
  ·have Py:au H2 H':=λc o z=>kp.out _ _ (au.new Gz _ _ z) λe=>by
    have z:H2 c=some o:=z;rw[show c=kn from e,Gz]at z
    cases z
   exact q _ H' aP (oo.same Py) ⟨[],⟨rfl,rfl⟩,T4,λc hc=>(nomatch hc)⟩⟩
end
section
variable {X:Cx}{C:Cfg}{lk:List (Option Nat)}{γ:cD}{τ:aW}{φ:aJ}{T:List Nat}{pi pc pe:Bool}{scope:UR}{N':List Str}{tg bz elt:Expr}{ifs:List Expr}{ι:bN}{pos:Pos}
theorem LF (N':List Str)(lk:List (Option Nat))(L:fb X.env.scope.names X.N scope N' lk=true)(jw:N'.Nodup)(hc:X.calm=true)(hi:oh X C pi tg bz ι)
  (jh:∀a cl c s H ex,qL (az X scope N' cl c s H ex) (C.u λc=>c=a) tg T γ) (jg:∀a cl c s H ex,lA (az X scope N' cl c s H ex) (C.u λc=>c=a) pc ifs τ)
  (jk:∀a cl c s H ex,PQ (az X scope N' cl c s H ex) (C.u λc=>c=a) pe elt φ) (h0:pi=true:=by rfl) (h1:pc=true:=by rfl) (h2:pe=true:=by rfl) (hT:T.all (λi=>match lk[i]? with|some (some _)=>false|_=>true)=true:=by rfl)
  (hs:∀x,TL bz X.env x=pure x:=by intro _;rfl):PQ X C true (.ListComp elt [⟨tg,bz,ifs,0⟩] scope pos) (lN lk ι γ τ φ):=by
 subst h0 h1 h2;exact Ob N' lk L jw hc hi jh jg jk hT hs
end
def Dd (a b:D):Option D:=(D.xb a).bind λx=>(D.xb b).bind λy=>some (.bl (Xb y x))
def Dc:List D->Option D
 |[.str x]=>if x.length<1000000 then some (.int x.length) else none
 |_=>none
section
variable {X:Cx}
theorem xT:cv X (Ul .In) Dd:=by
 intro pins s σ H x y v u Q I rx ry h;obtain⟨W,d1,d2,d,hd,r1,r2,e,q⟩:=h;obtain⟨a,h1,e⟩:=Ui.mp e;obtain⟨b,h2,e⟩:=Ui.mp e;rw[D.jm h1]at r1;rw[D.jm h2]at r2;cases e;cases (show x=.str a from r1)
 cases (show y=.str b from r2)
 obtain⟨t,rfl⟩:=rx;obtain⟨t2,rfl⟩:=ry;exact SB.contains ⟨.bl _,H,I,rfl,q _ _ (au.refl _) rfl⟩
theorem gn:cE X (.builtin "len") Dc:=by
 intro pins s σ H xs us Q I r h;obtain⟨W,ds,d,hd,r1,e,q⟩:=h
 match ds,e with
 |[.str x],e =>
  have e:(if x.length<1000000 then some (D.int x.length) else none)=some d:=e
  by_cases hl:x.length<1000000
  ·rw[if_pos hl]at e;cases e;obtain⟨v,r',rfl,h1,hr⟩:=r1;cases hr;cases (show v=.str x from h1)
   obtain⟨v1,rfl,e1⟩:=vals1 r;obtain⟨t,rfl⟩:=e1;exact len_str (by lia) ⟨.int _,H,I.tok _,⟨_,rfl⟩,q _ _ (au.refl _) rfl⟩
  ·rw[if_neg hl]at e;cases e
end
def jL (s sub:Str)(hi:Nat)(st:Array Nat×Nat)(i:Nat):Array Nat×Nat:=if (decide (st.1.size<1)&&decide (st.2<=i)&&decide (i+sub.length<=hi)&&VS s sub i)=true then (st.1.push i,i+sub.length) else st
theorem pS {σ:Type}{f:σ->Nat->σ}{g:Nat->σ->Id (ForInStep σ)}(h:∀i s,g i s=pure (.yield (f s i))):∀(l:List Nat) (st:σ),forIn l st g=(pure (l.foldl f st):Id σ)
 |[],st=>rfl
 |i::l,st=>by
  rw[XD,h];exact pS h l _
theorem xZ (s sub:Str)(hi:Nat):Builtin.Str.occurrences s sub 0 hi 1=((List.range' 0 (hi+1)).foldl (jL s sub hi) (#[],0)).1.toList:=by
 unfold Builtin.Str.occurrences;simp only[Std.Legacy.Range.forIn_eq_forIn_range',Std.Legacy.Range.size];rw[show (hi+1-0+1-1) / 1=hi+1 by lia]
 rw[pS (f:=jL s sub hi) (λi st=>by
  unfold jL
  split <;> rfl)]
 rfl
theorem md {s sub:Str}{hi:Nat}:∀{l:List Nat},(∀i∈l,¬ (i+sub.length<=hi/\VS s sub i=true))->l.foldl (jL s sub hi) (#[],0)=(#[],0)
 |[],_=>rfl
 |i::l,h=>by
  rw[VF,show jL s sub hi (#[],0) i=(#[],0) from if_neg λz=>?_]
  ·exact md λj z=>h j (Tc _ z)
  ·simp only[TB,decide_eq_true_eq]at z;exact h i Tr ⟨z.1.2,z.2⟩
theorem pU {s sub:Str}{hi:Nat}:∀{l:List Nat} {st:Array Nat×Nat},0<st.1.size->0<(l.foldl (jL s sub hi) st).1.size
 |[],_,h=>h
 |i::l,st,h=>by
  rw[VF,show jL s sub hi st i=st from if_neg λz=>by simp only[TB,decide_eq_true_eq]at z;lia]
  exact pU h
theorem l_ {s sub:Str}{hi:Nat}:∀{l:List Nat},(∃i∈l,i+sub.length<=hi/\VS s sub i=true)->0<(l.foldl (jL s sub hi) (#[],0)).1.size
 |[],h=>by obtain⟨i,z,_⟩:=h;cases z
 |i::l,h=>by
  rw[VF]
  by_cases hc:i+sub.length<=hi/\VS s sub i=true
  ·rw[show jL s sub hi (#[],0) i=(#[i],i+sub.length) from if_pos (by simp[hc.1,hc.2])]
   exact pU (by simp)
  ·rw[show jL s sub hi (#[],0) i=(#[],0) from if_neg λz=>?_]
   ·refine l_ ?_;obtain⟨j,z,q⟩:=h;rcases S5.mp z with rfl|z
    ·exact absurd q hc
    ·exact⟨j,z,q⟩
   ·simp only[TB,decide_eq_true_eq]at z;exact hc ⟨z.1.2,z.2⟩
theorem qo (cs:List Nat)(c:Nat):Xb (cw cs) (fu c)=decide (c∈cs):=by
 have hs:∀i,i+(fu c).length<=(cw cs).length/\VS (cw cs) (fu c) i=true↔cs[i]?=some c:=λi=>by
  show i+1<=cs.toArray.size/\(cs.toArray.extract i (i+1)==#[c])=true↔_;rw[Tf,beq_iff_eq];have e:∀h:i<cs.length,cs.toArray.extract i (i+1)=#[cs[i]]:=λh=>by
   apply Array.ext
   ·simp;lia
   ·intro j h1 h2;have:j=0:=by simp at h2;lia
    subst this;simp
  constructor
  ·rintro⟨h1,h2⟩;rw[e (by lia)]at h2
   rw[Td (by lia)]
   exact congrArg some (by simpa using h2)
  ·intro h;obtain⟨h1,h2⟩:=SY.mp h;exact⟨by lia,by rw[e h1,h2]⟩
 unfold Xb;rw[xZ]
 by_cases h:c∈cs
 ·obtain⟨i,hi⟩:=WO.mp h;have:=l_ (s:=cw cs) (sub:=fu c) (hi:=(cw cs).length) (l:=List.range' 0 ((cw cs).length+1)) ⟨i,by
   have:=(SY.mp hi).1;rw[List.mem_range'_1];show 0<=i/\i<0+(cs.toArray.size+1);rw[Tf];lia,(hs i).mpr hi⟩
  rw[decide_eq_true h];cases e:((List.range' 0 ((cw cs).length+1)).foldl (jL (cw cs) (fu c) (cw cs).length) (#[],0)).1.toList with
  |nil=>rw[<- Tj,e]at this;cases this
  |cons _ _=>rfl
 ·rw[decide_eq_false h,md λi _ z=>h (TY ((hs i).mp z))];rfl
def jn (c:Nat):Int:=if c=40 then 1 else if c=41 then -1 else -1000
def ed:Int->List Nat->Bool
 |w,[]=>decide (w=0)
 |w,c::cs=>if w+jn c<0 then false else ed (w+jn c) cs
theorem pW {w:Int}{c:Nat}{cs:List Nat}(h:w+jn c<0):ed w (c::cs)=false:=by rw[ed];exact if_pos h
theorem dC {w v:Int}{c:Nat}{cs:List Nat}(h:w+jn c=v)(h0:0<=v):ed w (c::cs)=ed v cs:=by rw[ed,h];exact if_neg (by lia)
theorem zL {cs:List Nat}{t:Int}{ws:List Int}{fs:List (List Int)}:cV (40::cs) t ws fs=cV cs (t+1) (ws++[t]) fs:=by rw[cV];exact if_pos rfl
theorem zK {cs:List Nat}{t p:Int}{qs:List Int}{fs:List (List Int)}:cV (41::cs) t (qs++[p]) fs=cV cs (t+1) qs (fs++[[p,t]]):=by
 rw[cV,if_neg (by decide),if_pos ⟨rfl,by simp⟩,Vo,VY]
inductive Dy (cs:List Nat):Nat->Nat->Fo->Prop where
 |nil (p:Nat):Dy cs p p .nil
 |cons {p b q:Nat} {g r:Fo}:cs[p]?=some 40->Dy cs (p+1) b g->cs[b]?=some 41->Dy cs (b+1) q r->Dy cs p q (.cons g r)
theorem Dy.len {cs:List Nat}{p q:Nat}{f:Fo}(h:Dy cs p q f):q=p+2*f.sz:=by
 induction h with
 |nil p=>rfl
 | @cons p b q g r h1 h2 h3 h4 i1 i2=>have e:(Fo.cons g r).sz=g.sz+r.sz+1:=rfl;lia
theorem ze {cs:List Nat}(hl:cs.length<400):∀(m p w:Nat),cs.length-p<=m->p<=cs.length->w<=p->ed (w:Int) (cs.drop p)=true->∃q f,Dy cs p q f/\q<=cs.length/\((w=0/\q=cs.length)\/(0<w/\cs[q]?=some 41/\ed ((w-1:Nat):Int) (cs.drop (q+1))=true))
 |m,p,w,hm,hp,hw,h=>by
  rcases UT p cs.length with eQ|MO
  ·rw[Ts eQ]at h;have hg:cs[p]?=some cs[p]:=Td eQ;generalize cs[p]=c at h hg;cases m with
   |zero=>lia
   |succ m =>
    by_cases q1:c=40
    ·subst q1;rw[dC (v:=((w+1:Nat):Int)) (by rw[jn,if_pos rfl];lia) (by lia)]at h
     obtain⟨b,g,d1,hb,hq⟩:=ze hl m (p+1) (w+1) (by lia) (by lia) (by lia) h
     rcases hq with⟨z,_⟩|⟨_,Jk,h2⟩
     ·lia
     have SA:=(SY.mp Jk).1;have SI:=d1.len;obtain⟨q,r,d2,hq,kl⟩:=ze hl m (b+1) w (by lia) (by lia) (by lia) h2
     exact⟨q,.cons g r,.cons hg d1 Jk d2,hq,kl⟩
    ·have hs:¬ ((w:Int)+jn c<0):=λz=>by rw[pW z]at h;cases h
     have q2:c=41:=by
      by_cases q2:c=41
      ·exact q2
      ·exfalso
       rw[jn,if_neg q1,if_neg q2]at hs;lia
     subst q2;have es:jn 41=-1:=by rfl
     rw[es]at hs;rw[dC (v:=((w-1:Nat):Int)) (by rw[es];lia) (by lia)]at h
     exact⟨p,.nil,.nil p,hp,.inr ⟨by lia,hg,h⟩⟩
  ·obtain rfl:p=cs.length:=by lia
   rw[U5]at h;have h:(w:Int)=0:=of_decide_eq_true h;exact⟨_,.nil,.nil _,SX _,.inl ⟨by lia,rfl⟩⟩
theorem FR {cs:List Nat}(hl:cs.length<400)(h:ed 0 cs=true):∃f,Dy cs 0 cs.length f:=by
 obtain⟨q,f,d,_,⟨_,rfl⟩|⟨z,_⟩⟩:=ze hl cs.length 0 0 (by lia) (by lia) (by lia) h
 ·exact⟨f,d⟩
 ·lia
theorem iR.congr {op zX:Nat->Option Nat}{a b:Nat}{f:Fo}(h:iR op a b f)(e:∀c,a<=c->c<b->op c=zX c):iR zX a b f:=by
 induction h with
 |nil a=>exact .nil a
 | @snoc a t b f g h1 h2 e1 i1 i2 =>
  have l1:=h1.len;have l2:=h2.len;exact .snoc (i1 λc x y=>e c x (by lia)) (i2 λc x y=>e c (by lia) (by lia)) ((e b (by lia) (by lia)).symm.trans e1)
theorem iR.cons {op:Nat->Option Nat}{p b q:Nat}{g r:Fo}(h1:iR op (p+1) b g)(e:op b=some p)(h2:iR op (b+1) q r):iR op p q (.cons g r):=by
 generalize hx:b+1=x at h2
 induction h2 with
 |nil a =>
  subst hx;exact .snoc (.nil p) h1 e
 | @snoc a t c f k k1 k2 e2 i1 i2=>exact .snoc (i1 hx) k2 e2
def nN:List Nat->Nat->List Nat->List (Int×D)->List Nat×List (Int×D)
 |[],_,ws,kv=>(ws,kv)
 |c::cs,t,ws,kv=>if c=40 then nN cs (t+1) (ws++[t]) kv else nN cs (t+1) ws.dropLast (iq kv t (.int (ws.getLastD 0:Nat)))
def CI (kv:List (Int×D))(c:Nat):Option Nat:=match de kv c with
 |some (.int t)=>some t.toNat
 |_=>none
def Wk (kv:List (Int×D)):Prop:=∀c t:Nat,CI kv c=some t->de kv c=some (.int (t:Int))
theorem Wk.put {kv:List (Int×D)}{b p:Nat}(h:Wk kv):Wk (iq kv (b:Int) (.int (p:Nat))):=λc t z=>by
 unfold CI at z;rw[gA]at z ⊢
 by_cases e:(c:Int)=(b:Int)
 ·rw[if_pos e]at z ⊢
  obtain rfl:p=t:=TJ z;rfl
 ·rw[if_neg e]at z ⊢
  exact h c t z
theorem Cb {cs:List Nat}{p q:Nat}{f:Fo}(h:Dy cs p q f):∀(ws:List Nat) (kv:List (Int×D)),∃J5,nN (cs.drop p) p ws kv=nN (cs.drop q) q ws J5/\(∀c:Nat,c<p\/q<=c->de J5 c=de kv c)/\iR (CI J5) p q f/\(Wk kv->Wk J5):=by
 induction h with
 |nil p=>exact λws kv=>⟨kv,rfl,λ_ _=>rfl,.nil p,id⟩
 | @cons p b q g r h1 h2 h3 h4 i1 i2 =>
  intro ws kv;obtain⟨hp,ep⟩:=SY.mp h1;obtain⟨hb,eb⟩:=SY.mp h3;have l2:=h2.len;have l4:=h4.len;obtain⟨k1,a1,a2,a3,a4⟩:=i1 (ws++[p]) kv;obtain⟨k3,b1,b2,b3,b4⟩:=i2 ws (iq k1 b (.int (p:Nat)));have vb:de k3 b=some (.int (p:Int)):=by rw[b2 b (by lia),gA,if_pos rfl]
  have ob:CI k3 b=some p:=by unfold CI;rw[vb];rfl
  have lo:∀c:Nat,c<b->de k3 c=de k1 c:=λc hc=>by rw[b2 c (by lia),gA,if_neg (by lia)]
  refine⟨k3,?_,λc hc=>?_,iR.cons (a3.congr λc x y=>by unfold CI;rw[lo c y]) ob b3,λz=>b4 (a4 z).put⟩
  ·rw[Ts hp,ep,nN,if_pos rfl,a1,Ts hb,eb,nN,if_neg (by decide),Vo,VY,b1]
  ·rw[b2 c (by lia),gA,if_neg (by lia),a2 c (by lia)]
theorem FQ {cs:List Nat}{f:Fo}(h:Dy cs 0 cs.length f):∃kv,nN cs 0 [] []=([],kv)/\iR (CI kv) 0 cs.length f/\Wk kv:=by
 obtain⟨kv,a1,_,a3,a4⟩:=Cb h [] [];rw[WS,U5]at a1;exact⟨kv,a1,a3,a4 λc t z=>by cases z⟩
def nQ:Fo->Nat->List (List Int)
 |.nil,_=>[]
 |.cons g r,p=>nQ g (p+1)++([[(p:Int),((p+1+2*g.sz:Nat):Int)]]++nQ r (p+1+2*g.sz+1))
theorem Cj {cs:List Nat}{p q:Nat}{f:Fo}(h:Dy cs p q f):∀(ws:List Int) (fs:List (List Int)),cV (cs.drop p) p ws fs=cV (cs.drop q) q ws (fs++nQ f p):=by
 induction h with
 |nil p=>intro ws fs;rw[nQ,UP]
 | @cons p b q g r h1 h2 h3 h4 i1 i2 =>
  intro ws fs;obtain⟨hp,ep⟩:=SY.mp h1;obtain⟨hb,eb⟩:=SY.mp h3;have l2:=h2.len;have e1:(p:Int)+1=((p+1:Nat):Int):=by lia
  have e2:(b:Int)+1=((b+1:Nat):Int):=by lia
  rw[Ts hp,ep,zL,e1,i1,Ts hb,eb,zK,e2,i2,nQ,<- l2,Uc,Uc]
theorem fR {f:Fo}:∀{p:Nat} {u:List Int},u∈nQ f p->∃a b:Nat,u=[(a:Int),(b:Int)]/\p<=a/\a<b/\b<p+2*f.sz:=by
 induction f with
 |nil=>intro p u h;cases h
 |cons g r i1 i2 =>
  intro p u h;have e:(Fo.cons g r).sz=g.sz+r.sz+1:=rfl;rcases S9.mp h with h|h
  ·obtain⟨a,b,e1,h1,h2,h3⟩:=i1 h;exact⟨a,b,e1,by lia,h2,by lia⟩
  ·rcases S9.mp h with h|h
   ·exact⟨p,p+1+2*g.sz,S3.mp h,SX _,by lia,by lia⟩
   ·obtain⟨a,b,e1,h1,h2,h3⟩:=i2 h;exact⟨a,b,e1,by lia,h2,by lia⟩
theorem Gh {f:Fo}:∀{p:Nat},(nQ f p).Pairwise λu v=>u.getD 0 0≠v.getD 0 0:=by
 induction f with
 |nil=>intro p;exact .nil
 |cons g r i1 i2 =>
  intro p;show (nQ g (p+1)++([[(p:Int),((p+1+2*g.sz:Nat):Int)]]++nQ r (p+1+2*g.sz+1))).Pairwise _;rw[Vn,Vn];refine⟨i1,⟨by simp,i2,λu hu v hv=>?_⟩,λu hu v hv=>?_⟩
  ·obtain⟨a,b,rfl,h1,h2,h3⟩:=fR hv;rw[S3.mp hu];show (p:Int)≠a;lia
  ·obtain⟨a,b,rfl,h1,h2,h3⟩:=fR hu;rcases S9.mp hv with hv|hv
   ·rw[S3.mp hv];show (a:Int)≠p;lia
   ·obtain⟨c,d,rfl,h4,h5,h6⟩:=fR hv;show (a:Int)≠c;lia
def za:FD:=λds R=>∃(n:Nat) (ps:List (Nat×Nat)) (cs:List Nat) (fo:Fo),ds=[zW n ps,.str (cw cs)]/\Gp n ps/\n<=40/\cs.length<=50/\(∀c∈cs,c=40\/c=41)/\ed 0 cs=true/\Dy cs 0 cs.length fo/\R (.int (aF ps fo n 0))
theorem za.mono:fI za:=λds R R' k ⟨n,ps,cs,fo,e,h1,h2,h3,h4,h5,h6,q⟩=>⟨n,ps,cs,fo,e,h1,h2,h3,h4,h5,h6,k _ q⟩
theorem E5 {α Acc:Type}{γ:cD}{τ:aW}{Af:Acc->a9->(a9->Acc->Prop)->Prop}{l:List α}{f:α->D}{k:Kd}{kJ:a9}{o0:Acc}{F:a9->Acc->Prop}{ds:List D}(S:Nat->Acc->Prop)(C3:ds=l.map f)(h0:S 0 o0)
  (h:∀i x,l[i]?=some x->∀(x0:Option B) (o:Acc) (J:a9->Acc->Prop),S i o->(∀x0 o',S (i+1) o'->J (x0::kJ) o')->γ (f x) (sk k (f x)) (x0::kJ) λβ1=>τ β1 λt β2=>if t=true then Af o β2 J else J β2 o)
  (q:∀x0 o,S l.length o->F (x0::kJ) o) {y0:Option B}:gO γ τ Af ds k (y0::kJ) o0 F:=by
 subst C3;refine⟨λi β o=>(∃x0,β=x0::kJ)/\S i o,⟨⟨_,rfl⟩,h0⟩,?_,?_⟩
 ·rintro i d β o hd ⟨⟨x0,rfl⟩,hs⟩;rw[Th]at hd;obtain⟨x,hx,rfl⟩:=Tq.mp hd;exact h i x hx x0 o _ hs λx0 o' z=>⟨⟨_,rfl⟩,z⟩
 ·rintro β o ⟨⟨x0,rfl⟩,hs⟩;rw[SS]at hs;exact q x0 o hs
theorem kB {cs:List Nat}(h:cs.length<1000000):Dc [.str (cw cs)]=some (.int cs.length):=by
 show (if (cw cs).length<1000000 then some (D.int (cw cs).length) else none)=_
 have e:(cw cs).length=cs.length:=by show cs.toArray.size=_;rw[Tf]
 rw[e,if_pos h]
end L2.Q
namespace jD
open PySem L2 L2.Q
section
variable {P:SW}{w:S_}{K:PySem.W.Frag}{mg:Str->Option SO}{base:Heap}
theorem bV:aY ["row","shape","pile","opened","place","sign","near"] ["row","shape"] (aD dN):=mkS
theorem ER {BW uw} (GJ:D5 K mg BW uw) {ux iI} (dW:D0 K mg ux iI) (B:JM mg):bc P w K mg base cY 43 BW uw ["row","shape"] (kP P w true za):=by
 have GW:=tY (P:=P) (w:=w) (base:=base) dW 41;refine Bf GJ.F bV (λds R IX=> by obtain⟨n,ps,cs,fo,e,_⟩ := IX;subst e;rfl) λc8 A outer s H E hr=>⟨_,(ai (cP (i:=2) (λ_=>(bK af)) bV.nd)
    (ai (xP (i:=3) bV.nd)
    (ai (c4 Ug rfl (lO B.enumerate (aa (ae (i:=1)) af)) (ck (n:=2) rfl (aG (ay (i:=4) bV.nd) (aG (ay (i:=5) bV.nd) bI))) (aB (eG (aT aj (cv.m (e9 hr.units)) (ae (i:=5)) cH) (aB (cI (i:=2) (λ_=>(ae (i:=4))))) (aB (xO (i:=3) hr.qQ (λ_=>(rm (i:=2))) (λ_=>(ae (i:=4))))))))
    (ai (K4 (i:=6) "point" false ["point","row"] [none,some 0] (by rfl) (by decide:(["point","row"]:List Str).Nodup) rfl (λ_=>(bt B.range (aa (cc aj d_ (ae (i:=0)) ak) af))) (λ_ _ _ _ _ _=>(ay (i:=0) (by decide:(["point","row"]:List Str).Nodup))) (λ_ _ _ _ _ _=>dY) (λ_ _ _ _ _ _=>(LF ["a","b","point"] [none,none,some 0] (by rfl) (by decide:(["a","b","point"]:List Str).Nodup) rfl (bP (cc aj d_ (ae (i:=1)) ak)) (λ_ _ _ _ _ _=>(ck (n:=2) rfl (aG (ay (i:=0) (by decide:(["a","b","point"]:List Str).Nodup)) (aG (ay (i:=1) (by decide:(["a","b","point"]:List Str).Nodup)) bI)))) (λ_ _ _ _ _ _=>(qT (aT aj (cv.m (e9 hr.units)) (ae (i:=1)) (ae (i:=2))))) (λ_ _ _ _ _ _=>(ae (i:=0))))) bV.nd)
    (aB (cC (xC (i1:=6) (i2:=3) GW (hr.mono (by decide)) dW.m dW.F.kp dW.b (d7 (aa ak (aa (bh aj (cE.m gn) B.len fH (aa (ae (i:=1)) af)) af))) (d7 (aa ak (aa (cc aj d_ (ae (i:=0)) ak) af)))))))))),λds R h=>?_⟩
 obtain⟨n,ps,cs,fo,rfl,ok,hn,hl,C5,QT,dy,q⟩:=h;obtain⟨Oc,cF,Pr,O9⟩:=FQ dy;have asc:∀c∈cs,c<128:=λc hc=>by rcases C5 c hc with h|h <;> lia
 have pl:∀(kv:List (Int×D)) (t:Int) (d:D),(iq kv t d).length<=kv.length+1:=λkv t d=>by
  unfold iq
  split
  ·rw[SS];lia
  ·rw[Tw];exact SX _
 refine⟨Tb _,trivial,(by show 3<7;decide),_,rfl,trivial,_,rfl,pK asc,trivial,?_⟩
 rw[xk];refine yU (λi β=>∃(ws:List Nat) (kv:List (Int×D)) (x4 x5 x6:Option Q.B),β=[some (.val false (zW n ps)),some (.val false (.str (cw cs))),some (.own (.lst (ws.map λp:Nat=>D.int p))),some (.shl .one (dI kv)),x4,x5,x6]/\nN (cs.drop i) i ws kv=([],Oc)/\ed ws.length (cs.drop i)=true/\ws.length<=i/\kv.length<=i/\i<=cs.length) ⟨[],[],_,_,_,rfl,cF,QT,Tb _,Tb _,Tb _⟩ (λE1 r1 i n1 d β hd hv=>?_) λβ hv=>?_
 ·obtain⟨ws,kv,x4,x5,x6,rfl,h1,h2,h3,h4,h5⟩:=hv;obtain⟨b,hb,rfl⟩:=iL hd;rw[Th]at hb;obtain⟨c,hc,rfl⟩:=Tq.mp hb;obtain⟨hi,ec⟩:=SY.mp hc;have vQ:c<128:=asc c (TY hc);have zZ:=C5 c (TY hc);rw[Ts hi,ec]at h1 h2;rw[nN]at h1;refine⟨_,rfl,rfl,_,_,rfl,_,_,rfl,rfl,_,rfl,trivial,_,zv vQ,_,rfl,n9 (λq1=>?_) λq1=>?_⟩
  ·subst q1;rw[if_pos rfl]at h1;rw[dC (v:=((ws++[i]).length:Int)) (by rw[Tw,jn,if_pos rfl];rfl) (by lia)]at h2
   exact⟨⟨_,rfl⟩,_,rfl,trivial,_,rfl,by rw[SS,TF];lia,n1 _ ⟨ws++[i],kv,_,_,_,by rw[TQ];rfl,h1,h2,by rw[Tw];show _+1<=_;lia,by lia,by lia⟩⟩
  ·have q2:c=41:=by lia
   subst q2;rw[if_neg q1]at h1;have ug:ws≠[]:=λe=>by
    subst e;rw[pW (by show (0:Int)+jn 41<0;decide)]at h2
    cases h2
   obtain⟨qs,p,rfl⟩:∃qs p,ws=qs++[p]:=⟨ws.dropLast,ws.getLast ug,(V4 ug).symm⟩;rw[Vo,VY]at h1;rw[Tw,Uz]at h2 h3;rw[dC (v:=(qs.length:Int)) (by rw[show jn 41=-1 from rfl];lia) (by lia)]at h2
   have:=pl kv (i:Int) (.int (p:Nat));exact⟨qs.map λp:Nat=>D.int p,.int (p:Nat),by rw[TQ];rfl,⟨trivial,λz=>nomatch z⟩,⟨kv,rfl⟩,_,rfl,kv,(i:Int),rfl,rfl,by rw[TF];lia,n1 _ ⟨qs,iq kv (i:Int) (.int (p:Nat)),_,_,_,rfl,h1,h2,by lia,by lia,by lia⟩⟩
 ·obtain⟨ws,kv,x4,x5,x6,rfl,h1,h2,h3,h4,h5⟩:=hv;rw[iJ,SS,U5]at h1;obtain⟨rfl,rfl⟩:ws=[]/\kv=Oc:=Prod.mk.inj h1;refine⟨_,rfl,trivial,_,rfl,trivial,(n:Int),rfl,by lia,by lia,trivial,?_⟩
  rw[UW];refine E5 (l:=Tt n) (λm o=>o=(Tt m).map λb=>D.lst ((yc ps b).map λa:Nat=>D.int a)) rfl rfl (λb x hx x0 o J hs j=>?_) λx0 o hs=>?_
  ·have hb:b<n:=by
    have:=(SY.mp hx).1
    rwa [TR]at this
   have ex:x=b:=by rw[Uv hb]at hx;exact(TJ hx).symm
   subst ex;rw[Xh];refine⟨_,rfl,trivial,_,rfl,.inr ⟨_,rfl,trivial,nC (l:=ps) (f:=λp=>kD (tI p)) (λp=>decide (p.2=x)) (λp=>.int p.1) trivial (by have:=ok.sm;rw[TF];lia) (λp hp y0 y1 o2 J2 QD j1 j2=>?_) ?_⟩⟩
   ·exact⟨_,rfl,rfl,_,_,rfl,_,_,rfl,rfl,_,rfl,trivial,_,rfl,_,gV _ _,_,rfl,n9 (λh=>⟨_,rfl,trivial,QD,j1 (decide_eq_true (by lia)) _ _⟩) λh=>j2 (decide_eq_false (by lia)) _ _⟩
   ·have e:(ps.filter λp=>decide (p.2=x)).map (λp=>D.int (p.1:Int))=(yc ps x).map λa:Nat=>D.int a:=by unfold yc;rw[T1];rfl
    rw[e];refine⟨trivial,by rw[hs,SS,TR,TF];lia,j _ _ ?_⟩
    rw[hs,List.range_succ,TQ];rfl
  ·rw[TR]at hs;refine⟨trivial,true,n,ps,kv,by rw[hs];rfl,rfl,?_⟩
   refine⟨trivial,_,rfl,trivial,_,kB (by lia),trivial,wA,trivial,trivial,_,rfl,trivial,_,rfl,trivial,wA,?_⟩
   exact⟨0,cs.length,n,CI kv,fo,rfl,rfl,λc t z=>O9 c t z,ok,hn,Pr,hl,SX _,by lia,trivial,q⟩
end
section
variable {P:SW}{w:S_}{K:PySem.W.Frag}{mg:Str->Option SO}{base:Heap}
theorem fT:aY ["many"] ["many"] (aD bE):=mkS
theorem A_ {pY i9} (z6:D6 K mg pY i9) (B:Bs3 mg):bc P w K mg base cY 1 pY i9 ["many"] (kP P w true yW):=by
 refine Bf z6.F fT (λds R IW=> by obtain⟨n,e,_⟩ := IW;subst e;rfl) λc8 A outer s H E hr=>⟨_,(aB (cC (Qc ["i","j","many"] [none,none,some 0] (by rfl) (by decide:(["i","j","many"]:List Str).Nodup) rfl (rj B.range (aa (aV aj (cv.m bL) (ae (i:=0)) ak) (aa (CC sW ak) (aa (CC sW ak) af)))) (λ_ _ _ _ _ _=>(ay (i:=0) (by decide:(["i","j","many"]:List Str).Nodup))) (λ_ _ _ _ _ _=>dY) (λ_ _ _ _ _ _=>(rh B.range (aa (aV a8 aU (ae (i:=0)) ak) (aa (aV a8 aU (ae (i:=2)) ak) af)))) (λ_ _ _ _ _ _=>(ay (i:=1) (by decide:(["i","j","many"]:List Str).Nodup))) (λ_ _ _ _ _ _=>dY) (λ_ _ _ _ _ _=>(d7 (aa (ae (i:=0)) (aa (ae (i:=1)) af))))))),λds R h=>?_⟩
 obtain⟨n,rfl,hn,q⟩:=h;refine⟨_,rfl,trivial,_,rfl,trivial,_,rfl,rfl,trivial,_,rfl,rfl,trivial,(n:Int)-1,-1,rfl,⟨by lia,by lia,by lia,by lia⟩,trivial,?_⟩
 have en:((n:Int)-1 - -1).toNat=n:=by lia
 rw[en];refine⟨λa β o=>a<=n/\(∃x0 x1,β=[x0,x1,some (.val false (.int n))])/\o=(((Tt n).take a).flatMap (dF n)).map Ln,⟨Tb _,⟨_,_,rfl⟩,rfl⟩,?_,?_⟩
 ·rintro a d β o hd ⟨ha,⟨x0,x1,rfl⟩,rfl⟩;obtain⟨Kh,rfl⟩:=oN hd;have e1:(n:Int)-1-a=((n-1-a:Nat):Int):=by lia
  rw[e1];refine⟨_,rfl,trivial,_,rfl,trivial,_,rfl,trivial,_,rfl,trivial,((n-1-a:Nat):Int)+1,(n:Int)+1,rfl,⟨by lia,by lia,by lia,by lia⟩,?_⟩
  have e2:((n:Int)+1-(((n-1-a:Nat):Int)+1)).toNat=a+1:=by lia
  rw[e2];refine⟨λb β o=>b<=a+1/\(∃x1,β=[some (.val true (.int ((n-1-a:Nat):Int))),x1,some (.val false (.int n))])/\o=(((Tt n).take a).flatMap (dF n)++(dF n a).take b).map Ln,⟨Tb _,⟨_,rfl⟩,by simp⟩,?_,?_⟩
  ·rintro b d β o hd ⟨hb,⟨x1,rfl⟩,rfl⟩;obtain⟨pQ,rfl⟩:=dt hd;refine⟨_,rfl,trivial,_,rfl,trivial,wA,trivial,?_,pQ,⟨_,rfl⟩,?_⟩
   ·rw[SS,Tw];exact w9 hn Kh pQ
   ·rw[show ((n-1-a:Nat):Int)+1+(b:Int)=((n-a+b:Nat):Int) by lia,vd pQ,<- Uc,TQ,TQ,TQ]
    rfl
  ·rintro β o ⟨_,⟨x1,rfl⟩,rfl⟩;refine⟨Kh,⟨_,_,rfl⟩,?_⟩;rw[dq,xl,UU,Uv Kh,List.flatMap_append];simp
 ·rintro β o ⟨_,⟨x0,x1,rfl⟩,rfl⟩;rw[oM,UM (by simp)]
  exact⟨trivial,trivial,q⟩
theorem bB:aY ["row","many","ties","partners","a","b"] ["row"] (aD cL):=mkS
theorem Ba {vT me} (C8:D7 K mg vT me) (B:Bs3 mg):bc P w K mg base cY 1 vT me ["row"] (kP P w true qa):=by
 refine Bf C8.F bB (λds R IV=> by obtain⟨n,ps,e,_⟩ := IV;subst e;rfl) λc8 A outer s H E hr=>⟨_,(ai (rE (ae (i:=0)) (ck (n:=2) rfl (aG (ay (i:=1) bB.nd) (aG (ay (i:=2) bB.nd) bI))))
    (ai (Ec (i:=3) true ["point"] [none] (by rfl) (by decide:(["point"]:List Str).Nodup) rfl (λ_=>(bt B.range (aa (ae (i:=1)) af))) (λ_ _ _ _ _ _=>(ay (i:=0) (by decide:(["point"]:List Str).Nodup))) (λ_ _ _ _ _ _=>dY) (λ_ _ _ _ _ _=>(bK af)) bB.nd)
    (ai (c4 Ug rfl (bP (ae (i:=2))) (ck (n:=2) rfl (aG (ay (i:=4) bB.nd) (aG (ay (i:=5) bB.nd) bI))) (aB (i3 (i:=3) true (λ_=>(ae (i:=5))) (λ_=>(ae (i:=4))))))
    (aB (tT (i:=3)))))),λds R h=>?_⟩
 obtain⟨n,ps,rfl,ok,q⟩:=h;have hn:=ok.le;refine⟨_,rfl,_,rfl,rfl,_,_,rfl,_,_,rfl,rfl,_,rfl,trivial,n,rfl,by lia,by lia,trivial,?_⟩
 rw[UW];refine iE (λ_=>true) (λ_=>.lst []) trivial (by rw[TR];exact oB (by lia)) (λx hx x0 o J ho h1 _=>⟨Tb _,trivial,ho,h1 rfl _⟩) ?_
 rw[bS];refine⟨_,rfl,_,rfl,trivial,?_⟩;refine⟨λm β=>∃x4 x5,β=[some (.val false (zW n ps)),some (.val true (.int n)),some (.val false (JR ps)),some (.own (El n (ps.take m))),x4,x5],⟨_,_,rfl⟩,?_,?_⟩
 ·rintro m d β hd ⟨x4,x5,rfl⟩;rw[Th]at hd;obtain⟨p,hp,rfl⟩:=Tq.mp hd;obtain⟨h1,h2⟩:=ok.lt p (TY hp);refine⟨_,rfl,rfl,_,_,rfl,_,_,rfl,rfl,⟨_,rfl⟩,_,rfl,_,_,_,_,rfl,rfl,by rw[SS,TR];exact vG rfl (show p.1<n by lia),cA (show p.1<n by lia),_,rfl,trivial,rfl,?_,?_⟩
  ·unfold Q.c6;rw[SS];have:=AI (ps:=ps.take m) (i:=p.1);rw[Uj]at this;have:=ok.sm;exact Cw (by lia)
  ·refine⟨some (.val true (.int p.1)),some (.val true (.int p.2)),?_⟩;have e:ps.take (m+1)=ps.take m++[(p.1,p.2)]:=by rw[UU,hp];rfl
   rw[DZ (show p.1<n by lia),e]
   rfl
 ·rintro β ⟨x4,x5,rfl⟩;rw[SS,Wv];exact⟨_,rfl,q⟩
end
section
variable {P:SW}{w:S_}{K:PySem.W.Frag}{mg:Str->Option SO}{base:Heap}
theorem aO:aY ["partners","beneath","behind","many","counts","i","j","tied"] ["partners","beneath","behind"] (aD bx):=mkS
theorem EN {vW ml} (Dg:D8 K mg vW ml) {pY i9} (z6:D6 K mg pY i9) (B:Bs3 mg):bc P w K mg base cY 2 vW ml ["partners","beneath","behind"] (kP P w true yZ):=by
 have RD:bc P w K mg base cY 1 _ _ _ (kP P w true yW):=A_ z6 B;refine Bf Dg.F aO (λds R IU=> by obtain⟨n,ps,F,G,e,_⟩ := IU;subst e;rfl) λc8 A outer s H E hr=>⟨_,(ai (a7 (i:=3) (bh aj (cE.m fQ) B.len fH (aa (ae (i:=0)) af)) aO.nd)
    (ai (Ec (i:=4) true ["i"] [none] (by rfl) (by decide:(["i"]:List Str).Nodup) rfl (λ_=>(bt B.range (aa (aV a8 aU (ae (i:=3)) ak) af))) (λ_ _ _ _ _ _=>(ay (i:=0) (by decide:(["i"]:List Str).Nodup))) (λ_ _ _ _ _ _=>dY) (λ_ _ _ _ _ _=>(bK (aa ak af))) aO.nd)
    (ai (c4 Ug rfl (bP (cO yW.mono RD (hr.mono (by decide)) z6.m z6.F.kp z6.b (aa (ae (i:=3)) af))) (ck (n:=2) rfl (aG (ay (i:=5) aO.nd) (aG (ay (i:=6) aO.nd) bI))) (ai (Ec (i:=7) false ["k","beneath","behind","i","j"] [none,some 1,some 2,some 5,some 6] (by rfl) (by decide:(["k","beneath","behind","i","j"]:List Str).Nodup) rfl (λ_=>(bP (cc aj d_ (ae (i:=0)) (ae (i:=5))))) (λ_ _ _ _ _ _=>(ay (i:=0) (by decide:(["k","beneath","behind","i","j"]:List Str).Nodup))) (λ_ _ _ _ _ _=>(qT (aT aj (cv.m gf) (ae (i:=0)) (ae (i:=4))))) (λ_ _ _ _ _ _=>(aV aj (cv.m nu) (cc aj d_ (cc aj d_ (ae (i:=1)) (aV a8 aU (ae (i:=3)) ak)) (aV aj (cv.m bL) (aV aj (cv.m bL) (ae (i:=0)) (ae (i:=3))) ak)) (cc aj d_ (cc aj d_ (ae (i:=2)) (aV a8 aU (ae (i:=0)) ak)) (aV aj (cv.m bL) (aV aj (cv.m bL) (ae (i:=4)) (ae (i:=0))) ak)))) aO.nd)
    (aB (i3 (i:=4) true (λ_=>(aV a8 aU (cc aj d_ (cc aj d_ (ae (i:=4)) (aV a8 aU (ae (i:=5)) ak)) (aV aj (cv.m bL) (aV aj (cv.m bL) (ae (i:=6)) (ae (i:=5))) ak)) (bh aj (cE.m (wm rfl)) B.sum F9 (aa (ae (i:=7)) af)))) (λ_=>(ae (i:=5)))))))
    (aB (tT (i:=4)))))),λds R h=>?_⟩
 obtain⟨n,ps,F,G,rfl,ok,Mt,bF,bG,q⟩:=h;have hn:=ok.le;have hp:∀p∈ps,p.1<p.2:=λp hp=>(ok.lt p hp).1;have el:Jt [El n ps]=some (.int n):=by
  show some (D.int (((Tt n).map _).length:Nat))=_;rw[SS,TR]
 refine⟨_,rfl,trivial,_,el,_,rfl,trivial,_,rfl,trivial,(n:Int)+1,rfl,by lia,by lia,trivial,?_⟩
 rw[show ((n:Int)+1).toNat=n+1 by lia]
 refine iE (λ_=>true) (λ_=>.lst [.int 0]) trivial (by rw[TR];exact oB (by lia)) (λx hx x0 o J ho h1 _=>⟨trivial,Pn,trivial,ho,h1 rfl _⟩) ?_
 rw[bS];refine⟨_,rfl,trivial,n,rfl,hn,_,rfl,trivial,?_⟩;refine⟨λidx β=>∃L x5 x6 x7,β=[some (.val false (El n ps)),some (.val false (cU n F)),some (.val false (cU n G)),some (.val true (.int n)),some (.own (mO n L (jB ps F G))),x5,x6,x7]/\uT n idx L,⟨λ_=>1,_,_,_,rfl,qe⟩,?_,?_⟩
 ·rintro idx d β hd ⟨L,x5,x6,x7,rfl,dn⟩;rw[Th]at hd;obtain⟨p,BG,rfl⟩:=Tq.mp hd;obtain⟨a,b,ha,hb,rfl,hL,IG⟩:=sv dn BG;have eL:mO n L (jB ps F G)=mO n (fe n a b) (jB ps F G):=lH hL;have e0:fe n a b (n-1-a)=b+1:=by unfold fe;rw[if_neg (by lia),if_pos rfl]
  rw[eL];refine⟨_,rfl,rfl,_,_,rfl,_,_,rfl,rfl,?_⟩;have hpl:(kQ ps (n-1-a)).length<=400:=by unfold kQ;rw[SS];exact T_ (VV _ _) ok.sm
  refine⟨_,rfl,trivial,_,rfl,_,LK rfl (by lia),.inr ⟨_,rfl,trivial,?_⟩⟩
  refine iE (λk:Nat=>decide (k<n-a+b)) (λk=>.int (F (k-(n-1-a)-1) (n-1-a+1)*G (n-a+b-k-1) (k+1))) trivial (oB (T_ hpl (by decide))) (λk hk y0 o J ho j1 j2=>?_) ?_
  ·refine⟨_,rfl,trivial,_,rfl,_,rfl,_,rfl,?_⟩
   by_cases OA:(k:Int)<((n-a+b:Nat):Int)
   ·refine Bz (decide_eq_true OA) ?_;have MD:k<n-a+b:=by lia
    have qH:(n-1-a,k)∈ps:=nB.mp hk;obtain⟨h1,h2⟩:=ok.lt _ qH;have h1:n-1-a<k:=h1;have h2:k<n:=h2;refine⟨_,rfl,trivial,_,rfl,trivial,_,rfl,_,ua (i:=n-1-a+1) (by lia) (by lia),.inr ⟨trivial,_,rfl,trivial,_,rfl,_,rfl,trivial,_,rfl,_,ub (l:=k-(n-1-a)-1) (by lia) (by lia),trivial,?_⟩⟩
    refine⟨_,rfl,trivial,_,rfl,trivial,_,rfl,_,ua (i:=k+1) (by lia) (by lia),.inr ⟨trivial,_,rfl,trivial,_,rfl,_,rfl,trivial,_,rfl,_,ub (l:=n-a+b-k-1) (by lia) (by lia),?_⟩⟩
    exact⟨.int (F (k-(n-1-a)-1) (n-1-a+1)*G (n-a+b-k-1) (k+1)),FZ (bF.mul bG (by lia)),trivial,ho,j1 (decide_eq_true MD) _⟩
   ·exact n6 (decide_eq_false OA) (j2 (decide_eq_false (by lia)) _)
  refine⟨⟨_,rfl⟩,_,rfl,_,_,_,_,rfl,rfl,by rw[SS,TR];exact vG rfl (show n-1-a<n+1 by lia),cA (show n-1-a<n+1 by lia),?_⟩
  have Rl:fe n a b (n-1-a+1)=n+1-(n-1-a+1):=by unfold fe;rw[if_pos (by lia)]
  refine⟨_,rfl,trivial,_,rfl,trivial,_,rfl,_,ua (i:=n-1-a+1) (by lia) (by lia),.inr ⟨trivial,_,rfl,trivial,_,rfl,_,rfl,trivial,_,rfl,_,ub (l:=n-a+b-(n-1-a)-1) (by lia) (by rw[Rl];lia),trivial,?_⟩⟩
  have ev:jB ps F G (n-a+b-(n-1-a)-1) (n-1-a+1)+(((kQ ps (n-1-a)).filter λk=>decide (k<n-a+b)).map λk=>F (k-(n-1-a)-1) (n-1-a+1)*G (n-a+b-k-1) (k+1)).sum=jB ps F G (b+1) (n-1-a):=by
   rw[show n-a+b-(n-1-a)-1=b by lia,show n-a+b=n-1-a+(b+1) by lia]
   rfl
  refine⟨_,rfl,trivial,_,sum_ints,_,rfl,trivial,rfl,?_,?_⟩
  ·rw[e0];unfold mP;rw[SS,TR];exact Cw (by lia)
  ·refine⟨fe n a (b+1),some (.val true (.int ((n-1-a:Nat):Int))),some (.val true (.int ((n-a+b:Nat):Int))),some (.val true (.lst (((kQ ps (n-1-a)).filter λk=>decide (k<n-a+b)).map λk=>D.int (F (k-(n-1-a)-1) (n-1-a+1)*G (n-a+b-k-1) (k+1))))),?_,.inr ⟨a,b+1,ha,by lia,λ_ _=>rfl,IG⟩⟩
   rw[ev,e0,Av ha hb];rfl
 ·rintro β ⟨L,x5,x6,x7,rfl,dn⟩;rw[SS]at dn;have e:mO n L (jB ps F G)=cU n (jB ps F G):=lH (v7 dn);rw[e];exact⟨_,rfl,q⟩
end
end jD
namespace L2.Q
open PySem PySem.Spec PySem.SeqAt PyProof.Rows
section
variable {X:Cx}{C:Cfg}{je:List (Option Nat)}
theorem va {σ:St}{H1:Hp}{β:a9}{own:Nat->List Addr}{a:Addr}{J:It}{ds:List D}{dv:D}{jv V:Nat}{End:Hp->Prop}
  (inj:∀(i i' j:Nat),(none::je)[i]?=some (some j)->(none::je)[i']?=some (some j)->i=i') (hV:je[V]?=some (some jv))
  (s1:SQ X C σ H1 β own) (hb:β[jv]?=some (some (.val true dv))) (ha:H1 a=none) (it:wz X (av C (Wn own) .cy) J ds H1) (hl:ds.length<S7) (hh:dA (bM je β) (bM je β))
  (fin:∀H' vs,Out X C σ H1 own true β H' own->H' a=some (.lst vs)->ag X.prog X.w (λb=>av C (Wn own) .cy b\/H1 b=none) H' (TX ds.length dv) vs->End H') :
  df J (uk 0) w6 (λN σ H=>(∃v,σ[V+1]?=some (some v)/\∃xs,H a=some (.lst xs)/\xs.length<S7/\N σ (upd H a (.lst (xs++[v])))))
   (λ_ H'=>End H') (bR (none::je) σ) (upd H1 a (.lst [])):=by
 have h0:C.H0 a=none:=TV λz=>s1.f6 a z ha;have sm:au H1 (upd H1 a (.lst [])):=au.new ha;have Sg:¬ av C (Wn own) .cy a:=λz=>z.elim (λz=>s1.uF a z ha) λz=>z h0;obtain⟨v,hv,rv⟩:=s1.val jv true dv hb;have r_:(bR (none::je) σ)[V+1]?=some (some v):=by simp[bR,hV,hv]
 let W:Addr->Prop:=λb=>av C (Wn own) .cy b\/H1 b=none
 have rW:ar X.prog X.w W H1 dv v:=ar.grow (λb z=>z) (ar.aN (λc z=>VH z) rv:ar X.prog X.w (av C (Wn own) .cy) H1 dv v);let S:Nat->St->Hp->Prop:=λi σ' H'=>∃βi d8 vs,SQ X (C.u λc=>c=a) σ' H' βi d8/\(∀c,Wn d8 c->Wn (bg (none::je) β own) c)/\H' a=some (.lst vs)/\ag X.prog X.w W H' (TX i dv) vs /\
  au H1 H'/\σ'.length=(none::je).length/\(∀j,j≠0->σ'[j]?=(bR (none::je) σ)[j]?)/\∃x0,βi=x0::bM je β
 have CV:=it (λb=>av C (Wn own) .cy b\/H1 b=none) λb z=>z;refine⟨λi m σ' H'=>i<=ds.length/\m=ds.length-i/\S i σ' H',⟨_,Tb _,rfl,bM (none::je) β,bg (none::je) β own,[],s1.enter ha inj,λ_ z=>z,ah,rfl,sm,by unfold bR;simp,λ_ _=>rfl,_,rfl⟩,?_⟩
 rintro i m σ2 H2 ⟨hi,rfl,βi,d8,vs,sq,le,BK,os,pu,hlen,st,x0,rfl⟩;obtain⟨bz,lh⟩:=CV i H2 (pu.kp.mono λb z=>.inr z)
 by_cases eQ:i<ds.length
 ·right
  have hd:ds[i]?=some ds[i]:=Td eQ;obtain⟨go,yl⟩:=bz _ hd;refine⟨go,λσ' H'=>S (i+1) σ' H',λσ' H' h=>⟨_,by lia,eQ,rfl,h⟩,λx H3 y=>?_⟩
  obtain⟨s3,r3⟩:=yl x H3 y;have Hl:ar X.prog X.w W H3 ds[i] x:=r3;have sub:∀c,fm (C.u λc=>c=a) (Wn d8) .cy c->W c:=λc z=>z.elim (λz=>.inl (z.imp (λz=>bj c (le c z)) id)) λz=>.inr (by rw[z];exact ha)
  have s4:=(sq.same s3).d4 (i:=0) (y:=true) (ar.aN sub Hl);have Ik:∀c,Wn (aI d8 0 []) c->Wn (bg (none::je) β own) c:=λc z=>le c (dX z);have ee:au H1 H3:=pu.trans s3;have Gv:ag X.prog X.w W H3 (TX i dv) vs:=os.same s3;have vP:H3 a=some (.lst vs):=s3 _ _ BK;have zV:∀j,j≠0->(σ2.set 0 (some x))[j]?=(bR (none::je) σ)[j]?:=λj hj=>(aQ (U_ hj)).trans (st j hj);have kp:Kp W H3 (upd H3 a (.lst (vs++[v]))):=rO vP (λxs z=>by cases z) (.inr ha)
  have vl:vs.length=i:=by rw[Gv.length,WQ]
  refine⟨v,(zV (V+1) (by lia)).trans r_,vs,vP,by lia,_,_,vs++[v],s4.D_ vP (λxs z=>by cases z) h0,Ik,ah,?_,λb ob e=>?_,by simpa using hlen,zV,_,rfl⟩
  ·rw[List.replicate_succ'];exact ag.snoc ((rW.same ee).keep kp) (Gv.keep kp)
  ·rw[ao (λz'=>by rw[z',ha]at e;cases e)]
   exact ee b ob e
 ·left
  have e:i=ds.length:=by lia
  subst e;have sn:Sn (H1,Wn (bg (none::je) β own)) H2 (Wn d8):=⟨λb z=>.inl (le b z),pu.kp.mono λb z=>.inr z,λb z e=>z (pu.free e)⟩;have lv:SQ X C σ H2 β own:=s1.leave sq sn le hh λj ok i' e1 e2=>st i' λz=>by rw[z]at e2;cases e2
  exact⟨lh (SX _),fin H2 vs ⟨lv,⟨λb z=>.inl z,pu.kp.mono λb z=>.inr z,λb z e=>z (pu.free e)⟩,λz=>⟨pu,rfl⟩,λ_ z=>z⟩ BK os⟩
variable {ι:bN}{pi:Bool}{scope:UR}{N':List Str}{bz:Expr}{x y z:Str}{i:Nat}{px py pos pos' fx:Pos}
def oR (je:List (Option Nat))(jv:Nat)(ι:bN):aJ:=λβ R=>ι β λds k β1=>k=.cy/\∃dv,β1[jv]?=some (some (.val true dv))/\ds.length<S7/\dA (bM je β1) (bM je β1)/\R (.lst (TX ds.length dv)) .cy β1
theorem oR.mono {p:Bool}{C:Cfg}{tg:Expr}{jv:Nat}(hi:oh X C p tg bz ι):∀β R R',(∀d k β,R d k β->R' d k β)->oR je jv ι β R->oR je jv ι β R':=λβ R R' k h=>hi.mono β _ _ (λds kd β1 q=>by obtain⟨h1,dv,h2,h3,h4,q⟩:=q;exact⟨h1,dv,h2,h3,h4,k _ _ _ q⟩) h
theorem K3 (V jv:Nat)(N':List Str)(je:List (Option Nat))(L:fb X.env.scope.names X.N scope N' (none::je)=true)(jw:N'.Nodup)(hc:X.calm=true)(hi:∀U,oh X (C.u U) pi (.Name x px) bz ι)
  (hN:X.N.Nodup) (Qn:N'[0]?=some x:=by rfl) (Iv:N'[V+1]?=some z:=by rfl) (hV:je[V]?=some (some jv):=by rfl)
  (MA:∀cl c s H ex,Loc (az X scope N' cl c s H ex).env.scope x:=by intro _ _ _ _ _;first|exact .inl rfl|exact .inr rfl)
  (hv:∀cl c s H ex,Dn (az X scope N' cl c s H ex).env.scope z:=by intro _ _ _ _ _;first|exact .inl rfl|exact .inr (.inl rfl)|exact .inr (.inr rfl))
  (QU:∀cl c s H ex,(az X scope N' cl c s H ex).fn x=true\/(az X scope N' cl c s H ex).env.scope.names.lookup x=some .local:=by intro _ _ _ _ _;first|exact .inl rfl|exact .inr rfl)
  (hd:(z==("__debug__" : Str))=false:=by decide) (ui:(z==("__classdict__" : Str))=false:=by decide)
  (hy:X.N[i]?=some y:=by rfl) (hx:Loc X.env.scope y:=by first|exact .inl rfl|exact .inr rfl) (hf:X.fn y=true\/X.env.scope.names.lookup y=some .local:=by first|exact .inl rfl|exact .inr rfl|assumption)
  (rV:UB (.ListComp (.Name z py) [⟨.Name x px,bz,[],0⟩] scope pos) (some (.Name y pos')) fx.line X.env=pure true:=by rfl)
  (sf:We (.ListComp (.Name z py) [⟨.Name x px,bz,[],0⟩] scope pos) X.env (assign (.Name y pos') X.env)=(do let _ <- comprehension (.ListComp (.Name z py) [⟨.Name x px,bz,[],0⟩] scope pos) scope X.env (W_ [⟨.Name x px,bz,[],0⟩] pos) (newList []) false (eval bz X.env) (some (assign (.Name y pos') X.env));pure ()):=by first|rfl|exact VA ..)
  (hs:∀x,TL bz X.env x=pure x:=by intro _;rfl) :
  PB X C (.Assign [.Name y pos'] (.ListComp (.Name z py) [⟨.Name x px,bz,[],0⟩] scope pos) fx) (λE β=>oR je jv ι β λd _ β'=>i<β'.length/\E.nx (β'.set i (some (.shl .one d)))):=by
 have L':=Links.of L;refine⟨λE E' β l h=>oR.mono (hi λ_=>False) β _ _ (λd k β1 q=>⟨q.1,l.nx _ q.2⟩) h,λpins s σ H D I0 fV=>?_⟩;obtain⟨Z,E,β,⟨own,sq,n⟩,h,ok⟩:=fV;refine oU (g:=⟨.Name x px,bz,[],0⟩) (gs:=[]) (tg:=λ_=>uk 0) (tt:=λa=>w6) (ta:=λa N σ H=>∃v,σ[V+1]?=some (some v)/\∃xs,H a=some (.lst xs)/\xs.length<S7/\N σ (upd H a (.lst (xs++[v]))))
  L' hc eM rV sf rfl hN hy hx hf (λ_ _=>qq) (hi λa=>H a=none).pi (λa cl c s H ex=>⟨eZ jw Qn (MA cl c s H ex) (QU cl c s H ex),tH,eI rfl (rC Iv (hv cl c s H ex) hd ui)⟩) hs pins s σ H D I0 ?_
 refine⟨β,own,sq.gy (C:=C.z) (U:=λa=>H a=none) λa z=>z,(hi λ_=>False).mono β _ _ (λds k β1 ki J H1 aA o1 it a ha=>?_) h⟩;obtain⟨hk,dv,h1,h2,h3,GA,q⟩:=ki;subst hk;refine va (C:=C.u λa=>H a=none) (dc L' jw) hV o1.sq h1 ha it h2 h3 λH' vs o2 BK rr=>?_;have oo:=o1.Kz o2 λz=>⟨z,rfl⟩;have m:=n.trans oo.sn;have OO:H a=none:=o1.sn.free ha;have h0:C.H0 a=none:=TV λz=>o1.sq.f6 a z ha;have nw:¬ Wn aA a:=λz=>o1.sq.uF a z ha;have s2:=oo.sq.jQ (i:=i) (jr (d:=.lst (TX ds.length dv)) (vs:=vs) (ag.aN (λc z=>.inl z) rr) rfl BK) (by simp) λc hc=>⟨by rw[S3.mp hc];exact h0,by rw[S3.mp hc];exact nw,by rw[S3.mp hc];exact OO⟩
 have s3:=s2.toShl (d:=.lst (TX ds.length dv)) (y:=.one) (get_set GA) (get_set (by rw[<- oo.sq.len];exact GA)) ⟨a,.lst vs,vs,rfl,by rw[os_eq],BK,rfl,ag.aN (λc z=>?_) rr⟩
 ·rw[V7]at s3;refine ok.nx _ _ _ ⟨_,s3,?_⟩ q;exact⟨λb L1=>by
   obtain⟨j,hj⟩:=L1
   by_cases aE:i=j
   ·rw[<- aE,os_eq]at hj;rw[S3.mp hj];exact .inr (n.free OO)
   ·rw[bf aE]at hj;exact m.w b ⟨j,hj⟩,m.k,m.d⟩
 ·rcases z with z|z
  ·rcases z with⟨j,hj⟩|z
   ·by_cases aE:i=j
    ·rw[<- aE,os_eq]at hj;rw[S3.mp hj];exact .inr ha
    ·rw[bf aE]at hj;exact .inl (.inl ⟨j,hj⟩)
   ·exact .inl (.inr z)
  ·exact z.elim
end
def TT (ps:List (Nat×Nat)):List (List Int)->Nat->Nat->Nat->Int
 |[]=>λ_ _ _=>1
 |f::fs=>λk=>if (k:Int)=f.getD 0 0 then jB ps (TT ps fs (k+1)) (TT ps fs ((f.getD 1 0).toNat+1)) else TT ps fs k
section
variable {ps:List (Nat×Nat)}
theorem Cu {k:Nat}:∀{L:List (List Int)},(∀u∈L,u.getD 0 0≠(k:Int))->TT ps L k=λ_ _=>1
 |[],_=>rfl
 |f::fs,h=>by
  show (if (k:Int)=f.getD 0 0 then _ else _)=_
  rw[if_neg λz=>h f Tr z.symm];exact Cu λu z=>h u (Tc _ z)
theorem jK {k:Nat}{f:List Int}{fs:List (List Int)}(h:(k:Int)≠f.getD 0 0):TT ps (f::fs) k=TT ps fs k:=if_neg h
theorem wW {a b:Nat}(FH:a<b):∀{L:List (List Int)},L.Pairwise (λu v=>u.getD 0 0<v.getD 0 0)->[(a:Int),(b:Int)]∈L->TT ps L a=jB ps (TT ps L (a+1)) (TT ps L (b+1))
 |[],_,h=>nomatch h
 |f::fs,hs,h=>by
  obtain⟨h1,h2⟩:=Us.mp hs;rcases S5.mp h with rfl|h
  ·have e:(([(a:Int),(b:Int)]:List Int).getD 0 0)=a:=rfl;rw[jK (k:=a+1) (by rw[e];lia),jK (k:=b+1) (by rw[e];lia)]
   exact if_pos rfl
  ·have lt:=h1 _ h;have e:(([(a:Int),(b:Int)]:List Int).getD 0 0)=a:=rfl;rw[e]at lt;rw[jK (k:=a) (by lia),jK (k:=a+1) (by lia),jK (k:=b+1) (by lia)]
   exact wW FH h2 h
end
theorem zM {cs:List Nat}{p q:Nat}{f:Fo}(h:Dy cs p q f):∀u∈nQ f p,∃a:Nat,u.getD 0 0=(a:Int)/\cs[a]?=some 40:=by
 induction h with
 |nil p=>exact λu z=>nomatch z
 | @cons p b q g r h1 h2 h3 h4 i1 i2 =>
  intro u z;have l2:=h2.len;rcases S9.mp z with z|z
  ·exact i1 u z
  ·rcases S9.mp z with z|z
   ·rw[S3.mp z];exact⟨p,rfl,h1⟩
   ·exact i2 u (by rw[l2];exact z)
theorem GX {cs:List Nat}{ps:List (Nat×Nat)}{L:List (List Int)}(hs:L.Pairwise λu v=>u.getD 0 0<v.getD 0 0)(ho:∀u∈L,∃a:Nat,u.getD 0 0=(a:Int)/\cs[a]?=some 40){p q:Nat}{f:Fo}(h:Dy cs p q f):(∀u∈nQ f p,u∈L)->cs[q]?≠some 40->TT ps L p=aF ps f:=by
 induction h with
 |nil p =>
  intro _ hq;refine Cu λu hu e=>hq ?_;obtain⟨a,e2,e3⟩:=ho u hu;obtain rfl:a=p:=by lia
  exact e3
 | @cons p b q g r h1 h2 h3 h4 i1 i2 =>
  intro hm hq;have l2:=h2.len;have FC:∀u∈nQ g (p+1)++([[(p:Int),(b:Int)]]++nQ r (b+1)),u∈L:=by rw[l2];exact hm
  rw[wW (a:=p) (b:=b) (by lia) hs (FC _ (by simp)),i1 (λu z=>FC u (Ut _ z)) (by rw[h3];decide),i2 (λu z=>FC u (TM _ (TM _ z))) hq]
  rfl
theorem Ck (f:Fo)(p:Nat):(d3 (nQ f p)).Pairwise λu v=>u.getD 0 0<v.getD 0 0:=by
 have nd:(d3 (nQ f p)).Pairwise λu v=>u.getD 0 0≠v.getD 0 0:=((bp _).pairwise_iff λh=>U_ h).mpr Gh;refine((fw (nQ f p)).and nd).imp_of_mem λ{u v} hu hv h=>?_;obtain⟨a,b,rfl,_⟩:=fR ((bp _).mem_iff.mp hu);obtain⟨c,d,rfl,_⟩:=fR ((bp _).mem_iff.mp hv);obtain⟨h1,h2⟩:=h;have h2:(a:Int)≠c:=h2;show (a:Int)<c;rw[HT.dz,if_neg (λz=>h2 z.symm)]at h1;have:=of_decide_eq_false h1;lia
theorem Gi {cs:List Nat}{f:Fo}(h:Dy cs 0 cs.length f):JA cs=.lst ((d3 (nQ f 0)).map kD):=by
 have e:=Cj h [] [];rw[WS,U5]at e;unfold JA;rw[show cV cs 0 [] []=_ from e]
 rfl
theorem DI {cs:List Nat}{ps:List (Nat×Nat)}{f:Fo}(h:Dy cs 0 cs.length f):TT ps (d3 (nQ f 0)) 0=aF ps f :=
 GX (Ck f 0) (λu hu=>zM h u ((bp _).mem_iff.mp hu)) h (λu hu=>(bp _).mem_iff.mpr hu) (by rw[UN (SX _)];exact λz=>nomatch z)
theorem s9 {ps:List (Nat×Nat)}(hp:∀p∈ps,p.1<p.2)(nd:ps.Nodup):∀(L:List (List Int)) (k:Nat),Bd (TT ps L k)
 |[],k=>λl i=>⟨Int.zero_le_ofNat 1,by have:=uz (l+1);show (1:Int)<=_;lia⟩
 |f::fs,k=>by
  by_cases h:(k:Int)=f.getD 0 0
  ·rw[show TT ps (f::fs) k=jB ps (TT ps fs (k+1)) (TT ps fs ((f.getD 1 0).toNat+1)) from if_pos h]
   exact Dj hp nd (s9 hp nd fs _) (s9 hp nd fs _)
  ·rw[jK h];exact s9 hp nd fs k
def y_:FD:=λds R=>∃(n:Nat) (ps:List (Nat×Nat)) (cs:List Nat) (fo:Fo),ds=[zW n ps,.str (cw cs)]/\Gp n ps/\n<=40/\cs.length<=50/\(∀c∈cs,c=40\/c=41)/\Dy cs 0 cs.length fo/\R (.int (aF ps fo n 0))
theorem y_.mono:fI y_:=λds R R' k ⟨n,ps,cs,fo,e,h1,h2,h3,h4,h5,q⟩=>⟨n,ps,cs,fo,e,h1,h2,h3,h4,h5,k _ q⟩
end L2.Q
namespace jD
open PySem L2 L2.Q
section
variable {P:SW}{w:S_}{K:PySem.W.Frag}{mg:Str->Option SO}{base:Heap}
theorem a6:aY ["row","shape","many","arcs","partners","only_empty","tables","a","b"] ["row","shape"] (aD cN):=mkS
theorem EO {uy nJ} (v_:D9 K mg uy nJ) {vX mn} (Dh:D4 K mg vX mn) {vT me} (C8:D7 K mg vT me) {vW ml} (Dg:D8 K mg vW ml) {pY i9} (z6:D6 K mg pY i9) (B:JM mg):bc P w K mg base cY 3 uy nJ ["row","shape"] (kP P w true y_):=by
 have RT:bc P w K mg base cY 2 _ _ _ (kP P w true qc):=Bc Dh B;have RK:bc P w K mg base cY 1 _ _ _ (kP P w true qa):=Ba C8 B.toBs3;have RN:bc P w K mg base cY 2 _ _ _ (kP P w true yZ):=EN Dg z6 B.toBs3;refine Bf v_.F a6 (λds R IT=> by obtain⟨n,ps,cs,fo,e,_⟩ := IT;subst e;rfl) λc8 A outer s H E hr=>⟨_,(ai (a7 (i:=2) (cc aj d_ (ae (i:=0)) ak) a6.nd)
    (ai (a7 (i:=3) (cO qc.mono RT (hr.mono (by decide)) Dh.m Dh.F.kp Dh.b (aa (ae (i:=1)) af)) a6.nd)
    (ai (eG (qz.t (ir (aT aj (cv.m A9) (ae (i:=3)) rp) (jo (aT aj (cv.m xT) cH (ae (i:=1)))))) vp dQ)
    (ai (eG (aT aj (cv.m j0) (bh aj (cE.m gn) B.len fH (aa (ae (i:=1)) af)) (ae (i:=2))) (aB (cC ak)) dQ)
    (ai (a7 (i:=4) (cO qa.mono RK (hr.mono (by decide)) C8.m C8.F.kp C8.b (aa (ae (i:=0)) af)) a6.nd)
    (ai (a7 (i:=5) (J4 ["i","many"] [none,some 2] (by rfl) (by decide:(["i","many"]:List Str).Nodup) rfl (bt B.range (aa (aV a8 aU (ae (i:=2)) ak) af)) (λ_ _ _ _ _ _=>(ay (i:=0) (by decide:(["i","many"]:List Str).Nodup))) (λ_ _ _ _ _ _=>dY) (λ_ _ _ _ _ _=>(Ob ["j"] [none] (by rfl) (by decide:(["j"]:List Str).Nodup) rfl (rl B.range (aa (ae (i:=0)) (aa (aV a8 aU (ae (i:=1)) ak) af))) (λ_ _ _ _ _ _=>(ay (i:=0) (by decide:(["j"]:List Str).Nodup))) (λ_ _ _ _ _ _=>dY) (λ_ _ _ _ _ _=>ak)))) a6.nd)
    (ai (K3 (i:=6) 0 5 ["place","only_empty"] [some 5] (by rfl) (by decide:(["place","only_empty"]:List Str).Nodup) rfl (λ_=>(bt B.range (aa (aV a8 aU (bh aj (cE.m gn) B.len fH (aa (ae (i:=1)) af)) ak) af))) a6.nd)
    (ai (c4 Ug rfl (bP (Eo (ae (i:=3)))) (ck (n:=2) rfl (aG (ay (i:=7) a6.nd) (aG (ay (i:=8) a6.nd) bI))) (aB (AY (i:=6) (λ_=>(cO yZ.mono RN (hr.mono (by decide)) Dg.m Dg.F.kp Dg.b (aa (ae (i:=4)) (aa (nc (i:=6) (aV a8 aU (ae (i:=7)) ak)) (aa (nc (i:=6) (aV a8 aU (ae (i:=8)) ak)) af))))) (λ_=>(ae (i:=7))))))
    (aB (cC (cc aj d_ (cc aj d_ (nc (i:=6) ak) ak) (ae (i:=2))))))))))))),λds R h=>?_⟩
 obtain⟨n,ps,cs,fo,rfl,ok,hn,hl,C5,dy,q⟩:=h;have asc:∀c∈cs,c<128:=λc hc=>by rcases C5 c hc with h|h <;> lia
 have P7:46∉cs:=λz=>by rcases C5 _ z with h|h <;> lia
 have hp:∀p∈ps,p.1<p.2:=λp hp=>(ok.lt p hp).1;have ei:Dd (.str ".") (.str (cw cs))=some (.bl (decide (46∈cs))):=by
  rw[Jw];show some (D.bl (Xb (cw cs) (fu 46)))=_;rw[qo]
 have e:=Gi dy;have Si:=dy.len;refine⟨_,rfl,trivial,_,rfl,_,rfl,trivial,cs,rfl,asc,by lia,?_⟩
 rw[e];refine⟨_,rfl,trivial,_,rfl,_,rfl,n6 rfl ⟨trivial,_,rfl,_,ei,_,rfl,n6 (decide_eq_false P7) ?_⟩⟩;refine⟨_,rfl,trivial,_,kB (by lia),trivial,_,rfl,_,rfl,_,rfl,n9 (λhz=>⟨trivial,?_⟩) λhlen=>?_⟩
 ·have:=hE hp fo n 0 (by lia)
  rw[this]at q;exact q
 refine⟨_,rfl,trivial,n,ps,rfl,ok,?_⟩;refine⟨_,rfl,trivial,_,rfl,trivial,(n:Int)+1,rfl,by lia,by lia,trivial,?_⟩
 rw[show ((n:Int)+1).toNat=n+1 by lia]
 refine iE (l:=Tt (n+1)) (f:=λk:Nat=>D.int (0+(k:Int))) (λ_=>true) (λk=>.lst (mP (n+1-k) λ_=>1)) trivial (by rw[TR];exact oB (by lia)) (λk hk x0 o J ho j1 j2=>?_) ?_
 ·have hk:=U3.mp hk;refine⟨_,rfl,trivial,_,rfl,trivial,_,rfl,trivial,0+(k:Int),(n:Int)+1,rfl,⟨by lia,by lia,by lia,by lia⟩,trivial,?_⟩
  rw[show ((n:Int)+1-(0+(k:Int))).toNat=n+1-k by lia]
  refine iE (l:=Tt (n+1-k)) (f:=λj:Nat=>D.int (0+(k:Int)+(j:Int))) (λ_=>true) (λ_=>.int 1) trivial (by rw[TR];exact oB (by lia)) (λj hj y0 o' J' qG Qh Sj=>⟨trivial,qG,Qh rfl _⟩) ?_
  rw[bS];exact⟨trivial,ho,j1 rfl _⟩
 rw[bS];have hL:(jS 0 ((cs.length:Int)+1).toNat).length=cs.length+1:=by rw[dq];lia
 refine⟨_,rfl,trivial,_,kB (by lia),trivial,_,rfl,trivial,(cs.length:Int)+1,rfl,by lia,by lia,rfl,cU n (λ_ _=>1),rfl,by rw[hL,TF];lia,trivial,by show 6<9;decide,?_⟩
 rw[hL];generalize OM:d3 (nQ fo 0)=L;have fin:=DI (ps:=ps) dy;rw[OM]at fin;have r_:∀f∈L,∃a b:Nat,f=[(a:Int),(b:Int)]/\a<b/\b<cs.length:=λf z=>by
  rw[<- OM]at z;obtain⟨a,b,e,_,h2,h3⟩:=fR ((bp _).mem_iff.mp z);exact⟨a,b,e,h2,by lia⟩
 have bT:=s9 hp ok.nd;refine⟨_,rfl,_,rfl,.inr ⟨_,rfl,trivial,?_⟩⟩;rw[<- List.map_reverse];have er:TX (cs.length+1) (cU n λ_ _=>1)=(Tt (cs.length+1)).map λp=>cU n (TT ps (L.drop L.length) p):=by rw[U5];exact(by rw[List.map_const',TR]:TX (cs.length+1) (cU n λ_ _=>(1:Int))=(Tt (cs.length+1)).map λ_=>cU n λ_ _=>(1:Int))
 rw[er];refine yU (λi β=>∃(x7 x8:Option Q.B),β=[some (.val false (zW n ps)),some (.val false (.str (cw cs))),some (.val true (.int n)),some (.val true (.lst (L.map kD))),some (.val true (El n ps)),some (.val true (cU n λ_ _=>1)),some (.shl .one (.lst ((Tt (cs.length+1)).map λp=>cU n (TT ps (L.drop (L.length-i)) p)))),x7,x8]/\i<=L.length) ⟨_,_,rfl,Tb _⟩ (λE1 r1 i n1 d β hd hv=>?_) λβ hv=>?_
 ·obtain⟨x7,x8,rfl,hi⟩:=hv;rw[Th]at hd;obtain⟨f,Jg,rfl⟩:=Tq.mp hd;have eQ:i<L.length:=by
   have:=(SY.mp Jg).1
   rwa [Vx]at this
  rw[List.getElem?_reverse eQ]at Jg;have QX:L.drop (L.length-(i+1))=f::L.drop (L.length-i):=by
   rw[show L.length-1-i=L.length-(i+1) by lia]at Jg
   obtain⟨h1,h2⟩:=SY.mp Jg;rw[Ts h1,h2,show L.length-(i+1)+1=L.length-i by lia]
  obtain⟨p,r,rfl,ab,bn⟩:=r_ f (TY Jg);refine⟨_,rfl,rfl,_,_,rfl,_,_,rfl,rfl,?_⟩;generalize MX:TT ps (L.drop (L.length-i))=T;have gt:∀{x:Int} {k:Nat},x=(k:Int)->k<cs.length+1->qF ((Tt (cs.length+1)).map λp=>cU n (T p)).length x=some k:=λh1 h2=>by rw[SS,TR];exact vG h1 h2
  have hT:∀k,Bd (T k):=λk=>by rw[<- MX];exact bT _ k
  have es:((Tt (cs.length+1)).map λp=>cU n (T p)).set p (cU n (jB ps (T (p+1)) (T (r+1))))=(Tt (cs.length+1)).map λk=>cU n (TT ps (L.drop (L.length-(i+1))) k):=by
   rw[m6 (by lia)]
   refine T5 λk _=>?_;rw[QX]
   by_cases hk:k=p
   ·subst hk;rw[if_pos rfl,show TT ps ([(k:Int),(r:Int)]::L.drop (L.length-i)) k=jB ps (TT ps (L.drop (L.length-i)) (k+1)) (TT ps (L.drop (L.length-i)) (r+1)) from if_pos rfl,MX]
   ·rw[if_neg hk,jK (show (k:Int)≠(p:Int) by lia),MX]
  exact⟨_,rfl,trivial,⟨_,rfl⟩,_,rfl,trivial,_,rfl,_,_,_,_,rfl,rfl,gt (k:=p+1) (by lia) (by lia),cA (by lia),trivial,⟨_,rfl⟩,_,rfl,trivial,_,rfl,_,_,_,_,rfl,rfl,gt (k:=r+1) (by lia) (by lia),cA (by lia),trivial,n,ps,T (p+1),T (r+1),rfl,ok,hn,hT _,hT _,⟨trivial,λz=>nomatch z⟩,⟨_,rfl⟩,_,rfl,_,_,_,rfl,rfl,gt (k:=p) rfl (by lia),n1 _ ⟨some (.val true (.int (p:Int))),some (.val true (.int (r:Int))),by rw[<- es];rfl,by lia⟩⟩
 ·obtain⟨x7,x8,rfl,hi⟩:=hv;rw[SS,Vx,Xd,WS];rw[<- fin]at q;exact⟨⟨_,rfl⟩,_,_,_,_,rfl,rfl,by rw[SS,TR];exact vG (i:=0) rfl (by lia),cA (by lia),trivial,_,ua (i:=0) rfl (by lia),.inr ⟨trivial,_,rfl,_,ub (l:=n) rfl (by lia),trivial,q⟩⟩
end
def vY:FD:=λds R=>∃m:Int,ds=[.int m]/\0<=m/\m<=25/\∀cs:List Nat,(∀c∈cs,c=40\/c=41)->(cs.length:Int)<=2*m->ed 0 cs=true->R (.str (cw cs))
theorem vY.mono:fI vY:=λds R R' k ⟨m,e,h1,h2,q⟩=>⟨m,e,h1,h2,λcs a b c=>k _ (q cs a b c)⟩
section
variable {P:SW}{w:S_}{K:PySem.W.Frag}{mg:Str->Option SO}{base:Heap}
theorem aR:aY ["pot","most","many","text","waiting","left","k"] ["pot","most"] (aD dM):=mkS
theorem EH {BU uu} (B8:O6 K mg BU uu) {BQ nI} (dT:D2 K mg BQ nI) (B:Bs mg):bc P w K mg base cY 2 BU uu ["pot","most"] (fS P w kR true vY):=by
 have GT:bc P w K mg base cY 1 _ _ _ (fS P w kR true bU):=gK dT.F;refine Be B8.F aR (λds R IS=> by obtain⟨n,e,_⟩ := IS;subst e;rfl) λc8 A outer s H E IO hr=>⟨_,(ai (a7 (i:=2) (ba (ih:=0) bU.mono GT (hr.mono (by decide)) dT.m dT.F.kp dT.b (aa (aV a8 aU (ae (i:=1)) ak) af)) aR.nd)
    (ai (a7 (i:=3) cH aR.nd)
    (ai (a7 (i:=4) ak aR.nd)
    (ai (a7 (i:=5) (ae (i:=2)) aR.nd)
    (ai (c4 Ug rfl (bt B.range (aa (aV aj (cv.m nu) ak (ae (i:=2))) af)) (ay (i:=6) aR.nd) (aB (eG (qz.t (ir (aT aj (cv.m (e9 hr.units)) (ae (i:=4)) ak) (jo (qz.t (gJ (aT aj (cv.m j0) (ae (i:=5)) ak) (fA (aT aj (cv.m (e9 hr.units)) (ba (ih:=0) bU.mono GT (hr.mono (by decide)) dT.m dT.F.kp dT.b (aa ak af)) ak))))))) (ai (a7 (i:=3) (aV aj (cv.m o7) (ae (i:=3)) cH) aR.nd)
    (ai (a7 (i:=4) (aV a8 aU (ae (i:=4)) ak) aR.nd)
    (aB (a7 (i:=5) (aV aj (cv.m bL) (ae (i:=5)) ak) aR.nd)))) (ai (a7 (i:=3) (aV aj (cv.m o7) (ae (i:=3)) cH) aR.nd)
    (aB (a7 (i:=4) (aV aj (cv.m bL) (ae (i:=4)) ak) aR.nd))))))
    (aB (cC (ae (i:=3))))))))),λds R h=>?_⟩
 obtain⟨m,rfl,m0,m1,q⟩:=h;refine⟨rfl,_,rfl,trivial,_,rfl,trivial,rfl,trivial,m+1,rfl,by lia,by lia,λn n0 n1=>?_⟩
 refine⟨_,rfl,trivial,_,rfl,_,B6 (.inl ⟨by lia,by lia⟩),trivial,2*n,rfl,by lia,by lia,trivial,?_⟩
 refine⟨λi β=>∃(cs:List Nat) (wt lf:Int) (x6:Option Q.B),β=[some (.hand kR),some (.val false (.int m)),some (.val true (.int n)),some (.val true (.str (cw cs))),some (.val true (.int wt)),some (.val true (.int lf)),x6]/\(∀c∈cs,c=40\/c=41)/\cs.length=i/\0<=wt/\0<=lf/\wt+2*lf+i=2*n/\∀rest,ed 0 (cs++rest)=ed wt rest,⟨[],_,_,_,rfl,λ_ z=>(nomatch z),rfl,Xw _,n0,by lia,λ_=>rfl⟩,?_,?_⟩
 ·rintro i d β hd ⟨cs,wt,lf,x6,rfl,h1,h2,w0,f0,hs,hf⟩;obtain⟨hi,rfl⟩:=dt hd;have Nc:uI (.str (cw cs)) (.str "(")=some (.str (cw (cs++[40]))):=by rw[F6];exact qk (b:=[40]) (by simp;lia)
  have Nb:uI (.str (cw cs)) (.str ")")=some (.str (cw (cs++[41]))):=by rw[F5];exact qk (b:=[41]) (by simp;lia)
  have in1:∀x:Nat,x=40\/x=41->∀c∈cs++[x],c=40\/c=41:=λx hx c hc=>by
   rcases S9.mp hc with z|z
   ·exact h1 c z
   ·rw[S3.mp z];exact hx
  refine(λ(jt:0<lf->_) (cls:0<wt->_)=>⟨_,rfl,trivial,_,gV _ _,_,rfl,n9 (λz=>Bz rfl (jt (by lia))) (λz=>⟨_,rfl,trivial,_,rfl,_,rfl,n9 (λy=>⟨rfl,trivial,rfl,trivial,2,rfl,by lia,by lia,λr r0 r1=>⟨trivial,_,gV _ _,_,rfl,n9 (λ_=>jt y) (λ_=>cls (by lia))⟩⟩) (λ_=>n6 rfl (cls (by lia)))⟩)⟩) (λy=>?_) (λy=>?_)
  ·exact⟨_,rfl,trivial,_,Nc,_,rfl,trivial,_,rfl,_,rfl,trivial,_,rfl,cs++[40],wt+1,lf-1,_,rfl,in1 40 (.inl rfl),by simp[h2],by lia,by lia,by lia,λrest=>by rw[Uc,hf];exact dC (by rw[jn,if_pos rfl]) (by lia)⟩
  ·exact⟨_,rfl,trivial,_,Nb,_,rfl,trivial,_,rfl,cs++[41],wt-1,lf,_,rfl,in1 41 (.inr rfl),by simp[h2],by lia,by lia,by lia,λrest=>by rw[Uc,hf];exact dC (by rw[show jn 41=-1 from rfl];lia) (by lia)⟩
 ·rintro β ⟨cs,wt,lf,x6,rfl,h1,h2,w0,f0,hs,hf⟩;rw[dq]at h2 hs;have z:wt=0:=by lia
  subst z;have e:=hf [];rw[UP]at e;exact⟨_,rfl,trivial,rfl,q cs h1 (by lia) (e.trans rfl)⟩
end
section
variable {P:SW}{w:S_}{K:PySem.W.Frag}{mg:Str->Option SO}{base:Heap}
theorem lg:aY ["row"] ["row"] (aD c9):=mkS
theorem vt {BV uv} (GI:O5 K mg BV uv) (B:Bs mg):bc P w K mg base cY 1 BV uv ["row"] (kP P w true kz):=by
 refine Bf GI.F lg (λds R IQ=> by obtain⟨n,ps,e,_⟩ := IQ;subst e;rfl) λc8 A outer s H E hr=>⟨_,(aB (cC (d7 (aa (cc aj d_ (ae (i:=0)) ak) (aa (iu a8 jc B.list uL (aa (cc aj d_ (ae (i:=0)) ak) af)) af))))),λds R h=>?_⟩
 obtain⟨n,ps,rfl,q⟩:=h;exact⟨_,rfl,trivial,_,rfl,trivial,_,rfl,trivial,_,rfl,.inr ⟨trivial,_,rfl,.inl ⟨dB _,trivial,wA,trivial,q⟩⟩⟩
theorem cT:aY ["one","other","a","b","c","d"] ["one","other"] (aD eV):=mkS
theorem Bb {vV mh} (C_:NC K mg vV mh):bc P w K mg base cY 1 vV mh ["one","other"] (kP P w true qb):=by
 refine Bf C_.F cT (λds R IP=> by obtain⟨a,b,c,d,e,_⟩ := IP;subst e;rfl) λc8 A outer s H E hr=>⟨_,(ai (rE (ae (i:=0)) (ck (n:=2) rfl (aG (ay (i:=2) cT.nd) (aG (ay (i:=3) cT.nd) bI))))
    (ai (rE (ae (i:=1)) (ck (n:=2) rfl (aG (ay (i:=4) cT.nd) (aG (ay (i:=5) cT.nd) bI))))
    (aB (cC (CD (ng aj (cv.m (xU hr.sV)) (ae (i:=2)) (ae (i:=1))) (CD (ng aj (cv.m (xU hr.sV)) (ae (i:=3)) (ae (i:=1))) (Ep (ng aj (cv.m (iA hr.units)) (oW (ae (i:=2)) (oV gf (ae (i:=4)) (tO gf (ae (i:=3))))) (oW (ae (i:=2)) (oV gf (ae (i:=5)) (tO gf (ae (i:=3))))))))))))),λds R h=>?_⟩
 obtain⟨a,b,c,d,rfl,q⟩:=h;refine⟨_,rfl,_,rfl,rfl,_,_,rfl,_,_,rfl,rfl,?_⟩;refine⟨_,rfl,_,rfl,rfl,_,_,rfl,_,_,rfl,rfl,?_⟩;refine⟨_,rfl,trivial,_,rfl,_,zq a [c,d],_,rfl,n9 (λh=>⟨trivial,?_⟩) (λh1=>⟨_,rfl,trivial,_,rfl,_,zq b [c,d],_,rfl,n9 (λh=>⟨trivial,?_⟩) (λh2=>?_)⟩)⟩
 ·rw[show fY a b c d=true by unfold fY;rw[decide_eq_true h];rfl]at q
  exact q
 ·rw[show fY a b c d=true by unfold fY;rw[decide_eq_true h,Bool.or_true];rfl]at q
  exact q
 ·rw[show fY a b c d=!decide ((decide (a<c)&&decide (c<b))=(decide (a<d)&&decide (d<b))) by unfold fY;rw[decide_eq_false h1,decide_eq_false h2];rfl]at q
  exact uK (a:=a) (b:=c) (c:=b) rfl rfl rfl ⟨trivial,uK (a:=a) (b:=d) (c:=b) rfl rfl rfl ⟨_,FY _ _,trivial,q⟩⟩
theorem dh:aY ["pot","row","left","found","k","tie"] ["pot","row"] (aD fJ):=mkS
theorem EJ {BS ur} (GH:O4 K mg BS ur) {BQ nI} (dT:D2 K mg BQ nI) {vV mh} (C_:NC K mg vV mh) (B:Bs mg):bc P w K mg base cY 2 BS ur ["pot","row"] (fS P w kR true p0):=by
 have GT:bc P w K mg base cY 1 _ _ _ (fS P w kR true bU):=gK dT.F;have RM:bc P w K mg base cY 1 _ _ _ (kP P w true qb):=Bb C_;refine Be GH.F dh (λds R IM=> by obtain⟨n,rows,e,_⟩ := IM;subst e;rfl) λc8 A outer s H E IO hr=>⟨_,(ai (cP (i:=2) (λ_=>(iu a8 jc B.list uL (aa (cc aj d_ (ae (i:=1)) ak) af))) dh.nd)
    (ai (cP (i:=3) (λ_=>(bK af)) dh.nd)
    (ai (c4 Ug rfl (bt B.range (aa (bh aj (cE.m fQ) B.len fH (aa (ae (i:=2)) af)) af)) (ay (i:=4) dh.nd) (ai (a7 (i:=5) (xA (i:=2) (ba (ih:=0) bU.mono GT (hr.mono (by decide)) dT.m dT.F.kp dT.b (aa (bh aj (cE.m fQ) B.len fH (aa (ae (i:=2)) af)) af))) dh.nd)
    (aB (eG (qz.t (gJ (aT aj (cv.m (e9 hr.units)) (Qb ["other","tie"] [none,some 5] (by rfl) (by decide:(["other","tie"]:List Str).Nodup) rfl (bP (ae (i:=3))) (λ_ _ _ _ _ _=>(ay (i:=0) (by decide:(["other","tie"]:List Str).Nodup))) (λ_ _ _ _ _ _=>(qT (m_ (cO qb.mono RM (hr.mono (by decide)) C_.m C_.F.kp C_.b (aa (ae (i:=1)) (aa (ae (i:=0)) af)))))) (λ_ _ _ _ _ _=>(ae (i:=0)))) (bK af)) (fA (aT aj (cv.m j0) (ba (ih:=0) bU.mono GT (hr.mono (by decide)) dT.m dT.F.kp dT.b (aa ak af)) ak)))) (aB (cI (i:=3) (λ_=>(ae (i:=5))))) dQ))))
    (aB (cC (bh a8 fh B.sorted eU (aa (ae (i:=3)) af))))))),λds R h=>?_⟩
 obtain⟨n,rows,rfl,tr,lr,q⟩:=h;refine⟨_,rfl,trivial,_,rfl,.inr ⟨trivial,_,rfl,.inl ⟨dB _,trivial,?_⟩⟩⟩;refine⟨Tb _,trivial,_,rfl,trivial,_,rfl,trivial,_,rfl,by rw[SS];lia,by rw[SS];lia,trivial,?_⟩
 rw[SS,UW];refine⟨λi β=>∃(us fs:List (List Int)) (x4 x5:Option Q.B),β=[some (.hand kR),some (.val false (m7 n rows)),some (.own (.lst (us.map kD))),some (.own (.lst (fs.map kD))),x4,x5]/\us.length=rows.length-i/\fs.length<=i/\i<=rows.length/\(∀u∈us,u∈rows)/\(∀u∈fs,u∈rows)/\fs.Pairwise Apart,⟨rows,[],_,_,rfl,rfl,SX _,Tb _,λ_ z=>z,λ_ z=>(nomatch z),List.Pairwise.nil⟩,?_,?_⟩
 ·rintro i d β hd ⟨us,fs,x4,x5,rfl,h1,h2,h3,h4,h5,h6⟩;obtain⟨hi,rfl⟩:=dt hd;refine⟨⟨_,rfl⟩,rfl,_,rfl,trivial,_,rfl,trivial,rfl,trivial,_,rfl,by rw[SS];lia,by rw[SS];lia,λr r0 r1=>?_⟩
  rw[SS]at r1;obtain⟨m,rfl⟩:∃m:Nat,r=m:=⟨r.toNat,by lia⟩
  have hm:m<us.length:=by lia
  obtain⟨t,et⟩:∃t,us[m]?=some t:=⟨us[m],Td hm⟩;have Om:t∈rows:=h4 t (TY et);obtain⟨a,b,rfl,a0,ab,bn⟩:=tr t Om;refine⟨us.map kD,m,m,kD [a,b],rfl,rfl,by lia,by lia,by rw[SS];exact vG rfl hm,by rw[Th,et];rfl,?_⟩
  have ee:(us.map kD).eraseIdx m=(us.eraseIdx m).map kD:=(gN us m).symm;rw[ee];have MS:(us.eraseIdx m).length=rows.length-(i+1):=by rw[List.length_eraseIdx,if_pos hm];lia
  have MR:∀u∈us.eraseIdx m,u∈rows:=λu hu=>h4 u (List.mem_of_mem_eraseIdx hu);refine⟨_,rfl,_,rfl,trivial,?_⟩;refine iE (λu=>CP [a,b] u) (λu=>kD u) trivial (by rw[TF];lia) (λu hu x0 o J ho j1 j2=>?_) ?_
  ·obtain⟨c,d,rfl,c0,cd,dn⟩:=tr u (h5 u hu);exact⟨rfl,_,rfl,trivial,_,rfl,trivial,a,b,c,d,rfl,_,rfl,Ql (λh=>⟨_,rfl,uo _,ho,j1 h _⟩) (λh=>j2 h _)⟩
  ·refine⟨trivial,Tb _,_,zr _ [],_,rfl,n9 (λh=>?_) (λ_=>n6 rfl ⟨us.eraseIdx m,fs,_,_,rfl,MS,by lia,by lia,MR,h5,h6⟩)⟩
   refine⟨rfl,trivial,rfl,trivial,5,rfl,by lia,by lia,λr r0 r1=>⟨trivial,_,rfl,_,rfl,n9 (λ_=>?_) (λ_=>⟨us.eraseIdx m,fs,_,_,rfl,MS,by lia,by lia,MR,h5,h6⟩)⟩⟩
   refine⟨⟨_,rfl⟩,_,rfl,uo _,fs.map kD,rfl,by rw[SS,TF];lia,?_⟩
   refine⟨us.eraseIdx m,fs++[[a,b]],_,_,by rw[mW];rfl,MS,by simp;lia,by lia,MR,λu hu=>(S9.mp hu).elim (h5 u) λz=>by rw[S3.mp z];exact Om,?_⟩
   rw[Vn];refine⟨h6,by simp,λu hu x hx=>?_⟩
   rw[S3.mp hx];obtain⟨c,d,rfl,c0,cd,dn⟩:=tr u (h5 u hu);have:=List.filter_eq_nil_iff.mp h _ hu;exact(rJ ab cd (Wl.mpr this)).symm
 ·rintro β ⟨us,fs,x4,x5,rfl,h1,h2,h3,h4,h5,h6⟩;rw[dq]at h2;have hp:Pairs fs:=λu hu=>(tr u (h5 u hu)).pair;exact⟨_,rfl,trivial,_,f7 hp.ne (by lia),.inl ⟨dB _,trivial,rfl,q _ ((yN hp).mpr ⟨h5,h6⟩) (by rw[(bp fs).length_eq];lia)⟩⟩
end
end jD
namespace Ko
open PySem PySem.Spec PyProof.Rows TS
section
variable {prog:SW}{w:S_}{A:Ud}{E:SO->SU->Prop}{s:SU}
def kL (h:Heap)(kf:SO->Int)(sd:SO->Str)(vs:List SO):Prop :=
 ∀v∈vs,∃t o tn ts k,v=.ref t/\h.get? t=some o/\o.cls=.type "tuple" /\ o.data=.seq #[.int (kf v) tn,.str (sd v) ts] k
theorem kL.keep {h h':Heap}{kf:SO->Int}{sd:SO->Str}{vs:List SO}(T:kL h kf sd vs)(k:∀t o,h.get? t=some o->h'.get? t=some o):kL h' kf sd vs:=λv hv=>by
 obtain⟨t,o,tn,ts,n,e,e2,r⟩:=T v hv;exact⟨t,o,tn,ts,n,e,k _ _ e2,r⟩
theorem Bq {kf:SO->Int}{sd:SO->Str}{vs:List SO}{b:Bool}{a₀:Array S0}(T:kL s.heap kf sd vs)(al:∀x∈vs,∀y∈vs,kf x=kf y->sd x=sd y)(hm:∀z∈a₀.toList,z.1∈vs):eC prog w A E s (tuples' b) (λx y=>decide (kf x.1<kf y.1)) (·∈a₀.toList):=by
 intro x y st Q hx hy hk q;have q:Q (some (decide (kf x.1<kf y.1))) st:=q;have al:=al _ (hm _ hx) _ (hm _ hy);obtain⟨t,o,tn,ts,n,e1,e2,_,e3⟩:=T _ (hm _ hx);obtain⟨t',o',RZ,mN,n',f1,f2,_,f3⟩:=T _ (hm _ hy);rw[lt'_eq];refine S6 (V5 ?_);generalize Sv:kf x.1=nx at q e3 al;generalize Kf:kf y.1=ny at q f3 al;generalize sd x.1=sx at e3 al;generalize sd y.1=sy at f3 al;rw[hk,e1,f1];refine S6 (Wr (WX (PySem.W.kat_lt e2 e3 f2 f3 ?_)));refine PySem.W.kat_cons (Xl ?_)
 by_cases e:nx=ny
 ·subst e;obtain rfl:=al rfl;rw[beq_self_eq_true];refine PySem.W.kat_yes (PySem.W.kat_cons ((strKind prog w).eqBool (a:=sx) (b:=sx) (strKind_is prog w sx ts) (strKind_is prog w sx mN) ?_));rw[decide_eq_true rfl];refine PySem.W.kat_yes (PySem.W.kat_nil ⟨rfl,S8 ?_⟩);rw[decide_eq_false (Int.lt_irrefl nx)]at q;exact q
 ·rw[show (nx==ny)=false from beq_eq_false_iff_ne.mpr e]
  refine PySem.W.kat_no ?_;cases b&&(0:Nat)==0 with
  |true=>exact oneLt_int ⟨rfl,S8 q⟩
  |false=>exact PySem.W.kat_one _ _ (lt_int ⟨rfl,S8 q⟩)
theorem oT {kf:SO->Int}{sd:SO->Str}{h:Heap}:∀{vs:List SO},kL h kf sd vs->∃fs:List SO,PySem.W.KatTups h vs fs/\fs.length=vs.length/\∀f∈fs,∃n t,f=Value.int n t
 |[],_=>⟨[],trivial,rfl,λf hf=>by cases hf⟩
 |v::vs,T=>by
  obtain⟨fs,h1,h2,h3⟩:=oT (vs:=vs) λu hu=>T u (Tc _ hu);obtain⟨t,o,tn,ts,k,e1,e2,e3,e4⟩:=T v Tr;generalize kf v=n at e4;generalize sd v=x at e4;subst e1;exact⟨.int n tn::fs,PySem.W.KatTups.cons e2 e3 e4 rfl h1,by rw[Tv,Tv,h2],λg hg=>by
   rcases S5.mp hg with rfl|hg
   ·exact⟨_,_,rfl⟩
   ·exact h3 g hg⟩
theorem Bu {kf:SO->Int}{sd:SO->Str}{vs:List SO}{Q:U0->SU->Prop}(T:kL s.heap kf sd vs)(h0:0<vs.length)(q:Q (tuples' true) s):Tn (model prog w) A (keyKind' vs.toArray) Q E s:=by
 obtain⟨fs,h1,h2,h3⟩:=oT T;refine PySem.W.kat_kind (T:=.type "int") h1 (by lia) (λv hv=>?_) (by decide) q
 obtain⟨n,t,rfl⟩:=h3 v hv;exact .now
theorem ED (kf:SO->Int):bZ λ(x y:S0)=>decide (kf x.1<kf y.1):=⟨λx y h=>decide_eq_false (by have:=of_decide_eq_true h;lia),λx y z h=>by
 have:=of_decide_eq_true h
 by_cases q:kf x.1<kf y.1
 ·exact .inl (decide_eq_true q)
 ·exact .inr (decide_eq_true (by lia))⟩
end
end Ko
namespace L2
open PySem PySem.Spec PyProof.Rows Ko
abbrev qK:=Int×Str
abbrev xu (p:qK):D:=.tup [.int p.1,.str p.2]
def Em:List D->Option (List qK)
 |[]=>some []
 |d::ds=>match d with
  |.tup [.int n,.str x]=>(Em ds).map ((n,x)::·)
  |_=>none
theorem xv:∀{ds:List D} {l:List qK},Em ds=some l->ds=l.map xu
 |[],_,h=>by cases h;rfl
 |d::ds,l,h=>by
  unfold Em at h
  split at h
  ·obtain⟨r,h1,rfl⟩:=Tq.mp h;rw[xv h1];rfl
  ·cases h
theorem tM:∀l:List qK,Em (l.map xu)=some l
 |[]=>rfl
 |p::l=>by
  show (Em (l.map xu)).map _=_;rw[tM l];rfl
def GQ (l:List qK):Prop:=∀p∈l,∀q∈l,p.1=q.1->p.2=q.2
instance (l:List qK):Decidable (GQ l):=by unfold GQ;infer_instance
def uZ (l:List qK):List qK:=l.mergeSort λa b=>decide (a.1<=b.1)
theorem lI (l:List qK):(uZ l).Perm l:=List.mergeSort_perm _ _
theorem uY (l:List qK):(uZ l).Pairwise λa b=>a.1<=b.1 :=
 (List.pairwise_mergeSort (le:=λa b:qK=>decide (a.1<=b.1)) (λa b c h1 h2=>by
  have:=of_decide_eq_true h1;have:=of_decide_eq_true h2;exact decide_eq_true (by lia)) (λa b=>by
  by_cases h:a.1<=b.1
  ·rw[decide_eq_true h];rfl
  ·rw[decide_eq_true (show b.1<=a.1 by lia),Bool.or_true]) l).imp λh=>of_decide_eq_true h
theorem tj {a b:List qK}(al:GQ b)(p:a.Perm b)(h:a.Pairwise λx y=>x.1<=y.1):a=uZ b :=
 List.Perm.eq_of_pairwise (le:=λx y=>x.1<=y.1) (λx y hx hy h1 h2=>Prod.ext (Int.le_antisymm h1 h2) (al x (p.mem_iff.mp hx) y ((lI b).mem_iff.mp hy) (Int.le_antisymm h1 h2))) h (uY b) (p.trans (lI b).symm)
def nK:List D->Option D
 |[d]=>d.Br.bind λds=>(Em ds).bind λl=>if l.length<=1000000/\GQ l then some (.lst ((uZ l).map xu)) else none
 |_=>none
theorem sA {l:List qK}(h:GQ l)(hl:l.length<=1000000):nK [.lst (l.map xu)]=some (.lst ((uZ l).map xu)):=by
 show (Em (l.map xu)).bind _=_;rw[tM,Xr,if_pos ⟨hl,h⟩]
def yp (H:Hp):SO->Int
 |.ref t=>match H t with
  |some (.tup (.int n::_))=>n
  |_=>0
 |_=>0
def Eb (H:Hp):SO->Str
 |.ref t=>match H t with
  |some (.tup [_,.str x])=>x
  |_=>⟨#[]⟩
 |_=>⟨#[]⟩
section
variable {P:SW}{w:S_}{W:Addr->Prop}{H:Hp}
abbrev JN:=Addr×qK
theorem tJ:∀{l:List qK} {vs:List V},ag P w W H (l.map xu) vs->∃ts:List JN,vs=ts.map (λt=>V.ref t.1)/\ts.map (·.2)=l/\∀t∈ts,H t.1=some (.tup [.int t.2.1,.str t.2.2])
 |[],_,h=>⟨[],h,rfl,λ_ z=>nomatch z⟩
 |p::l,_,⟨v,r,e,h1,h2⟩=>by
  obtain⟨ts,q1,q2,q3⟩:=tJ h2;obtain⟨a,us,rfl,ha,u1,r1,rfl,g1,u2,r2,rfl,g2,g3⟩:=h1;cases (show r2=[] from g3)
  cases (show u1=V.int p.1 from g1)
  cases (show u2=V.str p.2 from g2)
  refine⟨(a,p)::ts,by rw[e,q1];rfl,by rw[S4,q2],λt ht=>?_⟩
  rcases S5.mp ht with rfl|ht
  ·exact ha
  ·exact q3 t ht
theorem tE:∀{ts:List JN},(∀t∈ts,H t.1=some (.tup [.int t.2.1,.str t.2.2]))->ag P w W H ((ts.map (·.2)).map xu) (ts.map λt=>V.ref t.1)
 |[],_=>rfl
 |t::ts,h=>⟨_,_,rfl,⟨t.1,_,rfl,h t (Tr ..),_,_,rfl,rfl,_,_,rfl,rfl,rfl⟩,tE λx hx=>h x (Tc _ hx)⟩
end
theorem oq:∀{ts:List JN} {us:List SO},Vals (ts.map λt=>V.ref t.1) us->us=ts.map λt=>Value.ref t.1
 |[],_,.nil=>rfl
 |t::ts,_,.cons r q=>by
  rw[S4,<- oq q];cases r;rfl
theorem qv:∀(ts:List JN),Vals (ts.map λt=>V.ref t.1) (ts.map λt=>Value.ref t.1)
 |[]=>.nil
 |t::ts=>.cons rfl (qv ts)
def FI (H:Hp):SO->JN
 |.ref t=>(t,(yp H (.ref t),Eb H (.ref t)))
 |_=>(0,(0,⟨#[]⟩))
section
variable {X:Cx}
theorem lq:nZ X (.builtin "sorted") nK:=by
 intro pins s σ H xs us Q I r h;obtain⟨W,ds,d,hd,r1,e,q⟩:=h
 match ds,e with
 |[x],e =>
  obtain⟨es,e1,e2⟩:=Ui.mp (show x.Br.bind _=some d from e)
  obtain⟨l0,e3,e4⟩:=Ui.mp e2;obtain⟨⟨hz,al⟩,rfl⟩:=ff e4;obtain rfl:=xv e3;rw[D.t7 e1]at r1;obtain⟨x,rfl,p,vs,rfl,hp,n1,q1⟩:=g_ r1;obtain⟨ts,rfl,rfl,T⟩:=tJ q1;obtain⟨u,rfl,rx⟩:=vals1 r;cases rx;obtain⟨its,r',pl,hl⟩:=I.list (cK.of hp);obtain rfl:=oq r';rw[SS]at hz;have nl:(ts.map λt=>Value.ref t.1).length<=S7:=by rw[SS,TF];lia
  have kf:∀t∈ts,yp H (.ref t.1)=t.2.1/\Eb H (.ref t.1)=t.2.2:=λt ht=>by
   unfold yp Eb;dsimp only;rw[T t ht];exact⟨rfl,rfl⟩
  have LL:kL s.heap (yp H) (Eb H) (ts.map λt=>Value.ref t.1):=λv hv=>by
   obtain⟨t,ht,rfl⟩:=Ti.mp hv;obtain⟨_,its,r5,o,h1,h2,n,h3⟩:=(show bb X.prog X.w H s.heap t.1 (.tup [.int t.2.1,.str t.2.2]) from I.a_ t.1 _ (T t ht))
   rw[(kf t ht).1,(kf t ht).2];cases r5 with
   |cons a1 a2 =>
    cases a2 with
    |cons a3 a4 =>
     cases a4;obtain⟨t1,rfl⟩:=a1;obtain⟨t2,rfl⟩:=a3;exact⟨t.1,o,t1,t2,n,rfl,h1,h2,h3⟩
  have AL:∀x∈ts.map (λt=>Value.ref t.1),∀y∈ts.map (λt=>Value.ref t.1),yp H x=yp H y->Eb H x=Eb H y:=λx hx y hy e=>by
   obtain⟨t,ht,rfl⟩:=Ti.mp hx;obtain⟨t',Gw,rfl⟩:=Ti.mp hy;rw[(kf t ht).1,(kf t' Gw).1]at e;rw[(kf t ht).2,(kf t' Gw).2];exact al _ (Ti.mpr ⟨t,ht,rfl⟩) _ (Ti.mpr ⟨t',Gw,rfl⟩) e
  refine xh (κ:=tuples' true) (c:=λx y=>decide (yp H x<yp H y)) (by rw[SS];exact hz) (λR hR=>?_) (ED _) (λs' k=>⟨λh2 Q q=>Bu (LL.keep k) (by lia) q,Bq (LL.keep k) AL λz hz=>by
   rw[Wx]at hz;exact(V3 hz).1⟩) λout l h' tk n hp hs hle kp ho=>?_
  ·refine collect_list pl.isList (hR _ s.toks (λb o e=>?_) ?_) nl
   ·have hb:=Ta e;rw[WV _ _ _ _ (Tx hb)];exact S1 _ e
   ·rw[Heap.size_update,W5];exact VJ _
  ·have o1:out=(out.map (FI H)).map (λt=>Value.ref t.1):=by
    rw[T1];refine(T5 (g:=id) λv hv=>?_).trans (Xu _) |>.symm
    obtain⟨t,ht,rfl⟩:=Ti.mp (hp.mem_iff.mp hv);rfl
   have o2:(out.map (FI H)).Perm ts:=by
    refine(hp.map (FI H)).trans (WK ?_);rw[T1];refine(T5 (g:=id) λt ht=>?_).trans (Xu _);show (t.1,(yp H (.ref t.1),Eb H (.ref t.1)))=t;rw[(kf t ht).1,(kf t ht).2]
   have zl:out.length=ts.length:=by rw[hp.length_eq,SS]
   have hf:H l=none:=I.a_.fresh hle;have eq:(out.map (FI H)).map (·.2)=uZ (ts.map (·.2)):=tj al (o2.map _) (by
    rw[T1,T8];refine hs.imp_of_mem λ{x y} hx hy hh=>?_;obtain⟨t,ht,rfl⟩:=Ti.mp (hp.mem_iff.mp hx);obtain⟨t',Gw,rfl⟩:=Ti.mp (hp.mem_iff.mp hy);show yp H (.ref t.1)<=yp H (.ref t'.1);have:=of_decide_eq_false hh;lia)
   rw[<- eq]at q;have rk:=tE (P:=X.prog) (w:=X.w) (W:=W) (H:=H) (ts:=out.map (FI H)) λt ht=>T t (o2.mem_iff.mp ht);refine⟨.ref l,_,I.laid (t':=tk) (o:=.lst ((out.map (FI H)).map λt=>V.ref t.1)) kp hle ?_,rfl,q _ _ (au.new hf) (Rp.iD hd hf rk) λf=>vx hf f rk⟩;refine⟨by rw[SS,SS,zl,TF];lia,out,n,?_,ho⟩
   have:=qv (out.map (FI H));rw[<- o1]at this;exact this
end
end L2
namespace L2.Q
open PySem
def qJ (cs:List Nat):Int:=(cs.map jn).sum
theorem bo (c:Nat)(cs:List Nat):qJ (c::cs)=jn c+qJ cs:=by unfold qJ;rw[S4,UE]
theorem yV:∀{cs:List Nat} {w:Int},(∀k,0<=w+qJ (cs.take k))->w+qJ cs=0->ed w cs=true
 |[],w,_,h=>decide_eq_true (by have:qJ []=0:=rfl;lia)
 |c::cs,w,h,e=>by
  rw[bo]at e;have h1:=h 1;rw[Vw,bo,List.take_zero]at h1;have:qJ []=0:=rfl;rw[dC rfl (by lia)]
  refine yV (λk=>?_) (by lia)
  have:=h (k+1);rw[Vw,bo]at this;lia
theorem qt {a b:List Nat}(p:a.Perm b):qJ a=qJ b:=by
 induction p with
 |nil=>rfl
 |cons x p ih=>rw[bo,bo,ih]
 |swap x y l=>rw[bo,bo,bo,bo];lia
 |trans p q i1 i2=>rw[i1,i2]
theorem uO (a b:List Nat):qJ (a++b)=qJ a+qJ b:=by
 induction a with
 |nil=>show qJ b=0+qJ b;lia
 |cons c a ih=>rw[Xs,bo,bo,ih];lia
section
variable {X:Nat}{x:Nat×Nat}{s:List (Nat×Nat)}
theorem BO (h:x.1<X):(x::s).filter (λy=>decide (y.1<X))=x::s.filter λy=>decide (y.1<X):=List.filter_cons_of_pos (p:=λy:Nat×Nat=>decide (y.1<X)) (decide_eq_true h)
theorem FN (h:¬ x.1<X):(x::s).filter (λy=>decide (y.1<X))=s.filter λy=>decide (y.1<X):=List.filter_cons_of_neg (p:=λy:Nat×Nat=>decide (y.1<X)) (by rw[decide_eq_false h];decide)
theorem FL (h:∀y∈s,¬ y.1<X):s.filter (λy=>decide (y.1<X))=[]:=List.filter_eq_nil_iff.mpr λy hy=>by rw[decide_eq_false (h y hy)];decide
end
theorem wY {s:List (Nat×Nat)}(hs:s.Pairwise λx y=>x.1<y.1)(k:Nat):∃X:Nat,s.take k=s.filter λx=>decide (x.1<X):=by
 induction s generalizing k with
 |nil=>exact⟨0,by rw[List.take_nil];rfl⟩
 |cons x s ih =>
  obtain⟨h1,h2⟩:=Us.mp hs;cases k with
  |zero=>exact⟨0,(FL λy _=>V2 _).symm⟩
  |succ k =>
   obtain⟨X,hX⟩:=ih h2 k
   by_cases Q5:x.1<X
   ·exact⟨X,by rw[Vw,hX,BO Q5]⟩
   ·refine⟨x.1+1,?_⟩;rw[Vw,hX,BO (Nat.lt_succ_self _),FL λy hy=>?_,FL λy hy=>?_]
    ·have:=h1 y hy;lia
    ·have:=h1 y hy;lia
def dG (tn:List (Nat×Nat)):List (Nat×Nat):=tn.map (λp=>(p.1,40))++tn.map λp=>(p.2,41)
theorem xS {tn:List (Nat×Nat)}(h:∀p∈tn,p.1<p.2)(X:Nat):0<=qJ (((dG tn).filter λx=>decide (x.1<X)).map (·.2)):=by
 unfold dG;rw[Va,TQ,uO]
 induction tn with
 |nil=>exact Xw 0
 |cons p tn ih =>
  have i:=ih λq hq=>h q (Tc _ hq);have hp:=h p Tr;have Nc:jn 40=1:=rfl;have Nb:jn 41=-1:=rfl;rw[S4,S4]
  by_cases h1:p.1<X
  ·rw[BO (x:=(p.1,40)) h1,S4,bo]
   by_cases h2:p.2<X
   ·rw[BO (x:=(p.2,41)) h2,S4,bo];show 0<=jn 40+_+(jn 41+_);lia
   ·rw[FN (x:=(p.2,41)) h2];show 0<=jn 40+_+_;lia
  ·rw[FN (x:=(p.1,40)) h1,FN (x:=(p.2,41)) (show ¬ p.2<X by lia)]
   exact i
theorem lT:∀tn:List (Nat×Nat),qJ ((dG tn).map (·.2))=0
 |[]=>rfl
 |p::tn=>by
  have i:=lT tn;unfold dG at i ⊢
  rw[TQ,uO]at i ⊢
  rw[S4,S4,S4,S4,bo,bo];have Nc:jn 40=1:=rfl;have Nb:jn 41=-1:=rfl;show jn 40+_+(jn 41+_)=0;lia
theorem u5 {tn s:List (Nat×Nat)}(h:∀p∈tn,p.1<p.2)(pm:s.Perm (dG tn))(hs:s.Pairwise λx y=>x.1<y.1):ed 0 (s.map (·.2))=true:=by
 refine yV (λk=>?_) ?_
 ·obtain⟨X,hX⟩:=wY hs k;rw[<- List.map_take,hX,qt ((pm.filter _).map (·.2))];have:=xS h X;lia
 ·rw[qt (pm.map (·.2)),lT];rfl
abbrev Ey (p:Nat×Nat):D:=.tup [.int p.1,.str (fu p.2)]
abbrev JW (p:Nat×Nat):qK:=((p.1:Int),fu p.2)
theorem xR {n:Nat}{rows:List (List Int)}{tn:List (Nat×Nat)}(h:∀p∈tn,p.1<p.2/\p.2<n)(Mt:n<=1000)(g:Good rows (tn.map tI)):2*tn.length<=n/\∃s:List (Nat×Nat),nK [.lst ((dG tn).map Ey)]=some (.lst (s.map Ey))/\s.Perm (dG tn)/\s.Pairwise λx y=>x.1<y.1:=by
 have ap:∀p∈tn,∀q∈tn,p≠q->p.1≠q.1/\p.1≠q.2/\p.2≠q.2:=λp hp q hq ne=>by
  have a:=(wx g (List.mem_map_of_mem hp) (List.mem_map_of_mem hq) λe=>ne (DO e)).1;have a:¬ ∃i∈tI p,i∈tI q:=λz=>by rw[dg.mpr z]at a;cases a
  refine⟨λe=>a ⟨(p.1:Int),by simp[tI],by simp[tI,e]⟩,λe=>a ⟨(p.1:Int),by simp[tI],by simp[tI,e]⟩,λe=>a ⟨(p.2:Int),by simp[tI],by simp[tI,e]⟩⟩
 have N8:tn.Nodup:=by
  have:=g.2.1;rw[T8]at this;exact this.imp λ{a b} z e=>by rw[e,lV]at z;cases z
 have mem:∀x∈dG tn,(∃p∈tn,x=(p.1,40))\/∃p∈tn,x=(p.2,41):=λx hx=>by
  rcases S9.mp hx with hx|hx
  ·obtain⟨p,hp,rfl⟩:=Ti.mp hx;exact .inl ⟨p,hp,rfl⟩
  ·obtain⟨p,hp,rfl⟩:=Ti.mp hx;exact .inr ⟨p,hp,rfl⟩
 have zw:∀p∈tn,∀q∈tn,p.1≠q.2:=λp hp q hq=>by
  by_cases e:p=q
  ·subst e;have:=(h p hp).1;lia
  ·exact(ap p hp q hq e).2.1
 have pw:(dG tn).Pairwise λx y=>x.1≠y.1:=by
  unfold dG;rw[Vn,T8,T8];refine⟨N8.imp_of_mem λ{a b} ha hb ne=>(ap a ha b hb ne).1,N8.imp_of_mem λ{a b} ha hb ne=>(ap a ha b hb ne).2.2,λx hx y hy=>?_⟩;obtain⟨p,hp,rfl⟩:=Ti.mp hx;obtain⟨q,hq,rfl⟩:=Ti.mp hy;exact zw p hp q hq
 have al:GQ ((dG tn).map JW):=λx hx y hy e=>by
  obtain⟨u,hu,rfl⟩:=Ti.mp hx;obtain⟨v,hv,rfl⟩:=Ti.mp hy;have e:(u.1:Int)=v.1:=e;rcases mem u hu with⟨p,hp,rfl⟩|⟨p,hp,rfl⟩ <;> rcases mem v hv with⟨q,hq,rfl⟩|⟨q,hq,rfl⟩
  ·rfl
  ·have e:(p.1:Int)=q.2:=e;exact absurd (by lia) (zw p hp q hq)
  ·have e:(p.2:Int)=q.1:=e;exact absurd (by lia) (zw q hq p hp)
  ·rfl
 have lt:∀x∈dG tn,x.1<n:=λx hx=>by
  rcases mem x hx with⟨p,hp,rfl⟩|⟨p,hp,rfl⟩
  ·have:=h p hp;show p.1<n;lia
  ·exact(h p hp).2
 have hl:(dG tn).length=2*tn.length:=by unfold dG;rw[Tw,SS,SS];lia
 have hn:2*tn.length<=n:=by
  rw[<- hl,<- SS (f:=λx:Nat×Nat=>x.1)];exact ye (T8.mpr pw) λy hy=>by obtain⟨x,hx,rfl⟩:=Ti.mp hy;exact lt x hx
 let s:=(dG tn).mergeSort λa b=>decide (a.1<=b.1)
 have pm:s.Perm (dG tn):=List.mergeSort_perm _ _;have so:s.Pairwise λa b=>a.1<=b.1:=(List.pairwise_mergeSort (le:=λa b:Nat×Nat=>decide (a.1<=b.1)) (λa b c h1 h2=>by
  have:=of_decide_eq_true h1;have:=of_decide_eq_true h2;exact decide_eq_true (by lia)) (λa b=>by
  by_cases h:a.1<=b.1
  ·rw[decide_eq_true h];rfl
  ·rw[decide_eq_true (show b.1<=a.1 by lia),Bool.or_true]) (dG tn)).imp λh=>of_decide_eq_true h
 have sn:s.Pairwise λa b=>a.1≠b.1:=(pm.pairwise_iff λh=>U_ h).mpr pw;refine⟨hn,s,?_,pm,(so.and sn).imp λh=>by lia⟩
 have e1:(dG tn).map Ey=((dG tn).map JW).map xu:=by rw[T1];rfl
 have e2:s.map Ey=(s.map JW).map xu:=by rw[T1];rfl
 rw[e1,e2,sA al (by rw[SS,hl];lia),tj al (pm.map JW) (T8.mpr (so.imp λ{a b} h=>Int.ofNat_le.mpr h))]
end L2.Q
namespace jD
open PySem L2 L2.Q
def yX:FD:=λds R=>∃(n:Nat) (d:D) (rows:List (List Int)) (tn:List (Nat×Nat)),ds=[d,.lst ((tn.map tI).map kD)]/\n<=40/\(∀p∈tn,p.1<p.2/\p.2<n)/\Good rows (tn.map tI)/\∀cs:List Nat,(∀c∈cs,c=40\/c=41)->cs.length<=40->ed 0 cs=true->R (.str (cw cs))
theorem yX.mono:fI yX:=λds R R' k ⟨n,d,rows,tn,e,h1,h2,h3,q⟩=>⟨n,d,rows,tn,e,h1,h2,h3,λcs a b c=>k _ (q cs a b c)⟩
section
variable {P:SW}{w:S_}{K:PySem.W.Frag}{mg:Str->Option SO}{base:Heap}
theorem gG:aY ["row","ties","signs"] ["row","ties"] (aD dJ):=mkS
theorem EI {BR uq} (GG:O3 K mg BR uq) (B:Bs mg):bc P w K mg base cY 2 BR uq ["row","ties"] (kP P w true yX):=by
 refine Bf GG.F gG (λds R IL=> by obtain⟨n,d,rows,tn,e,_⟩ := IL;subst e;rfl) λc8 A outer s H E hr=>⟨_,(ai (a7 (i:=2) (bh a8 lq B.sorted eU (aa (aV a8 aU (J4 ["a","b"] [none,none] (by rfl) (by decide:(["a","b"]:List Str).Nodup) rfl (bP (ae (i:=1))) (λ_ _ _ _ _ _=>(ck (n:=2) rfl (aG (ay (i:=0) (by decide:(["a","b"]:List Str).Nodup)) (aG (ay (i:=1) (by decide:(["a","b"]:List Str).Nodup)) bI)))) (λ_ _ _ _ _ _=>dY) (λ_ _ _ _ _ _=>(d7 (aa (ae (i:=0)) (aa cH af))))) (J4 ["a","b"] [none,none] (by rfl) (by decide:(["a","b"]:List Str).Nodup) rfl (bP (ae (i:=1))) (λ_ _ _ _ _ _=>(ck (n:=2) rfl (aG (ay (i:=0) (by decide:(["a","b"]:List Str).Nodup)) (aG (ay (i:=1) (by decide:(["a","b"]:List Str).Nodup)) bI)))) (λ_ _ _ _ _ _=>dY) (λ_ _ _ _ _ _=>(d7 (aa (ae (i:=1)) (aa cH af)))))) af)) gG.nd)
    (aB (cC (AK (J4 ["point","sign"] [none,none] (by rfl) (by decide:(["point","sign"]:List Str).Nodup) rfl (bP (ae (i:=2))) (λ_ _ _ _ _ _=>(ck (n:=2) rfl (aG (ay (i:=0) (by decide:(["point","sign"]:List Str).Nodup)) (aG (ay (i:=1) (by decide:(["point","sign"]:List Str).Nodup)) bI)))) (λ_ _ _ _ _ _=>dY) (λ_ _ _ _ _ _=>(ae (i:=1)))))))),λds R h=>?_⟩
 obtain⟨n,d0,rows,tn,rfl,hn,ht,hg,q⟩:=h;obtain⟨h2,s,es,pm,so⟩:=xR ht (by lia) hg
 have hl:s.length=2*tn.length:=by rw[pm.length_eq];unfold dG;rw[Tw,SS,SS];lia
 rw[show (tn.map tI).map kD=tn.map (λp=>kD (tI p)) by rw[T1];rfl]
 refine⟨_,rfl,_,rfl,trivial,nC (l:=tn) (f:=λp=>kD (tI p)) (λ_=>true) (λp=>.tup [.int p.1,.str "("]) trivial (by rw[TF];lia) (λp hp x0 x1 o J ho j1 j2=>⟨_,rfl,rfl,_,_,rfl,_,_,rfl,rfl,_,rfl,trivial,trivial,wA,trivial,ho,j1 rfl _ _⟩) ?_⟩
 rw[bS];refine⟨trivial,_,rfl,_,rfl,trivial,nC (l:=tn) (f:=λp=>kD (tI p)) (λ_=>true) (λp=>.tup [.int p.2,.str ")"]) trivial (by rw[TF];lia) (λp hp x0 x1 o J ho j1 j2=>⟨_,rfl,rfl,_,_,rfl,_,_,rfl,rfl,_,rfl,trivial,trivial,wA,trivial,ho,j1 rfl _ _⟩) ?_⟩
 rw[bS];have Rm:(tn.map λp=>D.tup [.int p.1,.str "("])++(tn.map λp=>D.tup [.int p.2,.str ")"])=(dG tn).map Ey:=by
  unfold dG;rw[TQ,T1,T1,F6,F5];rfl
 refine⟨_,qj (by rw[SS,SS];lia),.inr ⟨trivial,.lst (s.map Ey),by rw[Rm];exact es,.inr ?_⟩⟩
 refine⟨_,rfl,_,rfl,trivial,nC (l:=s) (f:=Ey) (λ_=>true) (λp=>.str (fu p.2)) trivial (by rw[TF];lia) (λp hp x0 x1 o J ho j1 j2=>⟨_,rfl,rfl,_,_,rfl,_,_,rfl,rfl,_,rfl,trivial,ho,j1 rfl _ _⟩) ?_⟩
 rw[bS];have em:(s.map λp=>D.str (fu p.2))=(s.map (·.2)).map λc=>D.str (fu c):=by rw[T1];rfl
 refine⟨s.map (·.2),congrArg D.lst em,by rw[SS];lia,trivial,q _ (λc hc=>?_) (by rw[SS];lia) (u5 (λp hp=>(ht p hp).1) pm so)⟩
 obtain⟨x,hx,rfl⟩:=Ti.mp hc;rcases S9.mp (pm.mem_iff.mp hx)with hx|hx
 ·obtain⟨p,_,rfl⟩:=Ti.mp hx;exact .inl rfl
 ·obtain⟨p,_,rfl⟩:=Ti.mp hx;exact .inr rfl
end
section
variable {P:SW}{w:S_}{K:PySem.W.Frag}{mg:Str->Option SO}{base:Heap}
theorem d6:aY ["script","cell","pot","row","some","shape","due","handed","again","found"] ["script"] (aD jR):=mkS
def xg (K:PySem.W.Frag):Sp:=λvs H Q _=>∃(a:Addr) (ns:List Int),vs=[.ref a]/\cK K H a (ns.map V.int)/\ns.length<=63/\∀H',Q (.bl true) H'
def JL (β:Q.a9):Prop:=∃y0 y1 y2 y3 y4 y5 y6 y7 y8 y9:Option Q.B,β=[y0,y1,y2,y3,y4,y5,y6,y7,y8,y9]
theorem EM {f:Addr} {fd:T7} (F:Ab K "law" "law" jR f fd) (B4:JM mg) {Rj M4} (dP:RV K mg Rj M4) {BQ nI} (dT:D2 K mg BQ nI) {vU mf} (C9:D1 K mg vU mf) {Kj BP} (dR:D3 K mg Kj BP) {BV uv} (GI:O5 K mg BV uv) {vV mh} (C_:NC K mg vV mh) {BS ur} (GH:O4 K mg BS ur) {BU uu} (B8:O6 K mg BU uu) {BW uw} (GJ:D5 K mg BW uw) {ux iI} (dW:D0 K mg ux iI) {BR uq} (GG:O3 K mg BR uq) {uy nJ} (v_:D9 K mg uy nJ) {vX mn} (Dh:D4 K mg vX mn) {vT me} (C8:D7 K mg vT me) {vW ml} (Dg:D8 K mg vW ml) {pY i9} (z6:D6 K mg pY i9):bc P w K mg base cY 45 f fd ["script"] (xg K):=by
 have B:=B4.toBs3;have GP:bc P w K mg base cY 1 _ _ _ (kP P w true yY):=EL dP.F B.toBs;have GT:bc P w K mg base cY 1 _ _ _ (fS P w kR true bU):=gK dT.F;have GR:bc P w K mg base cY 3 _ _ _ (fS P w kR true p_):=EK dR dT C9 B.toBs;have RF:bc P w K mg base cY 2 _ _ _ (fS P w kR true p0):=EJ GH dT C_ B.toBs;have RQ:bc P w K mg base cY 1 _ _ _ (kP P w true kz):=vt GI B.toBs;have O2:bc P w K mg base cY 2 _ _ _ (fS P w kR true vY):=EH B8 dT B.toBs;have RE:bc P w K mg base cY 2 _ _ _ (kP P w true yX):=EI GG B.toBs;have RS:bc P w K mg base cY 43 _ _ _ (kP P w true za):=ER GJ dW B4;have Nz:bc P w K mg base cY 3 _ _ _ (kP P w true y_):=EO v_ Dh C8 Dg z6 B4;refine F.ok d6 (λvs H Q E h=>?_) (λc8 A outer s H vs Qk E hr h=>?_)
 ·obtain⟨a,ns,rfl,_⟩:=h;rfl
 ·obtain⟨a,ns,rfl,hS,hlen,k⟩:=h;have MH:∀b:Addr,¬ (λ_=>False) b:=λb z=>z;obtain⟨ψ,hb,hψ⟩:∃ψ,Q.wy (ll cY P w K mg base _ "law" (aD jR) f c8 A outer s H E).CJ ⟨H,λ_=>False,true,λ_=>False⟩ (match (dU jR)with | .For _ _ b _ _::_=>b|_=>[]) ψ /\
    ∀(c:Int) (x0 x2 x3 x4 x5 x6 x7 x8 x9:Option Q.B),ψ {nx:=JL,rt:=λd _=>d=.bl true,bk:=JL,ct:=JL} [x0,some (.val true (.int c)),x2,x3,x4,x5,x6,x7,x8,x9]:=by
   refine⟨_,(ai (AZ (i:=2) kR MH (λ_=>(cO yY.mono GP (hr.mono (by decide)) dP.m dP.F.kp dP.b (aa (ae (i:=1)) af))) d6.nd)
    (ai (a7 (i:=3) (ba (ih:=2) p_.mono GR (hr.mono (by decide)) dR.m dR.F.kp dR.b af) d6.nd)
    (ai (cP (i:=4) (λ_=>(bK (aa (cO yX.mono RE (hr.mono (by decide)) GG.m GG.F.kp GG.b (aa (ae (i:=3)) (aa (ba (ih:=2) p0.mono RF (hr.mono (by decide)) GH.m GH.F.kp GH.b (aa (ae (i:=3)) af)) af))) (aa (ba (ih:=2) vY.mono O2 (hr.mono (by decide)) B8.m B8.F.kp B8.b (aa ak af)) af)))) d6.nd)
    (ai (cI (i:=4) (λ_=>(ba (ih:=2) vY.mono O2 (hr.mono (by decide)) B8.m B8.F.kp B8.b (aa (cc aj d_ (bK (aa ak (aa ak (aa ak af)))) (ba (ih:=2) bU.mono GT (hr.mono (by decide)) dT.m dT.F.kp dT.b (aa ak af))) af))))
    (aB (c4 Ug rfl (bP (aV a8 aU (Es (i:=4)) (bK (aa cH (aa cH (aa cH af)))))) (ay (i:=5) d6.nd) (ai (a7 (i:=6) (cO za.mono RS (hr.mono (by decide)) GJ.m GJ.F.kp GJ.b (aa (ae (i:=3)) (aa (ae (i:=5)) af))) d6.nd)
    (ai (a7 (i:=7) (cO kz.mono RQ (hr.mono (by decide)) GI.m GI.F.kp GI.b (aa (ae (i:=3)) af)) d6.nd)
    (aB (c4 Ug rfl (bt B.range (aa ak af)) (ay (i:=8) d6.nd) (ai (a7 (i:=9) (cO y_.mono Nz (hr.mono (by decide)) v_.m v_.F.kp v_.b (aa (ae (i:=7)) (aa (ae (i:=5)) af))) d6.nd)
    (aB (eG (qz.t (ir (AJ (m_ (xB (tG B.Og (xo (i:=9)) B.int zG)))) (ir (m_ (xB (tG B.Og (xo (i:=9)) B.bool Cg))) (ir (aT aj (cv.m (iA hr.units)) (ae (i:=9)) (ae (i:=6))) (jo (aT aj (cv.m (iA hr.units)) (ae (i:=7)) (ae (i:=3)))))))) (aB (cC HA)) dQ))))))))))))),λc x0 x2 x3 x4 x5 x6 x7 x8 x9=>?_⟩
   refine⟨_,rfl,trivial,c,rfl,λns hk=>⟨trivial,(by show 2<10;decide),ns,rfl,hk,?_⟩⟩
   refine⟨rfl,rfl,trivial,rfl,λm rows m0 m1 hl tr sr nd=>?_⟩;obtain⟨n,ps,ok,em,er,SG⟩:=Az m0 (by lia) hl tr nd
   subst em er;have hn:n<=40:=by lia
   refine⟨_,rfl,trivial,rfl,_,rfl,trivial,rfl,trivial,(n:Int),ps.map tI,rfl,tr,hl,λts hg lt=>?_⟩;obtain⟨tn,rfl,Oo⟩:=oA (n:=(n:Int)) (by lia) λt ht=>tr t (hg.1 t ht)
   rw[UW]at Oo;refine⟨trivial,n,_,ps.map tI,tn,rfl,hn,Oo,hg,λc1 a1 b1 f1=>⟨trivial,rfl,trivial,rfl,trivial,5,rfl,by decide,by decide,λc2 a2 b2 f2=>⟨trivial,wA,trivial,⟨_,rfl⟩,?_⟩⟩⟩
   refine⟨rfl,trivial,trivial,trivial,G9,trivial,rfl,trivial,rfl,trivial,3,rfl,by decide,by decide,λr r0 r1=>pick r0 (by simpa using r1) λd hd=>?_⟩
   obtain⟨e,⟨e0,e1⟩,rfl⟩:∃e:Int,(0<=e/\e<=25)/\d=.int e:=by
    rcases S5.mp hd with rfl|hd
    ·exact⟨8,by decide,rfl⟩
    rcases S5.mp hd with rfl|hd
    ·exact⟨20,by decide,rfl⟩
    rw[S3.mp hd];exact⟨25,by decide,rfl⟩
   refine⟨trivial,rfl,trivial,e,rfl,e0,e1,λc3 a3 b3 f3=>?_⟩;have f0:ed 0 []=true/\ed 0 [40,41]=true/\ed 0 [40,40,41,41]=true:=by decide +kernel
   refine⟨trivial,_,rfl,(by show 2<S7;decide),_,rfl,trivial,trivial,trivial,trivial,G9,_,qj (by show 6<=1000000;decide),.inr ⟨_,rfl,trivial,?_⟩⟩
   have hF:∀d∈[D.str (cw c1),.str (cw c2),.str (cw c3)]++[.str "",.str "()",.str "(())"],∃cs:List Nat,d=.str (cw cs)/\(∀c∈cs,c=40\/c=41)/\cs.length<=50/\ed 0 cs=true:=λd hd=>by
    rcases S9.mp hd with hd|hd
    ·rcases S5.mp hd with rfl|hd
     ·exact⟨c1,rfl,a1,by lia,f1⟩
     rcases S5.mp hd with rfl|hd
     ·exact⟨c2,rfl,a2,by lia,f2⟩
     rw[S3.mp hd];exact⟨c3,rfl,a3,by lia,f3⟩
    ·rcases S5.mp hd with rfl|hd
     ·exact⟨[],rfl,(λc z=>nomatch z),by decide,f0.1⟩
     rcases S5.mp hd with rfl|hd
     ·exact⟨[40,41],rfl,by decide,by decide,f0.2.1⟩
     rw[S3.mp hd];exact⟨[40,40,41,41],rfl,by decide,by decide,f0.2.2⟩
   refine yU (λ_ β=>∃y2 y4 y5 y6 y7 y8 y9:Option Q.B,β=[x0,some (.val true (.int c)),y2,some (.val true (m7 (n:Int) (ps.map tI))),y4,y5,y6,y7,y8,y9]) ⟨_,_,_,_,_,_,_,rfl⟩ (λE1 r1 i n1 d β hd hv=>?_) λβ hv=>?_
   ·obtain⟨y2,y4,y5,y6,y7,y8,y9,rfl⟩:=hv;obtain⟨cs,rfl,C5,Ow,hf⟩:=hF d (TY hd);obtain⟨fo,dy⟩:=FR (by lia) hf
    refine⟨_,rfl,trivial,_,rfl,trivial,n,ps,cs,fo,by rw[tx],ok,hn,Ow,C5,hf,dy,?_⟩
    refine⟨_,rfl,trivial,(n:Int),ps.map tI,rfl,?_⟩;refine⟨trivial,2,rfl,by decide,by decide,trivial,?_⟩
    refine yU (λ_ β=>∃y2 y4 y8 y9:Option Q.B,β=[x0,some (.val true (.int c)),y2,some (.val true (m7 (n:Int) (ps.map tI))),y4,some (.val true (.str (cw cs))),some (.val true (.int (aF ps fo n 0))),some (.val true (m7 (n:Int) (ps.map tI))),y8,y9]) ⟨_,_,_,_,rfl⟩ (λE2 r2 j n2 d2 β2 hd2 LR=>?_) λβ2 LR=>?_
    ·obtain⟨y2,y4,y8,y9,rfl⟩:=LR;obtain⟨_,rfl⟩:=dt hd2;refine⟨_,rfl,trivial,_,rfl,trivial,n,ps,cs,fo,by rw[tx],ok,hn,Ow,C5,dy,?_⟩
     refine⟨_,rfl,_,_,rfl,rfl,rfl,_,rfl,n6 rfl ⟨_,rfl,_,_,rfl,rfl,rfl,_,rfl,n6 rfl ?_⟩⟩;exact⟨_,rfl,trivial,_,rfl,_,qg (cx _),_,rfl,n6 rfl ⟨_,rfl,trivial,_,rfl,_,qg (u3 (n:Int) (ps.map tI)),_,rfl,n6 rfl (n2 _ ⟨_,_,_,_,rfl⟩)⟩⟩
    ·obtain⟨y2,y4,y8,y9,rfl⟩:=LR;exact n1 _ ⟨_,_,_,_,_,_,_,rfl⟩
   ·obtain⟨y2,y4,y5,y6,y7,y8,y9,rfl⟩:=hv;exact⟨_,_,_,_,_,_,_,_,_,_,rfl⟩
  refine⟨_,aS (rg Ug rfl (nh (bq xW (rD (aw aM bu)) (xG Ar (pv 0) AR (AQ aM)))) (Q.ay (C:=⟨H,λ_=>False,true,λ_=>False⟩) (i:=1) d6.nd).pg hb.ps) (cj (eY xN)),?_⟩;obtain⟨ms,em,hm⟩:=wb ns none (some 4);refine⟨(by show 1<=S7;decide),λp1 I_=>⟨_,rfl,_,rfl,a,_,rfl,(au.new I_).seq hS,λp2 Kb=>?_⟩⟩
  have P8:p1≠p2:=cu ah Kb;refine⟨p1,p2,_,_,rfl,rfl,(by rw[ao P8];exact ah),ah,(by rw[em,SS,TF,Uz];lia),λl hl=>⟨l,rfl,⟨_,cK.of ah⟩,?_⟩⟩
  rw[em];rw[em]at hl;have sm:au H (upd (upd (upd H p1 (.lst [V.int 0])) p2 (.lst (ms.map V.int))) l (.lst ([V.int 0]++ms.map V.int))):=((au.new I_).trans (au.new (by rw[em]at *;exact Kb))).trans (au.new hl)
  have i8:(upd (upd (upd H p1 (.lst [V.int 0])) p2 (.lst (ms.map V.int))) l (.lst ([V.int 0]++ms.map V.int))) l=some (.lst ((0::ms).map V.int)):=ah;generalize (upd (upd (upd H p1 (.lst [V.int 0])) p2 (.lst (ms.map V.int))) l (.lst ([V.int 0]++ms.map V.int)))=H1 at sm i8 ⊢
  generalize (0::ms)=cs at i8;let X:Cx:=(ll cY P w K mg base ["script","cell","pot","row","some","shape","due","handed","again","found"] "law" (aD jR) f c8 A outer s H E).CJ
  let C:Q.Cfg:=⟨H,λ_=>False,true,λ_=>False⟩
  have it:wz X (λ_=>False) (Kt K l) (cs.map D.int) H1:=pI i8 (λz=>z) (bW cs);have CV:=it (λb=>(λ_=>False) b\/H1 b=none) λb z=>z;have s':Q.bD P w C.z (L2.start ["script","cell","pot","row","some","shape","due","handed","again","found"] [.ref a]) H1 (TX 10 none) (λ_=>[]):=An (by rfl) sm
  generalize C3:cs.map D.int=ds at CV;have hint:∀d∈ds,∃c:Int,d=.int c:=λd hd=>by
   rw[<- C3]at hd;obtain⟨c,_,rfl⟩:=Ti.mp hd;exact⟨c,rfl⟩
  refine⟨λi m σ H'=>i<=ds.length/\m=ds.length-i/\∃β,Q.SB X C (H1,Q.Wn λ_=>[]) σ H' β/\JL β,⟨_,Tb _,rfl,_,⟨_,s',Sn.refl⟩,⟨_,_,_,_,_,_,_,_,_,_,rfl⟩⟩,?_⟩;rintro i m σ2 H2 ⟨hi,rfl,β2,⟨aP,s2,n2⟩,⟨y0,y1,y2,y3,y4,y5,y6,y7,y8,y9,rfl⟩⟩;obtain⟨bz,lh⟩:=CV i H2 (n2.k.mono λb z=>z.imp (λIK=> by obtain⟨_,q⟩ := IK;exact(nomatch q)) id)
  by_cases eQ:i<ds.length
  ·right
   have hd:ds[i]?=some ds[i]:=Td eQ;obtain⟨go,yl⟩:=bz _ hd;obtain⟨c,hc⟩:=hint ds[i] (Ww eQ);refine⟨go,λσ' H'=>∃β,Q.SB X C (H1,Q.Wn λ_=>[]) σ' H' β/\JL β,λσ' H' IJ=> by obtain⟨β',Ay,yH⟩ := IJ;exact⟨_,by lia,eQ,rfl,β',Ay,yH⟩,λx H3 y=>?_⟩
   obtain⟨s3,r3⟩:=yl x H3 y;rw[hc]at r3;refine⟨aP,_,.int c,.own,s2.same s3,ar.flat rfl r3,λσ4 o3 s4 w4 _=>?_⟩;exact⟨(H1,Q.Wn λ_=>[]),{nx:=JL,rt:=λd _=>d=.bl true,bk:=JL,ct:=JL},_,⟨o3,s4,Q.gE (n2.same s3) w4⟩,hψ c y0 y2 y3 y4 y5 y6 y7 y8 y9,⟨λσ5 H5 β5 u_ q5=>⟨β5,u_,q5⟩,λσ5 H5 β5 d5 v5 u_ r5 q5=>by
    subst q5;cases (show v5=V.bl true from Hg r5)
    exact k _,λσ5 H5 β5 u_ q5=>k _,λσ5 H5 β5 u_ q5=>⟨β5,u_,q5⟩⟩⟩
  ·left
   have e:i=ds.length:=by lia
   subst e;exact⟨lh (SX _),k _⟩
end
theorem rN {α:Type}{P:List α->Prop}(h:∀a,P [a]):∀us:List α,us.length=1->P us:=λus e=>by
 obtain⟨a,rfl⟩:=List.length_eq_one_iff.mp e;exact h a
theorem nD {α:Type}{P:List α->Prop}(h:∀a b,P [a,b]):∀us:List α,us.length=2->P us:=λus e=>by
 cases us with
 |nil=>cases e
 |cons a us=>exact rN (P:=λus=>P (a::us)) (h a) us (VP e)
theorem Ij {α:Type}{P:List α->Prop}(h:∀a b c,P [a,b,c]):∀us:List α,us.length=3->P us:=λus e=>by
 cases us with
 |nil=>cases e
 |cons a us=>exact nD (P:=λus=>P (a::us)) (h a) us (VP e)
theorem LB {α:Type}{P:List α->Prop}(h:∀a b c d,P [a,b,c,d]):∀us:List α,us.length=4->P us:=λus e=>by
 cases us with
 |nil=>cases e
 |cons a us=>exact Ij (P:=λus=>P (a::us)) (h a) us (VP e)
theorem LA {α:Type}{P:List α->Prop}(h:∀a b c d e,P [a,b,c,d,e]):∀us:List α,us.length=5->P us:=λus e=>by
 cases us with
 |nil=>cases e
 |cons a us=>exact LB (P:=λus=>P (a::us)) (h a) us (VP e)
noncomputable abbrev vS (x:Str)(t:Nat):SO:=.str x t
noncomputable abbrev kE (P:Params)(x:Str)(t:Nat)(v:SO):Vs:=⟨PyData.keyHash P x,.str x t,v⟩
noncomputable abbrev kC (n:Str)(t l p r8 Qg PM:Nat)(Pb Pa O_:SO)(PL Qf Pl:Nat):Obj:={cls:=.type "code",data:=.fields #[vS n t,vS n (t+1),vS "/claim/cut.py" (t+2),.int l 0,.int p 0,.int 0 0,.int 0 0,.int 3 0,.ref r8,.bool true,.int Qg 0,.ref PM,Pb,Pa,O_,.ref PL,.int Qf 0,.int l 0,vS "/claim/cut.py" Pl]}
noncomputable abbrev J6 (st:Stmt)(x m:Str)(t c:Nat):T7:=PySem.W.fnOf x x (jz st) (dU st) (aD st) .none .none .none (vS m t) none (.ref c) .none
noncomputable abbrev kF (st:Stmt)(x m:Str)(t c:Nat):Obj:={cls:=.type "function",data:=.func (J6 st x m t c)}
theorem yR {K:PySem.W.Frag}{x m:Str}{st:Stmt}{t c f:Nat}(l:K.lookup f=some (kF st x m t c))(cd:PySem.W.codeIn K (.ref c) x=true)(k:PySem.W.keepIn K (.ref f)=true):Ab K x x st f (J6 st x m t c):=FK l cd k
theorem c7 {K:PySem.W.Frag}{h:Heap}{mg:Str->Option SO}{x m:Str}{st:Stmt}{t c f:Nat}{ps:List Str}(X:K.In h)(G:h.Ns UQ mg)(l:K.lookup f=some (kF st x m t c))(cd:PySem.W.codeIn K (.ref c) x=true)(k:PySem.W.keepIn K (.ref f)=true)
  (a:PySem.W.nsIn K UQ x=some (some (.ref f))) (b:∀us:List SO,us.length=ps.length->bindArgs (J6 st x m t c) ⟨us,[]⟩=pure (ps.zip us)):Df K mg x st ps f (J6 st x m t c):=⟨yR l cd k,.all b,PySem.W.mg_of X G a⟩
noncomputable def KK:Params->PySem.W.Frag:=λP=>[(3,{cls:=.type "dict",data:=.dict #[kE P "__name__" 165 (vS "law_archrow_k41_shapes_counted" 264),kE P "__doc__" 166 .none,kE P "__package__" 167 .none,kE P "__loader__" 168 (.builtin "__main__.__loader__#opaque"),kE P "__spec__" 169 .none,kE P "__annotations__" 170 (.ref 6),kE P "__builtins__" 171 (.ref 4),kE P "__file__" 173 (vS "/claim/cut.py" 172),kE P "__cached__" 174 .none,kE P "ArchError" 206 (.ref 24),kE P "NoShape" 222 (.ref 37),kE P "stretches_rising" 230 (.ref 44),kE P "partners_of" 236 (.ref 49),kE P "arcs_in" 249 (.ref 56),kE P "count_shape" 257 (.ref 61),kE P "counts_with_first" 263 (.ref 66),kE P "_law_pot" 272 (.ref 73),kE P "_law_take" 282 (.ref 80),kE P "_law_planted" 295 (.ref 87),kE P "_law_row" 309 (.ref 94),kE P "_law_copied" 316 (.ref 101),kE P "_law_meet" 328 (.ref 108),kE P "_law_set" 334 (.ref 113),kE P "_law_shape" 347 (.ref 120),kE P "_law_count" 353 (.ref 125),kE P "_law_ways" 373 (.ref 132),kE P "_law_shown" 379 (.ref 137),kE P "law" 395 (.ref 144)] 28}),
 (43,kC "stretches_rising" 225 7 1 40 181 41 .none .none .none 42 228 229),
 (44,kF bE "stretches_rising" "archrow.stretches" 223 43),
 (48,kC "partners_of" 231 9 1 45 181 46 .none .none .none 47 234 235),
 (49,kF cL "partners_of" "archrow.stretches" 223 48),
 (55,kC "arcs_in" 239 16 1 50 181 51 .none (.ref 52) (.ref 53) 54 247 248),
 (56,kF fL "arcs_in" "archrow.texts" 237 55),
 (60,kC "count_shape" 252 28 2 57 181 58 .none .none .none 59 255 256),
 (61,kF cN "count_shape" "archrow.shapes" 250 60),
 (65,kC "counts_with_first" 258 41 3 62 181 63 .none .none .none 64 261 262),
 (66,kF bx "counts_with_first" "archrow.shapes" 250 65),
 (72,kC "_law_pot" 266 49 1 67 181 68 .none (.ref 69) (.ref 70) 71 270 271),
 (73,kF eF "_law_pot" "law_archrow_k41_shapes_counted" 264 72),
 (79,kC "_law_take" 273 51 2 74 181 75 .none (.ref 76) (.ref 77) 78 280 281),
 (80,kF dk "_law_take" "law_archrow_k41_shapes_counted" 264 79),
 (86,kC "_law_planted" 283 61 2 81 181 82 .none (.ref 83) (.ref 84) 85 293 294),
 (87,kF cM "_law_planted" "law_archrow_k41_shapes_counted" 264 86),
 (93,kC "_law_row" 296 72 1 88 181 89 .none (.ref 90) (.ref 91) 92 307 308),
 (94,kF fK "_law_row" "law_archrow_k41_shapes_counted" 264 93),
 (100,kC "_law_copied" 310 85 1 95 181 96 .none (.ref 97) (.ref 98) 99 314 315),
 (101,kF c9 "_law_copied" "law_archrow_k41_shapes_counted" 264 100),
 (107,kC "_law_meet" 317 87 2 102 181 103 .none (.ref 104) (.ref 105) 106 326 327),
 (108,kF eV "_law_meet" "law_archrow_k41_shapes_counted" 264 107),
 (112,kC "_law_set" 329 91 2 109 181 110 .none .none .none 111 332 333),
 (113,kF fJ "_law_set" "law_archrow_k41_shapes_counted" 264 112),
 (119,kC "_law_shape" 335 99 2 114 181 115 .none (.ref 116) (.ref 117) 118 345 346),
 (120,kF dM "_law_shape" "law_archrow_k41_shapes_counted" 264 119),
 (124,kC "_law_count" 348 113 2 121 181 122 .none .none .none 123 351 352),
 (125,kF dN "_law_count" "law_archrow_k41_shapes_counted" 264 124),
 (131,kC "_law_ways" 354 123 5 126 181 127 .none (.ref 128) (.ref 129) 130 371 372),
 (132,kF dj "_law_ways" "law_archrow_k41_shapes_counted" 264 131),
 (136,kC "_law_shown" 374 141 2 133 181 134 .none .none .none 135 377 378),
 (137,kF dJ "_law_shown" "law_archrow_k41_shapes_counted" 264 136),
 (143,kC "law" 380 144 1 138 181 139 .none (.ref 140) (.ref 141) 142 393 394),
 (144,kF jR "law" "law_archrow_k41_shapes_counted" 264 143)]
noncomputable abbrev HK:PySem.W.Hook:=PySem.W.kHook KK [3,43,44,48,49,55,56,60,61,65,66,72,73,79,80,86,87,93,94,100,101,107,108,112,113,119,120,124,125,131,132,136,137,143,144] (λ_=>by kernel_rfl)
noncomputable def view:SW:={PySem.Challenge.pw_archrow_k41_shapes_counted with main:={PySem.Challenge.pw_archrow_k41_shapes_counted.main with body:=[top 1,top 2,top 4,top 5,top 7,top 9,top 10,top 12,top 13,top 14,top 15,top 16,top 17,top 18,top 19,top 20,top 21,top 22,top 23]}}
theorem left:PySem.W.LeftO PySem.Challenge.pw_archrow_k41_shapes_counted view [] (λs=>PySem.W.xlAt view [] s&&PySem.W.recOk (PySem.W.RowW.records PySem.Challenge.rw_archrow_k41_shapes_counted.row.toRowW) s) HK.obs HK.val 2064:=λw=>by kernel_rfl
theorem all_mk {l:PySem.W.OpenLaw} (w:S_) (mg:Str->Option SO) (fa:Addr) (h:Heap) (X:(KK w.params).In h) (G:h.Ns UQ mg) (QV:mg "law" = some (.ref fa))   :∃fd:T7,(∀(s:SU) (v:SO),BindsTo s fd ⟨[v],[]⟩ [("script",v)])/\∀base:Heap,(KK w.params).In base->base.Ns UQ mg->bc l.prog w (KK w.params) mg base cY 45 fa fd ["script"] (xg (KK w.params)):=by
 have e:=QV.symm.trans (PySem.W.mg_of X G (v:=.ref 144) (by kernel_rfl))
 cases e;have HZ:=PySem.W.mg_none_of X G (n:="max") (by kernel_rfl)
 have HY:=PySem.W.mg_none_of X G (n:="min") (by kernel_rfl)
 have Ia:=PySem.W.mg_none_of X G (n:="int") (by kernel_rfl)
 have Bo:=PySem.W.mg_none_of X G (n:="range") (by kernel_rfl)
 have yf:=PySem.W.mg_none_of X G (n:="sorted") (by kernel_rfl)
 have HX:=PySem.W.mg_none_of X G (n:="set") (by kernel_rfl)
 have H_:=PySem.W.mg_none_of X G (n:="len") (by kernel_rfl)
 have EV:=PySem.W.mg_none_of X G (n:="list") (by kernel_rfl)
 have nz:=PySem.W.mg_none_of X G (n:="isinstance") (by kernel_rfl)
 have Bn:=PySem.W.mg_none_of X G (n:="tuple") (by kernel_rfl)
 have HW:=PySem.W.mg_none_of X G (n:="str") (by kernel_rfl)
 have EW:=PySem.W.mg_none_of X G (n:="bool") (by kernel_rfl)
 have HU:=PySem.W.mg_none_of X G (n:="zip") (by kernel_rfl)
 have o_:=PySem.W.mg_none_of X G (n:="enumerate") (by kernel_rfl)
 have HV:=PySem.W.mg_none_of X G (n:="sum") (by kernel_rfl)
 have Ib:=PySem.W.mg_none_of X G (n:="any") (by kernel_rfl)
 have B:=(⟨(⟨⟨⟨HZ,HY,Ia,Bo,yf,HX,H_,EV⟩,nz,Bn,HW,EW,HU,o_⟩,HV⟩:Bs3 mg),Ib⟩:JM mg);exact⟨_,λs v=>.of_eq rfl,λbase _ _=>EM (yR (x:="law") (m:="law_archrow_k41_shapes_counted") (st:=jR) (t:=264) (c:=143) (f:=144) (by kernel_rfl) (by kernel_rfl) (by kernel_rfl)) B (c7 X G (x:="_law_pot") (m:="law_archrow_k41_shapes_counted") (st:=eF) (t:=264) (c:=72) (f:=73) (ps:=["cell"]) (by kernel_rfl) (by kernel_rfl) (by kernel_rfl) (by kernel_rfl) (rN λ_=>rfl))
  (c7 X G (x:="_law_take") (m:="law_archrow_k41_shapes_counted") (st:=dk) (t:=264) (c:=79) (f:=80) (ps:=["pot","many"]) (by kernel_rfl) (by kernel_rfl) (by kernel_rfl) (by kernel_rfl) (nD λ_ _=>rfl))
  (c7 X G (x:="_law_planted") (m:="law_archrow_k41_shapes_counted") (st:=cM) (t:=264) (c:=86) (f:=87) (ps:=["pot","many"]) (by kernel_rfl) (by kernel_rfl) (by kernel_rfl) (by kernel_rfl) (nD λ_ _=>rfl))
  (c7 X G (x:="_law_row") (m:="law_archrow_k41_shapes_counted") (st:=fK) (t:=264) (c:=93) (f:=94) (ps:=["pot"]) (by kernel_rfl) (by kernel_rfl) (by kernel_rfl) (by kernel_rfl) (rN λ_=>rfl))
  (c7 X G (x:="_law_copied") (m:="law_archrow_k41_shapes_counted") (st:=c9) (t:=264) (c:=100) (f:=101) (ps:=["row"]) (by kernel_rfl) (by kernel_rfl) (by kernel_rfl) (by kernel_rfl) (rN λ_=>rfl))
  (c7 X G (x:="_law_meet") (m:="law_archrow_k41_shapes_counted") (st:=eV) (t:=264) (c:=107) (f:=108) (ps:=["one","other"]) (by kernel_rfl) (by kernel_rfl) (by kernel_rfl) (by kernel_rfl) (nD λ_ _=>rfl))
  (c7 X G (x:="_law_set") (m:="law_archrow_k41_shapes_counted") (st:=fJ) (t:=264) (c:=112) (f:=113) (ps:=["pot","row"]) (by kernel_rfl) (by kernel_rfl) (by kernel_rfl) (by kernel_rfl) (nD λ_ _=>rfl))
  (c7 X G (x:="_law_shape") (m:="law_archrow_k41_shapes_counted") (st:=dM) (t:=264) (c:=119) (f:=120) (ps:=["pot","most"]) (by kernel_rfl) (by kernel_rfl) (by kernel_rfl) (by kernel_rfl) (nD λ_ _=>rfl))
  (c7 X G (x:="_law_count") (m:="law_archrow_k41_shapes_counted") (st:=dN) (t:=264) (c:=124) (f:=125) (ps:=["row","shape"]) (by kernel_rfl) (by kernel_rfl) (by kernel_rfl) (by kernel_rfl) (nD λ_ _=>rfl))
  (c7 X G (x:="_law_ways") (m:="law_archrow_k41_shapes_counted") (st:=dj) (t:=264) (c:=131) (f:=132) (ps:=["near","opened","part","stretch","known"]) (by kernel_rfl) (by kernel_rfl) (by kernel_rfl) (by kernel_rfl) (LA λ_ _ _ _ _=>rfl))
  (c7 X G (x:="_law_shown") (m:="law_archrow_k41_shapes_counted") (st:=dJ) (t:=264) (c:=136) (f:=137) (ps:=["row","ties"]) (by kernel_rfl) (by kernel_rfl) (by kernel_rfl) (by kernel_rfl) (nD λ_ _=>rfl))
  (c7 X G (x:="count_shape") (m:="archrow.shapes") (st:=cN) (t:=250) (c:=60) (f:=61) (ps:=["row","shape"]) (by kernel_rfl) (by kernel_rfl) (by kernel_rfl) (by kernel_rfl) (nD λ_ _=>rfl))
  (c7 X G (x:="arcs_in") (m:="archrow.texts") (st:=fL) (t:=237) (c:=55) (f:=56) (ps:=["text"]) (by kernel_rfl) (by kernel_rfl) (by kernel_rfl) (by kernel_rfl) (rN λ_=>rfl))
  (c7 X G (x:="partners_of") (m:="archrow.stretches") (st:=cL) (t:=223) (c:=48) (f:=49) (ps:=["row"]) (by kernel_rfl) (by kernel_rfl) (by kernel_rfl) (by kernel_rfl) (rN λ_=>rfl))
  (c7 X G (x:="counts_with_first") (m:="archrow.shapes") (st:=bx) (t:=250) (c:=65) (f:=66) (ps:=["partners","beneath","behind"]) (by kernel_rfl) (by kernel_rfl) (by kernel_rfl) (by kernel_rfl) (Ij λ_ _ _=>rfl))
  (c7 X G (x:="stretches_rising") (m:="archrow.stretches") (st:=bE) (t:=223) (c:=43) (f:=44) (ps:=["many"]) (by kernel_rfl) (by kernel_rfl) (by kernel_rfl) (by kernel_rfl) (rN λ_=>rfl))⟩
end jD
abbrev PySem.W.Fast.tw15826904576939291655:PySem.Program:=PySem.Challenge.pw_archrow_k41_shapes_counted
theorem PySem.W.Fast.te15826904576939291655:PySem.Challenge.pw_archrow_k41_shapes_counted=PySem.W.Fast.tw15826904576939291655:=rfl
open PySem PySem.W PyProof.Rows
set_option maxRecDepth 100000 in
set_option maxHeartbeats 0 in
theorem PySem.Challenge.cw_archrow_k41_shapes_counted_holds : PySem.Challenge.rw_archrow_k41_shapes_counted.Holds := by
 w_on;o_law
 refine holds_open (q:=jD.view) (loose:=[]) (Xt:=λs=>xlAt jD.view [] s&&recOk (RowW.records PySem.Challenge.rw_archrow_k41_shapes_counted.row.toRowW) s) (XP:=XL jD.view []) (Yf:=jD.HK.obs) (Ya:=jD.HK.val) (YP:=λw h=>(jD.KK w.params).In h) (N:=2064) jD.left jD.HK.of jD.HK.keeps (λs e=>xl_of s (Bool.and_eq_true_iff.mp e).1) XL.keeps (by rfl) (by rfl) (by rfl) (λs e=>recFacts_of (Bool.and_eq_true_iff.mp e).2) (by rfl) (by first|assumption|decide +kernel) (by decide +kernel) ⟨rfl,rfl,rfl,rfl,rfl,by decide +kernel⟩ ?hw ?hc
 (case hw=>w_witness2)
 case hc =>
  exact L2.Ah (l:=PySem.Challenge.rw_archrow_k41_shapes_counted) (K:=jD.KK) (n:=63) (k:=45) (x:="script") (CX:=λ_=>L2.cY) (sp:=λw=>jD.xg (jD.KK w.params)) rfl (by decide) rfl ⟨rfl,by decide,by decide⟩ (λw h Y=>Y) jD.all_mk (λ_ _ a ns hl _ hS=>⟨a,ns,rfl,hS,hl,λ_=>rfl⟩) λ_ _ _ _ _ z=>z
#print axioms PySem.Challenge.cw_archrow_k41_shapes_counted_holds
