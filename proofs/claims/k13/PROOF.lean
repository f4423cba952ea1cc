import PyProof.Rows.All
import Wide.All
import OpenK.AllK
import Wide.FinOn
import Lean
import PySem.Challenge.RW_archrow_k13_planted_rows
set_option Elab.async false
set_option linter.all false
set_option maxRecDepth 100000
local macro_rules
 |`({$x:term})=>`(⟨$x⟩)
 |`({$x:term,$y:term,*})=>`(⟨$x,$y,*⟩)
theorem tv:True:=.intro
set_option maxHeartbeats 4000000
set_option compiler.extract_closed false
open Nat renaming le_refl->VR,zero_le->V_,le_trans->WG,lt_of_lt_of_le->WI,ne_of_lt->WX,lt_or_ge->W8,zero_add->Xg,lt_succ_of_lt->XC,lt_succ_self->XF,lt_irrefl->XG,lt_of_le_of_lt->Yy,eq_zero_or_pos->Yz,pow_le_pow_right->YQ,strongRecOn->YU,sub_self->YY,one_mul->Y_,pow_succ->Zp,mod_lt->Zq,le_of_lt->Zr,pow_pos->ZH,mul_le_mul->ZI,zero_mul->Z1,add_zero->Z2,mod_eq_of_lt->Z_
open List renaming length_map->VS,mem_singleton->VU,range->VW,mem_cons->VX,mem_filter->VZ,mem_cons_self->V0,mem_range->V3,mem_map->V4,length_cons->V7,mem_cons_of_mem->V8,mem_append->V9,length_range->We,length_append->Wf,getElem?_map->Wg,getElem?_eq_getElem->Wh,size_toArray->Wq,map_cons->Ws,map_congr_left->Wu,map_append->Wv,getElem?_eq_some_iff->Ww,mem_append_right->Wx,nodup_cons->WB,mem_flatMap->WC,pairwise_cons->WE,length_take->WH,pairwise_map->WJ,mem_append_left->WK,replicate->WQ,map_map->WR,getElem?_append_right->WV,filterMap_cons->WW,nodup_append->WY,append_nil->WZ,append_assoc->W3,pairwise_singleton->W5,drop_eq_getElem_cons->W6,nodup_nil->W9,find?_cons->Xa,getD_eq_getElem?_getD->Xc,getElem?_append_left->Xe,take_of_length_le->Xh,filter_cons->Xj,perm_ext_iff_of_nodup->Xm,filter_append->Xn,pairwise_lt_range->Xq,lookup_cons->Xr,filter_eq_nil_iff->Xs,take_add_one->Xv,getElem?_eq_none->Xw,pairwise_append->Xy,mem_of_getElem?->Xz,replicate_succ->XM,getElem?_range->XN,take_length->XO,take_append_drop->XQ,pairwise_flatMap->XR,length_singleton->XS,foldl_cons->XU,flatMap_append->X0,all_eq_true->X1,sum_cons->Yc,flatten_cons->Yg,filter_congr->Yh,filter_eq_self->Yp,getElem?_take_of_lt->Ys,range_succ->Yv,getElem?_cons_succ->YB,flatMap_cons->YF,length_filter_le->YG,nodup_range->YL,getElem_mem->YM,eq_nil_of_length_eq_zero->YS,reverse_append->YW,zip_cons_cons->Y0,nodup_iff_pairwise_ne->Y1,mem_filterMap->Y2,getElem?_drop->Y3,pairwise_iff_getElem->Y5,extract_eq_take_drop->Y6,reverse_cons->Za,getElem?_set->Zb,ext_getElem?->Zc,map_take->Ze,length_erase_of_mem->Zf,perm_middle->Zk,length_drop->Zl,drop_of_length_le->Zs,of_mem_zip->Zz,nil_append->ZA,filterMap_append->ZE,mem_of_mem_take->ZJ,getElem?_of_mem->ZK,append_of_mem->ZR,zip_nil_left->Z3,length_filter_eq_length_iff->Z4,foldl_append->Z5
open PySem renaming Value->VT,wpAny_bind->VV,Shared->VY,Program->V2,wpAny_pure->Wd,sizeLine->Wi,starEach->Wj,World->Wm,wpAny->WM,FuncData->WN,foldedSetIterable->WS,compareOp->W_,Around->Xd,bootBuiltins->Xl,wpAny_holding->Xo,sizeLine_eq->XI,wpAny_truthy_bool->XJ,backTo->XT,mainGlobals->XW,binaryOp->XX,wpAny_standAt->XZ,sliceBounds->X3,wpAny_Call_Name_kw->X4,assignEach->X6,wpAny_passesOwn->X8,swapsWith->X9,behindInMarks->X_,attributeBase->Yb,wpAny_setState_of->Yd,cLine->Yo,Comprehension->Yt,Scope->YA,codeAny_mono->YD,wpAny_rule->YI,sysModules->YJ,Keyword->YN,NameKind->YR,wpAny_mono->YZ,CmpOp->Y4,standAt->Y8,keywordEach->Y9,wpAny_call_entry->Zi,tupleKind->Zj,codeAny->Zn,wpAny_execs_nil->Zw,letOwnedTupleGo->Zx,Builtin->ZN,call_meets->ZP,valueAt->ZU,slot_list_getitem->ZV,callerA->ZW,backToKw->ZX,wpAny_forIn_list->Z7,scanBound->Z8,isTrue->Z9
open PyProof.Rows renaming Keyed->V1,wpS_bind->V5,wpS_pure->Wc,pendingOf->Wr,SortSt->Wy,arrOf->WD,wpS_forRange->W7,setArr->Xk,callWith_type1->XA,wpS_mono->XH,seqObj->X5,wpS_modify->Yk,SortKind->Yq,IntsAre->Yw,failedOf->YC,setPending->YK,wpS_get->Y7,envOfC->Zm,AllBare->Zv,wpS_lift->ZG
open PySem.Heap renaming get?_push_of_some->V6,lt_size->Wt,get?_push_size->WT,SameBut->X7,get?_update_ne->ZO
open Array renaming length_toList->Wa,getD_eq_getD_getElem?->Wl,getElem?_toList->Wo,toList_append->Xu,toList_push->XY,perm_iff_toList_perm->Yn,size_setIfInBounds->Zh,getElem?_setIfInBounds_self_of_lt->ZF,toList_extract->ZL,getElem?_setIfInBounds_ne->Z6
open Option renaming map_eq_some_iff->Wk,bind_eq_some_iff->Xb,bind_some->XE,map_some->Zy
open Decidable renaming by_contra->Wz
open Option.some renaming inj->WA,injEq->Z0
open Bool renaming and_eq_true->WL,false_ne_true->W4,not_eq_true'->Yj,eq_iff_iff->Yx,and_eq_true_iff->YT,decide_and->YV,not_eq_false'->ZS,false_eq_true->ZT
open Int renaming toNat_natCast->WO,zero_add->Zt
open PySem.NameKind renaming free->WU,cell->Yr
open Classical renaming byContradiction->Xf
open PySem.PassesOwn renaming never->Xi
open PySem.SeqAt renaming canLay_of_shaped->Xp
open PySem.PyData renaming canLay0->Xx,eqv->XB,depthAll->XD,canLayAll0->Ye,depth->YE,eqvAll->Zd
open PySem.Builtin.Range renaming rangeSize->X2
open List.Pairwise renaming nil->Yi,and_mem->YH
open PySem.Obj renaming mapSeq->Yl,putSet->ZQ
open False renaming elim->Ym
open PySem.Builtin.List renaming listTooLong->Yu
open Int.ofNat renaming inj->YO
open Ne renaming symm->YX
open PySem.Code renaming compLoop->Zg
open Nat.succ renaming inj->Zo
open PySem.Calls renaming callWith_builtin->Zu
open List.Perm renaming of_eq->ZC
open ForInStep renaming yield->ZD
open Sum renaming inl->ZM,inr->ZZ
open PySem.Value renaming isInt_shape->ZY
noncomputable section
namespace L2
open PySem PySem.Spec PyProof.Rows
def lX (s:Stmt):Arguments:=match s with
 |.FunctionDef _ a _ _ _ _ _ _ _ _=>a
 |_=>{posonlyargs:=[],args:=[],vararg:=none,kwonlyargs:=[],kw_defaults:=[],kwarg:=none,defaults:=[]}
def fk (s:Stmt):List Stmt:=match s with
 |.FunctionDef _ _ b _ _ _ _ _ _ _=>b
 |_=>[]
def ay (s:Stmt):YA:=match s with
 |.FunctionDef _ _ _ _ _ _ sc _ _ _=>sc
 |_=>{kind:=.function,names:=[],isGenerator:=false,isCoroutine:=false}
abbrev Key:=Sum Int Str
def pI:Key->VT->Bool
 |.inl k,v=>Value.isInt k v
 |.inr x,v=>Value.isStrOf x v
def O6 (w:Wm):Key->Int
 |.inl k=>hashInt k
 |.inr x=>hashStr w x
theorem bz:∀{k:Key} {v:VT},pI k v=true->(∃i t,k=ZM i/\v=Value.int i t)\/(∃x t,k=ZZ x/\v=Value.str x t)
 |.inl i,v,h=>by
  obtain⟨t,e⟩:=ZY (k:=i) (v:=v) h;exact .inl {(i),t,rfl,e}
 |.inr x,v,h=>by
  obtain⟨t,e⟩:=Value.isStrOf_shape (x:=x) (v:=v) h;exact .inr {(x),t,rfl,e}
def yX (i:Int)(t:Tok):pI (.inl i) (.int i t)=true:=by simp[pI,Value.isInt]
def yW (x:Str)(t:Tok):pI (.inr x) (.str x t)=true:=by simp[pI,Value.isStrOf]
def IE (a b:Int):decide ((ZM a:Key)=ZM b)=(a==b):=by
 by_cases e:a=b
 ·subst e;simp
 ·have h:¬ (ZM a:Key)=ZM b:=λq=>e (Sum.inl.inj q);rw[decide_eq_false h];exact(beq_eq_false_iff_ne.mpr e).symm
def IB (a b:Str):decide ((ZZ a:Key)=ZZ b)=decide (a=b):=by
 by_cases e:a=b
 ·subst e;simp
 ·have h:¬ (ZZ a:Key)=ZZ b:=λq=>e (Sum.inr.inj q);rw[decide_eq_false h,decide_eq_false e]
def ID (a:Int)(b:Str):decide ((ZM a:Key)=ZZ b)=false:=decide_eq_false (λq=>nomatch q)
def IC (a:Str)(b:Int):decide ((ZZ a:Key)=ZM b)=false:=decide_eq_false (λq=>nomatch q)
def cm (prog:V2)(w:Wm):PySem.KeyKind prog w Key where
 is:=pI
 hash:=O6 w
 inj:=λv a b ha hb=>by
  rcases bz ha with⟨i,t,rfl,rfl⟩|⟨x,t,rfl,rfl⟩
  ·rcases bz hb with⟨j,u,rfl,e⟩|⟨y,u,rfl,e⟩
   ·injection e with e1 _;rw[e1]
   ·exact nomatch e
  ·rcases bz hb with⟨j,u,rfl,e⟩|⟨y,u,rfl,e⟩
   ·exact nomatch e
   ·injection e with e1 _;rw[e1]
 byValue:=λk v h=>by
  rcases bz h with⟨i,t,rfl,rfl⟩|⟨x,t,rfl,rfl⟩ <;> rfl
 pyHash:=λhv h=>by
  rcases bz hv with⟨i,t,rfl,rfl⟩|⟨x,t,rfl,rfl⟩
  ·exact wpAny_pyHash_int h
  ·exact wpAny_pyHash_str h
 eqBool:=λhu hv h=>by
  rcases bz hu with⟨i,t,rfl,rfl⟩|⟨x,t,rfl,rfl⟩
  ·rcases bz hv with⟨j,u,rfl,rfl⟩|⟨y,u,rfl,rfl⟩
   ·rw[IE]at h;exact wpAny_eqBool_int h
   ·rw[ID]at h;exact SeqAt.EqAt.int_str i t y u _ _ _ _ h
  ·rcases bz hv with⟨j,u,rfl,rfl⟩|⟨y,u,rfl,rfl⟩
   ·rw[IC]at h;exact SeqAt.EqAt.str_int x t j u _ _ _ _ h
   ·rw[IB]at h;exact wpAny_eqBool_str h
 «strs»:=λk x t v h=>by
  rcases bz h with⟨i,u,rfl,e⟩|⟨y,u,rfl,e⟩
  ·exact nomatch e
  ·injection e with e1 _
   subst e1;cases v <;> rfl
def tJ (prog:V2)(w:Wm)(i:Int)(t:Tok):(cm prog w).is (.inl i) (.int i t)=true:=yX i t
def tH (prog:V2)(w:Wm)(x:Str)(t:Tok):(cm prog w).is (.inr x) (.str x t)=true:=yW x t
inductive V where
 |ck|bl (b:Bool)|int (i:Int)|str (x:Str)|CM (b:Array UInt8)|QL (b:UInt64)|ref (a:Addr)|ty (n:String)
 deriving DecidableEq
def RelV:V->VT->Prop
 |.ck,u=>u=Value.none
 |.bl b,u=>u=Value.bool b
 |.int i,u=>∃t,u=Value.int i t
 |.str x,u=>∃t,u=Value.str x t
 |.CM b,u=>∃t,u=Value.bytes b t
 |.QL b,u=>∃t,u=Value.float b t
 |.ref a,u=>u=Value.ref a
 |.ty n,u=>u=Value.type n
abbrev Vals:List V->List VT->Prop:=Paired RelV
def Vals.length {xs:List V}{us:List VT}(r:Vals xs us):xs.length=us.length:=Paired.length r
theorem Vals.get:∀{xs:List V} {us:List VT} {i:Nat} {x:V},Vals xs us->xs[i]?=some x->∃u,us[i]?=some u/\RelV x u
 |_,_,_,_,.nil,e=>by simp at e
 |_,_,0,_,.cons r _,e=>by simp at e;subst e;exact{_,rfl,r}
 |_,_,i+1,x,.cons _ t,e=>by
  obtain⟨u,h1,h2⟩:=Vals.get (i:=i) (x:=x) t (by simpa using e)
  exact{u,by simpa using h1,h2}
theorem Vals.set {x:V}{u:VT}(r:RelV x u):∀{xs:List V} {us:List VT} (i:Nat),Vals xs us->Vals (xs.set i x) (us.set i u)
 |_,_,_,.nil=>.nil
 |_,_,0,.cons _ t=>.cons r t
 |_,_,i+1,.cons q t=>.cons q (Vals.set r i t)
theorem Vals.append:∀{xs ys:List V} {us ws:List VT},Vals xs us->Vals ys ws->Vals (xs++ys) (us++ws)
 |_,_,_,_,.nil,s=>s
 |_,_,_,_,.cons r t,s=>.cons r (Vals.append t s)
theorem Vals.take:∀{xs:List V} {us:List VT} (n:Nat),Vals xs us->Vals (xs.take n) (us.take n)
 |_,_,0,_=>.nil
 |_,_,_+1,.nil=>.nil
 |_,_,n+1,.cons r t=>.cons r (Vals.take n t)
theorem Vals.drop:∀{xs:List V} {us:List VT} (n:Nat),Vals xs us->Vals (xs.drop n) (us.drop n)
 |_,_,0,r=>r
 |_,_,_+1,.nil=>.nil
 |_,_,n+1,.cons _ t=>Vals.drop n t
def oV:Option V->Option VT->Prop
 |some v,some u=>RelV v u
 |none,none=>True
 |_,_=>False
def KV {κ:Type}:List (κ×V)->List (κ×VT)->Prop:=Paired λ(p:κ×V) (q:κ×VT)=>p.1=q.1/\RelV p.2 q.2
def kV:Key->V
 |.inl i=>.int i
 |.inr x=>.str x
inductive HO where
 |lst (xs:List V)
 |tup (xs:List V)
 |dK (kvs:List (Key×V))|dT (kvs:List (List Key×V))
 |set (S:Int->Bool) (n:Nat)
 |ins (C dx:Addr) (fs:List (Str×V))
 |own (x:Addr)
 |xd (fs:List (Str×V))
 |met (f x:Addr)
 |Oq (lo hi:Int)
 |Dg (o:Obj) (u:HO)
 |G_ (ps:Array VT)
 |ext (φ:Heap->Prop)
abbrev Hp:=Addr->Option HO
def upd (H:Hp)(a:Addr)(o:HO):Hp:=λb=>if b=a then some o else H b
def ao {H:Hp}{a:Addr}{o:HO}:upd H a o a=some o:=by unfold upd;rw[if_pos rfl]
def aB {H:Hp}{a b:Addr}{o:HO}(h:b≠a):upd H a o b=H b:=by unfold upd;rw[if_neg h]
def F3 {H:Hp}{a b:Addr}{o u:HO}(h:H a=some o)(h':H b=some u)(d:o≠u):a≠b:=by
 intro e;subst e;rw[h]at h';exact d (WA h')
def cO {H:Hp}{a b:Addr}{o:HO}(h:H a=some o)(h':H b=none):a≠b:=by
 intro e;subst e;rw[h]at h';cases h'
section
variable (P:V2)(w:Wm)
def b9 (H:Hp)(h:Heap)(a:Addr):HO->Prop
 |.lst xs=>xs.length<=Wi/\∃(its:List VT) (n:Nat),Vals xs its/\h.get? a=some {cls:=.type "list",data:=.seq its.toArray n}
 |.tup xs=>xs.length<=Wi/\∃its:List VT,Vals xs its/\IsTup h a its.toArray
 |.dK kvs=>kvs.length<=Wi/\(a==YJ)=false/\∃vs,KV kvs vs/\h.DictOf (cm P w) a vs
 |.dT kvs=>kvs.length<=Wi/\(a==YJ)=false/\∃xs:List (List Key×Addr×VT),
   Paired (λ(p:List Key×V) (q:List Key×Addr×VT)=>p.1=q.1/\H q.2.1=some (.tup (p.1.map kV))/\RelV p.2 q.2.2) kvs xs /\
   ∃o es ep,h.get? a=some o/\o.ExactDict/\o.data=.dict es ep/\es.toList=xs.map (entryOfKey (Zj (cm P w)))/\(xs.map (·.1)).Nodup
 |.set S n=>h.SetOf (intKind P w) a S n
 |.ins C dx fs=>H dx=some (.own a)/\fs.length<=1000/\dx≠a/\h.get? a=some (PySem.W.instObj C dx) /\
   ∃mA,h.Ns1 dx mA/\(∀f,oV (fs.lookup f) (mA f))/\PySem.Within mA (fs.map (·.1))
 |.own _=>∃o,h.get? a=some o
 |.xd fs=>∃mA,h.Ns1 a mA/\∀f,oV (fs.lookup f) (mA f)
 |.Oq lo hi=>∃t u v,h.get? a=some {cls:=.type "range",data:=.fields #[.int lo t,.int hi u,.int 1 v]}
 |.Dg o u=>h.get? a=some o/\b9 H h a u
 |.G_ ps=>h.get? a=some {cls:=.none,data:=.fields ps}
 |.met f x=>h.get? a=some (PySem.W.methodObj (.ref f) (.ref x))
 |.ext φ=>φ h/\(∃o,h.get? a=some o)/\∀h1 h2:Heap,φ h1->(∀o,h1.get? a=some o->h2.get? a=some o)->φ h2
def jl (H:Hp)(h:Heap):Prop:=∀a o,H a=some o->b9 P w H h a o
end
section
variable {P:V2}{w:Wm}{H H':Hp}{h h':Heap}{a:Addr}{o:HO}
def b9.lt (x:b9 P w H h a o):a<h.objs.size:=by
 cases o with
 |lst xs=>obtain⟨_,_,_,_,e⟩:=x;exact Wt e
 |tup xs=>obtain⟨_,_,_,p⟩:=x;exact p.lt
 |dK kvs=>obtain⟨_,_,_,_,o,_,_,e,_⟩:=x;exact Wt e
 |dT kvs=>obtain⟨_,_,_,_,o,_,_,e,_⟩:=x;exact Wt e
 |set S n=>obtain⟨o,_,_,_,e,_⟩:=x;exact Wt e
 |ins C dx fs=>obtain⟨_,_,_,e,_⟩:=x;exact Wt e
 |own y=>obtain⟨_,e⟩:=x;exact Wt e
 |xd fs=>obtain⟨_,⟨_,_,_,e,_⟩,_⟩:=x;exact Wt e
 |Oq lo hi=>obtain⟨_,_,_,e⟩:=x;exact Wt e
 |Dg ob u=>obtain⟨e,_⟩:=x;exact Wt e
 |G_ ps=>exact Wt (show h.get? a=some _ from x)
 |met f y=>exact Wt (show h.get? a=some _ from x)
 |ext φ=>obtain⟨_,⟨_,e⟩,_⟩:=x;exact Wt e
theorem Paired.Io {α β:Type}{F G:α->β->Prop}:∀{l₁:List α} {l₂:List β},Paired F l₁ l₂->(∀a b,F a b->G a b)->Paired G l₁ l₂
 |_,_,.nil,_=>.nil
 |_,_,.cons r t,f=>.cons (f _ _ r) (Paired.Io t f)
def b9.yh (x:b9 P w H h a o)(k:∀b u,(b=a\/H b=some (.own a))->h.get? b=some u->h'.get? b=some u)
  (ho:∀b,H b=some (.own a)->H' b=some (.own a)) (ht:∀b xs,H b=some (.tup xs)->H' b=some (.tup xs)):b9 P w H' h' a o:=by
 induction o with
 |lst xs=>obtain⟨z,its,n,r,e⟩:=x;exact{z,its,n,r,k _ _ (.inl rfl) e}
 |tup xs=>obtain⟨z,its,r,ob,e,c⟩:=x;exact{z,its,r,ob,k _ _ (.inl rfl) e,c}
 |dK kvs=>obtain⟨z,y,vs,r,ob,es,ep,e,c⟩:=x;exact{z,y,vs,r,ob,es,ep,k _ _ (.inl rfl) e,c}
 |dT kvs =>
  obtain⟨z,y,xs,r,ob,es,ep,e,c⟩:=x;exact{z,y,xs,Paired.Io r λp q z=>{z.1,ht _ _ z.2.1,z.2.2},ob,es,ep,k _ _ (.inl rfl) e,c}
 |set S n=>obtain⟨ob,es,ep,t,e,c⟩:=x;exact{ob,es,ep,t,k _ _ (.inl rfl) e,c}
 |ins C dx fs =>
  obtain⟨d,z,ne,e,mA,⟨od,es,ep,e2,c⟩,r⟩:=x;exact{ho _ d,z,ne,k _ _ (.inl rfl) e,mA,{od,es,ep,k _ _ (.inr d) e2,c},r}
 |own y=>obtain⟨ob,e⟩:=x;exact{ob,k _ _ (.inl rfl) e}
 |xd fs=>obtain⟨mA,⟨od,es,ep,e,c⟩,r⟩:=x;exact{mA,{od,es,ep,k _ _ (.inl rfl) e,c},r}
 |Oq lo hi=>obtain⟨t,u,v,e⟩:=x;exact{t,u,v,k _ _ (.inl rfl) e}
 |Dg ob u ih=>obtain⟨e,q⟩:=x;exact{k _ _ (.inl rfl) e,ih q}
 |G_ ps =>
  have e:h.get? a=some {cls:=.none,data:=.fields ps}:=x;show h'.get? a=some {cls:=.none,data:=.fields ps};exact k a _ (.inl rfl) e
 |met f y =>
  have e:h.get? a=some (PySem.W.methodObj (.ref f) (.ref y)):=x;show h'.get? a=some (PySem.W.methodObj (.ref f) (.ref y));exact k a _ (.inl rfl) e
 |ext φ=>obtain⟨p,⟨o,e⟩,st⟩:=x;exact{st _ _ p λo q=>k _ _ (.inl rfl) q,{o,k _ _ (.inl rfl) e},st}
def jl.lt (x:jl P w H h)(e:H a=some o):a<h.objs.size:=(x a o e).lt
def jl.fresh (x:jl P w H h)(e:h.objs.size<=a):H a=none:=by
 cases q:H a with
 |none=>rfl
 |some u=>exact absurd (WI (x.lt q) e) (XG _)
def jl.kept (x:jl P w H h)(k:∀b u,h.get? b=some u->h'.get? b=some u):jl P w H h':=λa o e =>
 (x a o e).yh (λb u _ q=>k b u q) (λ_ q=>q) λ_ _ q=>q
def jl.laid (x:jl P w H h)(k:∀b u,h.get? b=some u->h'.get? b=some u)(hp:h.objs.size<=a)(new:b9 P w (upd H a o) h' a o):jl P w (upd H a o) h':=λb u e=>by
 have hn:=x.fresh hp
 by_cases hb:b=a
 ·subst hb;rw[ao]at e;cases e;exact new
 ·rw[aB hb]at e;exact(x b u e).yh (λc v _ q=>k c v q) (λc q=>by rw[aB (cO q hn)];exact q) λc xs q=>by rw[aB (cO q hn)];exact q
end
def Rd (H:Hp)(a:Addr)(u:HO):Prop:=H a=some u\/∃o,H a=some (.Dg o u)
def Rd.ok {P:V2}{w:Wm}{H:Hp}{h:Heap}{a:Addr}{u:HO}(r:Rd H a u)(x:jl P w H h):b9 P w H h a u:=by
 rcases r with r|⟨o,r⟩
 ·exact x a u r
 ·obtain⟨_,q⟩:=x a _ r;exact q
def M3:Option HO->Prop
 |some (.lst _)=>True
 |some (.dK _)=>True
 |some (.dT _)=>True
 |some (.set _ _)=>True
 |some (.ins _ _ _)=>True
 |some (.ext _)=>True
 |_=>False
section
variable {P:V2}{w:Wm}{H:Hp}{h h':Heap}{x e:Addr}{o':HO}
def jl.write (ok:jl P w H h)(mu:M3 (H x))(he:e=x\/H e=some (.own x))(k:∀b u,b≠e->h.get? b=some u->h'.get? b=some u)(J3:∃u,h'.get? e=some u)
  (new:b9 P w (upd H x o') h' x o'):jl P w (upd H x o') h':=λb u q=>by
 have K5:∀c y,H c=some (.own y)->c≠x:=λc y r z=>by subst z;rw[r]at mu;exact mu
 have OW:∀c xs,H c=some (.tup xs)->c≠x:=λc xs r z=>by subst z;rw[r]at mu;exact mu
 by_cases hb:b=x
 ·subst hb;rw[ao]at q;cases q;exact new
 ·rw[aB hb]at q
  by_cases zg:b=e
  ·have q':H b=some (.own x):=by
    rcases he with z|z
    ·exact absurd (zg.trans z) hb
    ·rw[zg];exact z
   rw[q]at q';cases q';obtain⟨v,hv⟩:=J3;exact{v,by rw[zg];exact hv}
  ·refine(ok b u q).yh (λc v hc r=>k c v ?_ r) (λc r=>by rw[aB (K5 c b r)];exact r) λc xs r=>by rw[aB (OW c xs r)];exact r
   rcases hc with rfl|hc
   ·exact zg
   ·rintro rfl;rcases he with z|z
    ·exact K5 c b hc z
    ·rw[hc]at z;cases z;exact hb rfl
end
structure Un (fs ex:List Addr)(H H':Hp)(h h':Heap):Prop where
 keep:∀b o,h.get? b=some o->H b=none->b∉fs->b∉ex->h'.get? b=some o
 slot:∀b o,h.get? b=some o->H b=none->b∈fs->b∉ex->∃sl,h'.get? b=some {o with slots:=sl}
 free:∀b o,h.get? b=some o->H b=none->b∉ex->H' b=none
 there:∀b o,h.get? b=some o->b∉ex->∃o',h'.get? b=some o'
 qr:∀b xs,H b=some (.tup xs)->H' b=some (.tup xs)
 oQ:∀b o u,H b=some (.Dg o u)->H' b=some (.Dg o u)
 qu:∀b ps,H b=some (.G_ ps)->∃more,H' b=some (.G_ (ps++more))
section
variable {fs ex:List Addr}{H H1:Hp}{h h1 h':Heap}{a x e:Addr}{o:HO}
def Un.any (u:Un fs ex H H1 h h1){b:Addr}{ob:Obj}(q:h.get? b=some ob)(n:H b=none)(hx:b∉ex):∃sl,h1.get? b=some {ob with slots:=sl}:=by
 by_cases hb:b∈fs
 ·exact u.slot b ob q n hb hx
 ·exact{ob.slots,u.keep b ob q n hb hx}
def Un.kept (k:∀b u,h.get? b=some u->h'.get? b=some u):Un fs ex H H h h' :=
 {λb ob q _ _ _=>k b ob q,λb ob q _ _ _=>{ob.slots,k b ob q},λ_ _ _ n _=>n,λb ob q _=>{ob,k b ob q},λ_ _ q=>q,λ_ _ _ q=>q,λ_ ps q=>{#[],by rw[q];simp}}
def Un.refl:Un fs ex H H h h:=Un.kept λ_ _ q=>q
def Un.laid (k:∀b u,h.get? b=some u->h'.get? b=some u)(hp:h.objs.size<=a)(hn:H a=none):Un fs ex H (upd H a o) h h' where
 keep:=λb u q _ _ _=>k b u q
 slot:=λb u q _ _ _=>{u.slots,k b u q}
 free:=λb u q n _=>by rw[aB (WX (WI (Wt q) hp))];exact n
 there:=λb u q _=>{u,k b u q}
 qr:=λb xs q=>by rw[aB (cO q hn)];exact q
 oQ:=λb u xs q=>by rw[aB (cO q hn)];exact q
 qu:=λb ps q=>{#[],by rw[aB (cO q hn),q];simp}
def Un.write (mu:M3 (H x))(he:e=x\/H e=some (.own x))(k:∀b u,b≠e->h.get? b=some u->h'.get? b=some u)(J3:∃u,h'.get? e=some u):Un fs ex H (upd H x o) h h':=by
 have hx:∀b,H b=none->b≠x:=λb n z=>by subst z;rw[n]at mu;exact mu
 have hb:∀b,H b=none->b≠e:=λb n z=>by
  subst z;rcases he with r|r
  ·exact hx b n r
  ·rw[n]at r;cases r
 have hm:∀b u,H b=some u->¬ M3 (some u)->b≠x:=λb u q nm z=>by subst z;rw[q]at mu;exact nm mu
 refine⟨λb u q n _ _=>k b u (hb b n) q,λb u q n _ _=>{u.slots,k b u (hb b n) q},λb u q n _=>by rw[aB (hx b n)];exact n,λb u q _=>?_,
  λb xs q=>by rw[aB (hm b _ q λz=>z)];exact q,λb u xs q=>by rw[aB (hm b _ q λz=>z)];exact q,λb ps q=>{#[],by rw[aB (hm b _ q λz=>z),q];simp}⟩
 by_cases zg:b=e
 ·subst zg;exact J3
 ·exact{u,k b u zg q}
end
def Nb (h:Heap)(H:Hp):List Addr:=(VW h.objs.size).filter λa=>(H a).isSome
def rl (h:Heap)(H:Hp):Heap:=PySem.W.hideAll h (Nb h H)
def zf (h:Heap)(H:Hp):(rl h H).objs.size=h.objs.size:=PySem.W.hideAll_size _ _
def B5 {h:Heap}{H:Hp}{b:Addr}{o:Obj}(e:h.get? b=some o)(n:H b=none):(rl h H).get? b=some o :=
 PySem.W.hideAll_get _ e λhm=>by
  have q:(H b).isSome=true:=(VZ.mp hm).2;rw[n]at q;simp at q
def Eh {h:Heap}{H:Hp}{b:Addr}{o:Obj}(e:(rl h H).get? b=some o):h.get? b=some o/\H b=none:=by
 have e':h.get? b=some o:=PySem.W.of_hideAll (Nb h H) e;refine{e',?_};cases q:H b with
 |none=>rfl
 |some x =>
  have hm:b∈Nb h H:=VZ.mpr {V3.mpr (Wt e'),by simp[q]}
  have z:(rl h H).get? b=none:=PySem.W.hideAll_none (Nb h H) hm;rw[z]at e;cases e
structure Mod (K:PySem.W.Frag)(mg:Str->Option VT)(base:Heap):Prop where
 O5:K.In base
 glob:base.Ns XW mg
 blt:∃mb,base.Ns builtinsNs mb/\∀x:Str,x≠"__name__" -> mb x=Xl x
 nolimit:base.NoLimit
structure Cx where
 prog:V2
 w:Wm
 K:PySem.W.Frag
 mg:Str->Option VT
 base:Heap
 A:Xd
 N:List Str
 s₀:VY
 H₀:Hp
 env:Env
 outer:List Env
 stack:List Env
 ex:List Addr
 fn:Str->Bool
 calm:Bool
 pn:List (Addr×Obj)
 xe:VT->VY->Prop
def Cc (l:List Env):List Addr:=l.filterMap (·.frame)
abbrev Cx.fs (X:Cx):List Addr:=Cc X.outer
def Kc (sc:YA)(x:Str):Prop:=sc.names.lookup x=some .local\/sc.names.lookup x=some .cell\/sc.names.lookup x=some .free
def Loc (sc:YA)(x:Str):Prop:=sc.names.lookup x=some .local\/sc.names.lookup x=some .cell
def Look (env:Env)(h:Heap)(m:Str->Option VT)(x:Str)(u:VT):Prop :=
 (env.kindOf x=some .local/\m x=some u)\/((env.kindOf x=some .cell\/env.kindOf x=some .free)/\∃c,env.cells.lookup x=some c/\h.IsCell c (some u))
structure Cx.Ok (X:Cx):Prop where
 mod:Mod X.K X.mg X.base
 kind:X.env.scope.kind=.function
 glob:X.env.globals=XW
 blt:X.env.builtins=builtinsNs
 above:X.s₀.heap.objs.size<=X.env.locals
 inj:∀x y c,X.env.cells.lookup x=some c->X.env.cells.lookup y=some c->x=y
 has:∀x,(X.env.kindOf x=some .cell\/X.env.kindOf x=some .free)->∃c,X.env.cells.lookup x=some c
 MT:∀x c,X.fn x=true->X.env.cells.lookup x=some c->X.s₀.heap.objs.size<=c
 hd:X.calm=true->X.A.handled=none
 frames:X.A.frames=some X.stack
 Nf:X.stack=X.outer\/(X.stack=X.env::X.outer/\X.env.frame=some X.env.locals)
 NP:∀b∈X.ex,b≠X.env.locals/\∀x c,X.env.cells.lookup x=some c->c≠b
 bs:∀b o,X.base.get? b=some o->X.s₀.heap.get? b=some o/\X.H₀ b=none
 GD:X.base.objs.size<=X.s₀.heap.objs.size
 Bl:∀b o,X.base.get? b=some o->b∉X.ex
 Cr:∀b∈X.ex,b∉X.fs
 nk:X.s₀.heap.FunFrames X.base X.outer
 J5:∀b∈X.fs,X.H₀ b=none
structure Inv (X:Cx)(pins:List (Addr×Obj))(σ:List (Option V))(H:Hp)(s:VY):Prop where
 ok:X.Ok
 os:s.os=X.s₀.os
 bare:Zv s.gens
 base:Un X.fs X.ex X.H₀ H X.s₀.heap s.heap
 loc:∃m,s.heap.Ns X.env.locals m/\∀(i:Nat) (x:Str) (v:V),X.N[i]?=some x->σ[i]?=some (some v)->Kc X.env.scope x->∃u,RelV v u/\Look X.env s.heap m x u
 cell:∀x c,X.env.cells.lookup x=some c->∃v,s.heap.IsCell c v
 free:H X.env.locals=none
 iI:∀x c,X.env.cells.lookup x=some c->H c=none
 pin:∀p∈X.pn++pins,s.heap.get? p.1=some p.2/\H p.1=none/\p.1≠X.env.locals/\p.1∉X.fs/\∀v,p.2.data≠.cell v
 bY:jl X.prog X.w H s.heap
 len:σ.length=X.N.length
section
variable {X:Cx}{pins:List (Addr×Obj)}{σ:List (Option V)}{H H':Hp}{s:VY}{h':Heap}
def Cx.Ok.Ie (ok:X.Ok){b:Addr}{o:Obj}(e:X.base.get? b=some o):b∉X.fs:=λhb=>by
 have:=(ok.nk.mem hb).1;rw[e]at this;cases this
def Inv.bs (I:Inv X pins σ H s):∀b o,X.base.get? b=some o->s.heap.get? b=some o/\H b=none:=λb o e =>
 {I.base.keep b o (I.ok.bs b o e).1 (I.ok.bs b o e).2 (I.ok.Ie e) (I.ok.Bl b o e),I.base.free b o (I.ok.bs b o e).1 (I.ok.bs b o e).2 (I.ok.Bl b o e)}
def Inv.bk (I:Inv X pins σ H s):∀b o,X.base.get? b=some o->s.heap.get? b=some o:=λb o e=>(I.bs b o e).1
def Inv.mod (I:Inv X pins σ H s):Mod X.K X.mg X.base:=I.ok.mod
def Inv.J0 (I:Inv X pins σ H s):X.K.In s.heap:=I.ok.mod.O5.keeps I.bk
def Inv.lt (I:Inv X pins σ H s):X.env.locals<s.heap.objs.size:=let ⟨_,hn,_⟩:=I.loc;hn.lt
def Inv.sz (I:Inv X pins σ H s):X.s₀.heap.objs.size<=s.heap.objs.size:=WG I.ok.above (Zr I.lt)
def Inv.OX (I:Inv X pins σ H s){a:Addr}(h:s.heap.objs.size<=a):a∉X.fs:=λhb=>by
 obtain⟨_,o,ho,_⟩:=I.ok.nk.mem hb;exact absurd (WI (Wt ho) (WG I.sz h)) (XG _)
def Inv.Jy (I:Inv X pins σ H s):∀x c,X.env.cells.lookup x=some c->c≠X.env.locals:=λx c e z=>by
 obtain⟨v,o,ho,hd⟩:=I.cell x c e;obtain⟨m,⟨o',es,ep,zc,UC,_⟩,_⟩:=I.loc;rw[z,zc]at ho;cases ho;rw[UC]at hd;cases hd
def Inv.nk (I:Inv X pins σ H s):s.heap.FunFrames X.base X.outer:=by
 have all:∀(l:List Env),(∀b∈Cc l,b∈X.fs)->X.s₀.heap.FunFrames X.base l->s.heap.FunFrames X.base l:=by
  intro l
  induction l with
  |nil=>intro _ _;trivial
  |cons env r ih =>
   intro hs hl;obtain⟨hk,⟨L,o,hf,hn,ho,hd⟩,hr⟩:=hl;have hL:L∈X.fs:=hs L (by unfold Cc;rw[WW,hf];exact V0)
   obtain⟨sl,e⟩:=I.base.slot L o ho (I.ok.J5 L hL) hL λz=>I.ok.Cr L z hL;exact{hk,{L,_,hf,hn,e,hd},ih (λb hb=>hs b (by unfold Cc;rw[WW,hf];exact V8 _ hb)) hr}
 exact all X.outer (λ_ hb=>hb) I.ok.nk
def Inv.stack (I:Inv X pins σ H s):s.heap.FunFrames X.base X.stack:=by
 rcases I.ok.Nf with e|⟨e,hf⟩
 ·rw[e];exact I.nk
 ·rw[e];obtain⟨m,hn,_⟩:=I.loc;refine .cons (by rw[I.ok.kind];decide) hf hn ?_ I.nk
  exact Heap.get?_none_of_le (WG I.ok.GD I.ok.above)
def Inv.vf (I:Inv X pins σ H s):∀b∈Cc X.stack,b∈X.env.locals::X.fs:=λb hb=>by
 rcases I.ok.Nf with e|⟨e,hf⟩
 ·rw[e]at hb;exact V8 _ hb
 ·rw[e]at hb;unfold Cc at hb;rw[WW,hf]at hb;exact hb
def Inv.wH (I:Inv X pins σ H s):∀b∈Cc X.stack,H b=none:=λb hb=>by
 rcases VX.mp (I.vf b hb)with e|hb
 ·rw[e];exact I.free
 ·obtain⟨_,o,ho,_⟩:=I.ok.nk.mem hb;exact I.base.free b o ho (I.ok.J5 b hb) λz=>I.ok.Cr b z hb
def Inv.step {g':Array GenState}{t':Nat}{d':Drawn}{ch:List Addr}(I:Inv X pins σ H s)
  (ud:∀b∈ch,(b∈X.ex\/X.s₀.heap.objs.size<=b)/\b≠X.env.locals/\(∀x c,X.env.cells.lookup x=some c->c≠b)/\∀p∈X.pn++pins,p.1≠b)
  (keep:∀b o,b≠X.env.locals->b∉X.fs->b∉ch->s.heap.get? b=some o->H b=none->h'.get? b=some o)
  (slot:∀b o,b≠X.env.locals->b∈X.fs->b∉ch->s.heap.get? b=some o->H b=none->∃sl,h'.get? b=some {o with slots:=sl}) (free:∀b o,b∉ch->s.heap.get? b=some o->H b=none->H' b=none)
  (there:∀b o,b∉ch->s.heap.get? b=some o->∃o',h'.get? b=some o')
  (qr:∀b xs,H b=some (.tup xs)->H' b=some (.tup xs)) (oQ:∀b o u,H b=some (.Dg o u)->H' b=some (.Dg o u)) (qu:∀b ps,H b=some (.G_ ps)->∃more,H' b=some (.G_ (ps++more)))
  (ns:∀m,s.heap.Ns X.env.locals m->h'.Ns X.env.locals m) (bY:jl X.prog X.w H' h') (hg:Zv g') :
  Inv X pins σ H' {s with heap:=h',gens:=g',drawn:=d',toks:=t'}:=by
 have RL:∀b o,X.s₀.heap.get? b=some o->b≠X.env.locals:=λb o e=>WX (WI (Wt e) I.ok.above);have Nn:∀b o,X.s₀.heap.get? b=some o->b∉X.ex->b∉ch:=λb o e hx hb=>by
  rcases (ud b hb).1 with z|z
  ·exact hx z
  ·exact absurd (WI (Wt e) z) (XG _)
 have cellK:∀x c,X.env.cells.lookup x=some c->∀v,s.heap.IsCell c v->h'.IsCell c v:=λx c e v t9=>by
  obtain⟨o,ho,hd⟩:=t9;have La:c∉ch:=λz=>(ud c z).2.2.1 x c e rfl
  by_cases hc:c∈X.fs
  ·obtain⟨sl,q⟩:=slot c o (I.Jy x c e) hc La ho (I.iI x c e);exact{_,q,hd}
  ·exact{o,keep c o (I.Jy x c e) hc La ho (I.iI x c e),hd}
 refine{I.ok,I.os,hg,{λb o e n hb hx=>?_,λb o e n hb hx=>?_,λb o e n hx=>?_,λb o e hx=>?_,λb xs e=>qr b xs (I.base.qr b xs e),λb o xs e=>oQ b o xs (I.base.oQ b o xs e),λb ps e=>?_},?_,λx c e=>?_,?_,λx c e=>?_,λp hp=>?_,bY,I.len}
 ·exact keep b o (RL b o e) hb (Nn b o e hx) (I.base.keep b o e n hb hx) (I.base.free b o e n hx)
 ·obtain⟨sl,e1⟩:=I.base.slot b o e n hb hx;obtain⟨Tc,e2⟩:=slot b _ (RL b o e) hb (Nn b o e hx) e1 (I.base.free b o e n hx);exact{(Tc),e2}
 ·obtain⟨o',e1⟩:=I.base.there b o e hx;exact free b o' (Nn b o e hx) e1 (I.base.free b o e n hx)
 ·obtain⟨o',e1⟩:=I.base.there b o e hx;exact there b o' (Nn b o e hx) e1
 ·obtain⟨m1,e1⟩:=I.base.qu b ps e;obtain⟨m2,e2⟩:=qu b _ e1;exact{m1++m2,by rw[e2,Array.append_assoc]}
 ·obtain⟨m,hn,hl⟩:=I.loc;refine{m,ns m hn,λi x v e1 e2 e3=>?_};obtain⟨u,r,l⟩:=hl i x v e1 e2 e3;refine{u,r,?_};rcases l with l|⟨k,c,e,z⟩
  ·exact .inl l
  ·exact .inr {k,c,e,cellK x c e _ z}
 ·obtain⟨v,z⟩:=I.cell x c e;exact{v,cellK x c e v z}
 ·obtain⟨m,⟨o,_,_,ho,_⟩,_⟩:=I.loc;exact free _ o (λz=>(ud _ z).2.1 rfl) ho I.free
 ·obtain⟨v,o,ho,hd⟩:=I.cell x c e;exact free c o (λz=>(ud c z).2.2.1 x c e rfl) ho (I.iI x c e)
 ·obtain⟨e,n,ne,nf,d⟩:=I.pin p hp;have La:p.1∉ch:=λz=>(ud p.1 z).2.2.2 p hp rfl;exact{keep p.1 p.2 ne nf La e n,free p.1 p.2 La e n,ne,nf,d}
def Inv.un {t':Nat}(I:Inv X pins σ H s)(u:Un X.fs [] H H' s.heap h')(bY:jl X.prog X.w H' h'):Inv X pins σ H' {s with heap:=h',toks:=t'}:=by
 obtain⟨m,⟨o,es,ep,ho,r⟩,_⟩:=id I.loc;obtain⟨sl,hL⟩:=u.any ho I.free (by simp)
 exact I.step (g':=s.gens) (d':=s.drawn) (ch:=[]) (λ_ z=>nomatch z) (λb o _ hb _ e n=>u.keep b o e n hb (by simp)) (λb o _ hb _ e n=>u.slot b o e n hb (by simp)) (λb o _ e n=>u.free b o e n (by simp)) (λb o _ e=>u.there b o e (by simp)) u.qr u.oQ u.qu (λm' hm=>by
  obtain⟨o',fO,wb,zc,r'⟩:=hm;rw[ho]at zc;cases zc;exact{_,fO,wb,hL,r'}) bY I.bare
def Inv.call {g':Array GenState}{t':Nat}{d':Drawn}{ch:List Addr}(I:Inv X pins σ H s)(u:Un (Cc X.stack) ch H H' s.heap h')(bY:jl X.prog X.w H' h')(hg:Zv g')
  (ud:∀b∈ch,(b∈X.ex\/X.s₀.heap.objs.size<=b)/\b≠X.env.locals/\(∀x c,X.env.cells.lookup x=some c->c≠b)/\∀p∈X.pn++pins,p.1≠b) :
  Inv X pins σ H' {s with heap:=h',gens:=g',drawn:=d',toks:=t'}:=by
 obtain⟨m,⟨o,es,ep,ho,r⟩,_⟩:=id I.loc;obtain⟨sl,hL⟩:=u.any ho I.free λz=>(ud _ z).2.1 rfl;exact I.step (ch:=ch) ud (λb o hL hb hc e n=>u.keep b o e n (λz=>(VX.mp (I.vf b z)).elim hL hb) hc) (λb o _ _ hc e n=>u.any e n hc) (λb o hc e n=>u.free b o e n hc) (λb o hc e=>u.there b o e hc) u.qr u.oQ u.qu (λm' hm=>by
  obtain⟨o',fO,wb,zc,r'⟩:=hm;rw[ho]at zc;cases zc;exact{_,fO,wb,hL,r'}) bY hg
def Inv.turned {t':Nat}{it:Addr}(I:Inv X pins σ H s)(k:∀b o,b≠it->s.heap.get? b=some o->h'.get? b=some o)(hn:H it=none)(hL:it≠X.env.locals)
  (h1:it∈X.ex\/X.s₀.heap.objs.size<=it) (h2:∀x c,X.env.cells.lookup x=some c->c≠it) (h3:∀p∈X.pn++pins,p.1≠it):Inv X pins σ H {s with heap:=h',toks:=t'}:=by
 have RK:∀b u,H b=some u->b≠it:=λb u e z=>by rw[z,hn]at e;cases e
 refine I.step (g':=s.gens) (d':=s.drawn) (ch:=[it]) (λb hb=>?_) (λb o _ _ hc e _=>k b o (λz=>hc (by simp[z])) e) (λb o _ _ hc e _=>{o.slots,k b o (λz=>hc (by simp[z])) e}) (λ_ _ _ _ n=>n)
  (λb o hc e=>{o,k b o (λz=>hc (by simp[z])) e}) (λ_ _ e=>e) (λ_ _ _ e=>e) (λb ps e=>{#[],by rw[e];simp}) (λm hm=>?_) (λb u e=>?_) I.bare
 ·have e:b=it:=by simpa using hb
  subst e;exact{(h1),hL,h2,h3}
 ·obtain⟨o,es,ep,ho,r⟩:=hm;exact{o,es,ep,k _ o (YX hL) ho,r}
 ·refine(I.bY b u e).yh (λc v hc q=>k c v ?_ q) (λ_ q=>q) λ_ _ q=>q;rcases hc with z|z
  ·rw[z];exact RK b u e
  ·exact RK c _ z
def Inv.tok (I:Inv X pins σ H s)(t:Nat):Inv X pins σ H {s with toks:=t}:=I.un (h':=s.heap) (t':=t) Un.refl I.bY
def Inv.kept {t':Nat}(I:Inv X pins σ H s)(k:∀b u,s.heap.get? b=some u->h'.get? b=some u):Inv X pins σ H {s with heap:=h',toks:=t'}:=I.un (Un.kept k) (I.bY.kept k)
def Inv.laid {a:Addr}{o:HO}{t':Nat}(I:Inv X pins σ H s)(k:∀b u,s.heap.get? b=some u->h'.get? b=some u)(hp:s.heap.objs.size<=a)(new:b9 X.prog X.w (upd H a o) h' a o):
  Inv X pins σ (upd H a o) {s with heap:=h',toks:=t'}:=I.un (Un.laid k hp (I.bY.fresh hp)) (I.bY.laid k hp new)
def Inv.write {x e:Addr}{o:HO}{t':Nat}(I:Inv X pins σ H s)(mu:M3 (H x))(he:e=x\/H e=some (.own x))(k:∀b u,b≠e->s.heap.get? b=some u->h'.get? b=some u)(J3:∃u,h'.get? e=some u)
  (new:b9 X.prog X.w (upd H x o) h' x o):Inv X pins σ (upd H x o) {s with heap:=h',toks:=t'}:=I.un (Un.write mu he k J3) (I.bY.write mu he k J3 new)
def Inv.w9 {FW:List (Addr×Obj)}(I:Inv X pins σ H s)(h:∀p∈FW,s.heap.get? p.1=some p.2/\H p.1=none/\p.1≠X.env.locals/\p.1∉X.fs/\∀v,p.2.data≠.cell v):Inv X FW σ H s :=
 {I.ok,I.os,I.bare,I.base,I.loc,I.cell,I.free,I.iI,λp hp=>(V9.mp hp).elim (λz=>I.pin p (WK _ z)) (h p),I.bY,I.len}
def tx {N:List Str}(hN:N.Nodup){i j:Nat}{x:Str}(a:N[i]?=some x)(b:N[j]?=some x):i=j:=by
 obtain⟨h1,e1⟩:=Ww.mp a;obtain⟨h2,e2⟩:=Ww.mp b;exact(List.getElem_inj hN).mp (e1.trans e2.symm)
def o_ {M:Model}{A:Xd}{E:VT->VY->Prop}{i:Nat}{x:Str}{v:V}{u:VT}{Q:Unit->VY->Prop}(I:Inv X pins σ H s)(hN:X.N.Nodup)(hi:X.N[i]?=some x)(hx:Loc X.env.scope x)(r:RelV v u)
  (h:∀s',Inv X pins (σ.set i (some v)) H s'->(∃a,X7 a s.heap s'.heap/\(a=X.env.locals\/X.env.cells.lookup x=some a))->Q () s') (hf:X.fn x=true\/X.env.scope.names.lookup x=some .local:=by first|exact .inl rfl|exact .inr rfl|assumption):WM M A (storeName X.env x u) Q E s:=by
 obtain⟨m,hn,hl⟩:=id I.loc;have QA:(X.env.scope.kind==.class || (X.env.scope.kind==.module&&X.env.locals != X.env.globals))=false:=by rw[I.ok.kind];rfl
 have Mk:i<σ.length:=by rw[I.len];exact(Ww.mp hi).1
 have Jy:=I.Jy;have tracked:∀{a:Addr} {h':Heap},(∃o,s.heap.get? a=some o/\H a=none)->X7 a s.heap h'->jl X.prog X.w H h':=λ{a h'} ha hs b ob e=>by
  obtain⟨_,_,Gn⟩:=ha;refine(I.bY b ob e).yh (λc w' hc q=>(hs.2 c ?_).trans q) (λ_ q=>q) λ_ _ q=>q;rintro rfl;rcases hc with rfl|hc
  ·rw[Gn]at e;cases e
  ·rw[Gn]at hc;cases hc
 rcases hx with hk|hk
 ·refine wpAny_storeName_local hk hn (λh' Ji hs=>?_) QA;obtain⟨oL,_,_,Ul,_⟩:=id hn;refine h _ {I.ok,I.os,I.bare,{λb o e n hb hx=>?_,λb o e n hb hx=>?_,I.base.free,λb o e hx=>?_,I.base.qr,I.base.oQ,I.base.qu},{_,Ji,λj y v' e1 e2 e3=>?_},λy c e=>?_,I.free,I.iI,λp hp=>?_,tracked {(oL),Ul,I.free} hs,by simpa using I.len} {_,hs,.inl rfl}
  ·exact(hs.2 b (WX (WI (Wt e) I.ok.above))).trans (I.base.keep b o e n hb hx)
  ·obtain⟨sl,e1⟩:=I.base.slot b o e n hb hx;exact{sl,(hs.2 b (WX (WI (Wt e) I.ok.above))).trans e1}
  ·obtain⟨o',e1⟩:=I.base.there b o e hx;exact{o',(hs.2 b (WX (WI (Wt e) I.ok.above))).trans e1}
  ·by_cases hj:j=i
   ·subst hj;rw[hi]at e1;cases e1;rw[List.getElem?_set_self Mk]at e2;cases e2;exact{u,r,.inl {hk,by simp}}
   ·rw[List.getElem?_set_ne (YX hj)]at e2;obtain⟨u',r',q⟩:=hl j y v' e1 e2 e3;refine{u',r',?_};rcases q with⟨k,e⟩|⟨k,c,e,z⟩
    ·refine .inl {k,?_};have:y≠x:=λe=>hj (tx hN e1 (e▸hi));simp[this,e]
    ·exact .inr {k,c,e,z.sameBut hs (Jy y c e)}
  ·obtain⟨w',z⟩:=I.cell y c e;exact{w',z.sameBut hs (Jy y c e)}
  ·obtain⟨e,n,ne,nf,d⟩:=I.pin p hp;exact{(hs.2 p.1 ne).trans e,n,ne,nf,d}
 ·have Qx:X.fn x=true:=by
   rcases hf with z|z
   ·exact z
   ·rw[z]at hk;cases hk
  obtain⟨c,hc⟩:=I.ok.has x (.inl hk);obtain⟨w',z⟩:=I.cell x c hc;refine wpAny_storeName_cell I.ok.kind hk hc z (λh' pQ hs=>?_);obtain⟨oc,Jd,P_⟩:=id z;refine h {s with heap:=h'} {I.ok,I.os,I.bare,{λb o e n hb hx=>?_,λb o e n hb hx=>?_,I.base.free,λb o e hx=>?_,I.base.qr,I.base.oQ,I.base.qu},{m,hn.sameBut hs (YX (Jy x c hc)),λj y v' e1 e2 e3=>?_},λy c' e=>?_,I.free,I.iI,λp hp=>?_,tracked {oc,Jd,I.iI x c hc} hs,by simpa using I.len} {c,hs,.inr hc}
  ·exact(hs.2 b (WX (WI (Wt e) (I.ok.MT x c Qx hc)))).trans (I.base.keep b o e n hb hx)
  ·obtain⟨sl,e1⟩:=I.base.slot b o e n hb hx;exact{sl,(hs.2 b (WX (WI (Wt e) (I.ok.MT x c Qx hc)))).trans e1}
  ·obtain⟨o',e1⟩:=I.base.there b o e hx;exact{o',(hs.2 b (WX (WI (Wt e) (I.ok.MT x c Qx hc)))).trans e1}
  ·by_cases hj:j=i
   ·subst hj;rw[hi]at e1;cases e1;rw[List.getElem?_set_self Mk]at e2;cases e2;exact{u,r,.inr {.inl hk,c,hc,pQ}}
   ·rw[List.getElem?_set_ne (YX hj)]at e2;obtain⟨u',r',q⟩:=hl j y v' e1 e2 e3;refine{u',r',?_};rcases q with q|⟨k,c',e,z'⟩
    ·exact .inl q
    ·refine .inr {k,c',e,z'.sameBut hs ?_};rintro rfl;exact hj (tx hN e1 (I.ok.inj _ _ _ e hc▸hi))
  ·by_cases So:c'=c
   ·subst So;exact{_,pQ}
   ·obtain⟨w2,z2⟩:=I.cell y c' e;exact{w2,z2.sameBut hs So}
  ·obtain⟨e,n,ne,nf,d⟩:=I.pin p hp;refine{(hs.2 p.1 ?_).trans e,n,ne,nf,d};intro q;rw[q,Jd]at e;have q':oc=p.2:=WA e;exact d w' (by rw[<- q'];exact P_)
def su {M:Model}{A:Xd}{E:VT->VY->Prop}{i:Nat}{x:Str}{v:V}{u:VT}{Q:Unit->VY->Prop}(I:Inv X pins σ H s)(hN:X.N.Nodup)(hi:X.N[i]?=some x)(hx:Loc X.env.scope x)(r:RelV v u)
  (h:∀s',Inv X pins (σ.set i (some v)) H s'->Q () s') (hf:X.fn x=true\/X.env.scope.names.lookup x=some .local:=by first|exact .inl rfl|exact .inr rfl|assumption):WM M A (storeName X.env x u) Q E s :=
 o_ I hN hi hx r (λs' I' _=>h s' I') hf
def Inv.MS {s':VY}{ch:List Addr}(I:Inv X pins σ H s)(ho:s'.os=s.os)(u:Un (Cc X.stack) ch H H' s.heap s'.heap)(bY:jl X.prog X.w H' s'.heap)(hg:Zv s'.gens)
  (ud:∀b∈ch,(b∈X.ex\/X.s₀.heap.objs.size<=b)/\b≠X.env.locals/\(∀x c,X.env.cells.lookup x=some c->c≠b)/\∀p∈X.pn++pins,p.1≠b):Inv X pins σ H' s':=by
 obtain⟨h',g',d',t',o'⟩:=s';have e:o'=s.os:=ho;subst e;exact I.call (g':=g') (t':=t') (d':=d') u bY hg ud
end
abbrev XK:=VT->Option Addr->Hp->Prop
abbrev St:=List (Option V)
abbrev VK:=V->Hp->Prop
abbrev TE:=St->Hp->VK->Prop
abbrev TT:=St->Hp->(Bool->Hp->Prop)->Prop
abbrev TA:=St->Hp->(List V->Hp->Prop)->Prop
structure Ends where
 nx:St->Hp->Prop
 rt:VK
 bk:St->Hp->Prop:=λ_ _=>False
 ct:St->Hp->Prop:=λ_ _=>False
abbrev TS:=Ends->St->Hp->Prop
def EP (X:Cx)(pins:List (Addr×Obj))(σ:St)(Q:VK)(u:VT)(s':VY):Prop:=∃v H',Inv X pins σ H' s'/\RelV v u/\Q v H'
def TP (X:Cx)(pins:List (Addr×Obj))(σ:St)(Q:Bool->Hp->Prop)(b:Bool)(s':VY):Prop:=∃H',Inv X pins σ H' s'/\Q b H'
def AP (X:Cx)(pins:List (Addr×Obj))(σ:St)(Q:List V->Hp->Prop)(us:List VT)(s':VY):Prop:=∃vs H',Inv X pins σ H' s'/\Vals vs us/\Q vs H'
def SP (X:Cx)(pins:List (Addr×Obj))(D:Ends)(f:Flow)(s':VY):Prop :=
 match f with
 |.next=>∃σ' H',Inv X pins σ' H' s'/\D.nx σ' H'
 |.brk=>∃σ' H',Inv X pins σ' H' s'/\D.bk σ' H'
 |.cont=>∃σ' H',Inv X pins σ' H' s'/\D.ct σ' H'
 |.ret u=>∃v σ' H',Inv X pins σ' H' s'/\RelV v u/\D.rt v H'
def PE (X:Cx)(e:Expr)(t:TE):Prop :=
 ∀(pins:List (Addr×Obj)) (s:VY) (σ:St) (H:Hp) (Q:VK),Inv X pins σ H s->t σ H Q->WM (model X.prog X.w) X.A (eval e X.env) (EP X pins σ Q) X.xe s
def PT (X:Cx)(e:Expr)(t:TT):Prop :=
 ∀(pins:List (Addr×Obj)) (s:VY) (σ:St) (H:Hp) (Q:Bool->Hp->Prop),Inv X pins σ H s->t σ H Q->WM (model X.prog X.w) X.A (Z9 e X.env (eval e X.env)) (TP X pins σ Q) X.xe s
def PW (X:Cx)(e:Expr)(t:TT):Prop :=
 ∀(whole:Sem VT) (pins:List (Addr×Obj)) (s:VY) (σ:St) (H:Hp) (Q:Bool->Hp->Prop),Inv X pins σ H s->t σ H Q->WM (model X.prog X.w) X.A (Z9 e X.env whole) (TP X pins σ Q) X.xe s
def PW.pt {X:Cx}{e:Expr}{t:TT}(h:PW X e t):PT X e t:=h _
def PA (X:Cx)(es:List Expr)(t:TA):Prop :=
 ∀(pos:Pos) (pins:List (Addr×Obj)) (s:VY) (σ:St) (H:Hp) (Q:List V->Hp->Prop),Inv X pins σ H s->t σ H Q->WM (model X.prog X.w) X.A (spliced (XT pos (Wj es X.env))) (AP X pins σ Q) X.xe s
def PS (X:Cx)(st:Stmt)(t:TS):Prop :=
 ∀(pins:List (Addr×Obj)) (s:VY) (σ:St) (H:Hp) (D:Ends),Inv X pins σ H s->t D σ H->WM (model X.prog X.w) X.A (exec st X.env) (SP X pins D) X.xe s
def rX (X:Cx)(st:List Stmt)(t:TS):Prop :=
 ∀(pins:List (Addr×Obj)) (s:VY) (σ:St) (H:Hp) (D:Ends),Inv X pins σ H s->t D σ H->WM (model X.prog X.w) X.A (execs st X.env) (SP X pins D) X.xe s
def bG {α:Type}{t:Sem α}{Q Q':α->VY->Prop}{M:Model}{A:Xd}{E:VT->VY->Prop}{s:VY}(h:WM M A t Q E s)(hQ:∀a s,Q a s->Q' a s):WM M A t Q' E s:=YZ h hQ λ_ _ x=>x
section
variable {X:Cx}
def Hd (i:Nat):TE:=λσ H Q=>∃v,σ[i]?=some (some v)/\Q v H
def tC (v:V):TE:=λ_ H Q=>Q v H
def AW {i:Nat} {x:Str} {pos:Pos} (hN:X.N[i]?=some x) (hv:Kc X.env.scope x) (hd:(x==("__debug__" : Str))=false:=by decide) (Dd:(x==("__classdict__" : Str))=false:=by decide):PE X (.Name x pos) (Hd i):=by
 intro pins s σ H Q I h;obtain⟨v,e,h⟩:=h;obtain⟨m,hn,hl⟩:=I.loc;obtain⟨u,r,l⟩:=hl i x v hN e hv;have fin:EP X pins σ Q u s:={(v),H,I,r,h};rcases l with⟨hk,hm⟩|⟨hk,c,hc,pP⟩
 ·exact wpAny_Name (wpAny_loadName_local I.ok.kind hk hn hm fin) hd
 ·rcases hk with hk|hk
  ·exact wpAny_Name (wpAny_loadName_cell I.ok.kind hk hc pP fin) hd
  ·exact wpAny_Name (wpAny_loadName_free I.ok.kind hk hc pP fin Dd) hd
def bb {i j pos}:PE X (.Constant (.int i) j pos) (tC (.int i)):=λ_ _ _ H _ I h=>wpAny_Constant_int {.int i,H,I.tok _,{_,rfl},h}
def FZ {b j pos}:PE X (.Constant (.bool b) j pos) (tC (.bl b)):=λ_ _ _ H _ I h=>Constant_bool {.bl b,H,I,rfl,h}
def HJ {j pos}:PE X (.Constant .none j pos) (tC .ck):=λ_ _ _ H _ I h=>Constant_none {.ck,H,I,rfl,h}
def Gl (X:Cx)(x:Str):Prop:=X.env.kindOf x=some .globalImplicit
def EC {E:VT->VY->Prop}{pins:List (Addr×Obj)}{s:VY}{σ:St}{H:Hp}{x:Str}{u:VT}{pos:Pos}{Q:VT->VY->Prop}(I:Inv X pins σ H s)(hg:Gl X x)(hm:X.mg x=some u)(h:Q u s)
  (hd:(x==("__debug__" : Str))=false:=by decide):WM (model X.prog X.w) X.A (eval (.Name x pos) X.env) Q E s :=
 Calls.Name_function_global I.ok.kind hg (Calls.loadGlobal_global (by rw[I.ok.glob];exact I.mod.glob.keeps I.bk) hm h) hd
def gV {E:VT->VY->Prop}{pins:List (Addr×Obj)}{s:VY}{σ:St}{H:Hp}{x:Str}{u:VT}{pos:Pos}{Q:VT->VY->Prop}(I:Inv X pins σ H s)(hg:Gl X x)(hm:X.mg x=none)(hv:Xl x=some u)(h:Q u s)
  (hn:x≠"__name__" := by decide) (hd:(x==("__debug__" : Str))=false:=by decide):WM (model X.prog X.w) X.A (eval (.Name x pos) X.env) Q E s:=by
 obtain⟨mb,h1,h2⟩:=I.mod.blt;exact Calls.Name_function_global I.ok.kind hg (Calls.loadGlobal_builtin (by rw[I.ok.glob];exact I.mod.glob.keeps I.bk) hm (by rw[I.ok.blt];exact h1.keeps I.bk) ((h2 x hn).trans hv) h) hd
variable {a b:Expr}{ta tb:TE}{pos:Pos}
def tD (b:Expr){op:Y4}(h:op≠.In)(h2:op≠.NotIn):X_ op b=false:=by
 have e1:(op==CmpOp.In)=false:=by cases op <;> first|rfl|exact absurd rfl h
 have e2:(op==CmpOp.NotIn)=false:=by cases op <;> first|rfl|exact absurd rfl h2
 cases b <;> simp[X_,e1,e2]
def tB (t:TE):TT:=λσ H Q=>t σ H λx H1=>∃c,x=.bl c/\Q c H1
def HC {e:Expr}{t:TE}(h:PE X e t)(he:∀whole,Z9 e X.env whole=(do let v <- whole;Y8 e.pos;holding [v] (truthy v)):=by intro _;rfl):PT X e (tB t):=by
 intro pins s σ H Q I hw;refine isTrue_plain (bG (h pins s σ H _ I hw) λv s1 ⟨x,H1,I1,r1,q1⟩=>?_) (he _);obtain⟨d,rfl,q⟩:=q1;cases r1;exact XJ {(H1),I1,q}
variable {tA Nd:TT}{rest:List Expr}
def Ob (t u:TT):TT:=λσ H Q=>t σ H λc H1=>if c=true then u σ H1 Q else Q false H1
def S5 (t u:TT):TT:=λσ H Q=>t σ H λc H1=>if c=true then Q true H1 else u σ H1 Q
def N7 (t:TT):TT:=λσ H Q=>t σ H λc H1=>Q (!c) H1
def pw_and1 (ha:PT X a tA):PW X (.BoolOp .And [a] pos) tA:=by
 intro wh pins s σ H Q I h;refine isTrue_and (bG (ha pins s σ H Q I h) λc s1 e=>?_);cases c with
 |true=>exact isTrue_and_nil e
 |false=>exact e
def pw_or1 (ha:PT X a tA):PW X (.BoolOp .Or [a] pos) tA:=by
 intro wh pins s σ H Q I h;refine isTrue_or (bG (ha pins s σ H Q I h) λc s1 e=>?_);cases c with
 |false=>exact isTrue_or_nil e
 |true=>exact e
def pw_and (ha:PT X a tA)(hb:PW X (.BoolOp .And (b::rest) pos) Nd):PW X (.BoolOp .And (a::b::rest) pos) (Ob tA Nd):=by
 intro wh pins s σ H Q I h;refine isTrue_and (bG (ha pins s σ H _ I h) λc s1 ⟨H1,I1,q1⟩=>?_);cases c with
 |true=>exact hb wh pins s1 σ H1 Q I1 q1
 |false=>exact{(H1),I1,q1}
def pw_or (ha:PT X a tA)(hb:PW X (.BoolOp .Or (b::rest) pos) Nd):PW X (.BoolOp .Or (a::b::rest) pos) (S5 tA Nd):=by
 intro wh pins s σ H Q I h;refine isTrue_or (bG (ha pins s σ H _ I h) λc s1 ⟨H1,I1,q1⟩=>?_);cases c with
 |true=>exact{(H1),I1,q1}
 |false=>exact hb wh pins s1 σ H1 Q I1 q1
def HD (ha:PT X a tA):PT X (.UnaryOp .Not a pos) (N7 tA):=by
 intro pins s σ H Q I h;exact isTrue_not (ha pins s σ H (λc H1=>Q (!c) H1) I h)
def N6 (ta tb:TE):TE:=λσ H Q=>ta σ H λx H1=>∃c,x=.bl c/\if c=true then Q (.bl true) H1 else tb σ H1 Q
def HI {op}{t:TE}(h:PE X a t):PE X (.BoolOp op [a] pos) t:=λpins s σ H Q I hw=>BoolOp_one (h pins s σ H Q I hw)
def KR (ha:PE X a ta)(hb:PE X (.BoolOp .Or (b::rest) pos) tb):PE X (.BoolOp .Or (a::b::rest) pos) (N6 ta tb):=by
 intro pins s σ H Q I h;refine BoolOp_or (bG (ha pins s σ H _ I h) λv s1 ⟨x,H1,I1,r1,q1⟩=>?_);obtain⟨c,rfl,q1⟩:=q1;cases r1;refine XJ ?_;cases c with
 |false=>exact hb pins s1 σ H1 Q I1 q1
 |true=>exact{.bl true,H1,I1,rfl,q1}
end
def eQ (K:PySem.W.Frag)(H:Hp)(a:Addr)(xs:List V):Prop :=
 Rd H a (.lst xs) \/
  ∃(o:Obj) (its:Array VT) (n:Nat),K.lookup a=some o/\o.cls=.type "list" /\ o.dict=none/\o.data=.seq its n/\its.size<=Wi/\Vals xs its.toList
def nW (K:PySem.W.Frag)(H:Hp)(a:Addr)(xs:List V):Prop :=
 Rd H a (.tup xs) \/
  ∃(o:Obj) (its:Array VT) (n:Nat),K.lookup a=some o/\o.cls=.type "tuple" /\ o.data=.seq its n/\its.size<=Wi/\Vals xs its.toList
noncomputable def QY:VT->Option V
 |.none=>some .ck
 |.bool b=>some (.bl b)
 |.int i _=>some (.int i)
 |.str x _=>some (.str x)
 |.bytes b _=>some (.CM b)
 |.float b _=>some (.QL b)
 |.ref a=>some (.ref a)
 |.type n=>some (.ty n)
 |_=>none
def RelV.abs {x:V}{u:VT}(r:RelV x u):QY u=some x:=by
 cases x with
 |ck=>cases r;rfl
 |bl _=>cases r;rfl
 |int _=>obtain⟨t,rfl⟩:=r;rfl
 |str _=>obtain⟨t,rfl⟩:=r;rfl
 |CM _=>obtain⟨t,rfl⟩:=r;rfl
 |QL _=>obtain⟨t,rfl⟩:=r;rfl
 |ref _=>cases r;rfl
 |ty _=>cases r;rfl
def RelV.inj {x y:V}{u:VT}(r:RelV x u)(q:RelV y u):x=y:=WA (r.abs.symm.trans q.abs)
theorem Vals.inj:∀{xs ys:List V} {us:List VT},Vals xs us->Vals ys us->xs=ys
 |_,_,_,.nil,.nil=>rfl
 |_,_,_,.cons r t,.cons r' t'=>by rw[r.inj r',Vals.inj t t']
section
variable {X:Cx}{pins:List (Addr×Obj)}{σ:St}{H:Hp}{s:VY}{a:Addr}{xs ys:List V}
def eQ.of {K:PySem.W.Frag}(h:H a=some (.lst xs)):eQ K H a xs:=.inl (.inl h)
def nW.of {K:PySem.W.Frag}(h:H a=some (.tup xs)):nW K H a xs:=.inl (.inl h)
def Inv.list (I:Inv X pins σ H s)(h:eQ X.K H a xs):∃its:List VT,Vals xs its/\PlainL s.heap a its.toArray/\xs.length<=Wi:=by
 rcases h with h|⟨o,its,n,hk,hc,hd,hs,hz,r⟩
 ·obtain⟨z,its,n,r,e⟩:=h.ok I.bY;exact{its,r,{_,n,e,rfl,rfl,rfl},z}
 ·refine{its.toList,r,{o,n,I.J0 a o hk,hc,hd,by simpa using hs},?_}
  have e:=r.length;simp only[Wa]at e;lia
def Inv.tuple (I:Inv X pins σ H s)(h:nW X.K H a xs):∃its:List VT,Vals xs its/\IsTup s.heap a its.toArray/\xs.length<=Wi:=by
 rcases h with h|⟨o,its,n,hk,hc,hs,hz,r⟩
 ·obtain⟨z,its,r,p⟩:=h.ok I.bY;exact{(its),r,p,z}
 ·refine{its.toList,r,{o,I.J0 a o hk,hc,n,by simpa using hs},?_}
  have e:=r.length;simp only[Wa]at e;lia
def Inv.Bz (I:Inv X pins σ H s)(h:eQ X.K H a xs)(h':eQ X.K H a ys):xs=ys:=by
 obtain⟨its,r,⟨o,n,e,_,_,d⟩,_⟩:=I.list h;obtain⟨its',r',⟨o',n',e',_,_,d'⟩,_⟩:=I.list h';rw[e]at e';cases e';rw[d]at d';injection d' with d1 _
 have:its=its':=by simpa using congrArg Array.toList d1
 subst this;exact r.inj r'
def Inv.yc (I:Inv X pins σ H s)(h:nW X.K H a xs)(h':nW X.K H a ys):xs=ys:=by
 obtain⟨its,r,⟨o,e,_,n,d⟩,_⟩:=I.tuple h;obtain⟨its',r',⟨o',e',_,n',d'⟩,_⟩:=I.tuple h';rw[e]at e';cases e';rw[d]at d';injection d' with d1 _
 have:its=its':=by simpa using congrArg Array.toList d1
 subst this;exact r.inj r'
end
noncomputable abbrev Cx.oq (X:Cx)(E:VT->VY->Prop):Cx:={X with xe:=E}
abbrev Cx.F2 (X:Cx):Cx:=X.oq λ_ _=>False
noncomputable def Cx.Ok.oq {X:Cx}(ok:X.Ok)(E:VT->VY->Prop):(X.oq E).Ok :=
 {(ok.mod),ok.kind,ok.glob,ok.blt,ok.above,ok.inj,ok.has,ok.MT,ok.hd,ok.frames,ok.Nf,ok.NP,ok.bs,ok.GD,ok.Bl,ok.Cr,ok.nk,ok.J5}
def Cx.Ok.gF {X:Cx}{E:VT->VY->Prop}(ok:(X.oq E).Ok):X.Ok :=
 {(ok.mod),ok.kind,ok.glob,ok.blt,ok.above,ok.inj,ok.has,ok.MT,ok.hd,ok.frames,ok.Nf,ok.NP,ok.bs,ok.GD,ok.Bl,ok.Cr,ok.nk,ok.J5}
section
variable {X:Cx}{pins:List (Addr×Obj)}{σ:St}{H:Hp}{s:VY}{E:VT->VY->Prop}
noncomputable def Inv.oq (I:Inv X pins σ H s)(E:VT->VY->Prop):Inv (X.oq E) pins σ H s:={I.ok.oq E,I.os,I.bare,I.base,I.loc,I.cell,I.free,I.iI,I.pin,I.bY,I.len}
def Inv.gF (I:Inv (X.oq E) pins σ H s):Inv X pins σ H s:={(I.ok.gF),I.os,I.bare,I.base,I.loc,I.cell,I.free,I.iI,I.pin,I.bY,I.len}
def SP.gF {D:Ends}{f:Flow}{s':VY}(h:SP (X.oq E) pins D f s'):SP X pins D f s':=by
 cases f with
 |next=>obtain⟨σ',H',I,q⟩:=h;exact{(σ'),H',I.gF,q}
 |brk=>obtain⟨σ',H',I,q⟩:=h;exact{(σ'),H',I.gF,q}
 |cont=>obtain⟨σ',H',I,q⟩:=h;exact{(σ'),H',I.gF,q}
 |ret u=>obtain⟨v,σ',H',I,r,q⟩:=h;exact{(v),σ',H',I.gF,r,q}
def rX.F2 {st:List Stmt}{t:TS}(h:rX X.F2 st t):rX X st t:=λpins s σ H D I hw =>
 YZ (h pins s σ H D (I.oq _) hw) (λ_ _ q=>q.gF) λ_ _ z=>Ym z
end
section
variable {X:Cx}{st:Stmt}{rest:List Stmt}{t u:TS}{e:Expr}{te:TE}{pos:Pos}
def Kq:TS:=λD σ H=>D.nx σ H
def N4 (t u:TS):TS:=λD σ H=>t {D with nx:=u D} σ H
def wX:rX X [] Kq:=λ_ _ σ H _ I h=>Zw {(σ),H,I,h}
def eC (h1:PS X st t)(h2:rX X rest u):rX X (st::rest) (N4 t u):=by
 intro pins s σ H D I h;refine wpAny_execs_cons (bG (h1 pins s σ H {D with nx:=u D} I h) λf s1 q=>?_)
 cases f with
 |next =>
  obtain⟨σ',H',I',q⟩:=q;exact h2 pins s1 σ' H' D I' q
 |ret v=>exact q
 |brk=>exact q
 |cont=>exact q
def jC (h1:PS X st t):rX X [st] t:=by
 intro pins s σ H D I h;refine wpAny_execs_cons (bG (h1 pins s σ H D I h) λf s1 q=>?_);cases f with
 |next=>exact Zw q
 |ret v=>exact q
 |brk=>exact q
 |cont=>exact q
def Inv.quiet {pins:List (Addr×Obj)}{σ:St}{H:Hp}{s:VY}(I:Inv X pins σ H s):interactive X.env=false:=by simp[interactive,I.ok.kind]
def Kr (te:TE):TS:=λD σ H=>te σ H λ_ H1=>D.nx σ H1
def lK (he:PE X e te)(hs:X9 e none pos.line X.env=pure false:=by rfl):PS X (.Expr e pos) (Kr te):=by
 intro pins s σ H D I h;exact wpAny_Expr_any (bG (he pins s σ H _ I h) λv s1 BR=>by obtain⟨x,H1,I1,r1,q1⟩:=BR;exact{(σ),H1,I1,q1}) I.quiet hs
def N5 (te:TE):TS:=λD σ H=>te σ H D.rt
def iX (he:PE X e te):PS X (.Return (some e) pos) (N5 te):=by
 intro pins s σ H D I h;exact wpAny_Return_some (bG (he pins s σ H _ I h) λv s1 BQ=>by obtain⟨x,H1,I1,r1,q1⟩:=BQ;exact{(x),σ,H1,I1,r1,q1})
def N9 (c:TT)(t u:TS):TS:=λD σ H=>c σ H λb H1=>if b=true then t D σ H1 else u D σ H1
def FR {c:Expr}{a b:List Stmt}{tc:TT}(hc:PT X c tc)(ha:rX X a t)(hb:rX X b u):PS X (.If c a b pos) (N9 tc t u):=by
 intro pins s σ H D I h;refine wpAny_If (bG (hc pins s σ H _ I h) λd s1 ⟨H1,I1,q1⟩=>?_);cases d with
 |true=>exact ha pins s1 σ H1 D I1 q1
 |false=>exact hb pins s1 σ H1 D I1 q1
def Hf:TS:=λ_ _ _=>False
def yA {S_:List Stmt}:rX X S_ Hf:=λ_ _ _ _ _ _ h=>h.elim
end
abbrev TG:=V->St->Hp->(St->Hp->Prop)->Prop
abbrev GF:=List V->St->Hp->(St->Hp->Prop)->Prop
def PG (X:Cx)(target:Expr)(t:TG):Prop :=
 ∀(pins:List (Addr×Obj)) (s:VY) (σ:St) (H:Hp) (v:V) (u:VT) (Q:St->Hp->Prop),Inv X pins σ H s->RelV v u->t v σ H Q ->
  WM (model X.prog X.w) X.A (assign target X.env u) (λ_ s'=>∃σ' H',Inv X pins σ' H' s'/\Q σ' H') X.xe s
def GJ (X:Cx)(ts:List Expr)(t:GF):Prop :=
 ∀(pins:List (Addr×Obj)) (s:VY) (σ:St) (H:Hp) (vs:List V) (us:List VT) (Q:St->Hp->Prop),Inv X pins σ H s->Vals vs us->t vs σ H Q ->
  WM (model X.prog X.w) X.A (assignInOrder ((X6 ts X.env).map (·.2)) us) (λ_ s'=>∃σ' H',Inv X pins σ' H' s'/\Q σ' H') X.xe s
abbrev JP:=V->V->V->Hp->(Hp->Prop)->Prop
def MZ (X:Cx)(t:JP):Prop :=
 ∀(pins:List (Addr×Obj)) (s:VY) (σ:St) (H:Hp) (o i v:V) (ov iv u:VT) (Q:Hp->Prop),Inv X pins σ H s->RelV o ov->RelV i iv->RelV v u->t o i v H Q ->
  WM (model X.prog X.w) X.A (setItem ov iv u) (λ_ s'=>∃H',Inv X pins σ H' s'/\Q H') X.xe s
section
variable {X:Cx}{pos:Pos}
def Gs (i:Nat):TG:=λv σ H Q=>Q (σ.set i (some v)) H
def DV {i:Nat}{x:Str}(hN:X.N.Nodup)(hi:X.N[i]?=some x)(hx:Loc X.env.scope x)(hf:X.fn x=true\/X.env.scope.names.lookup x=some .local:=by first|exact .inl rfl|exact .inr rfl|assumption):PG X (.Name x pos) (Gs i):=by
 intro pins s σ H v u Q I r h;exact wpAny_assign_Name (su I hN hi hx r (λs' I'=>{_,H,I',h}) hf)
def Jr:GF:=λvs σ H Q=>vs=[]/\Q σ H
def B_ (t:TG)(u:GF):GF:=λvs σ H Q=>∃v r,vs=v::r/\t v σ H λσ' H'=>u r σ' H' Q
def DU:GJ X [] Jr:=by
 intro pins s σ H vs us Q I r h;obtain⟨e,h⟩:=h;subst e;cases r;exact assignInOrder_nil {(σ),H,I,h}
def AS {e:Expr}{es:List Expr}{t:TG}{u:GF}(h1:PG X e t)(h2:GJ X es u)
  (hs:(X6 (e::es) X.env).map (·.2)=assign e X.env::(X6 es X.env).map (·.2):=by rfl):GJ X (e::es) (B_ t u):=by
 intro pins s σ H vs us Q I r h;obtain⟨v,vr,e1,h⟩:=h;subst e1;cases r with
 |cons r rr =>
  rw[hs];refine assignInOrder_cons (bG (h1 pins s σ H _ _ _ I r h) λ_ s1 ⟨σ1,H1,I1,q1⟩=>?_);exact h2 pins s1 σ1 H1 _ _ Q I1 rr q1
def QI (K:PySem.W.Frag)(n:Nat)(t:GF):TG:=λv σ H Q=>∃a xs,v=.ref a/\nW K H a xs/\xs.length=n/\t xs σ H Q
def HH {es:List Expr}{k:Nat}{t:GF}{n:Nat}(hc:X.calm=true)(h:GJ X es t)
  (hn:(X6 es X.env).length=n:=by rfl) (LH:(X6 es X.env).findIdx? (·.1)=none:=by rfl):PG X (.Tuple es k pos) (QI X.K n t):=by
 intro pins s σ H v u Q I r hw;obtain⟨a,xs,e1,hq,hl,hw⟩:=hw;subst e1;cases r;obtain⟨its,rv,ht,hz⟩:=I.tuple hq;refine assign_Tuple_tuple (I.ok.hd hc) ht (by simp[hn,<- hl,rv.length]) LH λh' hx=>?_
 have I1:Inv X pins σ H {s with heap:=h'}:=I.kept (t':=s.toks) λb o e=>hx b o (WX (Wt e)) e
 exact h pins _ σ H xs _ Q I1 (by simpa using rv) hw
def QJ (to ti:TE)(t:JP):TG:=λv σ H Q=>to σ H λo H1=>ti σ H1 λi H2=>t o i v H2 λH3=>Q σ H3
def AU {o i:Expr}{to ti:TE}{t:JP}(ho:PE X o to)(hi:PE X i ti)(hs:MZ X t)
  (ha:∀v,assign (.Subscript o i pos) X.env v=(do
   let ov <- holding [v] (eval o X.env)
   let iv <- holding [v,ov] (eval i X.env)
   Y8 pos
   holding [v,ov,iv] (setItem ov iv v)
   release [v,ov,iv] []):=by intro _;rfl):PG X (.Subscript o i pos) (QJ to ti t):=by
 intro pins s σ H v u Q I r h;rw[ha];refine VV (Xo (bG (ho pins s σ H _ I h) λov s1 ⟨x,H1,I1,r1,q1⟩=>?_));refine VV (Xo (bG (hi pins s1 σ H1 _ I1 q1) λiv s2 ⟨y,H2,I2,r2,q2⟩=>?_));refine VV (XZ (VV (Xo (bG (hs pins s2 σ H2 x y v ov iv u _ I2 r1 r2 r q2) λ_ s3 ⟨H3,I3,q3⟩=>?_))));exact wpAny_release {(σ),H3,I3,q3}
def Kt (te:TE)(g:TG):TS:=λD σ H=>te σ H λx H1=>g x σ H1 D.nx
def vx {tg e:Expr}{te:TE}{g:TG}(he:PE X e te)(hg:PG X tg g)(hs:swapsWithSole [tg] e pos.line X.env=pure false:=by rfl)(hw:swappedStores [tg] e X.env=pure none:=by rfl)
  (h1:(X6 [tg] X.env).map (·.2)=[assign tg X.env]:=by rfl):PS X (.Assign [tg] e pos) (Kt te g):=by
 intro pins s σ H D I h;refine wpAny_Assign_stores (bG (he pins s σ H _ I h) λv s1 ⟨x,H1,I1,r1,q1⟩=>?_) hs hw;rw[h1];exact bG (hg pins s1 σ H1 x v _ I1 r1 q1) λ_ s2 q=>q
def vw {i:Nat}{x:Str}{e:Expr}{te:TE}{pos':Pos}(hN:X.N.Nodup)(hi:X.N[i]?=some x)(hx:Loc X.env.scope x)(he:PE X e te)(hs:X9 e (some (.Name x pos')) pos.line X.env=pure false:=by rfl)(hf:X.fn x=true\/X.env.scope.names.lookup x=some .local:=by first|exact .inl rfl|exact .inr rfl|assumption):
  PS X (.Assign [.Name x pos'] e pos) (Kt te (Gs i)):=by
 intro pins s σ H D I h;refine wpAny_Assign_Name (bG (he pins s σ H _ I h) λv s1 ⟨y,H1,I1,r1,q1⟩=>?_) hs;exact su I1 hN hi hx r1 (λs2 I2=>{_,H1,I2,q1}) hf
end
section
variable {X:Cx}{pos:Pos}
def Ha (c:TT)(tb:TS):TS:=λD σ H=>∃W:Nat->St->Hp->Prop,(∃m,W m σ H)/\∀m σ H,W m σ H ->
 c σ H λb H1=>if b=true then ∃N:St->Hp->Prop,(∀σ' H',N σ' H'->∃m',m'<m/\W m' σ' H')/\tb {D with nx:=N,ct:=N,bk:=D.nx} σ H1 else D.nx σ H1
def AG {c:Expr}{body:List Stmt}{tc:TT}{tb:TS}(hp:PassesOwn (model X.prog X.w) X.A X.env X.xe)(hc:PT X c tc)(hb:rX X body tb):PS X (.While c body [] pos) (Ha tc tb):=by
 intro pins s σ H D I h;obtain⟨W,⟨m0,w0⟩,turn⟩:=h;refine wpAny_While (codeAny_whileLoop (λn s'=>∃σ' H',Inv X pins σ' H' s'/\W n σ' H') ?_ m0 {(σ),H,I,w0});rintro n s1 ⟨σ1,H1,I1,w1⟩;refine X8 hp (bG (hc pins s1 σ1 H1 _ I1 (turn n σ1 H1 w1)) λb s2 ⟨H2,I2,q2⟩=>?_);cases b with
 |true =>
  obtain⟨N,hN,q2⟩:=q2;rw[if_pos rfl];refine X8 hp (bG (hb pins s2 σ1 H2 _ I2 q2) λf s3 q3=>?_);cases f with
  |next =>
   obtain⟨σ3,H3,I3,n3⟩:=q3;obtain⟨m',hm,w3⟩:=hN σ3 H3 n3;exact{(m'),hm,σ3,H3,I3,w3}
  |cont =>
   obtain⟨σ3,H3,I3,n3⟩:=q3;obtain⟨m',hm,w3⟩:=hN σ3 H3 n3;exact{(m'),hm,σ3,H3,I3,w3}
  |brk=>exact q3
  |ret v=>exact q3
 |false =>
  rw[if_neg W4];exact Zw {(σ1),H2,I2,q2}
end
structure It where
 go:Nat->Hp->Prop
 Ki:Nat->Hp->V->Hp->Prop
 stop:Nat->Hp->Prop
def je (X:Cx)(pins:List (Addr×Obj))(H:Hp)(b:Addr):Prop :=
 H b=none/\b≠X.env.locals/\b∉X.fs/\(b∈X.ex\/X.s₀.heap.objs.size<=b)/\(∀x c,X.env.cells.lookup x=some c->c≠b)/\∀p∈X.pn++pins,p.1≠b
def Inv.Ce {X:Cx}{pins:List (Addr×Obj)}{σ:St}{H H':Hp}{s:VY}{b:Addr}(I:Inv X pins σ H s)(hb:s.heap.objs.size<=b)(hn:H' b=none):je X pins H' b:=by
 refine{hn,Nat.ne_of_gt (WI I.lt hb),I.OX hb,.inr (WG I.sz hb),λx c e z=>?_,λp hp z=>?_}
 ·obtain⟨v,q⟩:=I.cell x c e;exact absurd (WI q.lt (by rw[z];exact hb)) (XG _)
 ·exact absurd (WI (Wt (I.pin p hp).1) (by rw[z];exact hb)) (XG _)
structure Turn (P:V2)(w:Wm)(K:PySem.W.Frag)(tg:Expr)(J:It)(fp:List Addr)(it:Addr)(tn:Nat->Heap->Prop):Prop where
 mem:it∈fp
 obj:∀i h,tn i h->∀b∈fp,∃o,h.get? b=some o/\∀v,o.data≠.cell v
 keep:∀i h h',tn i h->(∀b∈fp,∀o,h.get? b=some o->h'.get? b=some o)->tn i h'
 item:∀(X:Cx),X.prog=P->X.w=w->X.K=K->X.calm=true->∀(i:Nat) (pins:List (Addr×Obj)) (s:VY) (σ:St) (H:Hp) (E:VT->VY->Prop),Inv X pins σ H s->(∀b∈fp,je X pins H b)->tn i s.heap->J.go i H ->
  WM (model P w) X.A (pyNext (.ref it)) (λr s1=>∃u,r=some u /\
   WM (model P w) X.A (Zx tg (.ref it) u) (λ_ s2=>∃x H',Inv X pins σ H' s2/\RelV x u/\J.Ki i H x H'/\tn (i+1) s2.heap/\∀b∈fp,H' b=none) E s1) E s
 done:∀(X:Cx),X.prog=P->X.w=w->X.K=K->X.calm=true->∀(i:Nat) (pins:List (Addr×Obj)) (s:VY) (σ:St) (H:Hp) (E:VT->VY->Prop),Inv X pins σ H s->(∀b∈fp,je X pins H b)->tn i s.heap->J.stop i H ->
  WM (model P w) X.A (pyNext (.ref it)) (λr s1=>r=none/\Inv X pins σ H s1) E s
 self:∀(A:Xd) (i:Nat) (s:VY) (Q:VT->VY->Prop) (E:VT->VY->Prop),tn i s.heap->Q (.ref it) s->WM (model P w) A (pyIter (.ref it)) Q E s
abbrev TI:=St->Hp->(It->Hp->Prop)->Prop
def NU (X:Cx)(pins:List (Addr×Obj))(σ:St)(tg:Expr)(R:It->Hp->Prop)(Gg:VT)(s2:VY):Prop :=
 ∃(it:Addr) (fp:List Addr) (tn:Nat->Heap->Prop) (J:It) (H':Hp),Gg=.ref it/\Inv X pins σ H' s2/\Turn X.prog X.w X.K tg J fp it tn/\tn 0 s2.heap/\(∀b∈fp,je X pins H' b)/\R J H'
def PI (X:Cx)(tg iter:Expr)(wi:TI):Prop :=
 ∀(pins:List (Addr×Obj)) (s:VY) (σ:St) (H:Hp) (R:It->Hp->Prop),Inv X pins σ H s->wi σ H R ->
  WM (model X.prog X.w) X.A (eval iter X.env) (λv s1=>WM (model X.prog X.w) X.A (pyIter v) (NU X pins σ tg R) X.xe s1) X.xe s
def xA {M:Model}{A:Xd}{E:VT->VY->Prop}{s:VY}{tg:Expr}{it:Addr}{u:VT}{o:Obj}{n:String}{vs:Array VT}{Q:Unit->VY->Prop}(ho:s.heap.get? it=some o)(hc:o.cls=.type n)(hd:o.data=.fields vs)
  (hn:["enumerate","zip","dict_itemiterator","dict_reverseitemiterator","odict_iterator","itertools.zip_longest","itertools.pairwise"].contains n=false) (hQ:Q () s):WM M A (Zx tg (.ref it) u) Q E s:=by
 unfold Zx;cases tg <;> first
  |exact Wd hQ
  | (cases u <;> first
    |exact Wd hQ
    | (refine VV (wpAny_load ho ?_)
       rw[hc,hd];show WM M A (if (["enumerate","zip","dict_itemiterator","dict_reverseitemiterator","odict_iterator","itertools.zip_longest","itertools.pairwise"].contains n&&vs[0]?==some (rawInt _))=true then _ else _) Q E s
       rw[if_neg (by intro h;rw[hn,Bool.false_and]at h;cases h)]
       exact Wd hQ))
def NY (K:PySem.W.Frag)(a:Addr):It :=
 {λi H=>∃xs x,eQ K H a xs/\xs[i]?=some x,λi H x H'=>H'=H/\∀xs,eQ K H a xs->xs[i]?=some x,λi H=>∃xs,eQ K H a xs/\xs.length<=i}
def Q5 (K:PySem.W.Frag)(a:Addr):It :=
 {λi H=>∃xs x,nW K H a xs/\xs[i]?=some x,λi H x H'=>H'=H/\∀xs,nW K H a xs->xs[i]?=some x,λi H=>∃xs,nW K H a xs/\xs.length<=i}
def M4 (lo:Int)(n:Nat):It:={λi _=>i<n,λi H x H'=>H'=H/\x=.int (lo+i),λi _=>n<=i}
def yb {P:V2}{w:Wm}{K:PySem.W.Frag}{tg:Expr}(a it:Addr):Turn P w K tg (NY K a) [it] it (λi h=>h.IsListIter it a i) where
 mem:=by simp
 obj:=λi h st b hb=>by
  have e:b=it:=by simpa using hb
  subst e;obtain⟨o,e,c,d⟩:=st;exact{o,e,λv z=>by rw[d]at z;cases z}
 keep:=λi h h' st k=>st.at λo e=>k it (by simp) o e
 item:=by
  intro X hP hw hK hc i pins s σ H E I hf st hg;subst hP hw hK;obtain⟨xs,x,hq,hx⟩:=hg;obtain⟨its,rv,p,hz⟩:=I.list hq;obtain⟨u,hu,ru⟩:=rv.get hx;obtain⟨f0,f1,f2,f3,f4,f5⟩:=hf it (by simp)
  refine wpAny_pyNext_list_item st p.isList (x:=u) (by simpa using hu) λh' aA sb=>?_
  have I1:Inv X pins σ H {s with heap:=h'}:=I.turned (t':=s.toks) (λb o hb e=>(sb.2 b hb).trans e) f0 f1 f3 f4 f5
  obtain⟨o,e,c,d⟩:=id aA;exact{u,rfl,xA (s:={s with heap:=h'}) e c d (by decide) {x,H,I1,ru,{rfl,λys hy=>by rw[I.Bz hy hq];exact hx},aA,λb hb=>(hf b hb).1}}
 done:=by
  intro X hP hw hK hc i pins s σ H E I hf st hg;subst hP hw hK;obtain⟨xs,hq,hx⟩:=hg;obtain⟨its,rv,p,hz⟩:=I.list hq;obtain⟨f0,f1,f2,f3,f4,f5⟩:=hf it (by simp)
  have hl:=rv.length;exact wpAny_pyNext_list_end (I.ok.hd hc) st p.isList (by simp;lia) λh' eb=>{rfl,I.turned (t':=s.toks) (λb o hb e=>eb b o hb e) f0 f1 f3 f4 f5}
 self:=λ_ _ _ _ _ st h=>wpAny_pyIter_listiter st h
def va {P:V2}{w:Wm}{K:PySem.W.Frag}{tg:Expr}(a it:Addr):Turn P w K tg (Q5 K a) [it] it (λi h=>h.IsTupleIter it a i) where
 mem:=by simp
 obj:=λi h st b hb=>by
  have e:b=it:=by simpa using hb
  subst e;obtain⟨o,e,c,d⟩:=st;exact{o,e,λv z=>by rw[d]at z;cases z}
 keep:=λi h h' st k=>st.at λo e=>k it (by simp) o e
 item:=by
  intro X hP hw hK hc i pins s σ H E I hf st hg;subst hP hw hK;obtain⟨xs,x,hq,hx⟩:=hg;obtain⟨its,rv,p,hz⟩:=I.tuple hq;obtain⟨u,hu,ru⟩:=rv.get hx;obtain⟨f0,f1,f2,f3,f4,f5⟩:=hf it (by simp)
  refine wpAny_pyNext_tuple_item st (show s.heap.IsTuple a its.toArray from p) (x:=u) (by simpa using hu) λh' aA sb=>?_
  have I1:Inv X pins σ H {s with heap:=h'}:=I.turned (t':=s.toks) (λb o hb e=>(sb.2 b hb).trans e) f0 f1 f3 f4 f5
  obtain⟨o,e,c,d⟩:=id aA;exact{u,rfl,xA (s:={s with heap:=h'}) e c d (by decide) {x,H,I1,ru,{rfl,λys hy=>by rw[I.yc hy hq];exact hx},aA,λb hb=>(hf b hb).1}}
 done:=by
  intro X hP hw hK hc i pins s σ H E I hf st hg;subst hP hw hK;obtain⟨xs,hq,hx⟩:=hg;obtain⟨its,rv,p,hz⟩:=I.tuple hq;obtain⟨f0,f1,f2,f3,f4,f5⟩:=hf it (by simp)
  have hl:=rv.length;exact wpAny_pyNext_tuple_end (I.ok.hd hc) st (show s.heap.IsTuple a its.toArray from p) (by simp;lia) λh' eb=>{rfl,I.turned (t':=s.toks) (λb o hb e=>eb b o hb e) f0 f1 f3 f4 f5}
 self:=λ_ _ _ _ _ st h=>wpAny_pyIter_tupleiter st h
def vb {P:V2}{w:Wm}{K:PySem.W.Frag}{tg:Expr}(it:Addr)(lo:Int)(n:Nat):Turn P w K tg (M4 lo n) [it] it (λi h=>IsRangeIter h it (lo+(i:Nat)*1) ((n:Int)-(i:Nat)) 1) where
 mem:=by simp
 obj:=λi h st b hb=>by
  have e:b=it:=by simpa using hb
  subst e;exact⟨_,st,λv z=>by
   have z':Data.fields _=Data.cell v:=z;cases z'⟩
 keep:=λi h h' st k=>k it (by simp) _ st
 item:=by
  intro X hP hw hK hc i pins s σ H E I hf st hg;subst hP hw hK;obtain⟨f0,f1,f2,f3,f4,f5⟩:=hf it (by simp)
  have W:=Walks.range (prog:=X.prog) (w:=X.w) (I.ok.hd hc) it lo 1 n;refine W.item i s _ _ hg st λv h' tk hv aA kk=>?_;obtain⟨t,rfl⟩:=hv;have I1:Inv X pins σ H {s with heap:=h',toks:=tk}:=I.turned (λb o hb e=>kk b o (by simpa using hb) e) f0 f1 f3 f4 f5
  refine{_,rfl,xA (s:={s with heap:=h',toks:=tk}) (n:="range_iterator") aA rfl rfl (by decide) {.int (lo+i),H,I1,{t,?_},{(rfl),rfl},aA,λb hb=>(hf b hb).1}}
  rw[Int.mul_one]
 done:=by
  intro X hP hw hK hc i pins s σ H E I hf st hg;subst hP hw hK;obtain⟨f0,f1,f2,f3,f4,f5⟩:=hf it (by simp)
  exact wpAny_pyNext_range_end (I.ok.hd hc) st (by have:n<=i:=hg;lia) λh' eb=>{rfl,I.turned (t':=s.toks) (λb o hb e=>eb b o hb e) f0 f1 f3 f4 f5}
 self:=λ_ _ _ _ _ st h=>wpAny_pyIter_rangeiter st h
section
variable {X:Cx}{tg:Expr}
def LB (K:PySem.W.Frag)(tl:TE):TI:=λσ H R=>tl σ H λx H1=>∃a,x=.ref a/\(∃xs,eQ K H1 a xs)/\R (NY K a) H1
def Pa (K:PySem.W.Frag)(tl:TE):TI:=λσ H R=>tl σ H λx H1=>∃a,x=.ref a/\(∃xs,nW K H1 a xs)/\R (Q5 K a) H1
def w_ {l:Expr}{tl:TE}(hl:PE X l tl):PI X tg l (LB X.K tl):=by
 intro pins s σ H R I h;refine bG (hl pins s σ H _ I h) λv s1 ⟨x,H1,I1,r1,q1⟩=>?_;obtain⟨a,e,⟨xs,hq⟩,q⟩:=q1;subst e;cases r1;obtain⟨its,rv,p,hz⟩:=I1.list hq;refine wpAny_pyIter_list p.isList ?_;refine{s1.heap.objs.size,[s1.heap.objs.size],_,_,H1,rfl,I1.kept (t':=s1.toks) λb o e=>V6 _ e,yb a _,{_,WT _ rfl,rfl,rfl},λb hb=>?_,q};have e:b=s1.heap.objs.size:=by simpa using hb
 subst e;exact I1.Ce (VR _) (I1.bY.fresh (VR _))
def HG {l:Expr}{tl:TE}(hl:PE X l tl):PI X tg l (Pa X.K tl):=by
 intro pins s σ H R I h;refine bG (hl pins s σ H _ I h) λv s1 ⟨x,H1,I1,r1,q1⟩=>?_;obtain⟨a,e,⟨xs,hq⟩,q⟩:=q1;subst e;cases r1;obtain⟨its,rv,p,hz⟩:=I1.tuple hq;refine wpAny_pyIter_tuple (show s1.heap.IsTuple a its.toArray from p) ?_
 refine{s1.heap.objs.size,[s1.heap.objs.size],_,_,H1,rfl,I1.kept (t':=s1.toks) λb o e=>V6 _ e,va a _,{_,WT _ rfl,rfl,rfl},λb hb=>?_,q};have e:b=s1.heap.objs.size:=by simpa using hb
 subst e;exact I1.Ce (VR _) (I1.bY.fresh (VR _))
def sO {pins:List (Addr×Obj)}{σ:St}{H:Hp}{s:VY}{R:It->Hp->Prop}{E:VT->VY->Prop}{lo hi:Int}{t u v:Tok}{tk:Nat}(I:Inv X pins σ H s)(h1:-(2 ^ 62)<=lo)(h2:lo<2 ^ 62)(h3:-(2 ^ 62)<=hi)(h4:hi<2 ^ 62)
  (q:R (M4 lo (hi-lo).toNat) H):WM (model X.prog X.w) X.A (pyIter (.ref s.heap.objs.size)) (NU X pins σ tg R) E {s with heap:=s.heap.push {cls:=.type "range",data:=.fields #[.int lo t,.int hi u,.int 1 v]},toks:=tk}:=by
 refine wpAny_pyIter_range (IsRange.new ..) (small_one h1 h2 h3 h4) ?_;have I1:Inv X pins σ H {s with heap:=s.heap.push {cls:=.type "range",data:=.fields #[.int lo t,.int hi u,.int 1 v]},toks:=tk}:=I.kept λb o e=>V6 _ e
 refine⟨(s.heap.push {cls:=.type "range",data:=.fields #[.int lo t,.int hi u,.int 1 v]}).objs.size,[(s.heap.push {cls:=.type "range",data:=.fields #[.int lo t,.int hi u,.int 1 v]}).objs.size],_,_,H,rfl,
  I1.kept (t':=tk) λb o e=>V6 _ e,vb _ lo (hi-lo).toNat,?_,λb hb=>?_,q⟩
 ·have e1:lo+((0:Nat):Int)*1=lo:=by simp
  have e2:(((hi-lo).toNat:Nat):Int)-((0:Nat):Int)=X2 lo hi 1:=by rw[rangeSize_one];split <;> lia
  show IsRangeIter _ _ (lo+((0:Nat):Int)*1) ((((hi-lo).toNat:Nat):Int)-((0:Nat):Int)) 1;rw[e1,e2];exact WT _ rfl
 ·have e:b=(s.heap.push {cls:=.type "range",data:=.fields #[.int lo t,.int hi u,.int 1 v]}).objs.size:=by simpa using hb
  subst e;exact I1.Ce (VR _) (I1.bY.fresh (VR _))
def LA (ta:TA):TI:=λσ H R=>ta σ H λvs H1=>∃j:Int,vs=[.int j]/\-(2 ^ 62)<=j/\j<2 ^ 62/\R (M4 0 j.toNat) H1
def Lz (ta:TA):TI:=λσ H R=>ta σ H λvs H1=>∃i j:Int,vs=[.int i,.int j]/\(-(2 ^ 62)<=i/\i<2 ^ 62/\-(2 ^ 62)<=j/\j<2 ^ 62)/\R (M4 i (j-i).toNat) H1
def yF {a:Expr} {ta:TA} {p pos:Pos} (hg:Gl X "range") (hm:X.mg "range" = none) (ha:PA X [a] ta) (hs:Wj [a] X.env=[(false,eval a X.env)]:=by rfl):PI X tg (.Call (.Name "range" p) [a] [] pos) (LA ta):=by
 intro pins s σ H R I h;refine Call_ (gV I hg hm boot_range (XA (bG (ha pos pins s σ H _ I h) λus s1 ⟨vs,H1,I1,r1,q1⟩=>?_) hs rfl));obtain⟨j,e,q1,q2,q⟩:=q1;subst e;cases r1 with
 |cons r rr =>
  cases rr;obtain⟨t,rfl⟩:=r;exact call_range_1 (sO I1 (by lia) (by lia) q1 q2 (by simpa using q))
def pA {a b:Expr} {ta:TA} {p pos:Pos} (hg:Gl X "range") (hm:X.mg "range" = none) (ha:PA X [a,b] ta) (hs:Wj [a,b] X.env=[(false,eval a X.env),(false,eval b X.env)]:=by rfl) (t8:Wj [b] X.env=[(false,eval b X.env)]:=by rfl) :
  PI X tg (.Call (.Name "range" p) [a,b] [] pos) (Lz ta):=by
 intro pins s σ H R I h;refine Call_ (gV I hg hm boot_range (XA (bG (ha pos pins s σ H _ I h) λus s1 ⟨vs,H1,I1,r1,q1⟩=>?_) (by rw[hs,t8]) (by rw[t8];rfl)))
 obtain⟨i,j,e,⟨q1,q2,q3,q4⟩,q⟩:=q1;subst e;cases r1 with
 |cons r rr =>
  cases rr with
  |cons r' rr =>
   cases rr;obtain⟨t,rfl⟩:=r;obtain⟨t',rfl⟩:=r';exact call_range_2 (sO I1 q1 q2 q3 q4 q)
def N_ (wi:TI)(g:TG)(tb:TS):TS:=λD σ H=>wi σ H λJ H1=>∃W:Nat->Nat->St->Hp->Prop,(∃m,W 0 m σ H1)/\∀i m σ H,W i m σ H ->
 (J.stop i H/\D.nx σ H)\/(J.go i H/\∃N:St->Hp->Prop,(∀σ' H',N σ' H'->∃m',m'<m/\W (i+1) m' σ' H')/\∀x H',J.Ki i H x H'->g x σ H' λσ2 H2=>tb {D with nx:=N,ct:=N,bk:=D.nx} σ2 H2)
def mJ (fp:List Addr)(h:Heap):List (Addr×Obj):=fp.filterMap λb=>(h.get? b).map λo=>(b,o)
def fY {fp:List Addr}{h:Heap}{b:Addr}{o:Obj}(hb:b∈fp)(e:h.get? b=some o):(b,o)∈mJ fp h:=Y2.mpr {b,hb,by rw[e];rfl}
def yL {fp:List Addr}{h:Heap}{p:Addr×Obj}(hp:p∈mJ fp h):p.1∈fp/\h.get? p.1=some p.2:=by
 obtain⟨b,hb,e⟩:=Y2.mp hp;cases q:h.get? b with
 |none=>rw[q]at e;cases e
 |some o =>
  rw[q]at e;have e':(b,o)=p:=WA e;subst e';exact{(hb),q}
def Inv.pinned {pins:List (Addr×Obj)}{σ:St}{H:Hp}{s:VY}{fp:List Addr}(I:Inv X pins σ H s)(hf:∀b∈fp,je X pins H b)(ho:∀b∈fp,∃o,s.heap.get? b=some o/\∀v,o.data≠.cell v):Inv X (pins++mJ fp s.heap) σ H s :=
 I.w9 λp hp=>(V9.mp hp).elim (λz=>I.pin p (Wx _ z)) λz=>by
  obtain⟨hb,e⟩:=yL z;obtain⟨f0,f1,f2,_⟩:=hf p.1 hb;obtain⟨o,e',d⟩:=ho p.1 hb;rw[e]at e';cases e';exact{(e),f0,f1,f2,d}
def Inv.jq {pins pl:List (Addr×Obj)}{σ:St}{H:Hp}{s:VY}(I:Inv X (pins++pl) σ H s):Inv X pins σ H s:=I.w9 λp hp=>I.pin p (Wx _ (WK _ hp))
def AH {iter:Expr}{body:List Stmt}{wi:TI}{g:TG}{tb:TS}{pos:Pos}(hp:PassesOwn (model X.prog X.w) X.A X.env X.xe)(hc:X.calm=true)(hi:PI X tg iter wi)(hg:PG X tg g)(hb:rX X body tb)
  (hs:∀x,WS iter X.env x=pure x:=by intro _;rfl):PS X (.For tg iter body [] pos) (N_ wi g tb):=by
 intro pins s σ H D I h;refine wpAny_For (bG (hi pins s σ H _ I h) λv s1 h1=>bG h1 λGg s2 h2=>?_) hs;obtain⟨it,fp,tn,J,H2,e,I2,T,gn,f2,W,⟨m0,w0⟩,turn⟩:=h2;subst e;have vg:∀{H':Hp},(∀b∈fp,H' b=none)->∀b∈fp,je X pins H' b:=λhn b hb=>{hn b hb,(f2 b hb).2};refine codeAny_forLoop_any (λn s'=>∃i σ' H',Inv X pins σ' H' s'/\tn i s'.heap/\(∀b∈fp,H' b=none)/\W i n σ' H') ?_ m0 {0,σ,H2,I2,gn,λb hb=>(f2 b hb).1,w0};rintro n s3 ⟨i,σ3,H3,I3,mf,My,w3⟩;rcases turn i n σ3 H3 w3 with⟨stop,qn⟩|⟨go,N,hN,step⟩
 ·refine X8 hp (bG (T.done X rfl rfl rfl hc i pins s3 σ3 H3 X.xe I3 (vg My) mf stop) λr s4 ⟨hr,I4⟩=>?_);subst hr;exact Zw {(σ3),H3,I4,qn}
 ·refine X8 hp (bG (T.item X rfl rfl rfl hc i pins s3 σ3 H3 X.xe I3 (vg My) mf go) λr s4 ⟨u,hr,h4⟩=>?_);subst hr;refine X8 hp (bG h4 λ_ s5 ⟨x,H5,I5,r5,y5,Hi,QK⟩=>?_);have Q6:=I5.pinned (vg QK) (T.obj _ _ Hi);refine X8 hp (bG (hg _ s5 σ3 H5 x u _ Q6 r5 (step x H5 y5)) λ_ s6 ⟨σ6,H6,I6,q6⟩=>?_);refine X8 hp (bG (hb _ s6 σ6 H6 _ I6 q6) λf s7 q7=>?_);have again:∀{σ7:St} {H7:Hp},Inv X (pins++mJ fp s5.heap) σ7 H7 s7->N σ7 H7->∃m,m<n/\∃i σ' H',Inv X pins σ' H' s7/\tn i s7.heap/\(∀b∈fp,H' b=none)/\W i m σ' H':=λ{σ7 H7} I7 n7=>by
   obtain⟨m',hm,w7⟩:=hN σ7 H7 n7;refine{m',hm,i+1,σ7,H7,I7.jq,T.keep _ _ _ Hi λb hb o e=>(I7.pin (b,o) (Wx _ (Wx _ (fY hb e)))).1,λb hb=>?_,w7};obtain⟨o,e,d⟩:=T.obj _ _ Hi b hb;exact(I7.pin (b,o) (Wx _ (Wx _ (fY hb e)))).2.1
  cases f with
  |next=>obtain⟨σ7,H7,I7,n7⟩:=q7;exact again I7 n7
  |cont=>obtain⟨σ7,H7,I7,n7⟩:=q7;exact again I7 n7
  |brk=>obtain⟨σ7,H7,I7,q7⟩:=q7;exact{(σ7),H7,I7.jq,q7}
  |ret v=>obtain⟨x7,σ7,H7,I7,r7,q7⟩:=q7;exact{(x7),σ7,H7,I7.jq,r7,q7}
end
abbrev R2:=V->V->Hp->VK->Prop
def jk (X:Cx)(f:VT->VT->Sem VT)(r:R2):Prop :=
 ∀(pins:List (Addr×Obj)) (s:VY) (σ:St) (H:Hp) (x y:V) (v u:VT) (Q:VK),Inv X pins σ H s->RelV x v->RelV y u->r x y H Q ->
  WM (model X.prog X.w) X.A (f v u) (EP X pins σ Q) X.xe s
def MW (X:Cx)(f:VT->Sem VT)(r:V->Hp->VK->Prop):Prop :=
 ∀(pins:List (Addr×Obj)) (s:VY) (σ:St) (H:Hp) (x:V) (v:VT) (Q:VK),Inv X pins σ H s->RelV x v->r x H Q ->
  WM (model X.prog X.w) X.A (f v) (EP X pins σ Q) X.xe s
def fM (X:Cx)(f:VT)(r:List V->Hp->VK->Prop):Prop :=
 ∀(pins:List (Addr×Obj)) (s:VY) (σ:St) (H:Hp) (xs:List V) (us:List VT) (Q:VK),Inv X pins σ H s->Vals xs us->r xs H Q ->
  WM (model X.prog X.w) X.A (call f us) (EP X pins σ Q) X.xe s
def QZ (X:Cx)(r:V->Hp->(Bool->Hp->Prop)->Prop):Prop :=
 ∀(pins:List (Addr×Obj)) (s:VY) (σ:St) (H:Hp) (x:V) (v:VT) (Q:Bool->Hp->Prop),Inv X pins σ H s->RelV x v->r x H Q ->
  WM (model X.prog X.w) X.A (truthy v) (TP X pins σ Q) X.xe s
def Ko (r:R2)(ta tb:TE):TE:=λσ H Q=>ta σ H λx H1=>tb σ H1 λy H2=>r x y H2 Q
def S3 (r:V->Hp->VK->Prop)(ta:TE):TE:=λσ H Q=>ta σ H λx H1=>r x H1 Q
def rI (C:Int->Int->Prop)(g:Int->Int->V):R2:=λx y H Q=>∃i j,x=.int i/\y=.int j/\C i j/\Q (g i j) H
def DI (g:Int->Int->V):R2:=λx y H Q=>∃i j,x=.int i/\y=.int j/\Q (g i j) H
def rU (g:Int->V):V->Hp->VK->Prop:=λx H Q=>∃i,x=.int i/\Q (g i) H
section
variable {X:Cx}{a b:Expr}{ta tb:TE}{pos:Pos}
def JI (ha:PE X a ta)(hb:PE X b tb){pins:List (Addr×Obj)}{s:VY}{σ:St}{H:Hp}{R:V->V->Hp->Prop}(I:Inv X pins σ H s)
  (h:ta σ H λx H1=>tb σ H1 λy H2=>R x y H2) {Q:VT->VY->Prop} {f:VT->VT->Sem VT}
  (hf:∀v u s2 x y H2,Inv X pins σ H2 s2->RelV x v->RelV y u->R x y H2->WM (model X.prog X.w) X.A (f v u) Q X.xe s2) :
  WM (model X.prog X.w) X.A (eval a X.env) (λv s₁=>WM (model X.prog X.w) X.A (eval b X.env) (λu s₂=>WM (model X.prog X.w) X.A (f v u) Q X.xe s₂) X.xe s₁) X.xe s:=by
 refine bG (ha pins s σ H _ I h) λv s1 ⟨x,H1,I1,r1,q1⟩=>?_;refine bG (hb pins s1 σ H1 _ I1 q1) λu s2 ⟨y,H2,I2,r2,q2⟩=>?_;exact hf v u s2 x y H2 I2 r1 r2 q2
def dt {op:Operator}{r:R2}(ho:jk X (XX op) r)(ha:PE X a ta)(hb:PE X b tb):PE X (.BinOp a op b pos) (Ko r ta tb):=by
 intro pins s σ H Q I h;exact wpAny_BinOp (JI ha hb I h λv u s2 x y H2 I2 rx ry q=>ho pins s2 σ H2 x y v u Q I2 rx ry q)
def FY {op:UnaryOp}{r:V->Hp->VK->Prop}(ho:MW X (unaryOp op) r)(ha:PE X a ta):PE X (.UnaryOp op a pos) (S3 r ta):=by
 intro pins s σ H Q I h;exact UnaryOp_ (bG (ha pins s σ H _ I h) λv s1 PL=>by obtain⟨x,H1,I1,r1,q1⟩:=PL;exact ho pins s1 σ H1 x v Q I1 r1 q1)
def Nj {f:VT->VT->Sem VT}{C:Int->Int->Prop}{g:Int->Int->Int}
  (rule:∀(i j:Int) (t u:Tok) (s:VY) (Q:VT->VY->Prop) (E:VT->VY->Prop),C i j->Q (.int (g i j) s.toks) {s with toks:=s.toks+1}->WM (model X.prog X.w) X.A (f (.int i t) (.int j u)) Q E s) :
  jk X f (rI C λi j=>.int (g i j)):=by
 intro pins s σ H x y v u Q I rx ry h;obtain⟨i,j,rfl,rfl,hc,q⟩:=h;obtain⟨t,rfl⟩:=rx;obtain⟨t',rfl⟩:=ry;exact rule i j t t' s _ _ hc {.int (g i j),H,I.tok _,{_,rfl},q}
def KZ {f:VT->VT->Sem VT}{g:Int->Int->Int}
  (rule:∀(i j:Int) (t u:Tok) (s:VY) (Q:VT->VY->Prop) (E:VT->VY->Prop),Q (.int (g i j) s.toks) {s with toks:=s.toks+1}->WM (model X.prog X.w) X.A (f (.int i t) (.int j u)) Q E s) :
  jk X f (DI λi j=>.int (g i j)):=by
 intro pins s σ H x y v u Q I rx ry h;obtain⟨i,j,rfl,rfl,q⟩:=h;obtain⟨t,rfl⟩:=rx;obtain⟨t',rfl⟩:=ry;exact rule i j t t' s _ _ {.int (g i j),H,I.tok _,{_,rfl},q}
def HV {f:VT->VT->Sem VT}{g:Int->Int->Bool}
  (rule:∀(i j:Int) (t u:Tok) (s:VY) (Q:VT->VY->Prop) (E:VT->VY->Prop),Q (.bool (g i j)) s->WM (model X.prog X.w) X.A (f (.int i t) (.int j u)) Q E s) :
  jk X f (DI λi j=>.bl (g i j)):=by
 intro pins s σ H x y v u Q I rx ry h;obtain⟨i,j,rfl,rfl,q⟩:=h;obtain⟨t,rfl⟩:=rx;obtain⟨t',rfl⟩:=ry;exact rule i j t t' s _ _ {.bl (g i j),H,I,rfl,q}
def C4 (i j:Int):Prop:=0<=j/\j<=1000000/\i.natAbs<2 ^ 64
def n9 (i j:Int):Prop:=(-(2 ^ 64)<i/\i<2 ^ 64)\/(-(2 ^ 64)<j/\j<2 ^ 64)
def n9.ok {i j:Int}(h:n9 i j):IntMulOk i j:=by
 rcases h with⟨h1,h2⟩|⟨h1,h2⟩
 ·exact .of_left (intBits_le_64 h1 h2)
 ·exact .of_right (intBits_le_64 h1 h2)
def vE:jk X (XX .Add) (DI λi j=>.int (i+j)):=KZ λ_ _ _ _ _ _ _ q=>add_int q
def Bc:jk X (XX .Sub) (DI λi j=>.int (i-j)):=KZ λ_ _ _ _ _ _ _ q=>sub_int q
def vC:jk X (XX .Mult) (rI n9 λi j=>.int (i*j)):=Nj λ_ _ _ _ _ _ _ hc q=>mul_int q hc.ok
def mQ:jk X (XX .Mod) (rI (λ_ j=>0<j) λi j=>.int (i % j)):=Nj λi j _ _ _ _ _ hc q=>by
 have h1:(0:Int)<j:=hc;exact mod_int' (by lia) (by rw[Int.fmod_eq_emod_of_nonneg i (by lia)];exact q)
def qM:jk X (XX .Pow) (rI C4 λi j=>.int (i ^ j.toNat)):=Nj λ_ _ _ _ _ _ _ hc q=>pow_int_small hc.1 hc.2.1 hc.2.2 q
def S1 {f:VT->Sem VT}{g:Int->Int}
  (rule:∀(i:Int) (t:Tok) (s:VY) (Q:VT->VY->Prop) (E:VT->VY->Prop),Q (.int (g i) s.toks) {s with toks:=s.toks+1}->WM (model X.prog X.w) X.A (f (.int i t)) Q E s) :
  MW X f (rU λi=>.int (g i)):=by
 intro pins s σ H x v Q I rx h;obtain⟨i,rfl,q⟩:=h;obtain⟨t,rfl⟩:=rx;exact rule i t s _ _ {.int (g i),H,I.tok _,{_,rfl},q}
def z8:MW X (unaryOp .USub) (rU λi=>.int (-i)):=S1 λ_ _ _ _ _ q=>neg_int q
end
def Oj:V->V->Bool
 |.ck,.ck=>true | .ck,.int _=>true | .int _,.ck=>true | .ck,.bl _=>true | .bl _,.ck=>true | .ck,.str _=>true | .str _,.ck=>true
 |.int _,.int _=>true | .bl _,.bl _=>true | .str _,.str _=>true | .CM _,.CM _=>true
 |.int _,.str _=>true | .str _,.int _=>true | .bl _,.str _=>true | .str _,.bl _=>true
 |_,_=>false
def To:R2:=λx y H Q=>Oj x y=true/\Q (.bl (!decide (x=y))) H
def E9 {i j:Int}:decide (V.int i=V.int j)=(i==j):=by
 rw[Yx];simp
def Jw {i j:Bool}:decide (V.bl i=V.bl j)=(i==j):=by
 rw[Yx];simp
def E8 {i j:Str}:decide (V.str i=V.str j)=(i==j):=by
 rw[Yx];simp
def E_ {i j:Array UInt8}:decide (V.CM i=V.CM j)=(i.toList==j.toList):=by
 rw[Yx];cases i;cases j;simp
section
variable {X:Cx}{a b c:Expr}{ta tb:TE}{pos:Pos}
def b8 {pins:List (Addr×Obj)}{σ:St}{H:Hp}{s:VY}{Q:VK}{k k':Bool}(I:Inv X pins σ H s)(q:Q (.bl k) H)(e:k=k'):EP X pins σ Q (.bool k') s:=by
 subst e;exact{.bl k,H,I,rfl,q}
def KU:jk X (W_ .NotEq) To:=by
 intro pins s σ H x y v u Q I rx ry h;obtain⟨hs,q⟩:=h;cases x with
 |ck =>
  cases rx;cases y with
  |ck=>cases ry;exact PySem.EqNone.ne_none_none (b8 I q (by simp))
  |bl j=>cases ry;exact PySem.EqNone.ne_none_bool (b8 I q (by simp))
  |int j=>obtain⟨t',rfl⟩:=ry;exact PySem.EqNone.ne_none_int (b8 I q (by simp))
  |str j=>obtain⟨t',rfl⟩:=ry;exact PySem.EqNone.ne_none_str (b8 I q (by simp))
  |_=>exact absurd (show false=true from hs) W4
 |bl i =>
  cases rx;cases y with
  |ck=>cases ry;exact PySem.EqNone.ne_bool_none (b8 I q (by simp))
  |bl j=>cases ry;exact ne_bool (b8 I q (congrArg not Jw))
  |str j=>obtain⟨t',rfl⟩:=ry;exact PySem.EqMixed.ne_bool_str (b8 I q (by simp))
  |_=>exact absurd (show false=true from hs) W4
 |int i =>
  obtain⟨t,rfl⟩:=rx;cases y with
  |ck=>cases ry;exact PySem.EqNone.ne_int_none (b8 I q (by simp))
  |int j=>obtain⟨t',rfl⟩:=ry;exact ne_int (b8 I q (congrArg not E9))
  |str j=>obtain⟨t',rfl⟩:=ry;exact PySem.EqMixed.ne_int_str (b8 I q (by simp))
  |_=>exact absurd (show false=true from hs) W4
 |str i =>
  obtain⟨t,rfl⟩:=rx;cases y with
  |ck=>cases ry;exact PySem.EqNone.ne_str_none (b8 I q (by simp))
  |bl j=>cases ry;exact PySem.EqMixed.ne_str_bool (b8 I q (by simp))
  |int j=>obtain⟨t',rfl⟩:=ry;exact PySem.EqMixed.ne_str_int (b8 I q (by simp))
  |str j=>obtain⟨t',rfl⟩:=ry;exact ne_str (b8 I q (congrArg not E8))
  |_=>exact absurd (show false=true from hs) W4
 |CM i =>
  obtain⟨t,rfl⟩:=rx;cases y with
  |CM j=>obtain⟨t',rfl⟩:=ry;exact PySem.W.ne_bytes (b8 I q (congrArg not E_))
  |_=>exact absurd (show false=true from hs) W4
 |_=>cases y <;> exact absurd (show false=true from hs) W4
def KW:jk X (W_ .Lt) (DI λi j=>.bl (decide (i<j))):=HV λ_ _ _ _ _ _ _ q=>lt_int q
def KY:jk X (W_ .LtE) (DI λi j=>.bl (decide (i<=j))):=HV λ_ _ _ _ _ _ _ q=>le_int q
def F1:jk X (W_ .Gt) (DI λi j=>.bl (decide (j<i))):=HV λ_ _ _ _ _ _ _ q=>gt_int q
def HS:jk X (W_ .Is) (λx y H Q=>y=.ck/\Q (.bl (decide (x=.ck))) H):=by
 intro pins s σ H x y v u Q I rx ry h;obtain⟨rfl,q⟩:=h;cases ry;refine is_none_gen (b8 I q ?_);cases x <;> first
  | (cases rx;rfl)
  | (obtain⟨t,rfl⟩:=rx;rfl)
def Eb:jk X (W_ .IsNot) (λx y H Q=>y=.ck/\Q (.bl (!decide (x=.ck))) H):=by
 intro pins s σ H x y v u Q I rx ry h;obtain⟨rfl,q⟩:=h;cases ry;refine isnot_none_gen (b8 I q ?_);cases x <;> first
  | (cases rx;rfl)
  | (obtain⟨t,rfl⟩:=rx;rfl)
def Bk (b:Expr){op:Y4}(h:op≠.In:=by decide)(h2:op≠.NotIn:=by decide):X_ op b=false:=by
 have e1:(op==CmpOp.In)=false:=by cases op <;> first|rfl|exact absurd rfl h
 have e2:(op==CmpOp.NotIn)=false:=by cases op <;> first|rfl|exact absurd rfl h2
 cases b <;> simp[X_,e1,e2]
def xa {op:Y4}{r:R2}(ho:jk X (W_ op) r)(ha:PE X a ta)(hb:PE X b tb)(hm:X_ op b=false):PE X (.Compare a [op] [b] pos) (Ko r ta tb):=by
 intro pins s σ H Q I h;exact wpAny_Compare1 (JI ha hb I h λv u s2 x y H2 I2 rx ry q=>ho pins s2 σ H2 x y v u Q I2 rx ry q) hm
def Km (t:TE):TT:=λσ H Q=>t σ H λx H'=>∃k,x=.bl k/\Q k H'
def wW {op:Y4}{r:R2}(ho:jk X (W_ op) r)(ha:PE X a ta)(hb:PE X b tb)(hm:X_ op b=false):PT X (.Compare a [op] [b] pos) (Km (Ko r ta tb)):=by
 intro pins s σ H Q I h;refine wpAny_isTrue_Compare1 (bG (ha pins s σ H _ I h) λv s1 ⟨x,H1,I1,r1,q1⟩=>bG (hb pins s1 σ H1 _ I1 q1) λu s2 ⟨y,H2,I2,r2,q2⟩ =>
  bG (ho pins s2 σ H2 x y v u _ I2 r1 r2 q2) λc s3 ⟨z,H3,I3,r3,k,e,q3⟩=>?_) hm
 subst e;cases r3;exact XJ {(H3),I3,q3}
def MX (K:PySem.W.Frag)(x:V)(H:Hp)(k:Bool):Prop :=
 match x with
 |.ck=>k=false
 |.bl b=>k=b
 |.int i=>k=(i != 0)
 |.str y=>y.length<=Wi/\k=((y.length:Int) != 0)
 |.CM y=>y.size<=Wi/\k=((y.size:Int) != 0)
 |.ref p=>(∃xs,eQ K H p xs/\k=!xs.isEmpty)\/(∃xs,nW K H p xs/\k=!xs.isEmpty)\/∃kvs,H p=some (.dK kvs)/\k=!kvs.isEmpty
 |_=>False
def vV {κ:Type}{kvs:List (κ×V)}{vs:List (κ×VT)}(r:KV kvs vs):(!vs.isEmpty)=!kvs.isEmpty:=by
 cases r <;> rfl
def ng {xs:List V}{its:List VT}(r:Vals xs its):(!its.toArray.isEmpty)=!xs.isEmpty:=by
 cases r <;> simp
def m7:(Wi:Nat)<2 ^ 63:=by rw[XI];decide
def G6:QZ X (λx H Q=>∃k,MX X.K x H k/\Q k H):=by
 intro pins s σ H x v Q I rx h;obtain⟨k,e,q⟩:=h;have hl:=m7;have hs:Wi=16777216:=XI;cases x with
 |ck =>
  cases rx;have e':k=false:=e;subst e';exact truthy_none {(H),I,q}
 |bl b =>
  cases rx;have e':k=b:=e;subst e';exact XJ {(H),I,q}
 |int i =>
  obtain⟨t,rfl⟩:=rx;have e':k=(i != 0):=e;subst e';exact PySem.P.truthy_int {(H),I,q}
 |str y =>
  obtain⟨t,rfl⟩:=rx;obtain⟨hy,e'⟩:y.length<=Wi/\k=((y.length:Int) != 0):=e;subst e';exact PySem.P.truthy_str (by lia) {H,I.tok _,q}
 |CM y =>
  obtain⟨t,rfl⟩:=rx;obtain⟨hy,e'⟩:y.size<=Wi/\k=((y.size:Int) != 0):=e;subst e';exact PySem.W.truthy_bytes (by lia) {H,I.tok _,q}
 |ref p =>
  cases rx;have e':(∃xs,eQ X.K H p xs/\k=!xs.isEmpty)\/(∃xs,nW X.K H p xs/\k=!xs.isEmpty)\/∃kvs,H p=some (.dK kvs)/\k=!kvs.isEmpty:=e;rcases e' with⟨xs,hx,e'⟩|⟨xs,hx,e'⟩|⟨kvs,hx,e'⟩
  ·subst e';obtain⟨its,r,pl,hz⟩:=I.list hx;have hlen:=r.length;exact wpAny_truthy_list pl.isList (by simp only[Wq];lia) {H,I.tok _,by rw[ng r];exact q}
  ·subst e';obtain⟨its,r,pl,hz⟩:=I.tuple hx;have hlen:=r.length;exact truthy_tuple pl (by simp only[Wq];lia) {H,I.tok _,by rw[ng r];exact q}
  ·subst e';obtain⟨hz,hS,vs,r,m⟩:kvs.length<=Wi/\(p==YJ)=false/\∃vs,KV kvs vs/\s.heap.DictOf (cm X.prog X.w) p vs:=I.bY p _ hx;have hlen:kvs.length=vs.length:=Paired.length r;exact wpAny_truthy_dict hS m (by lia) {H,I.tok _,by rw[vV r];exact q}
 |_=>exact(show False from e).elim
def AE (ha:PE X a ta)(he:∀whole,Z9 a X.env whole=(do let v <- whole;Y8 a.pos;holding [v] (truthy v))):
  PT X a (λσ H Q=>ta σ H λx H'=>∃k,MX X.K x H' k/\Q k H'):=by
 intro pins s σ H Q I h;exact isTrue_plain (bG (ha pins s σ H _ I h) λv s1 PK=>by obtain⟨x,H1,I1,r1,q1⟩:=PK;exact G6 pins s1 σ H1 x v Q I1 r1 q1) (he _)
def vals1 {x:V}{us:List VT}(r:Vals [x] us):∃u,us=[u]/\RelV x u:=by
 cases r with
 |cons r1 r2=>cases r2;exact{_,rfl,r1}
def vals2 {x y:V}{us:List VT}(r:Vals [x,y] us):∃u w',us=[u,w']/\RelV x u/\RelV y w':=by
 cases r with
 |cons r1 r2 =>
  cases r2 with
  |cons r3 r4=>cases r4;exact{_,_,rfl,r1,r3}
def qa (hc:X.calm=true):fM X (.builtin "max") (λxs H Q=>∃i j,xs=[.int i,.int j]/\Q (.int (if j>i then j else i)) H):=by
 intro pins s σ H xs us Q I r h;obtain⟨i,j,rfl,q⟩:=h;obtain⟨u,w',rfl,⟨t,rfl⟩,⟨t',rfl⟩⟩:=vals2 r;refine max_two_ints (I.ok.hd hc) λh' tk k=>{_,H,I.kept k,?_,q}
 by_cases hj:j>i
 ·rw[if_pos hj,if_pos hj];exact{_,rfl}
 ·rw[if_neg hj,if_neg hj];exact{_,rfl}
def zB (hc:X.calm=true):fM X (.builtin "min") (λxs H Q=>∃i j,xs=[.int i,.int j]/\Q (.int (if j<i then j else i)) H):=by
 intro pins s σ H xs us Q I r h;obtain⟨i,j,rfl,q⟩:=h;obtain⟨u,w',rfl,⟨t,rfl⟩,⟨t',rfl⟩⟩:=vals2 r;refine min_two_ints (I.ok.hd hc) λh' tk k=>{_,H,I.kept k,?_,q}
 by_cases hj:j<i
 ·rw[if_pos hj,if_pos hj];exact{_,rfl}
 ·rw[if_neg hj,if_neg hj];exact{_,rfl}
def kP:fM X (.type "int") (λxs H Q=>(∃i,xs=[.int i]/\Q (.int i) H)\/∃k,xs=[.bl k]/\Q (.int (if k then 1 else 0)) H):=by
 intro pins s σ H xs us Q I r h;rcases h with⟨i,rfl,q⟩|⟨k,rfl,q⟩
 ·obtain⟨u,rfl,t,rfl⟩:=vals1 r;exact call_int_int {.int i,H,I,{_,rfl},q}
 ·obtain⟨u,rfl,r1⟩:=vals1 r;cases r1;exact call_int_bool {.int (if k then 1 else 0),H,I.tok _,{_,rfl},q}
end
def oV.some_of {v:V}{o:Option VT}(r:oV (some v) o):∃u,o=some u/\RelV v u:=by
 cases o with
 |none=>exact(show False from r).elim
 |some u=>exact{(u),rfl,r}
structure da (k:Nat)(A:Xd):Prop where
 hd:A.handled=none
 dp:A.depth+3*k+5<recursionLimit
 un:A.units+16*k+200<Yo
def da.mono {j k:Nat}{A:Xd}(r:da k A)(h:j<=k):da j A:={r.hd,by have:=r.dp;lia,by have:=r.un;lia}
def da.deeper {k:Nat}{A:Xd}(r:da (k+1) A)(env:Env):da k (A.deeper env) :=
 {r.hd,by have:=r.dp;show A.depth+1+3*k+5<_;lia,by have:=r.un;show A.units+3+16*k+200<_;lia}
def da.depth {k:Nat}{A:Xd}(r:da k A):A.depth<recursionLimit:=by have:=r.dp;lia
def da.units {k:Nat}{A:Xd}(r:da k A):A.units+64<Yo:=by have:=r.un;lia
def He:TA:=λ_ H Q=>Q [] H
def FO (ta:TE)(tr:TA):TA:=λσ H Q=>ta σ H λx H1=>tr σ H1 λxs H2=>Q (x::xs) H2
section
variable {X:Cx}{e:Expr}{es:List Expr}{te:TE}{t:TA}{pos:Pos}
def eF:PA X [] He:=λ_ _ _ _ H Q I h=>Calls.spliced_nil {[],H,I,.nil,h}
def bN (ha:PE X e te)(hr:PA X es t)(hs:Wj (e::es) X.env=(false,eval e X.env)::Wj es X.env:=by rfl):PA X (e::es) (FO te t):=by
 intro pos pins s σ H Q I h;rw[hs];show WM _ _ (spliced ((false,eval e X.env)::XT pos (Wj es X.env))) _ _ s;refine Calls.spliced_cons (bG (ha pins s σ H _ I h) λu s1 ⟨x,H1,I1,r1,q1⟩=>?_);exact bG (hr pos pins s1 σ H1 _ I1 q1) λus s2 ⟨xs,H2,I2,r2,q2⟩=>{x::xs,H2,I2,.cons r1 r2,q2}
def N3 (t:TA):TE:=λσ H Q=>t σ H λxs H1=>xs.length<=Wi/\∀p,H1 p=none->Q (.ref p) (upd H1 p (.tup xs))
def N8 (t:TA):TE:=λσ H Q=>t σ H λxs H1=>xs.length<=Wi/\∀p,H1 p=none->Q (.ref p) (upd H1 p (.lst xs))
def AX {x1}(h:PA X es t):PE X (.Tuple es x1 pos) (N3 t):=by
 intro pins s σ H Q I hq;refine wpAny_Tuple_spliced (bG (h pos pins s σ H _ I hq) λus s1 ⟨xs,H1,I1,r,z,q⟩=>{by rw[<- r.length];exact z,?_})
 have hf:H1 s1.heap.objs.size=none:=I1.bY.fresh (VR _);refine{.ref s1.heap.objs.size,upd H1 s1.heap.objs.size (.tup xs),I1.laid (t':=s1.toks) (λb u e=>V6 _ e) (VR _) ?_,rfl,q _ hf};exact{z,us,r,{_,WT _ rfl,rfl,_,rfl}}
def vA (h:PA X es t):PE X (.List es pos) (N8 t):=by
 intro pins s σ H Q I hq;refine wpAny_List_spliced (bG (h pos pins s σ H _ I hq) λus s1 ⟨xs,H1,I1,r,z,q⟩=>{by rw[<- r.length];exact z,?_})
 have hf:H1 s1.heap.objs.size=none:=I1.bY.fresh (VR _);refine{.ref s1.heap.objs.size,upd H1 s1.heap.objs.size (.lst xs),I1.laid (t':=s1.toks) (λb u e=>V6 _ e) (VR _) ?_,rfl,q _ hf};exact{z,us,0,r,WT _ rfl}
end
abbrev Sp:=List V->Hp->VK->XK->Prop
abbrev C3:=List Env->Hp->VY->XK->VT->VY->Prop
structure FK (P:V2)(w:Wm)(K:PySem.W.Frag)(mg:Str->Option VT)(base:Heap)(A:Xd)(outer:List Env)(s:VY)(H:Hp):Prop where
 frames:A.frames=some outer
 mod:Mod K mg base
 bs:∀b o,base.get? b=some o->s.heap.get? b=some o/\H b=none
 GD:base.objs.size<=s.heap.objs.size
 nk:s.heap.FunFrames base outer
 J5:∀b∈Cc outer,H b=none
 bY:jl P w H s.heap
 bare:Zv s.gens
def CE (outer:List Env)(P:V2)(w:Wm)(H:Hp)(s:VY)(Q:VK)(u:VT)(s':VY):Prop :=
 ∃v H',s'.os=s.os/\Zv s'.gens/\Un (Cc outer) [] H H' s.heap s'.heap/\jl P w H' s'.heap/\RelV v u/\Q v H'
def CR (CX:C3)(outer:List Env)(P:V2)(w:Wm)(H:Hp)(s:VY)(Q:VK)(E:XK)(r:Result)(s':VY):Prop :=
 match r with
 |.ok (.ret u)=>CE outer P w H s Q u s'
 |.ok _=>False
 |.error e=>CX outer H s E e s'
structure aG (P:V2)(w:Wm)(K:PySem.W.Frag)(mg:Str->Option VT)(base:Heap)(CX:C3)(k:Nat)(f:Addr)(fd:WN)(ps:List Str)(sp:Sp):Prop where
 len:∀vs H Q E,sp vs H Q E->vs.length=ps.length
 run:∀(A:Xd) (outer:List Env) (s:VY) (H:Hp) (args:Args) (us:List VT) (vs:List V) (Q:VK) (E:XK),da k A->FK P w K mg base A outer s H->BindsTo s fd args (ps.zip us)->Vals vs us->sp vs H Q E ->
  Zn (model P w) A (.call (.ref f) args) (CR CX outer P w H s Q E) s
def aG.imp {P:V2}{w:Wm}{K:PySem.W.Frag}{mg:Str->Option VT}{base:Heap}{CX:C3}{k:Nat}{f:Addr}{fd:WN}{ps:List Str}{sp Rm:Sp}(F:aG P w K mg base CX k f fd ps sp)
  (h:∀vs H Q E,Rm vs H Q E->sp vs H Q E):aG P w K mg base CX k f fd ps Rm :=
 {λvs H Q E q=>F.len vs H Q E (h _ _ _ _ q),λA outer s H args us vs Q E hr he hb hv hs=>F.run A outer s H args us vs Q E hr he hb hv (h _ _ _ _ hs)}
section
variable {X:Cx}{pins:List (Addr×Obj)}{σ:St}{H:Hp}{s s':VY}
def Inv.QR (I:Inv X pins σ H s):FK X.prog X.w X.K X.mg X.base X.A X.stack s H :=
 {I.ok.frames,I.ok.mod,I.bs,WG I.ok.GD I.sz,I.stack,I.wH,I.bY,I.bare}
def Inv.after {Q:VK}{u:VT}(I:Inv X pins σ H s)(h:CE X.stack X.prog X.w H s Q u s'):EP X pins σ Q u s':=by
 obtain⟨v,H',os,bare,un,bY,r,q⟩:=h;obtain⟨hh,g,d,t,TC⟩:=s';obtain rfl:TC=s.os:=os;exact{v,H',I.call (h':=hh) (g':=g) (d':=d) (t':=t) (ch:=[]) un bY bare (λb z=>absurd z (by simp)),r,q}
end
def Ks (sp:Sp)(Gv:List V)(E:XK)(t:TA):TE:=λσ H Q=>t σ H λvs H1=>sp (vs++Gv) H1 Q E
def Binds (K:PySem.W.Frag)(fd:WN)(ps:List Str)(ds:List VT):Prop :=
 ∀(s:VY) (us:List VT),K.In s.heap->(us++ds).length=ps.length->BindsTo s fd {us,[]} (ps.zip (us++ds))
def Binds.all {K:PySem.W.Frag}{fd:WN}{ps:List Str}(h:∀us:List VT,us.length=ps.length->bindArgs fd {us,[]}=pure (ps.zip us)):Binds K fd ps []:=λs us _ hl=>by
 rw[WZ]at hl ⊢
 exact .of_eq (h us hl)
def Passes (CX:C3)(X:Cx)(E:XK):Prop:=∀(pins:List (Addr×Obj)) (σ:St) (H:Hp) (s:VY) (e:VT) (s':VY),Inv X pins σ H s->CX X.stack H s E e s'->X.xe e s'
section
variable {X:Cx}{CX:C3}{k:Nat}{f:Addr}{fd:WN}{ps:List Str}{sp:Sp}{Gv:List V}{ds:List VT}{E:XK}{x:Str}{p pos:Pos}{e:Expr}{es:List Expr}{t:TA}
def Ht {pins:List (Addr×Obj)}{σ:St}{H:Hp}{s:VY}{Q:VK}{us:List VT}{vs:List V}(F:aG X.prog X.w X.K X.mg X.base CX k f fd ps sp)(hr:da k X.A)(hb:Binds X.K fd ps ds)(hd:Vals Gv ds)(hx:Passes CX X E)
  (I:Inv X pins σ H s) (r:Vals vs us) (h:sp (vs++Gv) H Q E):WM (model X.prog X.w) X.A (call (.ref f) us) (EP X pins σ Q) X.xe s:=by
 have r2:Vals (vs++Gv) (us++ds):=r.append hd;have hl:(us++ds).length=ps.length:=by rw[<- r2.length];exact F.len _ _ _ _ h
 refine wpAny_call (YD (F.run X.A X.stack s H {us,[]} (us++ds) (vs++Gv) Q E hr I.QR (hb s us I.J0 hl) r2 h) λr s' hq=>?_);cases r with
 |error e=>exact hx pins σ H s e s' I hq
 |ok fl =>
  cases fl with
  |ret u=>exact I.after hq
  |next=>exact Ym hq
  |brk=>exact Ym hq
  |cont=>exact Ym hq
def xb (F:aG X.prog X.w X.K X.mg X.base CX k f fd ps sp)(hr:da k X.A)(hg:Gl X x)(hm:X.mg x=some (.ref f))(hk:PySem.W.keepIn X.K (.ref f)=true)(hb:Binds X.K fd ps ds)(hd:Vals Gv ds)(hx:Passes CX X E)
  (ha:PA X (e::es) t) (hdb:(x==("__debug__" : Str))=false:=by decide) (he:Wj (e::es) X.env=(false,eval e X.env)::Wj es X.env:=by rfl) (hpl:(XT pos (Wj es X.env)).any (·.1)=false:=by rfl) :
  PE X (.Call (.Name x p) (e::es) [] pos) (Ks sp Gv E t):=by
 intro pins s σ H Q I h;refine X4 (EC I hg hm ?_ hdb);refine PySem.W.callWith_K (h₀:=X.base) I.ok.mod.O5 hk (bG (ha pos pins s σ H _ I h) λus s1 ⟨vs,H1,I1,r,q⟩=>{I1.J0,?_}) he hpl;exact Ht F hr hb hd hx I1 r q
end
structure aK (N P:List Str)(sc:YA):Prop where
 kind:sc.kind=.function
 co:sc.isCoroutine=false
 gen:sc.isGenerator=false
 nd:N.Nodup
 pre:N.take P.length=P
 par:∀x∈P,sc.names.lookup x=some .local\/sc.names.lookup x=some .cell
 Ic:∀y∈sc.names,y.2≠.free
def mkS{N P:List Str}{sc:YA}(h0:sc.kind=.function:=by rfl)(h1:sc.isCoroutine=false:=by rfl)(h2:sc.isGenerator=false:=by rfl)(h3:N.Nodup:=by decide +kernel)(h4:N.take P.length=P:=by rfl)(h5:∀x∈P,sc.names.lookup x=some .local\/sc.names.lookup x=some .cell:=by decide +kernel)(h6:∀y∈sc.names,y.2≠.free:=by decide +kernel):aK N P sc:={(h0),h1,h2,h3,h4,h5,h6}
theorem qc {kindOf:Str->Option YR}{x:Str}:∀{binds:List (Str×VT)} {m:Str->Option VT},(∀v,(x,v)∉binds)->bindL kindOf binds m x=m x
 |[],_,_=>rfl
 | (n,v)::r,m,h=>by
  unfold bindL;rw[qc λw hw=>h w (V8 _ hw)]
  split
  ·have:x≠n:=by rintro rfl;exact h v V0
   simp[this]
  ·rfl
theorem qe {kindOf:Str->Option YR}{x:Str}:∀{binds:List (Str×VT)} {m:Str->Option VT},(∀v,(x,v)∉binds)->bindC kindOf binds m x=m x
 |[],_,_=>rfl
 | (n,v)::r,m,h=>by
  unfold bindC;rw[qe λw hw=>h w (V8 _ hw)]
  split
  ·rfl
  ·have:x≠n:=by rintro rfl;exact h v V0
   simp[this]
theorem qd {kindOf:Str->Option YR}{x:Str}{v:VT}:∀{P:List Str} {vs:List VT} {i:Nat} {m:Str->Option VT},P.Nodup->P[i]?=some x->vs[i]?=some v->kindOf x=some .local ->
  bindL kindOf (P.zip vs) m x=some v
 |[],_,_,_,_,h,_,_=>by simp at h
 |_::_,[],_,_,_,_,h,_=>by simp at h
 |p::P,w::vs,0,m,nd,h1,h2,hk=>by
  simp at h1 h2;subst h1;subst h2;show bindL kindOf ((p,w)::P.zip vs) m p=_;unfold bindL;rw[qc λv hv=>(WB.mp nd).1 (Zz hv).1,if_pos hk];simp
 |p::P,w::vs,i+1,m,nd,h1,h2,hk=>by
  show bindL kindOf ((p,w)::P.zip vs) m x=_;unfold bindL;exact qd (i:=i) (WB.mp nd).2 (by simpa using h1) (by simpa using h2) hk
theorem qf {kindOf:Str->Option YR}{x:Str}{v:VT}:∀{P:List Str} {vs:List VT} {i:Nat} {m:Str->Option VT},P.Nodup->P[i]?=some x->vs[i]?=some v->kindOf x≠some .local ->
  bindC kindOf (P.zip vs) m x=some v
 |[],_,_,_,_,h,_,_=>by simp at h
 |_::_,[],_,_,_,_,h,_=>by simp at h
 |p::P,w::vs,0,m,nd,h1,h2,hk=>by
  simp at h1 h2;subst h1;subst h2;show bindC kindOf ((p,w)::P.zip vs) m p=_;unfold bindC;rw[qe λv hv=>(WB.mp nd).1 (Zz hv).1,if_neg hk];simp
 |p::P,w::vs,i+1,m,nd,h1,h2,hk=>by
  show bindC kindOf ((p,w)::P.zip vs) m x=_;unfold bindC;exact qf (i:=i) (WB.mp nd).2 (by simpa using h1) (by simpa using h2) hk
def start (N:List Str)(vs:List V):St:=vs.map some++WQ (N.length-vs.length) none
noncomputable def oU (CX:C3)(P:V2)(w:Wm)(K:PySem.W.Frag)(mg:Str->Option VT)(base:Heap)(N:List Str)(qual:Str)(scope:YA)(f:Addr)(cd:VT)(A:Xd)(outer:List Env)(s:VY)(H:Hp)(E:XK):Cx where
 prog:=P
 w:=w
 K:=K
 mg:=mg
 base:=base
 A:=A.deeper (Zm qual scope s.heap.objs.size f cd)
 N:=N
 s₀:=s
 H₀:=H
 env:=Zm qual scope s.heap.objs.size f cd
 outer:=outer
 stack:=Zm qual scope s.heap.objs.size f cd::outer
 ex:=[]
 calm:=true
 fn:=λ_=>true
 pn:=[]
 xe:=λe s'=>WM (model P w) (A.deeper (Zm qual scope s.heap.objs.size f cd)) (leaving (Zm qual scope s.heap.objs.size f cd) e) (λ_ Om=>CX outer H s E e Om) (λe' Om=>CX outer H s E e' Om) s'
def uE {sc:YA}{n:Nat}{x:Str}(h:sc.names.lookup x=some .cell):∃c,(cellsFrom n sc.names []).lookup x=some c:=by
 have q:=PySem.W.cellsFrom_some sc.names n [] (.inl h);exact Option.isSome_iff_exists.mp q
def yZ {CX:C3}{P:V2}{w:Wm}{K:PySem.W.Frag}{mg:Str->Option VT}{base:Heap}{N ps:List Str}{qual:Str}{scope:YA}{f:Addr}{cd:VT}{A:Xd}{outer:List Env}{s s1:VY}{H:Hp}{E:XK}{us:List VT}{vs:List V}
  (S:aK N ps scope) (hd:A.handled=none) (e0:FK P w K mg base A outer s H) (hl:vs.length=ps.length) (r:Vals vs us)
  (x:InCallC s s.heap.objs.size (bindL (Zm qual scope s.heap.objs.size f cd).kindOf (ps.zip us) λ_=>none) (cellsFrom (s.heap.objs.size+1) scope.names []) (bindC (Zm qual scope s.heap.objs.size f cd).kindOf (ps.zip us) λ_=>none) s1) :
  Inv (oU CX P w K mg base N qual scope f cd A outer s H E) [] (start N vs) H s1:=by
 have hpl:ps.length<=N.length:=by have:=congrArg List.length S.pre;rw[WH]at this;lia
 obtain⟨h1,tk,rfl,hk⟩:=x.done;have K8:∀b:Addr,b∉(oU CX P w K mg base N qual scope f cd A outer s H E).ex:=λb z=>absurd (show b∈([]:List Addr) from z) (by simp)
 refine⟨{e0.mod,S.kind,rfl,rfl,VR _,λy z c h1 h2=>?_,λy hy=>?_,λy c _ h=>?_,λ_=>hd,Around.frames_deeper e0.frames,.inr {(rfl),rfl},λb z=>absurd z (K8 b),e0.bs,e0.GD,λb _ _=>K8 b,λb z=>absurd z (K8 b),e0.nk,e0.J5},
  rfl,e0.bare,Un.kept hk,{_,x.toInCall.ns,λi y v h1 h2 h3=>?_},λy c h=>{_,x.cell y c h},e0.bY.fresh (VR _),λy c h=>?_,λp hp=>absurd (show p∈([]:List (Addr×Obj)) from hp) (by simp),e0.bY.kept hk,?_⟩
 ·exact name_of_addr x.apart (PySem.mem_of_lookup h1) (PySem.mem_of_lookup h2)
 ·have hy:scope.names.lookup y=some .cell\/scope.names.lookup y=some .free:=hy;rcases hy with hy|hy
  ·exact uE hy
  ·exact absurd rfl (S.Ic _ (PySem.mem_of_lookup hy))
 ·exact Zr (x.above y c (PySem.mem_of_lookup h))
 ·have hi:i<vs.length:=by
   unfold start at h2
   by_cases hi:i<vs.length
   ·exact hi
   ·rw[WV (by simpa using hi)]at h2
    rw[List.getElem?_replicate]at h2
    split at h2 <;> cases h2
  have ha:vs[i]?=some v:=by
   unfold start at h2;rw[Xe (by simpa using hi),Wg]at h2
   cases e:vs[i]? with
   |none=>rw[e]at h2;cases h2
   |some a=>rw[e]at h2;cases h2;rfl
  obtain⟨u,hu,rv⟩:=r.get ha;have hp:ps[i]?=some y:=by
   rw[<- S.pre,Ys (by lia)];exact h1
  have RN:ps.Nodup:=by rw[<- S.pre];exact S.nd.sublist (List.take_sublist _ _)
  refine{u,rv,?_};rcases S.par y (Xz hp)with k|k
  ·exact .inl {k,qd RN hp hu k}
  ·obtain⟨c,e⟩:=uE (n:=s.heap.objs.size+1) k;refine .inr {.inl k,c,e,?_};have q:=x.cell y c e;rw[qf RN hp hu (by show scope.names.lookup y≠_;rw[k];decide)]at q
   exact q
 ·exact e0.bY.fresh (Zr (x.above y c (PySem.mem_of_lookup h)))
 ·unfold start;show _=N.length;rw[Wf,VS,List.length_replicate];lia
def Mz {CX:C3}{P:V2}{w:Wm}{K:PySem.W.Frag}{mg:Str->Option VT}{base:Heap}{k:Nat}{f:Addr}{name qual:Str}{params:Arguments}{body:List Stmt}{scope:YA}{dV kV doc pm c7 ct oc:VT}{an od:Option Addr}
  {HQ:Array (Option VT)} {N ps:List Str} {sp:Sp} (lk:K.lookup f=some {oc,od,.func (PySem.W.fnOf name qual params body scope dV kV doc pm an c7 ct),HQ}) (Dd:PySem.W.codeIn K c7 qual=true) (S:aK N ps scope)
  (len:∀vs H Q E,sp vs H Q E->vs.length=ps.length)
  (nj:∀(A:Xd) (outer:List Env) (s:VY) (H:Hp) (vs:List V) (Q:VK) (E:XK),da k (A.deeper (Zm qual scope s.heap.objs.size f c7))->sp vs H Q E ->
   ∃t,rX (oU CX P w K mg base N qual scope f c7 A outer s H E) body t/\t {nx:=λ_ H'=>Q .ck H',rt:=Q} (start N vs) H) :
  aG P w K mg base CX (k+1) f (PySem.W.fnOf name qual params body scope dV kV doc pm an c7 ct) ps sp:=by
 refine{len,λA outer s H args us vs Q E hr e0 hb r t7=>?_};have hl:=len _ _ _ _ t7;have KX:K.In s.heap:=e0.mod.O5.keeps λb o e=>(e0.bs b o e).1;have lim:s.heap.NoLimit:=e0.mod.nolimit.keeps λb o e=>(e0.bs b o e).1;have Mi:∀y∈ps.zip us,scope.names.lookup y.1=some .local\/(scope.names.lookup y.1=some .cell/\((cellsFrom (s.heap.objs.size+1) scope.names []).lookup y.1).isSome=true):=λPH hy=>by
  obtain⟨n,v⟩:=PH;rcases S.par n (Zz hy).1 with q|q
  ·exact .inl q
  ·exact .inr {q,PySem.W.cellsFrom_some _ _ _ (.inl q)}
 refine codeAny_call_function hr.depth (KX _ _ lk) rfl S.co S.gen rfl (PySem.W.codeRec_of KX Dd) (hb _ _ _ _ ?_);refine wpAny_newFunctionEnv_cells S.kind Mi λenv he s1 x=>?_;subst he;refine{lim.keeps x.toInCall.keep,codeAny_func ?_};obtain⟨t,ht,hq⟩:=nj A outer s H vs Q E (hr.deeper _) t7;have I:Inv (oU CX P w K mg base N qual scope f c7 A outer s H E) [] (start N vs) H s1:=yZ S hr.hd e0 hl r x;refine YZ (ht [] s1 (start N vs) H _ I hq) (λfl s' hs=>?_) λe s' hs=>hs;have fin:∀{σ':St} {H':Hp} {v:V} {u:VT},Inv (oU CX P w K mg base N qual scope f c7 A outer s H E) [] σ' H' s'->RelV v u->Q v H'->CE outer P w H s Q u s' :=
  λ{σ' H' v u} J rv q=>{(v),H',J.os,J.bare,J.base,J.bY,rv,q}
 cases fl with
 |ret u =>
  obtain⟨v,σ',H',J,rv,q⟩:=hs;exact fin J rv q
 |next =>
  obtain⟨σ',H',J,q⟩:=hs;exact fin (v:=V.ck) (u:=Value.none) J rfl q
 |brk =>
  obtain⟨_,_,_,q⟩:=hs;exact Ym q
 |cont =>
  obtain⟨_,_,_,q⟩:=hs;exact Ym q
section
variable {X:Cx}{x:Str}{p pos:Pos}{e:Expr}{es:List Expr}{t:TA}{id T:String}{r:List V->Hp->VK->Prop}
def Nc (r:List V->Hp->VK->Prop)(t:TA):TE:=λσ H Q=>t σ H λvs H1=>r vs H1 Q
def mL (hc:fM X (.builtin id) r) (hg:Gl X x) (hm:X.mg x=none) (hv:Xl x=some (.builtin id)) (ha:PA X (e::es) t) (hn:x≠"__name__" := by decide) (hdb:(x==("__debug__" : Str))=false:=by decide)
  (he:Wj (e::es) X.env=(false,eval e X.env)::Wj es X.env:=by rfl) (hpl:(XT pos (Wj es X.env)).any (·.1)=false:=by rfl):PE X (.Call (.Name x p) (e::es) [] pos) (Nc r t):=by
 intro pins s σ H Q I h;refine X4 (gV I hg hm hv ?_ hn hdb);exact PyProof.Rows.callWith_builtin1 (bG (ha pos pins s σ H _ I h) λus s1 PF=>by obtain⟨vs,H1,I1,r1,q1⟩:=PF;exact hc pins s1 σ H1 vs us Q I1 r1 q1) he hpl
def pB (hc:fM X (.type T) r) (hg:Gl X x) (hm:X.mg x=none) (hv:Xl x=some (.type T)) (ha:PA X (e::es) t) (hn:x≠"__name__" := by decide) (hdb:(x==("__debug__" : Str))=false:=by decide)
  (he:Wj (e::es) X.env=(false,eval e X.env)::Wj es X.env:=by rfl) (hpl:(XT pos (Wj es X.env)).any (·.1)=false:=by rfl):PE X (.Call (.Name x p) (e::es) [] pos) (Nc r t):=by
 intro pins s σ H Q I h;refine X4 (gV I hg hm hv ?_ hn hdb);exact XA (bG (ha pos pins s σ H _ I h) λus s1 PD=>by obtain⟨vs,H1,I1,r1,q1⟩:=PD;exact hc pins s1 σ H1 vs us Q I1 r1 q1) he hpl
def vB (hc:fM X (.type T) r) (hg:Gl X x) (hm:X.mg x=none) (hv:Xl x=some (.type T)) (hn:x≠"__name__" := by decide) (hdb:(x==("__debug__" : Str))=false:=by decide) :
  PE X (.Call (.Name x p) [] [] pos) (Nc r He):=by
 intro pins s σ H Q I h;refine X4 (gV I hg hm hv ?_ hn hdb);exact PyProof.Rows.callWith_type0 (hc pins s σ H [] [] Q I .nil h)
end
end L2
namespace HT
open PySem PyProof.Rows
def lexLt:List Int->List Int->Bool
 |[],[]=>false
 |[],_::_=>true
 |_::_,[]=>false
 |x::xs,y::ys=>if x=y then lexLt xs ys else decide (x<y)
def i4 (x y:Int)(xs ys:List Int):lexLt (x::xs) (y::ys)=if x=y then lexLt xs ys else decide (x<y):=rfl
section
def my (n d:Nat):Option Int->Nat
 |none=>d
 |some v=>if v<0 then (v+(n:Int)).toNat else min v.toNat n
def Av (n d:Nat):my n d none=d:=rfl
def DH (n d k:Nat):my n d (some (k:Int))=min k n:=by
 show (if (k:Int)<0 then ((k:Int)+(n:Int)).toNat else min (k:Int).toNat n)=min k n
 rw[if_neg (by lia),WO]
end
end HT
namespace L2
open PySem PySem.Spec PyProof.Rows
abbrev TO:=St->Hp->(Option Int->Hp->Prop)->Prop
def PO (X:Cx)(e:Option Expr)(t:TO):Prop :=
 ∀(pins:List (Addr×Obj)) (s:VY) (σ:St) (H:Hp) (Q:Option Int->Hp->Prop),Inv X pins σ H s->t σ H Q ->
  WM (model X.prog X.w) X.A (evalPart e X.env) (λu s'=>∃o H',Inv X pins σ H' s'/\IsPart u o/\Q o H') X.xe s
def Dx:TO:=λ_ H Q=>Q none H
def Kn (t:TE):TO:=λσ H Q=>t σ H λx H1=>∃i,x=.int i/\Q (some i) H1
def intsAre_of {ns:List Int}:∀{us:List VT},Vals (ns.map V.int) us->Yw us ns:=by
 induction ns with
 |nil=>intro us r;rw[List.map_nil]at r;cases r;exact .nil
 |cons n ns ih =>
  intro us r;rw[Ws]at r;cases r with
  |cons r1 r2 =>
   obtain⟨t,e⟩:=r1;subst e;exact .cons n t (ih r2)
section
variable {X:Cx}{e:Expr}{te:TE}{lo hi:Option Expr}{tl th:TO}{pos p2:Pos}
def w6:PO X none Dx:=by
 intro pins s σ H Q I h;rw[evalPart_none];exact Wd {none,H,I,.none,h}
def w5 (h:PE X e te):PO X (some e) (Kn te):=by
 intro pins s σ H Q I hw;rw[evalPart_some];refine bG (h pins s σ H _ I hw) λu s1 ⟨x,H1,I1,r1,q1⟩=>?_;obtain⟨i,rfl,q⟩:=q1;obtain⟨t,rfl⟩:=r1;exact{some i,H1,I1,.int i t,q}
def Q0 (X:Cx)(r:V->Option Int->Option Int->Hp->VK->Prop):Prop :=
 ∀(pins:List (Addr×Obj)) (s:VY) (σ:St) (H:Hp) (x:V) (v vl vu:VT) (lo hi:Option Int) (sl:Addr) (Q:VK),Inv X pins σ H s->RelV x v->s.heap.IsSliceOf sl vl vu .none->IsPart vl lo->IsPart vu hi->r x lo hi H Q ->
  ∃T id,typeLookup (.type T) "__getitem__" = pure (some (.builtin id))/\s.TypeIs v T/\WM (model X.prog X.w) X.A (getItem v (.ref sl)) (EP X pins σ Q) X.xe s
def S4 (r:V->Option Int->Option Int->Hp->VK->Prop)(te:TE)(tl th:TO):TE:=λσ H Q=>te σ H λx H1=>tl σ H1 λl H2=>th σ H2 λu H3=>r x l u H3 Q
def sX {r:V->Option Int->Option Int->Hp->VK->Prop}(hr:Q0 X r)(he:PE X e te)(hl:PO X lo tl)(hu:PO X hi th):PE X (.Subscript e (.Slice lo hi none p2) pos) (S4 r te tl th):=by
 intro pins s σ H Q I h;refine Subscript_ (bG (he pins s σ H _ I h) λv s1 ⟨x,H1,I1,r1,q1⟩=>?_);refine wpAny_Slice (bG (hl pins s1 σ H1 _ I1 q1) λvl s2 ⟨l,H2,I2,pl,q2⟩=>bG (hu pins s2 σ H2 _ I2 q2) λvu s3 ⟨u,H3,I3,pu,q3⟩=>?_);rw[evalPart_none];refine Wd ?_;have I4:Inv X pins σ H3 {s3 with heap:=s3.heap.push {cls:=.type "slice",data:=.fields #[vl,vu,.none]}}:=I3.kept (t':=s3.toks) λb ob q=>V6 _ q
 obtain⟨T,id,hT,ht,hg⟩:=hr pins {s3 with heap:=s3.heap.push {cls:=.type "slice",data:=.fields #[vl,vu,.none]}} σ H3 x v vl vu l u s3.heap.objs.size Q I4 r1 (Heap.IsSliceOf.new ..) pl pu q3
 show WM (model X.prog X.w) X.A (subscriptTail e (.Slice lo hi none p2) v (.ref s3.heap.objs.size)) (EP X pins σ Q) X.xe {s3 with heap:=s3.heap.push {cls:=.type "slice",data:=.fields #[vl,vu,.none]}}
 exact tail_any (ops:=[.ref s3.heap.objs.size,v]) ht hT hg (by with_unfolding_all rfl)
def uC (xs:List V)(lo hi:Option Int):List V:=(xs.drop (HT.my xs.length 0 lo)).take (HT.my xs.length xs.length hi-HT.my xs.length 0 lo)
def uB (xs:List V)(lo hi:Option Int):(uC xs lo hi).length<=xs.length:=by
 unfold uC;rw[WH,Zl];lia
end
def C8 (n:Nat)(i:Int):Option Nat:=if 0<=i then (if i<n then some i.toNat else none) else if -(n:Int)<=i then some (i+n).toNat else none
def uI {α:Type}(xs:List α)(i:Int):Option α:=(C8 xs.length i).bind λj=>xs[j]?
def xu {n:Nat}{i:Int}{j:Nat}(h:C8 n i=some j):seqIndex? i n=some j/\j<n/\-(n:Int)<=i/\i<n:=by
 unfold C8 at h
 by_cases h0:0<=i
 ·rw[if_pos h0]at h
  by_cases h1:i<n
  ·rw[if_pos h1]at h;have e:i.toNat=j:=WA h;exact{by rw[seqIndex_of h0 h1,e],by lia,by lia,h1}
  ·rw[if_neg h1]at h;cases h
 ·rw[if_neg h0]at h
  by_cases h1:-(n:Int)<=i
  ·rw[if_pos h1]at h;have e:(i+n).toNat=j:=WA h;exact{by rw[seqIndex_neg (by lia) h1,e],by lia,h1,by lia}
  ·rw[if_neg h1]at h;cases h
def xW {α:Type}{xs:List α}{i:Int}{v:α}(h:uI xs i=some v):∃j,seqIndex? i xs.length=some j/\xs[j]?=some v/\j<xs.length/\-(xs.length:Int)<=i/\i<xs.length:=by
 unfold uI at h;cases e:C8 xs.length i with
 |none=>rw[e]at h;cases h
 |some j =>
  rw[e]at h;obtain⟨h1,h2,h3,h4⟩:=xu e;exact{(j),h1,h,h2,h3,h4}
def rR (b:Expr):Prop:=∀o i,subscripted b false o i=operate [o,i] (getItem o i)
def GK (X:Cx)(r:R2):Prop :=
 ∀(value slice:Expr) (pins:List (Addr×Obj)) (s:VY) (σ:St) (H:Hp) (x y:V) (v u:VT) (Q:VK),Inv X pins σ H s->RelV x v->RelV y u->r x y H Q ->
  subscripted slice false v u=operate [v,u] (getItem v u)->WM (model X.prog X.w) X.A (subscriptTail value slice v u) (EP X pins σ Q) X.xe s
def NW (X:Cx)(id:String)(r:V->List V->Hp->VK->Prop):Prop :=
 ∀(pins:List (Addr×Obj)) (s:VY) (σ:St) (H:Hp) (x:V) (xs:List V) (v:VT) (us:List VT) (Q:VK),Inv X pins σ H s->RelV x v->Vals xs us->r x xs H Q ->
  WM (model X.prog X.w) X.A (call (.builtin id) (v::us)) (EP X pins σ Q) X.xe s
section
variable {X:Cx}{a b:Expr}{ta tb:TE}{pos:Pos}
def mK {r:R2}(hr:GK X r)(ha:PE X a ta)(hb:PE X b tb)(hs:rR b):PE X (.Subscript a b pos) (Ko r ta tb):=by
 intro pins s σ H Q I h;exact Subscript_ (JI ha hb I h λv u s2 x y H2 I2 rx ry q=>hr a b pins s2 σ H2 x y v u Q I2 rx ry q (hs _ _))
def KA (K:PySem.W.Frag):R2:=λx y H Q=>∃p xs i v,x=.ref p/\y=.int i/\eQ K H p xs/\uI xs i=some v/\Q v H
def Kz (K:PySem.W.Frag):R2:=λx y H Q=>∃p xs i v,x=.ref p/\y=.int i/\nW K H p xs/\uI xs i=some v/\Q v H
def fZ:GK X (KA X.K):=by
 intro value slice pins s σ H x y v u Q I rx ry h hs;obtain⟨p,xs,i,z,rfl,rfl,hq,he,q⟩:=h;cases rx;obtain⟨t,rfl⟩:=ry;obtain⟨its,r,pl,hz⟩:=I.list hq;obtain⟨j,h1,h2,h3,h4,h5⟩:=xW he;obtain⟨w,ew,C5⟩:=r.get h2;have hl:=r.length;have hn:=m7;have fin:EP X pins σ Q w s:={(z),H,I,C5,q}
 by_cases h0:0<=i
 ·have hj:i.toNat=j:=by
   rw[seqIndex_of h0 h5]at h1;exact WA h1
  exact item_listR pl.isList h0 (by lia) (by rw[hj];simpa using ew) fin hs
 ·have hj:(i+(its.toArray.size:Int)).toNat=j:=by
   rw[seqIndex_neg (by lia) h4]at h1
   rw[Wq,<- hl];exact WA h1
  exact subscriptTail_builtinR (x:=w) pl.isList.typeIs ZV.lookup
   (wpAny_getItem_list_neg (Q:=λr s'=>r=w/\EP X pins σ Q r s') pl.isList (by lia) (by rw[Wq] <;> lia) (by lia) (by rw[hj];simpa using ew) {(rfl),fin}) hs
def BF:GK X (Kz X.K):=by
 intro value slice pins s σ H x y v u Q I rx ry h hs;obtain⟨p,xs,i,z,rfl,rfl,hq,he,q⟩:=h;cases rx;obtain⟨t,rfl⟩:=ry;obtain⟨its,r,pl,hz⟩:=I.tuple hq;obtain⟨j,h1,h2,h3,h4,h5⟩:=xW he;obtain⟨w,ew,C5⟩:=r.get h2;have hl:=r.length;have hn:=m7;have fin:EP X pins σ Q w s:={(z),H,I,C5,q};exact subscriptTail_builtinR (x:=w) pl.typeIs slot_tuple_getitem.lookup
  (getItem_tuple (j:=j) (Q:=λr s'=>r=w/\EP X pins σ Q r s') pl (by lia) (by lia) (by rw[Wq,<- hl];exact h1) (by simpa using ew) {(rfl),fin}) hs
def vL (its:List VT)(n j:Nat)(u:VT):Yl (·.setIfInBounds j u) {cls:=.type "list",data:=.seq its.toArray n}={cls:=.type "list",data:=.seq (its.set j u).toArray n}:=by
 simp[Yl]
def Inv.lst {pins:List (Addr×Obj)}{σ:St}{H:Hp}{s:VY}{p:Addr}{xs:List V}(I:Inv X pins σ H s)(h:H p=some (.lst xs)):
  ∃(its:List VT) (n:Nat),Vals xs its/\s.heap.get? p=some {cls:=.type "list",data:=.seq its.toArray n}/\xs.length<=Wi:=by
 obtain⟨z,its,n,r,e⟩:=I.bY p _ h;exact{(its),n,r,e,z}
def Inv.Ip {pins:List (Addr×Obj)}{σ:St}{H:Hp}{s:VY}{p:Addr}{xs ys:List V}{its its':List VT}{n n':Nat}{f:Obj->Obj}(I:Inv X pins σ H s)(h:H p=some (.lst xs))
  (ho:s.heap.get? p=some {cls:=.type "list",data:=.seq its.toArray n}) (hf:f {cls:=.type "list",data:=.seq its.toArray n}={cls:=.type "list",data:=.seq its'.toArray n'}) (r:Vals ys its') (hz:ys.length<=Wi) (t:Nat) :
  Inv X pins σ (upd H p (.lst ys)) {s with heap:=s.heap.update p f,toks:=t}:=by
 have e:(s.heap.update p f).get? p=some {cls:=.type "list",data:=.seq its'.toArray n'}:=by
  rw[Heap.get?_update_self f ho (by rw[hf] <;> rfl),hf]
 refine I.write (x:=p) (e:=p) (by rw[h];trivial) (.inl rfl) (λb u hb q=>(Heap.get?_update_other _ _ (YX hb)).trans q) {_,e} ?_
 exact{(hz),its',n',r,e}
def Ky:V->V->V->Hp->(Hp->Prop)->Prop:=λo i v H Q=>∃p xs k j,o=.ref p/\i=.int k/\H p=some (.lst xs)/\C8 xs.length k=some j/\Q (upd H p (.lst (xs.set j v)))
def set_list:MZ X Ky:=by
 intro pins s σ H o i v ov iv u Q I ro ri rv h;obtain⟨p,xs,k,j,rfl,rfl,hp,hj,q⟩:=h;cases ro;obtain⟨t,rfl⟩:=ri;obtain⟨its,n,r,ho,hz⟩:=I.lst hp;obtain⟨h1,h2,h3,h4⟩:=xu hj;have hl:=r.length;have hn:=m7;have I':Inv X pins σ (upd H p (.lst (xs.set j v))) {s with heap:=s.heap.update p (Yl (·.setIfInBounds j u))} :=
  I.Ip hp ho (vL its n j u) (r.set rv j) (by rw[List.length_set];exact hz) s.toks
 by_cases h0:0<=k
 ·have hk:k.toNat=j:=by
   rw[seqIndex_of h0 h4]at h1;exact WA h1
  exact PySem.W.ki_setAt ho h0 (by lia) (by rw[Wq,<- hl];exact h4) (by rw[hk];exact{_,I',q})
 ·have hk:(k+(its.toArray.size:Int)).toNat=j:=by
   rw[seqIndex_neg (by lia) h3]at h1
   rw[Wq,<- hl];exact WA h1
  exact PySem.W.ki_setBack ho (by lia) (by rw[Wq,<- hl];exact h3) (by lia) (by rw[hk];exact{_,I',q})
def qE (lo hi:Option Int)(n:Nat):(X3 lo hi none n).1=((HT.my n 0 lo:Nat):Int)/\(X3 lo hi none n).2.1=((HT.my n n hi:Nat):Int)/\(X3 lo hi none n).2.2=1:=by
 refine{?_,?_,rfl}
 ·cases lo with
  |none=>simp[X3,HT.my]
  |some i =>
   simp only[X3,HT.my,Option.getD_none,show (1:Int)>0 by decide,if_true]
   by_cases h:i<0
   ·simp only[h,if_true] <;> lia
   ·simp only[h,if_false] <;> lia
 ·cases hi with
  |none=>simp[X3,HT.my]
  |some i =>
   simp only[X3,HT.my,Option.getD_none,show (1:Int)>0 by decide,if_true]
   by_cases h:i<0
   ·simp only[h,if_true] <;> lia
   ·simp only[h,if_false] <;> lia
def oA (its:List VT)(lo hi:Option Int):slicePick its.toArray lo hi none=((its.drop (HT.my its.length 0 lo)).take (HT.my its.length its.length hi-HT.my its.length 0 lo)).toArray:=by
 obtain⟨h1,h2,h3⟩:=qE lo hi its.toArray.size;unfold slicePick;rw[h1,h2,h3];simp only[sliceRange_one,pick_run,Wq] <;> rfl
def Ou (K:PySem.W.Frag):V->Option Int->Option Int->Hp->VK->Prop:=λx lo hi H Q=>∃a xs,x=.ref a/\eQ K H a xs/\∀p,H p=none->Q (.ref p) (upd H p (.lst (uC xs lo hi)))
def wI:Q0 X (Ou X.K):=by
 intro pins s σ H x v vl vu lo hi sl Q I rx hs pl pu h;obtain⟨a,xs,rfl,hx,q⟩:=h;cases rx;obtain⟨its,r,ht,hz⟩:=I.list hx;have hlen:=r.length;refine{"list",_,ZV.lookup,ht.isList.typeIs,?_};refine wpAny_getItem_list_slice ht.isList hs pl pu .none (by simp) ?_ (by rw[Wq] <;> lia)
 rw[oA,<- hlen];refine{.ref s.heap.objs.size,_,I.laid (t':=s.toks) (o:=.lst (uC xs lo hi)) (λb ob q=>V6 _ q) (VR _) ?_,rfl,q _ (I.bY.fresh (VR _))};exact{WG (uB xs lo hi) hz,_,0,(r.drop (HT.my xs.length 0 lo)).take (HT.my xs.length xs.length hi-HT.my xs.length 0 lo),WT _ rfl}
def jZ:fM X (.builtin "len") (λxs H Q=>∃p ys,xs=[.ref p]/\(eQ X.K H p ys\/nW X.K H p ys)/\Q (.int ys.length) H):=by
 intro pins s σ H xs us Q I r h;obtain⟨p,ys,rfl,hq,q⟩:=h;obtain⟨u,rfl,rx⟩:=vals1 r;cases rx;have hn:=m7;rcases hq with hq|hq
 ·obtain⟨its,r',pl,hz⟩:=I.list hq;have hlen:=r'.length;exact Calls.call_len_list pl.isList (by simp only[Wq] <;> lia) {.int ys.length,H,I.tok _,{s.toks+1,by rw[Wq,hlen]},q}
 ·obtain⟨its,r',pl,hz⟩:=I.tuple hq;have hlen:=r'.length;exact len_tuple pl (by simp only[Wq] <;> lia) {.int ys.length,H,I.tok _,{s.toks+1,by rw[Wq,hlen]},q}
def Na (K:PySem.W.Frag)(T:String)(x:V)(H:Hp):Prop:=match x with
 |.str _=>T="str"
 |.int _=>T="int"
 |.ref p=>(T="list" /\ ∃xs,eQ K H p xs)\/(T="tuple" /\ ∃o,K.lookup p=some o/\o.cls=.type "tuple" /\ o.dict=none) \/
   (T="dict" /\ ((∃kvs,H p=some (.dK kvs))\/∃kvs,H p=some (.dT kvs)))\/(T="set" /\ ∃S n,H p=some (.set S n))
 |_=>False
def z9 {pins:List (Addr×Obj)}{σ:St}{H:Hp}{s:VY}{T:String}{x:V}{v:VT}(I:Inv X pins σ H s)(r:RelV x v)(ty:Na X.K T x H):
  s.TypeIs v T/\∀a,v=.ref a->∃ob,s.heap.get? a=some ob/\ob.dict=none:=by
 cases x with
 |str z =>
  obtain⟨t,rfl⟩:=r;cases (show T="str" from ty)
  exact{typeIs_str s z t,λ_ e=>nomatch e}
 |int i =>
  obtain⟨t,rfl⟩:=r;cases (show T="int" from ty)
  exact{typeIs_int s i t,λ_ e=>nomatch e}
 |ref p =>
  cases r;rcases ty with⟨rfl,xs,hq⟩|⟨rfl,o,hk,hc,hd⟩|⟨rfl,hk⟩|⟨rfl,S,n,hk⟩
  ·obtain⟨its,_,pl,_⟩:=I.list hq;refine{pl.isList.typeIs,λa e=>?_};cases e;obtain⟨o,n,e,c,hd,_⟩:=pl;exact{(o),e,hd}
  ·refine{{o,I.J0 p o hk,hc},λa e=>?_};cases e;exact{o,I.J0 _ o hk,hd}
  ·have z:∃o,s.heap.get? p=some o/\o.ExactDict:=by
    rcases hk with⟨kvs,hk⟩|⟨kvs,hk⟩
    ·obtain⟨_,_,_,_,o,_,_,e,ex,_⟩:=I.bY p _ hk;exact{(o),e,ex}
    ·obtain⟨_,_,_,_,o,_,_,e,ex,_⟩:=I.bY p _ hk;exact{(o),e,ex}
   obtain⟨o,e,ex⟩:=z;refine{{(o),e,ex.1},λa e2=>?_};cases e2;exact{(o),e,ex.2.1}
  ·obtain⟨o,_,_,_,e,ex,_⟩:=I.bY p _ hk;refine{{(o),e,ex.1},λa e2=>?_};cases e2;exact{(o),e,ex.2.1}
 |_=>exact Ym ty
def Oa (K:PySem.W.Frag)(T:String)(r:V->List V->Hp->VK->Prop)(to:TE):TE:=λσ H Q=>to σ H λx H1=>Na K T x H1/\r x [] H1 Q
def S6 (K:PySem.W.Frag)(T:String)(r:V->List V->Hp->VK->Prop)(to:TE)(t:TA):TE:=λσ H Q=>to σ H λx H1=>Na K T x H1/\t σ H1 λxs H2=>r x xs H2 Q
variable {o e:Expr}{es:List Expr}{to:TE}{t:TA}{name:Str}{apos cpos:Pos}{T id:String}{r:V->List V->Hp->VK->Prop}
def HM (pa:PlainAttrs T) (slot:Slot T name id) (LF:typeOf (.builtin id)=pure (.type "method_descriptor")) (hm:NW X id r) (ho:PE X o to)
  (eK:Yb o name X.env (eval o X.env)=eval o X.env:=by rfl) (eJ:(apos.endLine==cpos.line)=true:=by rfl):PE X (.Call (.Attribute o name apos) [] [] cpos) (Oa X.K T r to):=by
 intro pins s σ H Q I h;refine wpAny_Call_method0_late eK eJ (bG (ho pins s σ H _ I h) λv s1 ⟨x,H1,I1,r1,ty,q1⟩=>?_);obtain⟨h1,h2⟩:=z9 I1 r1 ty;exact{T,id,pa,slot,LF,h1,h2,Zu rfl (PySem.evalArgs_none (hm pins s1 σ H1 x [] v [] Q I1 r1 .nil q1))}
def AY (pa:PlainAttrs T) (slot:Slot T name id) (LF:typeOf (.builtin id)=pure (.type "method_descriptor")) (hm:NW X id r) (ho:PE X o to) (ha:PA X (e::es) t)
  (eK:Yb o name X.env (eval o X.env)=eval o X.env:=by rfl)
  (ni:((XT cpos (Wj (e::es) X.env)).all (λx=>!x.1)&&(ZX cpos (Y9 [] X.env)).all (λx=>x.1.isSome)
   && decide ((e::es).length+([]:List YN).length+(if ([]:List YN).isEmpty then 0 else 1)<30))=true:=by rfl)
  (eJ:(apos.endLine==cpos.line)=true:=by rfl) (hs:Wj (e::es) X.env=(false,eval e X.env)::Wj es X.env:=by rfl) (eI:(XT cpos (Wj es X.env)).any (·.1)=false:=by rfl) :
  PE X (.Call (.Attribute o name apos) (e::es) [] cpos) (S6 X.K T r to t):=by
 intro pins s σ H Q I h;refine wpAny_Call_method_late eK ni eJ rfl (bG (ho pins s σ H _ I h) λv s1 ⟨x,H1,I1,r1,ty,q1⟩=>?_);obtain⟨h1,h2⟩:=z9 I1 r1 ty;refine{T,id,pa,slot,LF,h1,h2,?_};have hA:=ha cpos pins s1 σ H1 _ I1 q1;rw[hs]at hA ⊢
 refine Zu (by show (false || (XT cpos (Wj es X.env)).any (·.1))=false;rw[eI] <;> rfl) (Calls.evalArgs_plain ?_)
 exact bG hA λus s2 ⟨vs,H2,I2,r2,q2⟩=>hm pins s2 σ H2 x vs v us Q I2 r1 r2 q2
end
def Q4 (X:Cx)(id:String)(r:V->List V->Hp->VK->Prop):Prop :=
 ∀(pins:List (Addr×Obj)) (s:VY) (σ:St) (H:Hp) (x:V) (xs:List V) (v:VT) (us:List VT) (Q:VK),Inv X pins σ H s->RelV x v->Vals xs us->r x xs H Q ->
  WM (model X.prog X.w) X.A (call (.builtin id) (v::us)) (EP X pins σ Q) X.xe s
theorem Vals.one:∀{x:V} {us:List VT},Vals [x] us->∃u,us=[u]/\RelV x u
 |_,_,.cons r .nil=>{_,rfl,r}
theorem Vals.zero:∀{us:List VT},Vals [] us->us=[]
 |_,.nil=>rfl
def Vals.dropLast {xs:List V}{us:List VT}(h:Vals xs us):Vals xs.dropLast us.dropLast:=by
 induction h with
 |nil=>exact .nil
 |cons r t ih =>
  cases t with
  |nil=>exact .nil
  |cons q t'=>exact .cons r ih
theorem Vals.rep {xs:List V}{us:List VT}(h:Vals xs us):∀k:Nat,Vals (WQ k xs).flatten (WQ k us).flatten
 |0=>.nil
 |k+1=>by
  rw[XM,XM,Yg,Yg];exact Vals.append h (Vals.rep h k)
def v_ {α:Type}(l:List α):l.eraseIdx (l.length-1)=l.dropLast:=by
 induction l with
 |nil=>rfl
 |cons a r ih =>
  cases r with
  |nil=>rfl
  |cons b r =>
   have e:(a::b::r).length-1=((b::r).length-1)+1:=by
    have h1:(a::b::r).length=r.length+2:=rfl;have h2:(b::r).length=r.length+1:=rfl;lia
   rw[e,List.eraseIdx_cons_succ,ih]
   all_goals rfl
theorem foldl_rep (its:List VT):∀(k:Nat) (acc:List VT),
  List.foldl (λx1 x2=>x1++x2) acc.toArray (WQ k its.toArray)=(acc++(WQ k its).flatten).toArray
 |0,acc=>by simp
 |k+1,acc=>by
  have e:acc.toArray++its.toArray=(acc++its).toArray:=by simp
  have e2:(acc++its)++(WQ k its).flatten=acc++(WQ (k+1) its).flatten:=by
   rw[XM,Yg,W3]
  rw[<- e2,<- foldl_rep its k (acc++its),<- e,XM,XU]
section
variable {X:Cx}{pins:List (Addr×Obj)}{σ:St}{H:Hp}{s:VY}{l:Addr}{xs ys:List V}
def Inv.Ir {its its':List VT}{n:Nat}{f:Array VT->Array VT}{t':Nat}(I:Inv X pins σ H s)(hH:H l=some (.lst xs))
  (e:s.heap.get? l=some {cls:=.type "list",data:=.seq its.toArray n}) (hf:f its.toArray=its'.toArray) (hv:Vals ys its') (hz:ys.length<=Wi) :
  Inv X pins σ (upd H l (.lst ys)) {s with heap:=s.heap.update l (Yl f),toks:=t'}:=by
 have q:=PySem.IsL.update e f;rw[hf]at q;refine I.write (x:=l) (e:=l) (by rw[hH];exact tv) (.inl rfl) (λb' u hb hu=>(Heap.get?_update_other s.heap (Yl f) (YX hb)).trans hu) {_,q} ?_
 exact{hz,its',_,hv,q}
def Inv.Iv {its:List VT}{t':Nat}(I:Inv X pins σ H s)(hv:Vals ys its)(hz:ys.length<=Wi):
  Inv X pins σ (upd H s.heap.objs.size (.lst ys)) {s with heap:=s.heap.push {cls:=.type "list",data:=.seq its.toArray},toks:=t'} :=
 I.laid (λ_ _ q=>V6 _ q) (VR _) {hz,its,0,hv,WT _ rfl}
def Inv.fresh (I:Inv X pins σ H s):H s.heap.objs.size=none:=I.bY.fresh (VR _)
def Inv.vM (I:Inv X pins σ H s)(hH:H l=some (.lst xs)):xs.length<=Wi/\∃(its:List VT) (n:Nat),Vals xs its/\xs.length=its.length/\s.heap.get? l=some {cls:=.type "list",data:=.seq its.toArray n}:=by
 obtain⟨z,its,n,r,e⟩:=I.bY l _ hH;exact{(z),its,n,r,r.length,e}
def tw {n:Nat}(h:n<=Wi):Yu n=false:=by
 unfold Yu;exact decide_eq_false (by lia)
end
section
variable {X:Cx}
def wU:V->List V->Hp->VK->Prop:=λx vs H Q=>∃l xs y,x=.ref l/\vs=[y]/\H l=some (.lst xs)/\xs.length<Wi/\Q .ck (upd H l (.lst (xs++[y])))
def kq:Q4 X "list.append" wU:=by
 intro pins s σ H x vs v us Q I rx rv h;obtain⟨l,xs,y,rfl,rfl,hH,hz,q⟩:=h;cases rx;obtain⟨u,rfl,ru⟩:=rv.one;obtain⟨z,its,n,r,hl,e⟩:=I.vM hH;refine ZP F.slot_list_append {_,e,rfl} F.entry_list_append (F.args_list_append_2 _ _) (PySem.list_append l its.toArray n u (by rw[Wq];lia)) {e,?_}
 refine{.ck,_,I.Ir (its':=its++[u]) hH e (by simp) (r.append (.cons ru .nil)) ?_,rfl,q}
 rw[Wf,XS];lia
def DJ:V->List V->Hp->VK->Prop:=λx vs H Q=>∃l b xs zs,x=.ref l/\vs=[.ref b]/\H l=some (.lst xs)/\H b=some (.lst zs)/\xs.length+zs.length<=Wi/\Q .ck (upd H l (.lst (xs++zs)))
def yO:Q4 X "list.extend" DJ:=by
 intro pins s σ H x vs v us Q I rx rv h;obtain⟨l,b,xs,zs,rfl,rfl,hH,hB,hz,q⟩:=h;cases rx;obtain⟨u,rfl,ru⟩:=rv.one;cases ru;obtain⟨z,its,n,r,hl,e⟩:=I.vM hH;obtain⟨z2,vR,n2,r2,Sg,e2⟩:=I.vM hB;have hsz:its.toArray.size+vR.toArray.size<=Wi:=by rw[Wq,Wq];lia
 have BY:¬ (!its.toArray.isEmpty&&Yu (its.toArray.size+vR.toArray.size))=true:=by
  rw[tw hsz,Bool.and_false];exact W4
 refine ZP F.slot_list_extend {_,e,rfl} F.entry_list_extend (F.args_list_extend_2 _ _)
  (AutoSeq1.list_extend_list_list_0 l its.toArray n b vR.toArray n2 BY (by rw[Wq];lia) (by lia)) {e,e2,?_}
 refine{.ck,_,I.Ir (its':=its++vR) hH e (by simp) (r.append r2) ?_,rfl,q}
 rw[Wf];lia
def Ox:V->List V->Hp->VK->Prop:=λx vs H Q=>∃l xs y,x=.ref l/\vs=[]/\H l=some (.lst xs)/\xs[xs.length-1]?=some y/\Q y (upd H l (.lst xs.dropLast))
def Im:Q4 X "list.pop" Ox:=by
 intro pins s σ H x vs v us Q I rx rv h;obtain⟨l,xs,y,rfl,rfl,hH,hy,q⟩:=h;cases rx;have Ub:=rv.zero;subst Ub;obtain⟨z,its,n,r,hl,e⟩:=I.vM hH;obtain⟨u,hu,ru⟩:=r.get hy;have T8:its.toArray[its.toArray.size-1]?=some u:=by
  show its.toArray[its.length-1]?=some u;rw[<- Wo,<- hl];exact hu
 refine ZP F.slot_list_pop {_,e,rfl} F.entry_list_pop (F.args_list_pop_1 _) (MeetsSeq.list_pop_last l its.toArray n u T8 (by rw[Wq];lia)) {e,?_}
 refine{y,_,I.Ir (its':=its.dropLast) hH e ?_ r.dropLast ?_,ru,q}
 ·show its.toArray.eraseIdxIfInBounds (its.toArray.size-1)=its.dropLast.toArray;rw[Wq,List.eraseIdxIfInBounds_toArray,v_]
 ·rw[List.length_dropLast];lia
def OA:R2:=λx y H Q=>∃l b xs zs,x=.ref l/\y=.ref b/\H l=some (.lst xs)/\H b=some (.lst zs)/\xs.length+zs.length<=Wi/\∀p,H p=none->Q (.ref p) (upd H p (.lst (xs++zs)))
def Bf:jk X (XX .Add) OA:=by
 intro pins s σ H x y v u Q I rx ry h;obtain⟨l,b,xs,zs,rfl,rfl,hH,hB,hz,q⟩:=h;cases rx;cases ry;obtain⟨z,its,n,r,hl,e⟩:=I.vM hH;obtain⟨z2,vR,n2,r2,Sg,e2⟩:=I.vM hB;refine PySem.P.add_list e e2 ?_ (by rw[Wq,Wq];lia)
 have ea:its.toArray++vR.toArray=(its++vR).toArray:=by simp
 rw[ea];exact{.ref _,_,I.Iv (t':=s.toks) (r.append r2) (by rw[Wf];lia),rfl,q _ I.fresh}
def Ov:R2:=λx y H Q=>∃l k xs,x=.ref l/\y=.int k/\H l=some (.lst xs)/\-(2 ^ 63)<=k/\k<2 ^ 63/\xs.length*k.toNat<=Wi /\
 ∀p,H p=none->Q (.ref p) (upd H p (.lst (WQ k.toNat xs).flatten))
def len_rep {α:Type}(xs:List α)(k:Nat):(WQ k xs).flatten.length=k*xs.length:=by
 induction k with
 |zero=>simp
 |succ k ih=>rw[XM,Yg,Wf,ih,Nat.succ_mul,Nat.add_comm]
def HR:jk X (XX .Mult) Ov:=by
 intro pins s σ H x y v u Q I rx ry h;obtain⟨l,k,xs,rfl,rfl,hH,h1,h2,hz,q⟩:=h;cases rx;obtain⟨t,rfl⟩:=ry;obtain⟨z,its,n,r,hl,e⟩:=I.vM hH;have hlen:its.toArray.size*k.toNat<=Wi:=by rw[Wq,<- hl];exact hz
 have QB:¬ its.toArray.size*k.toNat>(2 ^ 63-1) / 8:=by
  have:(Wi:Nat)<=(2 ^ 63-1) / 8:=by decide
  lia
 have Qy:¬ (!Builtin.List.listFitsIndex k)=true:=by
  rw[fitsIndex_both h1 h2];exact W4
 have BY:¬ Yu (its.toArray.size*k.toNat)=true:=by
  rw[tw hlen];exact W4
 have Jg:List.foldl (λx1 x2=>x1++x2) #[] (WQ (if its.toArray.isEmpty=true then 0 else k.toNat) its.toArray)=(WQ k.toNat its).flatten.toArray:=by
  have f0:∀m:Nat,List.foldl (λx1 x2=>x1++x2) #[] (WQ m its.toArray)=(WQ m its).flatten.toArray:=λm=>by
   have:=foldl_rep its m [];rw[ZA]at this;exact this
  rw[f0];cases its with
  |nil=>simp
  |cons a r'=>rw[if_neg (by simp)]
 refine wpAny_binaryOp_repeat_ref (T:="list") (U:="int") (by decide) {_,e,rfl} (λs'=>typeIs_int s' k t) noFill_list_mul F.fills_int_mul F.slot_int_rmul repeat_list F.slot_int_index.lookup
  (ZP F.slot_int_rmul (typeIs_int s k t) F.entry_int_rmul (F.args_int_rmul_2 _ _) (int___rmul___int_list k t l its.toArray n)
   {e,rfl,{_,e,rfl},ZP F.slot_list_mul {_,e,rfl} F.entry_list_mul (F.args_list_mul_2 _ _) (AutoListH.list___mul___list_int_3 l its.toArray n k t Qy QB BY) {e,?_}})
 rw[Jg];exact{.ref _,_,I.Iv (t':=s.toks) (r.rep k.toNat) (by rw[len_rep,Nat.mul_comm];exact hz),rfl,q _ I.fresh}
end
end L2
namespace SS
open PySem PySem.W PySem.Calls PyProof.Rows
def lz {P:Params}{h:Heap}:∀(ns:List Int) (vs:List VT),WellAll P h vs (ns.map WData.int)->Yw vs ns:=by
 intro ns
 induction ns with
 |nil =>
  intro vs w;rw[List.map_nil]at w;cases w;exact .nil
 |cons n ns ih =>
  intro vs w;rw[Ws]at w;cases w with
  |cons a b =>
   cases a;exact .cons _ _ (ih _ b)
def yt {l:OpenLaw}{n:Nat}(hn:l.most=some n){P:Params}{h:Heap}{args:List WData}{vals:List VT}
  (EN:l.row.toRowW.claim.pre args=true) (Pg:WellAll P h vals args) :
  ∃a vs ns,vals=[Value.ref a]/\args=[WData.list (ns.map WData.int)]/\h.get? a=some {cls:=.type "list",data:=.seq vs.toArray}/\Yw vs ns/\ns.length<=n:=by
 have Uc:WShape.hasAll [] args [.list .int]=true:=(pre_splitW EN).1;have hc:l.pre.holds [] {args:=args}=true:=(pre_splitW EN).2;obtain⟨d,r,rfl,h1,h2⟩:=hasAllW_cons Uc;obtain rfl:=hasAllW_nil h2;obtain⟨xs,rfl,h3⟩:=hasW_list h1;obtain⟨ns,rfl⟩:=items_int h3;have hlen:ns.length<=n:=by
  unfold OpenLaw.pre at hc;have h4:(WTm.not (.lt (.lit (.int (n:Int))) (.len (.arg 0)))).holds [] {args:=[.list (ns.map .int)]}=true:=by
   have h4:=(holds_andW hc).1;rw[hn]at h4;exact h4
  have h5:=condW_of h4 (w_not (w_lt w_lit (w_len_list (w_arg rfl))));rw[VS]at h5;refine Nat.le_of_not_lt λq=>?_;have q':(n:Int)<((ns.length:Nat):Int):=by lia
  first
   | (rw[decide_eq_true q']at h5;exact absurd h5 (by decide))
   | (simp at h5;lia)
 cases Pg with
 |cons w1 w2 =>
  cases w2;cases w1 with
  |list ho oO=>exact{_,_,ns,rfl,rfl,ho,lz ns _ oO,hlen}
def yD (l:OpenLaw)(args:List WData):l.row.toRowW.claim.post args (.bool true) args=true :=
 postW_of (r:=l.row.toRowW) (X:=(true==true))
  (show WShape.has [] (.bool true) .bool=true by first|rfl|decide|simp[WShape.has,WShape.arms,WShape.armsAll])
  (show (WTm.eq .res (.lit (.bool true))).value [] {args:=args,res:=some (.bool true),after:=args}=some (.bool (true==true)) from w_eq_bool (w_res rfl) w_lit) rfl
def uH {l:OpenLaw}{n:Nat}{q:V2}{loose:List Str}{XP:(Str->Option VT)->Heap->Prop}{YP:Wm->Heap->Prop}{d:DefRec}
  (hn:l.most=some n) (NG:d.params.defaults=[])
  (call:∀(w:Wm) (s₀ s₁:VY) (mg mb:Str->Option VT) (fa:Addr) (o:Obj) (pm cd doc:VT) (a:Addr) (vs:List VT) (ns:List Int),
   Ground q loose [] XP w s₀ mg mb s₁.heap->YP w s₁.heap ->
   s₁.heap.get? fa=some o->o.data=.func (docDef d.name d.params d.body d.scope pm cd doc)->s₁.heap.CodeRec cd d.name->mg d.name=some (.ref fa) ->
   s₁.heap.get? a=some {cls:=.type "list",data:=.seq vs.toArray}->Yw vs ns->ns.length<=n->s₁.gens=#[] ->
   Zn (model l.prog w) ZW (.call (.ref fa) {[.ref a],[]}) (λr s'=>r=.ok (.ret (.bool true))/\OldK s₁.heap s'.heap/\s'.os=s₁.os/\Zv s'.gens) s₁) :
  WalkO q loose XP YP l.row.toRowW d [] (λf vs=>PySem.call f vs):=by
 intro w s₀ s₁ mg mb G Y fa o pm cd doc dV kV ho hd Dd hD Qh hg args vals as EN Uu VA Pg Ql;obtain rfl:dV=.none:=Dflts.none hD NG;obtain rfl:kV=.none:=Dflts.noKw hD;obtain⟨a,vs,ns,rfl,rfl,Je,hints,hlen⟩:=yt hn EN Pg;refine enter_call (YD (call w s₀ s₁ mg mb fa o pm cd doc a vs ns G Y ho (fd_plain hd) Dd Qh Je hints hlen hg) λr s' hq=>?_);obtain⟨rfl,h2,h3,h4⟩:=hq;exact{.inl {.bool true,.bool true,[],rfl,λ_=>rfl,.bool true,yD l _,λ_=>{Yi,λ_ hm=>(nomatch hm)}},h2,h3,h4}
end SS
namespace L2
open PySem PySem.Spec PyProof.Rows
theorem o8:∀{vs:List VT} {ns:List Int},Yw vs ns->Vals (ns.map V.int) vs
 |_,_,.nil=>.nil
 |_,_,.cons n t h=>.cons {(t),rfl} (o8 h)
def JR (H:Hp):Prop:=∀b,H b=none\/∃o xs,H b=some (.Dg o (.lst xs))
def BB {P:V2}{w:Wm}{K:PySem.W.Frag}{mg mb:Str->Option VT}{CX:C3}{k:Nat}{fa a:Addr}{fd:WN}{x:Str}{sp:Sp}{s₁:VY}{vs:List VT}{ns:List Int}
  (KX:K.In s₁.heap) (NA:s₁.heap.Ns XW mg) (hb:s₁.heap.Ns builtinsNs mb) (UE:∀x:Str,x≠"__name__" -> mb x=Xl x) (Qm:s₁.heap.NoLimit) (hg:s₁.gens=#[])
  (ha:s₁.heap.get? a=some {cls:=.type "list",data:=.seq vs.toArray}) (hi:Yw vs ns) (hl:ns.length<=Wi) (hr:da k ZW)
  (F:∀base:Heap,K.In base->base.Ns XW mg->aG P w K mg base CX k fa fd [x] sp) (Mr:∀(s:VY) (u:VT),BindsTo s fd {[u],[]} [(x,u)])
  (t7:∀H:Hp,JR H->eQ K H a (ns.map V.int)->sp [.ref a] H (λv _=>v=.bl true) λ_ _ _=>False)
  (QF:∀H e s',CX [] H s₁ (λ_ _ _=>False) e s'->False) :
  Zn (model P w) ZW (.call (.ref fa) {[.ref a],[]}) (λr s'=>r=.ok (.ret (.bool true))/\OldK s₁.heap s'.heap/\s'.os=s₁.os/\Zv s'.gens) s₁:=by
 have rv:=o8 hi;have O2:=hi.length;have core:∀H:Hp,JR H->eQ K H a (ns.map V.int)->jl P w H s₁.heap->(∀b,H b≠none->b=a)->(H a≠none->K.lookup a=none) ->
   Zn (model P w) ZW (.call (.ref fa) {[.ref a],[]}) (λr s'=>r=.ok (.ret (.bool true))/\OldK s₁.heap s'.heap/\s'.os=s₁.os/\Zv s'.gens) s₁:=by
  intro H hO hS bY hA hK;have xV:∀{b:Addr} {o:Obj},s₁.heap.get? b=some o->H b=none->(rl s₁.heap H).get? b=some o:=λe n=>B5 e n;have K8:∀{b:Addr} {o:Obj} {es:Array DictEntry} {ep:Nat},s₁.heap.get? b=some o->o.data=.dict es ep->H b=none:=λ{b o es ep} e d=>by
   cases q:H b with
   |none=>rfl
   |some u =>
    have e':b=a:=hA b (by rw[q];simp)
    subst e';rw[ha]at e;cases e;have d':Data.seq vs.toArray _=Data.dict es ep:=d;cases d'
  have Nk:∀{b:Addr} {m:Str->Option VT},s₁.heap.Ns b m->(rl s₁.heap H).Ns b m:=λ{b m} ⟨o,es,ep,e,d,r⟩=>{o,es,ep,xV e (K8 e d),d,r};have SD:K.In (rl s₁.heap H):=λb o e=>xV (KX b o e) (by
   cases q:H b with
   |none=>rfl
   |some u =>
    have e':b=a:=hA b (by rw[q];simp)
    subst e';rw[hK (by rw[q];simp)]at e;cases e)
  have hM:Mod K mg (rl s₁.heap H):={SD,Nk NA,{mb,Nk hb,UE},let ⟨mc,h1,h2⟩:=Qm;{mc,Nk h1,h2}}
  have e0:FK P w K mg (rl s₁.heap H) ZW [] s₁ H:={rfl,hM,λb o e=>Eh e,Nat.le_of_eq (zf _ _),tv,λb hb=>absurd (show b∈([]:List Addr) from hb) (by simp),bY,.of_eq hg}
  refine YD ((F _ SD (Nk NA)).run ZW [] s₁ H {[.ref a],[]} [.ref a] [.ref a] _ _ hr e0 (Mr s₁ (.ref a)) (.cons rfl .nil) (t7 H hO hS)) λr s' h=>?_;cases r with
  |error e=>exact(QF H e s' h).elim
  |ok fl =>
   cases fl with
   |next=>exact Ym h
   |brk=>exact Ym h
   |cont=>exact Ym h
   |ret u =>
    obtain⟨v,H',os,bare,un,P9,r',q⟩:=h;have q':v=.bl true:=q;subst q';obtain rfl:u=Value.bool true:=r';refine{rfl,OldK.of_keep λb o e=>?_,os,bare};cases q:H b with
    |none=>exact un.keep b o e q (by intro z;exact absurd (show b∈([]:List Addr) from z) (by simp)) (by simp)
    |some u =>
     rcases hO b with z|⟨ob,xs,z⟩
     ·rw[q]at z;cases z
     ·have z2:=un.oQ b ob _ z;obtain⟨e1,_⟩:=bY b _ z;obtain⟨e2,_⟩:=P9 b _ z2;rw[e]at e1;cases e1;exact e2
 cases hk:K.lookup a with
 |some o =>
  have e:=KX a o hk;rw[ha]at e;cases e;refine core (λ_=>none) (λ_=>.inl rfl) (.inr {_,vs.toArray,_,hk,rfl,rfl,rfl,by rw[Wq,O2];exact hl,by simpa using rv}) (λb u z=>by have z':(none:Option HO)=some u:=z;cases z') (λb z=>absurd rfl z) λz=>absurd rfl z
 |none =>
  refine core (λb=>if b=a then some (.Dg {cls:=.type "list",data:=.seq vs.toArray} (.lst (ns.map V.int))) else none) (λb=>?_) (.inl (.inr {{cls:=.type "list",data:=.seq vs.toArray},if_pos rfl})) (λb u z=>?_) (λb z=>?_) λ_=>hk
  ·by_cases hb:b=a
   ·exact .inr {_,_,if_pos hb}
   ·exact .inl (if_neg hb)
  ·by_cases hb:b=a
   ·have z':=(if_pos hb).symm.trans z;cases z';subst hb;exact{ha,by rw[VS];exact hl,vs,_,rv,ha}
   ·have z':=(if_neg hb).symm.trans z;cases z'
  ·by_cases hb:b=a
   ·exact hb
   ·exact absurd (if_neg hb) z
def Ds {l:PySem.W.OpenLaw}{n k:Nat}{q:V2}{loose:List Str}{XP:(Str->Option VT)->Heap->Prop}{YP:Wm->Heap->Prop}{d:DefRec}{K:Params->PySem.W.Frag}{CX:Wm->C3}{sp:Wm->Sp}{x:Str}
  (hn:l.most=some n) (Jh:n<=Wi) (NG:d.params.defaults=[]) (hr:da k ZW)
  (hY:∀(w:Wm) (h:Heap),YP w h->(K w.params).In h)
  (F:∀(w:Wm) (mg:Str->Option VT) (fa:Addr) (h:Heap),(K w.params).In h->h.Ns XW mg->mg d.name=some (.ref fa) ->
   ∃fd:WN,(∀(s:VY) (u:VT),BindsTo s fd {[u],[]} [(x,u)]) /\
    ∀base:Heap,(K w.params).In base->base.Ns XW mg->aG l.prog w (K w.params) mg base (CX w) k fa fd [x] (sp w))
  (t7:∀(w:Wm) (H:Hp) (a:Addr) (ns:List Int),ns.length<=n->JR H->eQ (K w.params) H a (ns.map V.int)->sp w [.ref a] H (λv _=>v=.bl true) λ_ _ _=>False)
  (QF:∀(w:Wm) (H:Hp) (s:VY) (e:VT) (s':VY),CX w [] H s (λ_ _ _=>False) e s'->False) :
  PySem.W.WalkO q loose XP YP l.row.toRowW d [] (λf vs=>PySem.call f vs):=by
 refine SS.uH hn NG λw s₀ s₁ mg mb fa o pm cd doc a vs ns G Y ho hd Dd Qh Je hints hlen hg=>?_;have KX:=hY w _ Y;obtain⟨fd,hb,hF⟩:=F w mg fa _ KX G.T.g Qh;exact BB KX G.T.g G.T.b G.T.builtins G.T.nolimit hg Je hints (WG hlen Jh) hr hF hb (λH hO hS=>t7 w H a ns hlen hO hS) λH e s'=>QF w H s₁ e s'
abbrev bu:C3:=λ_ _ _ _ _ _=>False
abbrev E0:XK:=λ_ _ _=>False
def F0 {X:Cx}:Passes bu X E0:=λ_ _ _ _ _ _ _ h=>h.elim
structure Dl (K:PySem.W.Frag)(x qual:Str)(st:Stmt)(f:Addr)(fd:WN):Prop where
 ex:∃(oc:VT) (od:Option Addr) (kV doc pm:VT) (an:Option Addr) (c7 ct:VT) (HQ:Array (Option VT)),
  fd=PySem.W.fnOf x qual (lX st) (fk st) (ay st) .none kV doc pm an c7 ct/\K.lookup f=some {oc,od,.func fd,HQ}/\PySem.W.codeIn K c7 qual=true
 kp:PySem.W.keepIn K (.ref f)=true
section
variable {P:V2}{w:Wm}{K:PySem.W.Frag}{mg:Str->Option VT}{base:Heap}
def Dl.ok {x qual:Str}{st:Stmt}{f:Addr}{fd:WN}{N ps:List Str}{k:Nat}{sp:Sp}(F:Dl K x qual st f fd)(S:aK N ps (ay st))(len:∀vs H Q E,sp vs H Q E->vs.length=ps.length)
  (nj:∀(c7:VT) (A:Xd) (outer:List Env) (s:VY) (H:Hp) (vs:List V) (Q:VK) (E:XK),da k (A.deeper (Zm qual (ay st) s.heap.objs.size f c7))->sp vs H Q E ->
   ∃t,rX (oU bu P w K mg base N qual (ay st) f c7 A outer s H E).F2 (fk st) t/\t {nx:=λ_ H'=>Q .ck H',rt:=Q} (start N vs) H):aG P w K mg base bu (k+1) f fd ps sp:=by
 obtain⟨oc,od,kV,doc,pm,an,c7,ct,HQ,rfl,lk,Dd⟩:=F.ex;refine Mz lk Dd S len λA outer s H vs Q E hr t7=>?_;obtain⟨t,h,q⟩:=nj c7 A outer s H vs Q E hr t7;exact{(t),h.F2,q}
def Js {x qual:Str}{st:Stmt}{f:Addr}{oc:VT}{od an:Option Addr}{HQ:Array (Option VT)}{kV doc pm c7 ct:VT}(l:K.lookup f=some {oc,od,.func (PySem.W.fnOf x qual (lX st) (fk st) (ay st) .none kV doc pm an c7 ct),HQ})
  (c:PySem.W.codeIn K c7 qual=true) (k:PySem.W.keepIn K (.ref f)=true):Dl K x qual st f (PySem.W.fnOf x qual (lX st) (fk st) (ay st) .none kV doc pm an c7 ct):={{(oc),od,kV,doc,pm,an,c7,ct,HQ,rfl,l,c},k}
end
section
variable {X:Cx}
def pv (i:Nat){x:Str}{pos:Pos}(hN:X.N[i]?=some x:=by rfl)(hv:Kc X.env.scope x:=by first|exact Or.inl rfl|exact Or.inr (Or.inl rfl)|exact Or.inr (Or.inr rfl))(hd:(x==("__debug__" : Str))=false:=by decide)
  (Dd:(x==("__classdict__" : Str))=false:=by decide):PE X (.Name x pos) (Hd i):=AW hN hv hd Dd
end
def aE (H H':Hp):Prop:=∀b o,H b=some o->H' b=some o
def aE.refl (H:Hp):aE H H:=λ_ _ h=>h
def aE.trans {H H1 H2:Hp}(a:aE H H1)(b:aE H1 H2):aE H H2:=λc o h=>b c o (a c o h)
def aE.free {H H':Hp}(e:aE H H'){l:Addr}(h:H' l=Option.none):H l=Option.none:=by
 cases q:H l with
 |none=>rfl
 |some o =>
  rw[e l o q]at h;cases h
def aE.seq {K:PySem.W.Frag}{H H':Hp}{a:Addr}{xs:List V}(e:aE H H')(h:eQ K H a xs):eQ K H' a xs:=by
 rcases h with (h|⟨o,h⟩)|h
 ·exact .inl (.inl (e _ _ h))
 ·exact .inl (.inr {o,e _ _ h})
 ·exact .inr h
structure Nm (X:Cx)(i:Nat)(x:Str):Prop where
 a:X.N[i]?=some x
 b:Kc X.env.scope x
 c:(x==("__debug__" : Str))=false
 d:(x==("__classdict__" : Str))=false
def Bm {X:Cx}{i:Nat}{x:Str}(a:X.N[i]?=some x:=by rfl)(b:Kc X.env.scope x:=by first|exact .inl rfl|exact .inr (.inl rfl)|exact .inr (.inr rfl))(c:(x==("__debug__" : Str))=false:=by decide)(d:(x==("__classdict__" : Str))=false:=by decide):Nm X i x:={(a),b,c,d}
def gR {X:Cx}{i:Nat}{x:Str}{pos:Pos}(h:Nm X i x):PE X (.Name x pos) (Hd i):=AW h.a h.b h.c h.d
section
variable {X:Cx}{a b c:Expr}{ta tb:TE}{pos:Pos}
def ql (i j:Int):Prop:=0<j/\j.natAbs.log2<9000
def ql.of {i j:Int}(h0:0<j)(h:j<2 ^ 200):ql i j:=by
 refine{h0,?_};have h2:j.natAbs<2 ^ 200:=by lia
 have:=(Nat.log2_lt (n:=j.natAbs) (k:=200) (by lia)).mpr h2
 lia
def mR:jk X (XX .FloorDiv) (rI ql λi j=>.int (i / j)):=Nj λi j _ _ _ _ _ hc q=>by
 have h1:(0:Int)<j:=hc.1;exact floordiv_int (by lia) (by rw[Int.fdiv_eq_ediv_of_nonneg i (by lia)];exact q) (.inl (PyProof.noPylong_of_log2 hc.2))
def JS (X:Cx)(ops:List Y4)(rs:List Expr)(t:V->TE):Prop :=
 ∀(pos:Pos) (pins:List (Addr×Obj)) (s:VY) (σ:St) (H:Hp) (x:V) (v:VT) (Q:VK),Inv X pins σ H s->RelV x v->t x σ H Q ->
  WM (model X.prog X.w) X.A (compareChain pos v ops (evalEach rs X.env)) (EP X pins σ Q) X.xe s
def uT (X:Cx)(ops:List Y4)(rs:List Expr)(t:V->TT):Prop :=
 ∀(pos:Pos) (pins:List (Addr×Obj)) (s:VY) (σ:St) (H:Hp) (x:V) (v:VT) (Q:Bool->Hp->Prop),Inv X pins σ H s->RelV x v->t x σ H Q ->
  WM (model X.prog X.w) X.A (testChain pos v ops (evalEach rs X.env)) (TP X pins σ Q) X.xe s
variable {op HW:Y4}{ops:List Y4}{rs:List Expr}{r:R2}{t:V->TE}{tt:V->TT}
def Jz (ho:jk X (W_ op) r)(hb:PE X b tb):JS X [op] [b] (λx σ H Q=>tb σ H λy H2=>r x y H2 Q):=by
 intro pos pins s σ H x v Q I rx h;exact chain_last (bG (hb pins s σ H _ I h) λu s1 t9=>by obtain⟨y,H1,I1,r1,q1⟩:=t9;exact ho pins s1 σ H1 x y v u Q I1 rx r1 q1)
def Fs (ho:jk X (W_ op) r)(hb:PE X b tb)(hc:JS X (HW::ops) (c::rs) t):
  JS X (op::HW::ops) (b::c::rs) (λx σ H Q=>tb σ H λy H2=>r x y H2 λz H3=>∃k,z=.bl k/\(if k=true then t y σ H3 Q else Q (.bl false) H3)):=by
 intro pos pins s σ H x v Q I rx h;refine chain_link (bG (hb pins s σ H _ I h) λu s1 ⟨y,H1,I1,r1,q1⟩=>bG (ho pins s1 σ H1 x y v u _ I1 rx r1 q1) λd s3 i7=>?_);obtain⟨z,H3,I3,r3,k,e,q3⟩:=i7;subst e;cases r3;refine XJ ?_;cases k with
 |false=>exact ite_ff {.bl false,H3,I3,rfl,q3}
 |true=>exact ite_tt (hc pos pins s3 σ H3 y u Q I3 r1 q3)
def Fq (ho:jk X (W_ op) r)(hb:PE X b tb):uT X [op] [b] (λx σ H Q=>tb σ H λy H2=>r x y H2 λz H3=>∃k,z=.bl k/\Q k H3):=by
 intro pos pins s σ H x v Q I rx h;refine test_last (bG (hb pins s σ H _ I h) λu s1 ⟨y,H1,I1,r1,q1⟩=>bG (ho pins s1 σ H1 x y v u _ I1 rx r1 q1) λd s3 oJ=>?_);obtain⟨z,H3,I3,r3,k,e,q3⟩:=oJ;subst e;cases r3;exact XJ {(H3),I3,q3}
def CK (ho:jk X (W_ op) r)(hb:PE X b tb)(hc:uT X (HW::ops) (c::rs) tt):
  uT X (op::HW::ops) (b::c::rs) (λx σ H Q=>tb σ H λy H2=>r x y H2 λz H3=>∃k,z=.bl k/\(if k=true then tt y σ H3 Q else Q false H3)):=by
 intro pos pins s σ H x v Q I rx h;refine test_link (bG (hb pins s σ H _ I h) λu s1 ⟨y,H1,I1,r1,q1⟩=>bG (ho pins s1 σ H1 x y v u _ I1 rx r1 q1) λd s3 y7=>?_);obtain⟨z,H3,I3,r3,k,e,q3⟩:=y7;subst e;cases r3;refine XJ ?_;cases k with
 |false=>exact ite_ff {(H3),I3,q3}
 |true=>exact ite_tt (hc pos pins s3 σ H3 y u Q I3 r1 q3)
def yz {mO mN:Y4}(ha:PE X a ta)(hc:uT X (mO::mN::ops) (b::c::rs) tt)(hm:lastMarks (mO::mN::ops) (b::c::rs)=false:=by with_unfolding_all rfl):
  PT X (.Compare a (mO::mN::ops) (b::c::rs) pos) (λσ H Q=>ta σ H λx H1=>tt x σ H1 Q):=by
 intro pins s σ H Q I h;exact isTrue_chain (bG (ha pins s σ H _ I h) λv s1 EL=>by obtain⟨x,H1,I1,r1,q1⟩:=EL;exact hc pos pins s1 σ H1 x v Q I1 r1 q1) hm
end
def rM:Xl "max" = some (.builtin "max"):=by decide +kernel
def CN:Xl "min" = some (.builtin "min"):=by decide +kernel
def wt:Xl "int" = some (.type "int"):=by decide +kernel
def Fw:Xl "list" = some (.type "list"):=by decide +kernel
def kQ:Xl "sorted" = some (.builtin "sorted"):=by decide +kernel
def JH:Xl "len" = some (.builtin "len"):=by decide +kernel
def Lv {c A B:Prop}[Decidable c](hc:c)(h:A):if decide c=true then A else B:=by
 rw[if_pos (decide_eq_true hc)];exact h
def Lw {c A B:Prop}[Decidable c](hc:¬ c)(h:B):if decide c=true then A else B:=by
 rw[if_neg (by simp[hc])]
 exact h
def O8 {c A B:Prop}[Decidable c](h1:c->A)(h2:¬ c->B):if decide c=true then A else B:=by
 by_cases h:c
 ·exact Lv h (h1 h)
 ·exact Lw h (h2 h)
def Fm (h:Addr)(H H':Hp):Prop:=∀b o,H b=some o->b≠h->H' b=some o
def Fm.upd {h:Addr}{H:Hp}{o:HO}:Fm h H (upd H h o):=λb u e n=>by rw[aB n];exact e
def aE.new {H:Hp}{p:Addr}{o:HO}(n:H p=none):aE H (L2.upd H p o):=λb u e=>by rw[aB (cO e n)];exact e
def Hand (H:Hp)(h:Addr):Prop:=∃x y:Int,H h=some (.lst [.int x,.int y])/\0<=x/\0<=y/\y<2147483647
def Am:Sp:=λvs H Q _=>∃c:Int,vs=[.int c]/\∀p H',H p=none->Hand H' p->aE H H'->Q (.ref p) H'
def Ak:Sp:=λvs H Q _=>∃(h:Addr) (n:Int),vs=[.ref h,.int n]/\Hand H h/\0<n/\n<2 ^ 200 /\
 ∀(r:Int) (H':Hp),0<=r->r<n->Hand H' h->Fm h H H'->Q (.int r) H'
structure Vo (mg:Str->Option VT):Prop where
 max:mg "max" = none
 min:mg "min" = none
 int:mg "int" = none
def AR:C4 10 18:={by decide,by decide,by decide}
section
def lS {a:Int}{b:Int}(h:0<b):0<=a % b/\a % b<b:={Int.emod_nonneg a (by lia),Int.emod_lt_of_pos a h}
end
noncomputable def aC (X:Cx)(scope:YA)(N':List Str)(cl:List (Str×Addr))(C:Addr)(s:VY)(H:Hp)(ex:List Addr):Cx :=
 {X with N:=N',s₀:=s,H₀:=H,env:=compEnvC scope cl C X.env,outer:=X.stack,stack:=X.stack,ex:=ex,fn:=λ_=>false,pn:=[],xe:=λ_ _=>False}
theorem i9 {env:Env}:∀(names:List (Str×YR)) (cs:List (Str×Addr)),(∀x,(x,WU)∈names->∃c,env.cells.lookup x=some c) ->
  (∀x c,cs.lookup x=some c->env.cells.lookup x=some c) ->
  ∃cl,(forIn names cs λ(p:Str×YR) (cs:List (Str×Addr))=>do
   if p.2==.free then do
    let a <- cellOf env p.1
    pure (ZD ((p.1,a)::cs))
   else pure (ZD cs):Sem (List (Str×Addr)))=pure cl /\
   (∀x,((x,WU)∈names\/(∃c,cs.lookup x=some c))->∃c,cl.lookup x=some c)/\∀x c,cl.lookup x=some c->env.cells.lookup x=some c
 |[],cs,_,NH=>{cs,rfl,λx h=>h.elim (λz=>nomatch z) id,NH}
 | (n,k)::names,cs,hf,NH=>by
  by_cases hk:k=.free
  ·subst hk;obtain⟨c,hc⟩:=hf n (V0 ..);obtain⟨cl,e,h1,h2⟩:=i9 names ((n,c)::cs) (λx hx=>hf x (V8 _ hx)) (λx c' hx=>by
    rw[Xr]at hx;cases q:x==n with
    |true=>rw[q]at hx;cases hx;rw[eq_of_beq q];exact hc
    |false=>rw[q]at hx;exact NH x c' hx)
   refine{cl,?_,λx hx=>h1 x ?_,h2}
   ·rw[List.forIn_cons];have ec:cellOf env n=pure c:=by unfold cellOf;rw[hc]
    simp only[beq_self_eq_true,if_true,ec];exact e
   ·rcases hx with hx|⟨c',hx⟩
    ·rcases VX.mp hx with z|z
     ·cases z;exact .inr {c,by simp}
     ·exact .inl z
    ·right
     rw[Xr];cases q:x==n with
     |true=>exact{(c),rfl}
     |false=>exact{(c'),hx}
  ·obtain⟨cl,e,h1,h2⟩:=i9 names cs (λx hx=>hf x (V8 _ hx)) NH;refine{cl,?_,λx hx=>h1 x ?_,h2}
   ·rw[List.forIn_cons];have hb:(k==WU)=false:=by simpa using hk
    simp only[hb,ZT,if_false];exact e
   ·rcases hx with hx|hx
    ·rcases VX.mp hx with z|z
     ·cases z;exact absurd rfl hk
     ·exact .inl z
    ·exact .inr hx
def iP {env:Env}{scope:YA}(h:∀x,(x,WU)∈scope.names->∃c,env.cells.lookup x=some c):
  ∃cl,closureFor scope env=pure cl/\(∀x,(x,WU)∈scope.names->∃c,cl.lookup x=some c)/\∀x c,cl.lookup x=some c->env.cells.lookup x=some c:=by
 obtain⟨cl,e,h1,h2⟩:=i9 scope.names [] h (λx c z=>by simp at z)
 refine{cl,?_,λx hx=>h1 x (.inl hx),h2};unfold closureFor;refine Eq.trans ?_ (congrArg (· >>= pure) e);rfl
structure Links (X:Cx)(scope:YA)(N':List Str)(lk:List (Option Nat)):Prop where
 kind:scope.kind=.function
 vH:∀x∈scope.names,x.2≠.cell
 names:∀x∈scope.names,x.2=.local->scope.names.lookup x.1=some .local
 free:∀x,(x,WU)∈scope.names->X.env.kindOf x=some .cell\/X.env.kindOf x=some .free
 len:lk.length=N'.length
 link:∀(i j:Nat),lk[i]?=some (some j)->∃x,N'[i]?=some x/\X.N[j]?=some x/\(x,WU)∈scope.names/\scope.names.lookup x=some .free
noncomputable def gU (outer:List (Str×YR))(N:List Str)(scope:YA)(N':List Str)(lk:List (Option Nat)):Bool :=
 (scope.kind==.function)&&scope.names.all (λx=>x.2 != .cell&&(x.2 != .local || scope.names.lookup x.1==some .local)&&(x.2 != .free || outer.lookup x.1==some .cell || outer.lookup x.1==some .free)) &&
 lk.length==N'.length&&(VW lk.length).all λi=>match lk[i]? with
  |some (some j)=>match N'[i]? with
   |some x=>N[j]?==some x&&scope.names.contains (x,.free)&&scope.names.lookup x==some .free
   |none=>false
  |_=>true
def Links.of {X:Cx}{scope:YA}{N':List Str}{lk:List (Option Nat)}(h:gU X.env.scope.names X.N scope N' lk=true):Links X scope N' lk:=by
 simp only[gU,WL]at h;obtain⟨⟨⟨h1,h2⟩,h3⟩,h4⟩:=h;rw[X1]at h2 h4;refine{by simpa using h1,λx hx=>?_,λx hx hl=>?_,λx hx=>?_,by simpa using h3,λi j aI=>?_}
 ·have:=h2 x hx;simp only[WL]at this;simpa using this.1.1
 ·have:=h2 x hx;simp only[WL]at this;have q:=this.1.2;rw[hl]at q;simpa using q
 ·have:=h2 _ hx;simp only[WL]at this;have q:=this.2;simp only[Bool.or_eq_true]at q;rcases q with (q|q)|q
  ·simp at q
  ·exact .inl (show X.env.scope.names.lookup x=some .cell by simpa using q)
  ·exact .inr (show X.env.scope.names.lookup x=some .free by simpa using q)
 ·have hi:i<lk.length:=(Ww.mp aI).1;have q:=h4 i (V3.mpr hi);rw[aI]at q;simp only at q;cases e:N'[i]? with
  |none=>rw[e]at q;simp at q
  |some x =>
   rw[e]at q;simp only[WL]at q;obtain⟨⟨q1,q2⟩,q3⟩:=q;exact{x,rfl,by simpa using q1,by simpa using q2,by simpa using q3}
noncomputable def eT (lk:List (Option Nat))(σ:St):St:=lk.map λl=>match l with|some j=>(match σ[j]? with|some v=>v|none=>none)|none=>none
theorem dJ {env:Env}:∀{names:List (Str×YR)} {x:Str},names.lookup x=some .free ->
  (names.map λ(n,k)=>if (k==WU&&env.scope.kind==.function&&env.kindOf n==some .cell) then (n,Yr) else (n,k)).lookup x=some .cell \/
  (names.map λ(n,k)=>if (k==WU&&env.scope.kind==.function&&env.kindOf n==some .cell) then (n,Yr) else (n,k)).lookup x=some .free
 |[],_,h=>by simp at h
 | (n,k)::r,x,h=>by
  have ih:=@dJ env r x;show List.lookup x ((if (k==WU&&env.scope.kind==.function&&env.kindOf n==some .cell)=true then (n,Yr) else (n,k))::_)=_ \/
   List.lookup x ((if (k==WU&&env.scope.kind==.function&&env.kindOf n==some .cell)=true then (n,Yr) else (n,k))::_)=_
  cases hx:x==n with
  |true =>
   simp only[Xr,hx]at h;cases h
   by_cases hc:(WU==WU&&env.scope.kind==.function&&env.kindOf n==some .cell)=true
   ·rw[if_pos hc];left;simp[Xr,hx]
   ·rw[if_neg hc];right;simp[Xr,hx]
  |false =>
   simp only[Xr,hx]at h
   by_cases hc:(k==WU&&env.scope.kind==.function&&env.kindOf n==some .cell)=true
   ·rw[if_pos hc];simp only[Xr,hx];exact ih h
   ·rw[if_neg hc];simp only[Xr,hx];exact ih h
theorem dF {env:Env}:∀{names:List (Str×YR)} {x:Str} {k:YR},(k=.cell\/k=.free)->(∀y∈names,y.2≠.cell) ->
  (names.map λ(n,k)=>if (k==WU&&env.scope.kind==.function&&env.kindOf n==some .cell) then (n,Yr) else (n,k)).lookup x=some k->(x,WU)∈names
 |[],_,_,_,_,h=>by simp at h
 | (n,k')::r,x,k,hk,hc,h=>by
  have ih:=@dF env r x k hk (λy hy=>hc y (V8 _ hy));have h':List.lookup x ((if (k'==WU&&env.scope.kind==.function&&env.kindOf n==some .cell)=true then (n,Yr) else (n,k'))::(r.map λ(n,k)=>if (k==WU&&env.scope.kind==.function&&env.kindOf n==some .cell) then (n,Yr) else (n,k)))=some k:=h
  have Mj:=hc (n,k') (V0 ..)
  by_cases ES:(k'==WU&&env.scope.kind==.function&&env.kindOf n==some .cell)=true
  ·rw[if_pos ES]at h';simp only[WL,beq_iff_eq]at ES;cases hx:x==n with
   |true=>rw[eq_of_beq hx,ES.1.1];exact V0 ..
   |false=>rw[Xr,hx]at h';exact V8 _ (ih h')
  ·rw[if_neg ES]at h';cases hx:x==n with
   |true =>
    rw[Xr,hx]at h';have e:k'=k:=by simpa using h'
    subst e;rcases hk with hk|hk
    ·exact absurd hk Mj
    ·rw[eq_of_beq hx,hk];exact V0 ..
   |false=>rw[Xr,hx]at h';exact V8 _ (ih h')
section
variable {X:Cx}{pins:List (Addr×Obj)}{σ:St}{H:Hp}{s:VY}{scope:YA}{N':List Str}{lk:List (Option Nat)}{cl:List (Str×Addr)}{ex:List Addr}
def BI {h':Heap}{t':Nat}(I:Inv X pins σ H s)(L:Links X scope N' lk)(hex:∀b∈ex,je X pins H b)(Qa:∀b∈ex,∃o,s.heap.get? b=some o)
  (oN:∀x,(x,WU)∈scope.names->∃c,cl.lookup x=some c) (vZ:∀x c,cl.lookup x=some c->X.env.cells.lookup x=some c)
  (hn:h'.Ns s.heap.objs.size (λ_=>none)) (hk:∀b o,s.heap.get? b=some o->h'.get? b=some o) :
  Inv (aC X scope N' cl s.heap.objs.size s H ex) [] (eT lk σ) H {s with heap:=h',toks:=t'}:=by
 obtain⟨m,hm,hl⟩:=I.loc;have US:∀b∈ex,b≠s.heap.objs.size:=λb hb=>by
  obtain⟨o,e⟩:=Qa b hb;exact WX (Wt e)
 refine⟨⟨I.ok.mod,L.kind,I.ok.glob,I.ok.blt,VR _,λx y c h1 h2=>I.ok.inj x y c (vZ _ _ h1) (vZ _ _ h2),λx hx=>?_,λx c z=>(nomatch z),I.ok.hd,I.ok.frames,.inl rfl,
  λb hb=>{US b hb,λx c e=>(hex b hb).2.2.2.2.1 x c (vZ _ _ e)},I.bs,WG I.ok.GD I.sz,λb o e z=>?_,λb hb z=>?_,I.stack,I.wH⟩,
  rfl,I.bare,Un.kept hk,{_,hn,λi x v h1 h2 h3=>?_},λx c e=>?_,I.bY.fresh (VR _),λx c e=>I.iI x c (vZ _ _ e),λp hp=>absurd (show p∈([]:List (Addr×Obj)) from hp) (by simp),I.bY.kept hk,?_⟩
 ·have zN:(relabel scope X.env).names.lookup x=some .cell\/(relabel scope X.env).names.lookup x=some .free:=hx;rcases zN with q|q
  ·exact oN x (dF (.inl rfl) L.vH q)
  ·exact oN x (dF (.inr rfl) L.vH q)
 ·obtain⟨f0,f1,f2,f3,_⟩:=hex b z;rcases f3 with q|q
  ·exact I.ok.Bl b o e q
  ·have h1:=Wt e;have h2:=I.ok.GD;exact absurd (WI h1 (WG h2 q)) (XG _)
 ·obtain⟨f0,f1,f2,f3,_⟩:=hex b hb;rcases VX.mp (I.vf b z)with q|q
  ·exact f1 q
  ·exact f2 q
 ·have hi:∃j,lk[i]?=some (some j)/\σ[j]?=some (some v):=by
   have B8:(eT lk σ)[i]?=some (some v):=h2;unfold eT at B8;rw[Wg]at B8;cases e:lk[i]? with
   |none=>rw[e]at B8;cases B8
   |some l =>
    cases l with
    |none=>rw[e]at B8;cases B8
    |some j =>
     rw[e]at B8;cases e2:σ[j]? with
     |none=>simp[e2]at B8
     |some w' =>
      simp only[Zy,e2,Z0]at B8;subst B8;exact{(j),rfl,e2}
  obtain⟨j,hj,hσ⟩:=hi;obtain⟨y,e1,e2,e3,e4⟩:=L.link i j hj;have UR:x=y:=by
   have EU:N'[i]?=some x:=h1;rw[e1]at EU;exact(WA EU).symm
  subst UR;have Pj:Kc X.env.scope x:=by
   rcases L.free x e3 with q|q
   ·exact .inr (.inl q)
   ·exact .inr (.inr q)
  obtain⟨u,ru,lu⟩:=hl j x v e2 hσ Pj;refine{u,ru,.inr {?_,?_}}
  ·exact dJ e4
  ·rcases lu with⟨k,_⟩|⟨_,c,hc,z⟩
   ·rcases L.free x e3 with q|q <;> (rw[k]at q;cases q)
   ·obtain⟨c',pQ⟩:=oN x e3;have:=vZ x c' pQ;rw[hc]at this;cases this;obtain⟨o,ho,hd⟩:=z;exact{c,pQ,o,hk _ _ ho,hd}
 ·obtain⟨v,o,ho,hd⟩:=I.cell x c (vZ _ _ e);exact{v,o,hk _ _ ho,hd}
 ·show (eT lk σ).length=N'.length;unfold eT;rw[VS,L.len]
def BJ {s':VY}{σ':St}{H':Hp}{pl:List (Addr×Obj)}{C:Addr}{h'':Heap}(I:Inv X pins σ H s)(hex:∀b∈ex,je X pins H b)
  (J:Inv (aC X scope N' cl s.heap.objs.size s H ex) pl σ' H' s') (hs:X7 s.heap.objs.size s'.heap h''):Inv X pins σ H' {s' with heap:=h''}:=by
 have hC:H' s.heap.objs.size=none:=J.free;have u:=J.base;refine I.MS (ch:=ex) (s':={s' with heap:=h''}) J.os ?_ ?_ J.bare (λb hb=>?_)
 ·have kk:∀b o,b≠s.heap.objs.size->s'.heap.get? b=some o->h''.get? b=some o:=λb o hb e=>(hs.2 b hb).trans e;have ne:∀b o,s.heap.get? b=some o->b≠s.heap.objs.size:=λb o e=>WX (Wt e);refine{λb o e n hb hx=>kk b _ (ne b o e) (u.keep b o e n hb hx),λb o e n hb hx=>?_,u.free,λb o e hx=>?_,u.qr,u.oQ,u.qu}
  ·obtain⟨sl,q⟩:=u.slot b o e n hb hx;exact{sl,kk b _ (ne b o e) q}
  ·obtain⟨o',q⟩:=u.there b o e hx;exact{o',kk b _ (ne b o e) q}
 ·intro b o e;have hb:b≠s.heap.objs.size:=λz=>by rw[z]at e;rw[hC]at e;cases e
  refine(J.bY b o e).yh (λc v hc q=>(hs.2 c ?_).trans q) (λ_ q=>q) λ_ _ q=>q;rcases hc with z|z
  ·rw[z];exact hb
  ·intro z';rw[z']at z;rw[hC]at z;cases z
 ·obtain⟨f0,f1,f2,f3,f4,f5⟩:=hex b hb;exact{(f3),f1,f4,f5}
end
noncomputable def l9 (g:Yt)(after:Sem Fin->Sem Fin)(e:Expr)(d:Nat)(it acc:VT)(env:Env):Sem Fin:=do
 Y8 g.iter.pos
 match <- pyNext it with
 |none=>pure (.done .next)
 |some v =>
  Zx g.target it v
  assign g.target env v
  let mut ok:=true
  for c in g.ifs do
   if ok then ok <- Z9 c env (eval c env)
  if ok then after (again (.compLoop e d it acc env)) else again (.compLoop e d it acc env)
noncomputable def lR (e:Expr)(d:Nat)(g':Yt)(acc:VT)(env:Env)(k:Sem Fin):Sem Fin:=do
 let x <- eval g'.iter env
 Y8 g'.iter.pos
 let x <- WS g'.iter env x
 let _ <- runOwn (.compStart e (d+1) (<- holding [x] (pyIter x)) acc env) env
 k
def gI (t:Sem Unit)(k:Sem Fin):Sem Fin:=do
 t
 k
def xN (elt:Expr)(acc:VT)(env:Env):Sem Unit:=do let _ <- call (.builtin "list.append") [acc,<- eval elt env]
def xM (elt:Expr)(acc:VT)(env:Env):Sem Unit:=do let v <- eval elt env;Y8 elt.pos;let _ <- call (.builtin "set.add") [acc,v]
noncomputable def Cu (k v:Expr)(acc:VT)(env:Env):Sem Unit:=do
    let kv <- eval k env
    let vv <- holding [kv] (eval v env)
    match acc with
    |.ref d=>do
     Y8 {k.pos with endLine:=v.pos.endLine,endCol:=v.pos.endCol}
     holding [kv,vv] (dictSet d kv vv)
    |_=>unsupported "internal:dictcomp"
structure fN (e:Expr)(d:Nat)(g:Yt)(acc:VT)(env:Env)(after:Sem Fin->Sem Fin):Prop where
 turn:∀it,compTurn e d it acc env=l9 g after e d it acc env
 cl:(clausesOf e)[d]?=some g
 sync:g.is_async=0
 quiet:∀it,(Zg e d it acc env).quiet=true
 under:∀(A:Xd) it,A.under (Zg e d it acc env)=A
 G5:∀(A:Xd) it,A.under (Code.compStart e d it acc env)=A
 Ie:∀it,(Zg e d it acc env).isFrame=false
 K7:∀it,(Code.compStart e d it acc env).isFrame=false
section
variable {elt tg n_ cB jg k v:Expr}{ifs fF:List Expr}{sc:YA}{pos:Pos}{acc:VT}{env:Env}
def GA:fN (.ListComp elt [{tg,cB,ifs,0}] sc pos) 0 {tg,cB,ifs,0} acc env (gI (xN elt acc env)) :=
 {λ_=>rfl,rfl,rfl,λ_=>rfl,λ_ _=>rfl,λ_ _=>rfl,λ_=>rfl,λ_=>rfl}
def MP:fN (.SetComp elt [{tg,cB,ifs,0}] sc pos) 0 {tg,cB,ifs,0} acc env (gI (xM elt acc env)) :=
 {λ_=>rfl,rfl,rfl,λ_=>rfl,λ_ _=>rfl,λ_ _=>rfl,λ_=>rfl,λ_=>rfl}
def MQ:fN (.DictComp k v [{tg,cB,ifs,0}] sc pos) 0 {tg,cB,ifs,0} acc env (gI (Cu k v acc env)) :=
 {λ_=>rfl,rfl,rfl,λ_=>rfl,λ_ _=>rfl,λ_ _=>rfl,λ_=>rfl,λ_=>rfl}
def JD:fN (.ListComp elt [{tg,cB,ifs,0},{n_,jg,fF,0}] sc pos) 0 {tg,cB,ifs,0} acc env (lR (.ListComp elt [{tg,cB,ifs,0},{n_,jg,fF,0}] sc pos) 0 {n_,jg,fF,0} acc env) :=
 {λ_=>rfl,rfl,rfl,λ_=>rfl,λ_ _=>rfl,λ_ _=>rfl,λ_=>rfl,λ_=>rfl}
def JC:fN (.ListComp elt [{tg,cB,ifs,0},{n_,jg,fF,0}] sc pos) 1 {n_,jg,fF,0} acc env (gI (xN elt acc env)) :=
 {λ_=>rfl,rfl,rfl,λ_=>rfl,λ_ _=>rfl,λ_ _=>rfl,λ_=>rfl,λ_=>rfl}
def JB:fN (.SetComp elt [{tg,cB,ifs,0},{n_,jg,fF,0}] sc pos) 0 {tg,cB,ifs,0} acc env (lR (.SetComp elt [{tg,cB,ifs,0},{n_,jg,fF,0}] sc pos) 0 {n_,jg,fF,0} acc env) :=
 {λ_=>rfl,rfl,rfl,λ_=>rfl,λ_ _=>rfl,λ_ _=>rfl,λ_=>rfl,λ_=>rfl}
def JA:fN (.SetComp elt [{tg,cB,ifs,0},{n_,jg,fF,0}] sc pos) 1 {n_,jg,fF,0} acc env (gI (xM elt acc env)) :=
 {λ_=>rfl,rfl,rfl,λ_=>rfl,λ_ _=>rfl,λ_ _=>rfl,λ_=>rfl,λ_=>rfl}
end
def Kl:TT:=λ_ H Q=>Q true H
def uY (X:Cx)(ifs:List Expr)(t:TT):Prop :=
 ∀(pins:List (Addr×Obj)) (s:VY) (σ:St) (H:Hp) (Q:Bool->Hp->Prop),Inv X pins σ H s->t σ H Q ->
  WM (model X.prog X.w) X.A (forIn ifs true λc r=>if r=true then do let ok <- Z9 c X.env (eval c X.env);pure (ZD ok) else pure (ZD r)) (TP X pins σ Q) X.xe s
def DM {X:Cx}:uY X [] Kl:=λ_ _ _ H _ I h=>wpAny_tests_nil {(H),I,h}
def DL {X:Cx}{c:Expr}{t:TT}(h:PT X c t):uY X [c] t:=λpins s σ H Q I q=>wpAny_tests_one (h pins s σ H Q I q)
abbrev lF:=(St->Hp->Prop)->St->Hp->Prop
def oX (X:Cx)(after:Sem Fin->Sem Fin)(t:lF):Prop :=
 ∀(pins:List (Addr×Obj)) (s:VY) (σ:St) (H:Hp) (N:St->Hp->Prop) (k:Sem Fin) (Q:Fin->VY->Prop) (E:VT->VY->Prop),Inv X pins σ H s->t N σ H ->
  (∀σ' H' s',Inv X pins σ' H' s'->N σ' H'->WM (model X.prog X.w) X.A k Q E s')->WM (model X.prog X.w) X.A (after k) Q E s
def dW {X:Cx}(hx:X.xe=λ_ _=>False){α:Type}{t:Sem α}{Q:α->VY->Prop}{E:VT->VY->Prop}{s:VY}(h:WM (model X.prog X.w) X.A t Q X.xe s):WM (model X.prog X.w) X.A t Q E s :=
 YZ h (λ_ _ q=>q) λe s q=>by rw[hx]at q;exact q.elim
def gk (J:It)(g:TG)(tt:TT)(ta:lF)(End:St->Hp->Prop):St->Hp->Prop:=λσ H =>
 ∃W:Nat->Nat->St->Hp->Prop,(∃m,W 0 m σ H)/\∀i m σ H,W i m σ H->(J.stop i H/\End σ H) \/
  (J.go i H/\∃N:St->Hp->Prop,(∀σ' H',N σ' H'->∃m',m'<m/\W (i+1) m' σ' H')/\∀x H',J.Ki i H x H'->g x σ H' λσ2 H2=>tt σ2 H2 λb H3=>if b=true then ta N σ2 H3 else N σ2 H3)
section
variable {X:Cx}{e:Expr}{d:Nat}{g:Yt}{acc:VT}{after:Sem Fin->Sem Fin}{tg:TG}{tt:TT}{ta:lF}
def zr (hx:X.xe=λ_ _=>False)(hc:X.calm=true)(F:fN e d g acc X.env after)(hg:PG X g.target tg)(ht:uY X g.ifs tt)(ha:oX X after ta)
  {it:Addr} {fp:List Addr} {tn:Nat->Heap->Prop} {J:It} (T:Turn X.prog X.w X.K g.target J fp it tn) {pins:List (Addr×Obj)} {σ:St} {H:Hp} {s:VY} {End:St->Hp->Prop}
  (I:Inv X pins σ H s) (st:tn 0 s.heap) (hf:∀b∈fp,je X pins H b) (h:gk J tg tt ta End σ H) :
  Zn (model X.prog X.w) X.A (.compLoop e d (.ref it) acc X.env) (λr s'=>r=.ok .next/\∃σ' H',Inv X pins σ' H' s'/\End σ' H') s:=by
 obtain⟨W,⟨m0,w0⟩,turn⟩:=h;have vg:∀{H':Hp},(∀b∈fp,H' b=none)->∀b∈fp,je X pins H' b:=λhn b hb=>{hn b hb,(hf b hb).2};refine codeAny_loop (F.quiet _) (λn s'=>∃i σ' H',Inv X pins σ' H' s'/\tn i s'.heap/\(∀b∈fp,H' b=none)/\W i n σ' H') (λn s3 hI=>?_) m0 {0,σ,H,I,st,λb hb=>(hf b hb).1,w0};obtain⟨i,σ3,H3,I3,mf,My,w3⟩:=hI;rw[F.under];have Jn:(model X.prog X.w).den (.compLoop e d (.ref it) acc X.env)=(l9 g after e d (.ref it) acc X.env).onRaise (λx=>do noteFrame x X.env;theTreesLotGoes x):=by
  rw[<- F.turn];show (if (Zg e d (.ref it) acc X.env).isFrame then _ else _)=_
  rw[F.Ie];rfl
 rw[Jn];refine wpAny_noted ?_;unfold l9;rcases turn i n σ3 H3 w3 with⟨stop,qn⟩|⟨go,N,hN,step⟩
 ·refine VV (XZ (VV (bG (T.done X rfl rfl rfl hc i pins s3 σ3 H3 _ I3 (vg My) mf stop) λr s4 i7=>?_)));obtain⟨hr,I4⟩:=i7;subst hr;exact Wd {(rfl),σ3,H3,I4,qn}
 ·refine VV (XZ (VV (bG (T.item X rfl rfl rfl hc i pins s3 σ3 H3 _ I3 (vg My) mf go) λr s4 oJ=>?_)));obtain⟨u,hr,h4⟩:=oJ;subst hr;refine VV (bG h4 λ_ s5 y7=>?_);obtain⟨x,H5,I5,r5,y5,Hi,QK⟩:=y7;have Q6:=I5.pinned (vg QK) (T.obj _ _ Hi);refine VV (bG (dW hx (hg _ s5 σ3 H5 x u _ Q6 r5 (step x H5 y5))) λ_ s6 Ph=>?_);obtain⟨σ6,H6,I6,q6⟩:=Ph;refine VV (bG (dW hx (ht _ s6 σ6 H6 _ I6 q6)) λok s7 Ua=>?_);obtain⟨H7,I7,q7⟩:=Ua;have CU:∀{σ8:St} {H8:Hp} {s8:VY},Inv X (pins++mJ fp s5.heap) σ8 H8 s8->N σ8 H8->∃m,m<n/\∃i σ' H',Inv X pins σ' H' s8/\tn i s8.heap/\(∀b∈fp,H' b=none)/\W i m σ' H':=λ{σ8 H8 s8} I8 n8=>by
   obtain⟨m',hm,w8⟩:=hN σ8 H8 n8;refine{m',hm,i+1,σ8,H8,I8.jq,T.keep _ _ _ Hi λb hb o e=>(I8.pin (b,o) (Wx _ (Wx _ (fY hb e)))).1,λb hb=>?_,w8};obtain⟨o,e,d⟩:=T.obj _ _ Hi b hb;exact(I8.pin (b,o) (Wx _ (Wx _ (fY hb e)))).2.1
  cases ok with
  |false=>exact Wd {rfl,CU I7 (by simpa using q7)}
  |true =>
   exact ha _ s7 σ6 H7 N _ _ _ I7 (by simpa using q7) λσ8 H8 s8 I8 n8=>Wd {rfl,CU I8 n8}
def nL (hx:X.xe=λ_ _=>False)(hc:X.calm=true)(F:fN e d g acc X.env after)(hg:PG X g.target tg)(ht:uY X g.ifs tt)(ha:oX X after ta)
  {it:Addr} {fp:List Addr} {tn:Nat->Heap->Prop} {J:It} (T:Turn X.prog X.w X.K g.target J fp it tn) {pins:List (Addr×Obj)} {σ:St} {H:Hp} {s:VY} {End:St->Hp->Prop}
  (I:Inv X pins σ H s) (st:tn 0 s.heap) (hf:∀b∈fp,je X pins H b) (h:gk J tg tt ta End σ H) :
  Zn (model X.prog X.w) X.A (.compStart e d (.ref it) acc X.env) (λr s'=>r=.ok .next/\∃σ' H',Inv X pins σ' H' s'/\End σ' H') s:=by
 have lp:=zr hx hc F hg ht ha T I st hf h;refine codeAny_of_tree ?_;rw[F.G5];have Jn:(model X.prog X.w).den (.compStart e d (.ref it) acc X.env)=(compStart e d (.ref it) acc X.env).onRaise (λx=>do noteFrame x X.env;Y8 theWindowsPlace):=by
  show (if (Code.compStart e d (.ref it) acc X.env).isFrame then _ else _)=_
  rw[F.K7];rfl
 rw[Jn];refine wpAny_notedAt ?_;unfold compStart;rw[F.cl];simp only[Option.elim_some,F.sync];show WM _ _ (ask >>= _) _ _ s;refine VV (wpAny_askSetting (wpAny_ite ?_))
 split
 ·first
   |exact VV (Wd (Wd (And.intro (F.quiet _) lp)))
   |exact Wd (And.intro (F.quiet _) lp)
 ·have h2:∀(E:VT->VY->Prop),WM (model X.prog X.w) X.A (pyIter (.ref it)) (λNr s'=>(Zg e d Nr acc X.env).quiet=true/\Zn (model X.prog X.w) X.A (.compLoop e d Nr acc X.env) (λr s'=>r=.ok .next/\∃σ' H',Inv X pins σ' H' s'/\End σ' H') s') E s :=
   λE=>T.self X.A 0 s _ E st {F.quiet _,lp}
  first
   |exact VV (YI (VV (XZ (VV (YZ (h2 _) (λNr s' h'=>Wd h') λ_ _ x=>x)))))
   | (refine VV (YI ?_);exact VV (XZ (VV (YZ (h2 _) (λNr s' h'=>Wd h') λ_ _ x=>x))))
def xf {g':Yt}{wi:TI}(hx:X.xe=λ_ _=>False)(hc:X.calm=true)(F:fN e (d+1) g' acc X.env after)(hi:PI X g'.target g'.iter wi)(hg:PG X g'.target tg)(ht:uY X g'.ifs tt)(ha:oX X after ta)
  (hs:∀x,WS g'.iter X.env x=pure x:=by intro _;rfl) :
  oX X (lR e d g' acc X.env) (λN σ H=>wi σ H λJ H1=>gk J tg tt ta N σ H1):=by
 intro pins s σ H N k Q E I h hk;unfold lR;refine VV (bG (dW hx (hi pins s σ H _ I h)) λx s1 h1=>?_);refine VV (XZ (VV (wpAny_of_eq (hs x) ?_)));refine VV (Xo (bG (dW hx h1) λGg s2 h2=>?_));obtain⟨it,fp,tn,J,H2,e1,I2,T,gn,f2,hl⟩:=h2;subst e1;refine VV (wpAny_runOwn (YD (nL hx hc F hg ht ha T I2 gn f2 hl) λr s' hr=>?_));obtain⟨rfl,σ',H',I',q⟩:=hr;exact hk σ' H' s' I' q
def mM {elt:Expr}{te:TE}{a:Addr}(hx:X.xe=λ_ _=>False)(he:PE X elt te):
  oX X (gI (xN elt (.ref a) X.env)) (λN σ H=>te σ H λv H1=>∃xs,H1 a=some (.lst xs)/\xs.length<Wi/\N σ (upd H1 a (.lst (xs++[v])))):=by
 intro pins s σ H N k Q E I h hk;unfold gI xN;refine VV (VV (bG (dW hx (he pins s σ H _ I h)) λu s1 T_=>?_));obtain⟨v,H1,I1,r1,xs,hH,hz,q⟩:=T_;refine VV (bG (dW hx <| kq (X:=X) pins s1 σ H1 (.ref a) [v] (.ref a) [u] (λw' H'=>N σ H') I1 rfl (.cons r1 .nil) ⟨a,xs,v,rfl,rfl,hH,hz,q⟩) λ_ s2 T9=>?_)
 obtain⟨_,H2,I2,_,q2⟩:=T9;exact Wd (hk σ H2 s2 I2 q2)
end
section
variable {X:Cx}{e:Expr}
structure kU (X:Cx)(fo:Sem VT)(o:HO):Prop where
 ok:∀(pins:List (Addr×Obj)) (s:VY) (σ:St) (H:Hp) (Q:VT->VY->Prop) (E:VT->VY->Prop),Inv X pins σ H s ->
  (∀a s',s.heap.objs.size<=a->H a=none->(∀b o,s.heap.get? b=some o->s'.heap.get? b=some o)->Inv X pins σ (upd H a o) s'->Q (.ref a) s')->WM (model X.prog X.w) X.A fo Q E s
def mW:kU X (newList []) (.lst []) :=
 {λpins s σ H Q E I h=>wpAny_newObj_type (h _ _ (VR _) I.fresh (λb o e=>V6 _ e) (I.Iv (its:=[]) (t':=s.toks) .nil (V_ _)))}
def Inv.sameBut {pins:List (Addr×Obj)}{σ:St}{H:Hp}{s:VY}{C:Addr}{h':Heap}(I:Inv X pins σ H s)(f:je X pins H C)(hs:X7 C s.heap h'):Inv X pins σ H {s with heap:=h'}:=by
 obtain⟨f0,f1,f2,f3,f4,f5⟩:=f;exact I.turned (t':=s.toks) (λb o hb e=>(hs.2 b hb).trans e) f0 f1 f3 f4 f5
end
end L2
namespace ST
open PySem PySem.SetTable
def it:Nat->Nat->Nat
 |0,x=>x
 |n+1,x=>5*it n x+1
theorem vU (a:Nat):∀(b x:Nat),it (a+b) x=it b (it a x)
 |0,x=>rfl
 |b+1,x=>by
  show 5*it (a+b) x+1=5*it b (it a x)+1;rw[vU a b x]
theorem BG:∀j:Nat,∃a b:Nat,∀x,it (2 ^ j) x=(1+4*2 ^ j*a)*x+2 ^ j*(1+2*b)
 |0=>{1,0,λx=>by show 5*x+1=_;simp}
 |j+1=>by
  obtain⟨a,b,h⟩:=BG j;refine{a+2*2 ^ j*a*a,b+2 ^ j*a*(1+2*b),λx=>?_};rw[show 2 ^ (j+1)=2 ^ j+2 ^ j by rw[Zp];lia,vU,h,h]
  generalize 2 ^ j=P
  grind
theorem lift:∀(j x t:Nat),∃k,k<2 ^ j/\it k x % 2 ^ j=t % 2 ^ j
 |0,x,t=>{0,by decide,by rw[Nat.pow_zero,Nat.mod_one,Nat.mod_one]}
 |j+1,x,t=>by
  obtain⟨k,hk,e⟩:=lift j x t;obtain⟨a,b,h⟩:=BG j;have hP:0<2 ^ j:=ZH (by decide)
  rw[Zp]
  by_cases q:it k x % (2 ^ j*2)=t % (2 ^ j*2)
  ·exact{k,by lia,q}
  ·refine{k+2 ^ j,by lia,?_}
   rw[vU,h];generalize it k x=y at *
   generalize 2 ^ j=P at *
   have e1:((1+4*P*a)*y+P*(1+2*b))=(y+P)+(P*2)*(2*a*y+b):=by grind
   rw[e1,Nat.add_mul_mod_self_left,Nat.mod_mul,Nat.mod_mul];rw[Nat.mod_mul,Nat.mod_mul,e]at q;rw[Nat.add_mod_right,Nat.add_div_right _ hP,e];have u1:y / P % 2<2:=Zq _ (by decide)
   have u2:t / P % 2<2:=Zq _ (by decide)
   have u3:y / P % 2≠t / P % 2:=λz=>q (by rw[z])
   have u4:(y / P).succ % 2=t / P % 2:=by lia
   rw[u4]
def c6 (m:Nat)(p:Probe):Probe:=advance {mask:=m,place:=#[],dummies:=#[],finger:=0,led:=true,moves:=0,plain:=true} p
def Oe (m:Nat)(h:Int):Probe:=probeStart {mask:=m,place:=#[],dummies:=#[],finger:=0,led:=true,moves:=0,plain:=true} h
def Hh (t:SetTable)(h:Int):probeStart t h=Oe t.mask h:=rfl
noncomputable def gE (m:Nat)(h:Int):Nat->Probe
 |0=>Oe m h
 |n+1=>c6 m (gE m h n)
def cR (m:Nat)(h:Int)(n:Nat):Nat:=(gE m h n).j
def lp (m:Nat)(h:Int):Nat->Nat×Nat
 |0=>(bits h % (m+1),bits h)
 |k+1=>leap m (lp m h k).1 (lp m h k).2
def Kb (m:Nat)(x:Nat×Nat):Probe:={j:=x.1,more:=runEnd m x.1-x.1,i:=x.1,perturb:=x.2,dummy:=none}
def Hr (m i:Nat):runEnd m i-i<=9:=by
 unfold runEnd
 split <;> lia
theorem vX (m:Nat)(h:Int)(x:Nat×Nat)(n:Nat)(e:gE m h n=Kb m x):∀d,d<=runEnd m x.1-x.1->gE m h (n+d)={Kb m x with j:=x.1+d,more:=runEnd m x.1-x.1-d}
 |0,_=>by rw[Z2,e];rfl
 |d+1,hd=>by
  show c6 m (gE m h (n+d))=_;rw[vX m h x n e d (by lia)]
  unfold c6 advance;rw[if_pos (by show runEnd m x.1-x.1-d>0;lia)]
  rfl
def uF (m:Nat)(h:Int)(x:Nat×Nat)(n:Nat)(e:gE m h n=Kb m x):gE m h (n+(runEnd m x.1-x.1)+1)=Kb m (leap m x.1 x.2):=by
 show c6 m (gE m h (n+(runEnd m x.1-x.1)))=_;rw[vX m h x n e _ (VR _)];unfold c6 advance;rw[if_neg (by show ¬ runEnd m x.1-x.1-(runEnd m x.1-x.1)>0;lia)]
 rfl
theorem CO (m:Nat)(h:Int):∀k,∃n,n<=10*k/\gE m h n=Kb m (lp m h k)
 |0=>{0,VR _,rfl}
 |k+1=>by
  obtain⟨n,h1,h2⟩:=CO m h k;refine{n+(runEnd m (lp m h k).1-(lp m h k).1)+1,?_,uF m h _ n h2};have:=Hr m (lp m h k).1;lia
theorem By (m:Nat)(h:Int):∀k,(lp m h k).2=bits h / 32 ^ k
 |0=>by rw[Nat.pow_zero,Nat.div_one];rfl
 |k+1=>by
  show (lp m h k).2 / 32=_;rw[By m h k,Nat.div_div_eq_div_mul,Zp]
def Fx (h:Int):bits h<2 ^ 64:=by
 unfold bits;have h1:=Int.emod_lt_of_pos h (show (0:Int)<2 ^ 64 by decide)
 have h2:=Int.emod_nonneg h (show (2 ^ 64:Int)≠0 by decide)
 lia
def EA (m:Nat)(h:Int){k:Nat}(hk:13<=k):(lp m h k).2=0:=by
 rw[By];refine Nat.div_eq_of_lt (WI (Fx h) ?_);have:32 ^ 13<=32 ^ k:=YQ (by decide) hk
 exact WG (by decide) this
def F7 {j:Nat}(h:Int):∀d,(lp (2 ^ j-1) h (13+d)).1=it d (lp (2 ^ j-1) h 13).1 % 2 ^ j:=by
 have hP:2 ^ j-1+1=2 ^ j:=by have:0<2 ^ j:=ZH (by decide);lia
 have lt:∀k,(lp (2 ^ j-1) h k).1<2 ^ j:=λk=>by
  cases k with
  |zero=>show bits h % (2 ^ j-1+1)<_;rw[hP];exact Zq _ (by lia)
  |succ k=>show (_*5+1+_ / 32) % (2 ^ j-1+1)<_;rw[hP];exact Zq _ (by lia)
 intro d
 induction d with
 |zero=>exact(Z_ (lt 13)).symm
 |succ d ih =>
  show ((lp (2 ^ j-1) h (13+d)).1*5+1+(lp (2 ^ j-1) h (13+d)).2 / 32) % (2 ^ j-1+1)=(5*it d _+1) % 2 ^ j;rw[hP,EA _ h (by lia),ih,Nat.zero_div,Z2,Nat.mul_comm]
  conv=>rhs;rw[Nat.add_mod,Nat.mul_mod]
  rw[Nat.add_mod,Nat.mul_mod,Nat.mod_mod]
def U4 (j:Nat)(h:Int){t:Nat}(ht:t<2 ^ j):∃n,n<10*turns (2 ^ j-1)/\cR (2 ^ j-1) h n=t:=by
 obtain⟨k,hk,e⟩:=lift j (lp (2 ^ j-1) h 13).1 t;obtain⟨n,h1,h2⟩:=CO (2 ^ j-1) h (13+k);refine{n,by unfold turns;lia,?_}
 unfold cR;rw[h2];show (lp (2 ^ j-1) h (13+k)).1=t;rw[F7,e,Z_ ht]
abbrev g (xs:Array Nat)(i:Nat):Nat:=xs.getD i 0
def B9 {xs:Array Nat}{i:Nat}(h:i<xs.size):xs[i]?=some (g xs i):=by
 rw[getElem?_pos xs i h,g,Wl,getElem?_pos xs i h];rfl
def GI (xs:Array Nat):Prop:=∀i j,i<j->j<xs.size->g xs i<g xs j
def GI.inj {xs:Array Nat}(r:GI xs){i j:Nat}(hi:i<xs.size)(hj:j<xs.size)(e:g xs i=g xs j):i=j:=by
 rcases Nat.lt_trichotomy i j with h|h|h
 ·have:=r i j h hj;lia
 ·exact h
 ·have:=r j i h hi;lia
theorem nS {xs:Array Nat}{j:Nat}(r:GI xs):∀(f lo hi:Nat),hi<=xs.size->lo<=hi->hi-lo<=f->(∀k,k<lo->g xs k<j)->(∀k,hi<=k->k<xs.size->j<=g xs k) ->
  below.go xs j f lo hi<=xs.size/\(∀k,k<below.go xs j f lo hi->g xs k<j)/\(∀k,below.go xs j f lo hi<=k->k<xs.size->j<=g xs k)
 |0,lo,hi,h1,h2,h3,h4,h5=>by
  obtain rfl:lo=hi:=by omega
  exact{(h1),h4,h5}
 |f+1,lo,hi,h1,h2,h3,h4,h5=>by
  unfold below.go
  by_cases hl:lo<hi
  ·rw[if_pos hl];dsimp only;have hm:(lo+hi) / 2<xs.size:=by omega
   have e:xs.getD ((lo+hi) / 2) j=g xs ((lo+hi) / 2):=by
    rw[g,Wl,Wl,getElem?_pos xs _ hm];rfl
   rw[e]
   by_cases hc:g xs ((lo+hi) / 2)<j
   ·rw[if_pos hc];refine nS r f _ _ h1 (by omega) (by omega) (λk hk=>?_) h5
    by_cases rT:k=(lo+hi) / 2
    ·rw[rT];exact hc
    ·have:=r k ((lo+hi) / 2) (by omega) hm;omega
   ·rw[if_neg hc];refine nS r f _ _ (by omega) (by omega) (by omega) h4 (λk hk Mj=>?_)
    by_cases rT:k=(lo+hi) / 2
    ·rw[rT];omega
    ·have:=r ((lo+hi) / 2) k (by omega) Mj;omega
  ·rw[if_neg hl];obtain rfl:lo=hi:=by omega
   exact{(h1),h4,h5}
def nR {xs:Array Nat}(r:GI xs)(j:Nat):below xs j<=xs.size/\(∀k,k<below xs j->g xs k<j)/\(∀k,below xs j<=k->k<xs.size->j<=g xs k) :=
 nS r xs.size 0 xs.size (VR _) (V_ _) (VR _) (λk hk=>by lia) (λk h1 h2=>by lia)
def below_at {xs:Array Nat}(r:GI xs){i:Nat}(hi:i<xs.size):below xs (g xs i)=i:=by
 obtain⟨h1,h2,h3⟩:=nR r (g xs i);rcases Nat.lt_trichotomy (below xs (g xs i)) i with h|h|h
 ·have:=h3 (below xs (g xs i)) (VR _) (by omega)
  have:=r _ _ h hi;omega
 ·exact h
 ·have:=h2 i h;omega
def rS (t:SetTable)(x:Nat):Prop:=∃i,i<t.place.size/\g t.place i=x
def ph {t:SetTable}(r:GI t.place){i:Nat}(hi:i<t.place.size):t.slot (g t.place i)=.live i:=by
 unfold slot;dsimp only;rw[below_at r hi,if_pos (by rw[B9 hi];exact beq_self_eq_true _)]
def yq {t:SetTable}(r:GI t.place)(d:t.dummies=#[]){x:Nat}(h:¬ rS t x):t.slot x=.empty:=by
 unfold slot;dsimp only;rw[if_neg ?_,if_neg ?_]
 ·rw[d];unfold has;simp
 ·intro q;have q:=eq_of_beq q;have hl:below t.place x<t.place.size:=by
   rcases W8 (below t.place x) t.place.size with z|z
   ·exact z
   ·rw[Array.getElem?_eq_none z]at q;cases q
  rw[B9 hl]at q;exact h {_,hl,WA q}
structure WF (t:SetTable)(hs:List Int):Prop where
 J7:t.dummies=#[]
 sz:t.place.size=hs.length
 C6:GI t.place
 SH:∀i,i<t.place.size->g t.place i<=t.mask
 F5:∃j,3<=j/\t.mask=2 ^ j-1
 room:t.place.size<=t.mask
 Rq:∀i h,hs[i]?=some h->∃n,cR t.mask h n=g t.place i/\∀k,k<n->rS t (cR t.mask h k)
def least {p:Nat->Prop}[DecidablePred p]:∀n,p n->∃m,m<=n/\p m/\∀k,k<m->¬ p k:=by
 intro n
 induction n using YU with
 |_ n ih =>
  intro hn
  by_cases h:∃k,k<n/\p k
  ·obtain⟨k,hk,hp⟩:=h;obtain⟨m,h1,h2,h3⟩:=ih k hk hp;exact{m,by lia,h2,h3}
  ·exact{n,VR _,hn,λk hk hp=>h {(k),hk,hp}}
instance (t:SetTable):DecidablePred (rS t):=λx=>decidable_of_iff (∃i,i<t.place.size/\g t.place i=x) Iff.rfl
def WF.hole {t:SetTable}{hs:List Int}(w:WF t hs):∃x,x<=t.mask/\¬ rS t x:=by
 refine Xf λMb=>?_;have all:∀x,x<=t.mask->rS t x:=λx hx=>Xf λq=>Mb {(x),hx,q};have up:∀x,x<=t.mask->∃i,i<t.place.size/\g t.place i=x/\x<=i:=by
  intro x
  induction x with
  |zero =>
   intro hx;obtain⟨i,h1,h2⟩:=all 0 hx;exact{i,h1,h2,V_ _}
  |succ x ih =>
   intro hx;obtain⟨i,h1,h2,h3⟩:=ih (by lia)
   obtain⟨i',h4,h5⟩:=all (x+1) hx;refine{i',h4,h5,?_};rcases W8 i i' with q|q
   ·lia
   ·rcases W8 i' i with q2|q2
    ·have:=w.C6 i' i q2 h1;lia
    ·obtain rfl:i=i':=by lia
     lia
 obtain⟨i,h1,h2,h3⟩:=up t.mask (VR _);have:=w.room;lia
def WF.first {t:SetTable}{hs:List Int}(w:WF t hs)(h:Int):∃n,n<10*turns t.mask/\¬ rS t (cR t.mask h n)/\∀k,k<n->rS t (cR t.mask h k):=by
 obtain⟨x,hx,hf⟩:=w.hole;obtain⟨j,_,hj⟩:=w.F5;have zN:x<2 ^ j:=by have:0<2 ^ j:=ZH (by decide);lia
 obtain⟨n,h1,h2⟩:=U4 j h zN;rw[<- hj]at h1 h2;obtain⟨m,g1,g2,g3⟩:=least (p:=λn=>¬ rS t (cR t.mask h n)) n (by rw[h2];exact hf)
 exact{m,by lia,g2,λk hk=>Xf λq=>g3 k hk q}
theorem km (m:Nat)(h:Int):∀n,(gE m h n).dummy=none
 |0=>rfl
 |n+1=>by
  show (c6 m (gE m h n)).dummy=none;unfold c6 advance
  split
  ·exact km m h n
  ·exact km m h n
theorem sQ {t:SetTable}{hs:List Int}(w:WF t hs)(ha:Nat->Int)(h:Int){N:Nat}(hN:¬ rS t (cR t.mask h N))(hO:∀k,k<N->rS t (cR t.mask h k)):∀(d n f:Nat),n+d=N->d<f ->
  (probe.go t ha h f (gE t.mask h n)=some (.empty (cR t.mask h N) none)/\∀k,n<=k->k<N->∀i,i<t.place.size->g t.place i=cR t.mask h k->ha i≠h) \/
  ∃m i,n<=m/\m<N/\i<t.place.size/\g t.place i=cR t.mask h m/\ha i=h/\probe.go t ha h f (gE t.mask h n)=some (.candidate (cR t.mask h m) i (gE t.mask h (m+1)))/\∀k,n<=k->k<m->∀i,i<t.place.size->g t.place i=cR t.mask h k->ha i≠h
 |0,n,f,e,hf=>by
  obtain rfl:n=N:=by lia
  obtain⟨f,rfl⟩:∃f',f=f'+1:={f-1,by lia}
  refine .inl {?_,λk h1 h2=>by lia}
  unfold probe.go;rw[show t.slot (gE t.mask h n).j=.empty from yq w.C6 w.J7 hN]
  dsimp only;rw[km];rfl
 |d+1,n,f,e,hf=>by
  obtain⟨f,rfl⟩:∃f',f=f'+1:={f-1,by lia}
  obtain⟨i,hi,hg⟩:=hO n (by lia)
  have Nw:t.slot (gE t.mask h n).j=.live i:=by
   show t.slot (cR t.mask h n)=.live i;rw[<- hg];exact ph w.C6 hi
  by_cases hh:ha i=h
  ·refine .inr {n,i,VR _,by lia,hi,hg,hh,?_,λk h1 h2=>by lia}
   unfold probe.go;rw[Nw];dsimp only;rw[if_pos (by rw[hh];exact beq_self_eq_true _)]
   rfl
  ·have st:probe.go t ha h (f+1) (gE t.mask h n)=probe.go t ha h f (gE t.mask h (n+1)):=by
    conv=>lhs;unfold probe.go
    rw[Nw];dsimp only;rw[if_neg (by simpa using hh)]
    rfl
   rw[st];have here:∀i',i'<t.place.size->g t.place i'=cR t.mask h n->ha i'≠h:=λi' h1 h2=>by
    rw[w.C6.inj h1 hi (h2.trans hg.symm)];exact hh
   rcases sQ w ha h hN hO d (n+1) f (by lia) (by lia)with⟨q1,q2⟩|⟨m,i',q1,q2,q3,q4,q5,q6,q7⟩
   ·refine .inl {q1,λk h1 h2=>?_}
    by_cases hk:k=n
    ·subst hk;exact here
    ·exact q2 k (by lia) h2
   ·refine .inr {m,i',by lia,q2,q3,q4,q5,q6,λk h1 h2=>?_}
    by_cases hk:k=n
    ·subst hk;exact here
    ·exact q7 k (by lia) h2
def nh {α:Type}(xs:Array α)(p:Nat)(x:α):(insertAt xs p x).toList=xs.toList.take p++x::xs.toList.drop p:=by
 unfold insertAt;rw[Xu,XY,ZL,ZL,Y6,Y6,W3];simp[Xh]
def BK {α:Type}{xs:Array α}{p:Nat}{x:α}(h:p<=xs.size):(insertAt xs p x).size=xs.size+1:=by
 rw[<- Wa,nh,Wf,V7,WH,Zl,Wa];lia
def f6 {xs:Array Nat}{p x:Nat}(h:p<=xs.size)(k:Nat):g (insertAt xs p x) k=if k<p then g xs k else if k=p then x else g xs (k-1):=by
 have e:∀(ys:Array Nat) (k:Nat),g ys k=(ys.toList[k]?).getD 0:=λys k=>by rw[g,Wl,Wo]
 rw[e,e,e,nh]
 by_cases h1:k<p
 ·rw[if_pos h1,Xe (by rw[WH,Wa];lia),Ys h1]
 ·rw[if_neg h1,WV (by rw[WH];lia),WH,Wa,show min p xs.size=p by lia]
  by_cases h2:k=p
  ·rw[if_pos h2,h2,YY];rfl
  ·rw[if_neg h2,show k-p=k-p-1+1 by lia,YB,Y3,show p+(k-p-1)=k-1 by lia]
def WF.put {t:SetTable}{hs:List Int}(w:WF t hs){h:Int}{N:Nat}(hb:cR t.mask h N<=t.mask)(hN:¬ rS t (cR t.mask h N))(hO:∀k,k<N->rS t (cR t.mask h k))(hr:t.place.size+1<=t.mask):
  WF (t.put (cR t.mask h N)).1 (hs.take (t.put (cR t.mask h N)).2++h::hs.drop (t.put (cR t.mask h N)).2)/\(t.put (cR t.mask h N)).2<=t.place.size:=by
 obtain⟨b1,b2,b3⟩:=nR w.C6 (cR t.mask h N);have hp:(t.put (cR t.mask h N)).2=below t.place (cR t.mask h N):=rfl;rw[hp];generalize hx:cR t.mask h N=x at *
 generalize hq:below t.place x=p at *
 have e:(t.put x).1={t with place:=insertAt t.place p x}:=by
  unfold SetTable.put;dsimp only;rw[w.J7,hq];unfold has;simp
 have ne:∀k,p<=k->k<t.place.size->x<g t.place k:=λk h1 h2=>by
  have:=b3 k h1 h2;rcases W8 x (g t.place k)with q|q
  ·exact q
  ·exact absurd {k,h2,by lia} hN
 have Oc:(insertAt t.place p x).size=t.place.size+1:=BK b1;have RD:∀y,rS t y->rS {t with place:=insertAt t.place p x} y:=by
  rintro y ⟨i,h1,h2⟩
  by_cases hi:i<p
  ·exact{i,by show i<(insertAt t.place p x).size;lia,by show g (insertAt t.place p x) i=y;rw[f6 b1,if_pos hi];exact h2}
  ·exact{i+1,by show i+1<(insertAt t.place p x).size;lia,by show g (insertAt t.place p x) (i+1)=y;rw[f6 b1,if_neg (by lia),if_neg (by lia)];exact h2}
 rw[e];refine{{w.J7,?_,?_,?_,w.F5,?_,?_},b1}
 ·show (insertAt t.place p x).size=_;rw[Oc,Wf,V7,WH,Zl,<- w.sz];lia
 ·intro i j aI hj;have hj:j<t.place.size+1:=by rw[<- Oc];exact hj
  show g (insertAt t.place p x) i<g (insertAt t.place p x) j;rw[f6 b1,f6 b1]
  by_cases h1:i<p
  ·rw[if_pos h1]
   by_cases h2:j<p
   ·rw[if_pos h2];exact w.C6 i j aI (by lia)
   ·rw[if_neg h2]
    by_cases h3:j=p
    ·rw[if_pos h3];exact b2 i h1
    ·rw[if_neg h3];exact w.C6 i (j-1) (by lia) (by lia)
  ·rw[if_neg h1,if_neg (show ¬ j<p by lia)]
   by_cases h3:i=p
   ·rw[if_pos h3,if_neg (show ¬ j=p by lia)];exact ne _ (by lia) (by lia)
   ·rw[if_neg h3,if_neg (show ¬ j=p by lia)];exact w.C6 (i-1) (j-1) (by lia) (by lia)
 ·intro i hi;have hi:i<t.place.size+1:=by rw[<- Oc];exact hi
  show g (insertAt t.place p x) i<=t.mask;rw[f6 b1]
  split
  ·exact w.SH i (by lia)
  ·split
   ·exact hb
   ·exact w.SH _ (by lia)
 ·show (insertAt t.place p x).size<=t.mask;lia
 ·intro i h' gX;show ∃n,cR t.mask h' n=g (insertAt t.place p x) i/\_;have old:∀i h',hs[i]?=some h'->∃n,cR t.mask h' n=g t.place i/\∀k,k<n->rS {t with place:=insertAt t.place p x} (cR t.mask h' k):=λi h' q=>by
   obtain⟨n,h1,h2⟩:=w.Rq i h' q;exact{n,h1,λk hk=>RD _ (h2 k hk)}
  have hpl:p<=hs.length:=by rw[<- w.sz];exact b1
  by_cases h1:i<p
  ·rw[Xe (by rw[WH];lia),Ys h1]at gX
   rw[f6 b1,if_pos h1];exact old i h' gX
  ·rw[WV (by rw[WH];lia),WH,show min p hs.length=p by lia]at gX
   rw[f6 b1,if_neg h1]
   by_cases h2:i=p
   ·rw[h2,YY]at gX;rw[if_pos h2];obtain rfl:h=h':=WA gX;exact{N,hx,λk hk=>RD _ (hO k hk)}
   ·rw[show i-p=i-p-1+1 by lia,YB,Y3,show p+(i-p-1)=i-1 by lia]at gX
    rw[if_neg h2];exact old (i-1) h' gX
def h9 {m i:Nat}(h:i<=m):i<=runEnd m i/\runEnd m i<=m:=by
 unfold runEnd
 split <;> lia
theorem AD (m:Nat)(h:Int):∀n,(gE m h n).j+(gE m h n).more<=m
 |0=>by
  show bits h % (m+1)+(runEnd m (bits h % (m+1))-bits h % (m+1))<=m;have hl:bits h % (m+1)<=m:=Nat.le_of_lt_succ (Zq _ (Nat.succ_pos _));have:=h9 hl;lia
 |n+1=>by
  have ih:=AD m h n;show (c6 m (gE m h n)).j+(c6 m (gE m h n)).more<=m;unfold c6 advance
  split
  ·show (gE m h n).j+1+((gE m h n).more-1)<=m;lia
  ·show (leap m (gE m h n).i (gE m h n).perturb).1+(runEnd m (leap m (gE m h n).i (gE m h n).perturb).1-(leap m (gE m h n).i (gE m h n).perturb).1)<=m;have hl:(leap m (gE m h n).i (gE m h n).perturb).1<=m:=Nat.le_of_lt_succ (Zq _ (Nat.succ_pos _));have:=h9 hl;lia
def lH (m:Nat)(h:Int)(n:Nat):cR m h n<=m:=by
 have:=AD m h n;unfold cR;lia
abbrev Ow:=Array (Option Nat)
def gu (o:Ow)(j:Nat):Bool:=(o.getD j (some 0)).isNone
theorem pR {m:Nat}{o:Ow}(h:Int):∀(f b n:Nat) (j:Nat),gE m h n=Kb m (lp m h b)->layClean.free m o f (lp m h b).1 (lp m h b).2=some j->∃N,n<=N/\cR m h N=j/\gu o j=true/\∀k,n<=k->k<N->gu o (cR m h k)=false
 |0,b,n,j,_,e=>by cases e
 |f+1,b,n,j,hb,e=>by
  unfold layClean.free at e;have O9:∀d,d<=runEnd m (lp m h b).1-(lp m h b).1->cR m h (n+d)=(lp m h b).1+d:=λd hd=>by
   unfold cR;rw[vX m h _ n hb d hd]
  have hl:(lp m h b).1<=m:=by
   have:=lH m h n;unfold cR at this;rw[hb]at this;exact this
  have hr:=h9 hl;cases hf:(VW (runEnd m (lp m h b).1+1-(lp m h b).1)).find? (λk=>(o.getD ((lp m h b).1+k) (some 0)).isNone)with
  |some k =>
   rw[hf]at e;dsimp only at e;obtain⟨h1,h2,h3⟩:=List.find?_range_eq_some.mp hf;have h2:=V3.mp h2;refine{n+k,by lia,?_,?_,λx g1 g2=>?_}
   ·rw[O9 k (by lia)]
    exact WA e
   ·rw[<- WA e];exact h1
   ·have:=h3 (x-n) (by lia)
    rw[show x=n+(x-n) by lia,O9 (x-n) (by lia)]
    unfold gu;simpa using this
  |none =>
   rw[hf]at e;dsimp only at e;have h3:=List.find?_range_eq_none.mp hf;obtain⟨N,q1,q2,q3,q4⟩:=pR h f (b+1) (n+(runEnd m (lp m h b).1-(lp m h b).1)+1) j (uF m h _ n hb) e;refine{N,by lia,q2,q3,λx g1 g2=>?_}
   by_cases hx:n+(runEnd m (lp m h b).1-(lp m h b).1)+1<=x
   ·exact q4 x hx g2
   ·have:=h3 (x-n) (by lia)
    rw[show x=n+(x-n) by lia,O9 (x-n) (by lia)]
    unfold gu;simpa using this
theorem pS {m:Nat}{o:Ow}(h:Int):∀(f b:Nat),layClean.free m o f (lp m h b).1 (lp m h b).2=none->∀d,d<f->(lp m h (b+d)).1<=m->gu o (lp m h (b+d)).1=false
 |0,b,_,d,hd,_=>by lia
 |f+1,b,e,d,hd,hl=>by
  unfold layClean.free at e;cases hf:(VW (runEnd m (lp m h b).1+1-(lp m h b).1)).find? (λk=>(o.getD ((lp m h b).1+k) (some 0)).isNone)with
  |some k =>
   rw[hf]at e;cases e
  |none =>
   rw[hf]at e;dsimp only at e;cases d with
   |zero =>
    have:=List.find?_range_eq_none.mp hf 0 (by have:=h9 hl;rw[Z2]at this;lia)
    unfold gu;simpa using this
   |succ d =>
    have:=pS h f (b+1) e d (by lia) (by rw[show b+1+d=b+(d+1) by lia];exact hl)
    rw[show b+1+d=b+(d+1) by lia]at this
    exact this
def Iu (j:Nat)(h:Int){t:Nat}(ht:t<2 ^ j):∃k,k<turns (2 ^ j-1)/\(lp (2 ^ j-1) h k).1=t:=by
 obtain⟨k,hk,e⟩:=lift j (lp (2 ^ j-1) h 13).1 t;refine{13+k,by unfold turns;lia,?_}
 rw[F7,e,Z_ ht]
def ow (o:Ow)(j:Nat):Option Nat:=o.getD j none
theorem eM {α:Type}{f f':Nat->Option α}:∀(l:List Nat),(∀k∈l,f' k=f k)->l.filterMap f'=l.filterMap f
 |[],_=>rfl
 |x::l,h=>by
  rw[WW,WW,h x V0,eM l λk hk=>h k (V8 _ hk)]
def uj {α:Type}{f f':Nat->Option α}(l:List Nat)(h:∀k∈l,f' k=f k):l.filterMap f'=l.filterMap f:=eM l h
theorem uh {α:Type}(f f':Nat->Option α)(j:Nat)(v:α)(h1:f j=none)(h2:f' j=some v)(h3:∀k,k≠j->f' k=f k):∀N,j<N->((VW N).filterMap f').Perm (v::(VW N).filterMap f)
 |0,h=>by lia
 |N+1,h=>by
  rw[Yv,ZE,ZE]
  by_cases e:j=N
  ·subst e;have e1:(VW j).filterMap f'=(VW j).filterMap f:=by
    exact eM _ λk hk=>h3 k (WX (V3.mp hk))
   rw[e1,WW,h2,WW,h1,List.filterMap_nil,List.filterMap_nil];show ((VW j).filterMap f++[v]).Perm (v::((VW j).filterMap f++[]));rw[WZ];exact List.perm_append_comm
  ·have ih:=uh f f' j v h1 h2 h3 N (by lia)
   have e2:[N].filterMap f'=[N].filterMap f:=eM _ λk hk=>by
    rw[VU.mp hk];exact h3 N (λz=>e z.symm)
   rw[e2];exact ih.append_right _
theorem uk {α:Type}(f:Nat->Option α):∀N,(∀k,k<N->(f k).isSome=true)->((VW N).filterMap f).length=N
 |0,_=>rfl
 |N+1,h=>by
  rw[Yv,ZE,Wf,uk f N λk hk=>h k (by lia)]
  have:=h N (by lia)
  cases e:f N with
  |none=>rw[e]at this;cases this
  |some x=>rw[WW,e];rfl
structure Ld (m:Nat)(hs:Array Int)(o:Ow)(k:Nat):Prop where
 sz:o.size=m+1
 OP:((VW (m+1)).filterMap (ow o)).Perm (VW k)
 way:∀j a,ow o j=some a->a<k/\∃n,cR m (hs.getD a 0) n=j/\∀x,x<n->gu o (cR m (hs.getD a 0) x)=false
def mP {o:Ow}{j:Nat}(h:j<o.size):gu o j=true↔ow o j=none:=by
 unfold gu ow;rw[Wl,Wl,getElem?_pos o j h];show (o[j]).isNone=true↔o[j]=none;exact Option.isNone_iff_eq_none
def Ld.next {j0:Nat}{hs:Array Int}{o:Ow}{k:Nat}(L:Ld (2 ^ j0-1) hs o k)(hk:k<=2 ^ j0-1)(h:Int)(hh:hs.getD k 0=h):
  ∃j,layClean.free (2 ^ j0-1) o (turns (2 ^ j0-1)) (bits h % (2 ^ j0-1+1)) (bits h)=some j/\Ld (2 ^ j0-1) hs (o.setIfInBounds j (some k)) (k+1):=by
 have hP:0<2 ^ j0:=ZH (by decide)
 generalize hm:2 ^ j0-1=m at *
 obtain⟨x,hx,Uk⟩:∃x,x<=m/\ow o x=none:=by
  refine Xf λMb=>?_;have:=uk (ow o) (m+1) λx hx=>by
   cases e:ow o x with
   |none=>exact absurd {x,by lia,e} Mb
   |some _=>rfl
  rw[L.OP.length_eq,We]at this;lia
 cases hf:layClean.free m o (turns m) (bits h % (m+1)) (bits h)with
 |none =>
  exfalso
  obtain⟨c,hc,he⟩:=Iu j0 h (t:=x) (by lia)
  rw[hm]at hc he;have:=pS (m:=m) (o:=o) h (turns m) 0 hf c hc (by rw[Xg,he];exact hx)
  rw[Xg,he]at this;have q:=(mP (o:=o) (j:=x) (by rw[L.sz];lia)).mpr Uk
  rw[q]at this;cases this
 |some j =>
  refine{j,rfl,?_};obtain⟨N,_,q2,q3,q4⟩:=pR (m:=m) (o:=o) h (turns m) 0 0 j rfl hf;have hj:j<=m:=by rw[<- q2];exact lH m h N
  have Qp:j<o.size:=by rw[L.sz];lia
  have Ma:ow o j=none:=(mP Qp).mp q3;have same:∀i,i≠j->ow (o.setIfInBounds j (some k)) i=ow o i:=λi hi=>by
   unfold ow;rw[Wl,Wl,Z6 (λz=>hi z.symm)]
  have here:ow (o.setIfInBounds j (some k)) j=some k:=by
   unfold ow;rw[Wl,ZF Qp];rfl
  have shut:∀i,gu o i=false->gu (o.setIfInBounds j (some k)) i=false:=λi hi=>by
   unfold gu at *
   rw[Wl]at *
   by_cases e:i=j
   ·subst e;rw[ZF Qp];rfl
   ·rw[Z6 (λz=>e z.symm)];exact hi
  refine{by rw[Zh];exact L.sz,?_,λi a ND=>?_}
  ·refine(uh (ow o) _ j k Ma here same (m+1) (by lia)).trans ?_
   refine(L.OP.cons k).trans ?_;rw[Yv];exact(List.perm_append_singleton k _).symm
  ·by_cases e:i=j
   ·subst e;rw[here]at ND;obtain rfl:=WA ND;refine{XF _,N,by rw[hh];exact q2,λx hx=>shut _ ?_}
    rw[hh];exact q4 x (V_ _) hx
   ·rw[same i e]at ND;obtain⟨g1,n,g2,g3⟩:=L.way i a ND;exact{by lia,n,g2,λx hx=>shut _ (g3 x hx)}
theorem nO {j0:Nat}{hs:Array Int}(hk:hs.size<=2 ^ j0-1):∀(l:List Int) (k:Nat) (o:Ow),hs.toList.drop k=l->k+l.length=hs.size->Ld (2 ^ j0-1) hs o k ->
  ∃o',(l.foldl (λ(acc:Option (Ow×Nat)) h=>do
   let (owner,k) <- acc
   let j <- layClean.free (2 ^ j0-1) owner (turns (2 ^ j0-1)) (bits h % (2 ^ j0-1+1)) (bits h)
   pure (owner.setIfInBounds j (some k),k+1)) (some (o,k)))=some (o',hs.size)/\Ld (2 ^ j0-1) hs o' hs.size
 |[],k,o,e,z,L=>by
  obtain rfl:k=hs.size:=z;exact{(o),rfl,L}
 |h::l,k,o,e,z,L=>by
  rw[V7]at z;have ie:k<hs.toList.length:=by rw[Wa];lia
  rw[W6 ie]at e;injection e with e1 e2
  have hh:hs.getD k 0=h:=by
   rw[Wl,<- Wo,Wh ie,e1];rfl
  obtain⟨j,q1,q2⟩:=L.next (by lia) h hh
  rw[XU];show ∃o',(l.foldl _ (do
   let j <- layClean.free (2 ^ j0-1) o (turns (2 ^ j0-1)) (bits h % (2 ^ j0-1+1)) (bits h)
   pure (o.setIfInBounds j (some k),k+1)))=_/\_
  rw[q1];exact nO hk l (k+1) _ e2 (by lia) q2
def Ld.start (m:Nat)(hs:Array Int):Ld m hs (Array.replicate (m+1) none) 0:=by
 have e:∀j,ow (Array.replicate (m+1) none) j=none:=λj=>by
  unfold ow;rw[Wl,Array.getElem?_replicate]
  split <;> rfl
 refine{Array.size_replicate,?_,λj a h=>by rw[e]at h;cases h}
 rw[eM (f:=λ_=>(none:Option Nat)) _ λk _=>e k];have:∀l:List Nat,l.filterMap (λ_=>(none:Option Nat))=[]:=λl=>by
  induction l with
  |nil=>rfl
  |cons x l ih=>rw[WW];exact ih
 rw[this];exact .refl _
def ED {j0:Nat}{hs:Array Int}(h3:3<=j0)(hk:hs.size<=2 ^ j0-1)(finger moves:Nat)(led plain:Bool):
  ∃t order,laid (2 ^ j0-1) finger moves led plain hs=some (t,order)/\t.mask=2 ^ j0-1/\t.led=led/\t.plain=plain/\t.moves=moves/\order.toList.Perm (VW hs.size)/\WF t (order.toList.map λa=>hs.getD a 0)/\t.place.size=hs.size:=by
 obtain⟨o,e1,L⟩:=nO hk hs.toList 0 _ rfl (by rw[Xg,Wa]) (Ld.start _ hs)
 have e2:layClean (2 ^ j0-1) hs=some o:=by
  unfold layClean;rw[<- Array.foldl_toList];exact congrArg (Option.map (·.1)) e1
 generalize hm:2 ^ j0-1=m at *
 have Lq:∀(l:List Nat),((l.filterMap λj=>(o.getD j none).map (j,·)).map (·.2))=l.filterMap (ow o):=λl=>by
  rw[List.map_filterMap];refine uj l λj _=>?_;rw[Option.map_map];show ((o.getD j none).map λa=>a)=_;rw[Option.map_id'];rfl
 generalize Mf:((VW (m+1)).filterMap λj=>(o.getD j none).map (j,·))=live at *
 have pw:live.Pairwise (λx y=>x.1<y.1):=by
  rw[<- Mf,List.pairwise_filterMap];refine Xq.imp λ{a b} QD x hx y hy=>?_;obtain⟨_,_,rfl⟩:=Wk.mp hx;obtain⟨_,_,rfl⟩:=Wk.mp hy;exact QD
 have mem:∀x∈live,x.1<m+1/\ow o x.1=some x.2:=λx hx=>by
  rw[<- Mf]at hx;obtain⟨j,hj,e⟩:=Y2.mp hx;obtain⟨a,ha,rfl⟩:=Wk.mp e;exact{V3.mp hj,ha}
 have ord:(live.map (·.2)).Perm (VW hs.size):=by
  rw[<- Mf,Lq];exact L.OP
 have len:live.length=hs.size:=by
  have:=ord.length_eq;rw[VS,We]at this;exact this
 have gp:∀i (hi:i<live.length),g (live.map (·.1)).toArray i=(live[i]).1:=λi hi=>by
  rw[g,Wl,List.getElem?_toArray,Wg,Wh hi];rfl
 refine{{mask:=m,place:=(live.map (·.1)).toArray,dummies:=#[],finger,led,moves,plain},(live.map (·.2)).toArray,?_,rfl,rfl,rfl,rfl,ord,?_,?_}
 ·unfold laid;rw[e2,<- Mf];rfl
 ·have OO:(live.map (·.1)).toArray.size=live.length:=by rw[Wq,VS]
  refine{rfl,?_,?_,?_,{(j0),h3,hm.symm},?_,?_}
  ·show (live.map (·.1)).toArray.size=_;rw[OO,VS,VS]
  ·intro i j aI hj;have hj:j<live.length:=by rw[<- OO];exact hj
   show g (live.map (·.1)).toArray i<g (live.map (·.1)).toArray j;rw[gp i (by lia),gp j hj]
   exact Y5.mp pw i j (by lia) hj aI
  ·intro i hi;have hi:i<live.length:=by rw[<- OO];exact hi
   show g (live.map (·.1)).toArray i<=m;rw[gp i hi];have:=(mem _ (YM hi)).1;lia
  ·show (live.map (·.1)).toArray.size<=m;lia
  ·intro i h hi;show ∃n,cR m h n=g (live.map (·.1)).toArray i/\_;rw[Wg,Wg]at hi;have Gm:i<live.length:=by
    rcases W8 i live.length with q|q
    ·exact q
    ·rw[Xw q]at hi;cases hi
   rw[Wh Gm]at hi;have hi:hs.getD (live[i]).2 0=h:=WA hi;obtain⟨_,n,g2,g3⟩:=L.way _ _ (mem _ (YM Gm)).2;rw[hi]at g2 g3;refine{n,by rw[gp i Gm];exact g2,λk hk=>?_}
   have hv:=lH m h k;have Ug:cR m h k<o.size:=by rw[L.sz];lia
   have:=g3 k hk;cases eo:ow o (cR m h k)with
   |none =>
    rw[(mP Ug).mpr eo]at this;cases this
   |some a =>
    have i8:(cR m h k,a)∈live:=by
     rw[<- Mf];exact Y2.mpr {cR m h k,V3.mpr (by lia),by show (ow o (cR m h k)).map _=_;rw[eo];rfl}
    obtain⟨i',gX,e'⟩:=List.getElem_of_mem i8;exact{i',by show i'<(live.map (·.1)).toArray.size;lia,by show g (live.map (·.1)).toArray i'=_;rw[gp i' gX,e']}
 ·show (live.map (·.1)).toArray.size=hs.size;rw[Wq,VS];exact len
end ST
namespace TS
open PySem PyProof.Rows
def cJ:Bool->V1->Array V1->Nat->Nat->Nat->StateT Wy Sem (Option Nat):=sortPriv% PySem.Builtin.gallop
def jK:Array V1->Array V1->StateT Wy Sem (Array V1):=sortPriv% PySem.Builtin.mergeLo
def jL:Array V1->Array V1->StateT Wy Sem (Array V1):=sortPriv% PySem.Builtin.mergeHi
abbrev cM (st:Wy)(g:Nat):Wy:=SortSt.mk' (kindOf st) (WD st) (Wr st) g (YC st)
def v3 (left:Bool)(key:V1)(arr:Array V1)(base n hint:Nat):cJ left key arr base n hint=(do
  let ask:=λ(at_:Nat)=>(do
   let z <- elem' arr (base+at_)
   if left then lt' z key else return (<- lt' key z).map (!·):StateT Wy Sem (Option Bool))
  let mut before:=0
  let mut step:=1
  let mut u:=0
  let mut v:=0
  let some up <- ask hint|return none
  if up then
   let room:=n-hint
   for _ in [0:n] do
    if step >= room then break
    let some on <- ask (hint+step)|return none
    if !on then break
    before:=step
    step:=2*step+1
   u:=hint+before+1
   v:=hint+min step room
  else
   let room:=hint+1
   for _ in [0:n] do
    if step >= room then break
    let some hit <- ask (hint-step)|return none
    if hit then break
    before:=step
    step:=2*step+1
   u:=hint+1-min step room
   v:=hint-before
  for _ in [0:n] do
   if u >= v then break
   let mid:=u+(v-u) / 2
   let some on <- ask mid|return none
   if on then u:=mid+1 else v:=mid
  return some v):=rfl
def tK (p q:Array V1):jK p q=(do
  rule "list.sort.merge-lo"
  let all:=p.size+q.size
  let rest:=λ(to:Array V1) (i j:Nat)=>to++p.extract i p.size++q.extract j q.size
  let tail:=λ(to:Array V1) (i j:Nat)=>to++q.extract j q.size++p.extract i p.size
  let mut to:Array V1:=#[<- elem' q 0]
  let mut i:=0
  let mut j:=1
  if j==q.size then return rest to i j
  if i+1==p.size then return tail to i j
  let mut mg:=gallopOf (<- get)
  for _ in [0:all] do
   let mut m:=0
   let mut n:=0
   for _ in [0:all] do
    let some G0 <- lt' (<- elem' q j) (<- elem' p i)|return rest to i j
    if G0 then
     to:=to.push (<- elem' q j);j:=j+1;n:=n+1;m:=0
     if j==q.size then return rest to i j
     if n >= mg then break
    else
     to:=to.push (<- elem' p i);i:=i+1;m:=m+1;n:=0
     if i+1==p.size then return tail to i j
     if m >= mg then break
   rule "list.sort.gallop"
   mg:=mg+1
   for _ in [0:all] do
    if mg>1 then mg:=mg-1
    modify λst=>cM st mg
    let some k <- cJ false (<- elem' q j) p i (p.size-i) 0|return rest to i j
    m:=k
    if k>0 then
     to:=to++p.extract i (i+k);i:=i+k
     if i+1==p.size then return tail to i j
     if i==p.size then return rest to i j
    to:=to.push (<- elem' q j);j:=j+1
    if j==q.size then return rest to i j
    let some k <- cJ true (<- elem' p i) q j (q.size-j) 0|return rest to i j
    n:=k
    if k>0 then
     to:=to++q.extract j (j+k);j:=j+k
     if j==q.size then return rest to i j
    to:=to.push (<- elem' p i);i:=i+1
    if i+1==p.size then return tail to i j
    if m<7&&n<7 then break
   mg:=mg+1
   modify λst=>cM st mg
  unsupported "internal:list.sort.merge-bound"):=rfl
def tM (p q:Array V1):jL p q=(do
  rule "list.sort.merge-hi"
  let all:=p.size+q.size
  let rest:=λ(to:Array V1) (i j:Nat)=>p.extract 0 i++q.extract 0 j++to.reverse
  let tail:=λ(to:Array V1) (i j:Nat)=>q.extract 0 j++p.extract 0 i++to.reverse
  let mut i:=p.size-1
  let mut j:=q.size
  let mut to:Array V1:=#[<- elem' p i]
  if i==0 then return rest to i j
  if j==1 then return tail to i j
  let mut mg:=gallopOf (<- get)
  for _ in [0:all] do
   let mut m:=0
   let mut n:=0
   for _ in [0:all] do
    let some G0 <- lt' (<- elem' q (j-1)) (<- elem' p (i-1))|return rest to i j
    if G0 then
     i:=i-1;to:=to.push (<- elem' p i);m:=m+1;n:=0
     if i==0 then return rest to i j
     if m >= mg then break
    else
     j:=j-1;to:=to.push (<- elem' q j);n:=n+1;m:=0
     if j==1 then return tail to i j
     if n >= mg then break
   rule "list.sort.gallop"
   mg:=mg+1
   for _ in [0:all] do
    if mg>1 then mg:=mg-1
    modify λst=>cM st mg
    let some h <- cJ false (<- elem' q (j-1)) p 0 i (i-1)|return rest to i j
    let k:=i-h
    m:=k
    if k>0 then
     to:=to++(p.extract h i).reverse;i:=h
     if i==0 then return rest to i j
    j:=j-1;to:=to.push (<- elem' q j)
    if j==1 then return tail to i j
    let some h <- cJ true (<- elem' p (i-1)) q 0 j (j-1)|return rest to i j
    let k:=j-h
    n:=k
    if k>0 then
     to:=to++(q.extract h j).reverse;j:=h
     if j==1 then return tail to i j
     if j==0 then return rest to i j
    i:=i-1;to:=to.push (<- elem' p i)
    if i==0 then return rest to i j
    if m<7&&n<7 then break
   mg:=mg+1
   modify λst=>cM st mg
  unsupported "internal:list.sort.merge-bound"):=rfl
def tO (i:Nat):mergeAt' i=(do
  let st <- get
  let (some (sa,na,pw),some (sb,nb,_)):=((Wr st)[i]?,(Wr st)[i+1]?)|unsupported "internal:list.sort.pending"
  set (YK st (((Wr st).setIfInBounds i (sa,na+nb,pw)).eraseIdxIfInBounds (i+1)))
  let some k <- cJ false (<- elem' (WD st) sb) (WD st) sa na 0|return false
  let (sa,na):=(sa+k,na-k)
  if na==0 then return true
  let some nb <- cJ true (<- elem' (WD st) (sa+na-1)) (WD st) sb nb (nb-1)|return false
  if nb==0 then return true
  let x:=(WD st).extract sa sb
  let y:=(WD st).extract sb (sb+nb)
  let got <- if na<=nb then jK x y else jL x y
  modify λs2=>Xk s2 (got.toList.zipIdx.foldl (λa (p,j)=>a.setIfInBounds (sa+j) p) (WD s2))
  return (YC (<- get)).isNone):=rfl
structure cG (c:V1->V1->Bool):Prop where
 MU:∀x y,c x y=true->c y x=false
 RF:∀x y z,c x z=true->c x y=true\/c y z=true
def le (c:V1->V1->Bool)(x y:V1):Prop:=c y x=false
section
variable {c:V1->V1->Bool}
def cG.refl (O:cG c)(x:V1):le c x x:=by
 cases h:c x x
 ·exact h
 ·exact O.MU _ _ h
def cG.trans (O:cG c){x y z:V1}(h1:le c x y)(h2:le c y z):le c x z:=by
 cases h:c z x
 ·exact h
 ·rcases O.RF _ y _ h with q|q
  ·exact absurd (q.symm.trans h2) (by simp)
  ·exact absurd (q.symm.trans h1) (by simp)
def cG.of_lt (O:cG c){x y:V1}(h:c x y=true):le c x y:=O.MU _ _ h
def el (a:Array V1)(i:Nat):V1:=a.getD i (Value.none,Value.none)
def jW {a:Array V1}{i:Nat}(h:i<a.size):a[i]?=some (el a i):=by
 rw[getElem?_pos a i h,el,Wl,getElem?_pos a i h];rfl
def xO {a:Array V1}{i:Nat}{x:V1}(h:a[i]?=some x):el a i=x:=by
 rw[el,Wl,h];rfl
def eO {a b:Array V1}{i j:Nat}(h:a[i]?=b[j]?):el a i=el b j:=by
 rw[el,el,Wl,Wl,h]
def SR (c:V1->V1->Bool)(a:Array V1)(lo hi:Nat):Prop:=∀i j,lo<=i->i<=j->j<hi->le c (el a i) (el a j)
def gi (prog:V2)(w:Wm)(A:Xd)(E:VT->VY->Prop)(s:VY)(κ:Yq)(c:V1->V1->Bool)(S:V1->Prop):Prop :=
 ∀(x y:V1) (st:Wy) (Q:Option Bool->Wy->Prop),S x->S y->kindOf st=κ->Q (some (c x y)) st->wpS (model prog w) A E s (lt' x y) Q st
end
section
variable {prog:V2}{w:Wm}{A:Xd}{E:VT->VY->Prop}{s:VY}{κ:Yq}{c:V1->V1->Bool}{S:V1->Prop}
def aO {a:Array V1}{i:Nat}{Q:V1->Wy->Prop}{st:Wy}(h:i<a.size)(q:Q (el a i) st):wpS (model prog w) A E s (elem' a i) Q st:=by
 rw[elem'_eq,jW h];exact Wc q
def eR (c:V1->V1->Bool)(left:Bool)(key:V1)(a:Array V1)(base i:Nat):Bool:=if left=true then c (el a (base+i)) key else !c key (el a (base+i))
def Fv (O:cG c){left:Bool}{key:V1}{a:Array V1}{base n i j:Nat}(hs:SR c a base (base+n))(aI:i<=j)(hj:j<n)(h:eR c left key a base j=true):eR c left key a base i=true:=by
 have hl:=hs (base+i) (base+j) (by lia) (by lia) (by lia)
 unfold eR at *
 cases left with
 |true =>
  rw[if_pos rfl]at *
  rcases O.RF _ (el a (base+i)) _ h with q|q
  ·exact absurd (q.symm.trans hl) (by simp)
  ·exact q
 |false =>
  rw[if_neg (by simp)]at *
  rw[Yj]at *
  exact O.trans hl h
def jo (L:gi prog w A E s κ c S){left:Bool}{key:V1}{a:Array V1}{base n i:Nat}{Q:Option Bool->Wy->Prop}{st:Wy}(hk:kindOf st=κ)(hK:S key)(hA:∀i,i<n->S (el a (base+i)))(hn:base+n<=a.size)(hi:i<n)
  (h:Q (some (eR c left key a base i)) st):wpS (model prog w) A E s (do
   let z <- elem' a (base+i)
   if left then lt' z key else return (<- lt' key z).map (!·):StateT Wy Sem (Option Bool)) Q st:=by
 refine V5 (aO (by lia) ?_)
 unfold eR at h;cases left with
 |true =>
  rw[if_pos rfl]at *
  exact L _ _ st Q (hA i hi) hK hk h
 |false =>
  rw[if_neg (by simp)]at *
  exact V5 (L _ _ st _ hK (hA i hi) hk (Wc h))
def d7 (O:cG c)(L:gi prog w A E s κ c S){left:Bool}{key:V1}{a:Array V1}{base n hint:Nat}{Q:Option Nat->Wy->Prop}{st:Wy}(hk:kindOf st=κ)(hK:S key)(hA:∀i,i<n->S (el a (base+i)))(hn:base+n<=a.size)
  (hs:SR c a base (base+n)) (hh:hint<n) (h:∀k,k<=n->(∀i,i<k->eR c left key a base i=true)->(∀i,k<=i->i<n->eR c left key a base i=false)->Q (some k) st) :
  wpS (model prog w) A E s (cJ left key a base n hint) Q st:=by
 rw[v3];dsimp only;have up:∀{i j},i<=j->j<n->eR c left key a base j=true->eR c left key a base i=true:=λh1 h2 h3=>Fv O hs h1 h2 h3;refine V5 (jo L hk hK hA hn hh ?_);dsimp only;have dn:∀{i j},i<=j->j<n->eR c left key a base i=false->eR c left key a base j=false:=λ{i j} h1 h2 h3=>by
  cases q:eR c left key a base j
  ·rfl
  ·rw[up h1 h2 q]at h3;exact absurd h3 (by simp)
 cases J4:eR c left key a base hint with
 |true =>
  rw[if_pos rfl];refine V5 (XH (W7 (I:=λx r aA=>aA=st/\∃be c6,r=(none,be,c6)/\hint+be<n/\be<c6/\x+1<=c6/\eR c left key a base (hint+be)=true)
   (Q:=λr aA=>aA=st/\∃be c6,r=(none,be,c6)/\hint+be<n/\be<c6/\eR c left key a base (hint+be)=true/\(n-hint<=c6\/(hint+c6<n/\eR c left key a base (hint+c6)=false))) ?_ ?_ ?_) ?_)
  ·rintro x r aA _ hx ⟨rfl,be,c6,rfl,h1,h2,h3,h4⟩;dsimp only
   by_cases hr:c6 >= n-hint
   ·rw[if_pos hr];exact Wc {rfl,be,c6,rfl,h1,h2,h4,.inl hr}
   ·rw[if_neg hr];refine V5 (jo L hk hK hA hn (by omega) ?_)
    dsimp only;cases hb:eR c left key a base (hint+c6)with
    |true =>
     rw[if_neg (by simp)]
     exact Wc {rfl,c6,_,rfl,by omega,by omega,by omega,hb}
    |false =>
     rw[if_pos (by simp)]
     exact Wc {rfl,be,c6,rfl,h1,h2,h4,.inr {by omega,hb}}
  ·rintro r aA ⟨rfl,be,c6,rfl,h1,h2,h3,h4⟩;exact{rfl,be,c6,rfl,h1,h2,h4,.inl (by omega)}
  ·exact{rfl,0,1,rfl,by omega,by omega,by omega,J4}
  rintro r aA ⟨e0,be,c6,rfl,h1,h2,h4,h5⟩;rw[e0];dsimp only;have g1:∀i,i<hint+be+1->eR c left key a base i=true:=λi hi=>up (j:=hint+be) (by omega) h1 h4
  have g2:∀i,hint+min c6 (n-hint)<=i->i<n->eR c left key a base i=false:=λi hi gX=>by
   rcases h5 with q|⟨q1,q2⟩
   ·omega
   ·exact dn (i:=hint+c6) (by omega) gX q2
  refine V5 (XH (W7 (I:=λx r aA=>aA=st/\∃u v,r=(none,u,v)/\u<=v/\v<=n/\v-u<=n-x/\(∀i,i<u->eR c left key a base i=true)/\(∀i,v<=i->i<n->eR c left key a base i=false))
   (Q:=λr aA=>aA=st/\∃v,r=(none,v,v)/\v<=n/\(∀i,i<v->eR c left key a base i=true)/\(∀i,v<=i->i<n->eR c left key a base i=false)) ?_ ?_ ?_) ?_)
  ·rintro x r aA _ hx ⟨rfl,u,v,rfl,h1,h2,h3,h4,h5⟩;dsimp only
   by_cases LD:u >= v
   ·rw[if_pos LD];obtain rfl:u=v:=by omega
    exact Wc {(rfl),u,rfl,h2,h4,h5}
   ·rw[if_neg LD];refine V5 (jo L hk hK hA hn (by omega) ?_)
    dsimp only;cases hb:eR c left key a base (u+(v-u) / 2)with
    |true =>
     rw[if_pos rfl];exact Wc {rfl,_,v,rfl,by omega,h2,by omega,λi hi=>up (j:=u+(v-u) / 2) (by omega) (by omega) hb,h5}
    |false =>
     rw[if_neg (by simp)]
     exact Wc {rfl,u,_,rfl,by omega,by omega,by omega,h4,λi hi gX=>dn (i:=u+(v-u) / 2) (by omega) (by omega) hb}
  ·rintro r aA ⟨rfl,u,v,rfl,h1,h2,h3,h4,h5⟩;obtain rfl:u=v:=by omega
   exact{(rfl),u,rfl,h2,h4,h5}
  ·exact{rfl,_,_,rfl,by omega,by omega,by omega,by assumption,by assumption}
  ·rintro r aA ⟨rfl,v,rfl,h2,h4,h5⟩;exact Wc (h v h2 h4 h5)
 |false =>
  rw[if_neg (by simp)]
  refine V5 (XH (W7 (I:=λx r aA=>aA=st/\∃be c6,r=(none,be,c6)/\be<=hint/\be<c6/\x+1<=c6/\eR c left key a base (hint-be)=false)
   (Q:=λr aA=>aA=st/\∃be c6,r=(none,be,c6)/\be<=hint/\be<c6/\eR c left key a base (hint-be)=false/\(hint+1<=c6\/(c6<=hint/\eR c left key a base (hint-c6)=true))) ?_ ?_ ?_) ?_)
  ·rintro x r aA _ hx ⟨rfl,be,c6,rfl,h1,h2,h3,h4⟩;dsimp only
   by_cases hr:c6 >= hint+1
   ·rw[if_pos hr];exact Wc {rfl,be,c6,rfl,h1,h2,h4,.inl hr}
   ·rw[if_neg hr];refine V5 (jo L hk hK hA hn (by omega) ?_)
    dsimp only;cases hb:eR c left key a base (hint-c6)with
    |true =>
     rw[if_pos rfl];exact Wc {rfl,be,c6,rfl,h1,h2,h4,.inr {by omega,hb}}
    |false =>
     rw[if_neg (by simp)]
     exact Wc {rfl,c6,_,rfl,by omega,by omega,by omega,hb}
  ·rintro r aA ⟨rfl,be,c6,rfl,h1,h2,h3,h4⟩;exact{rfl,be,c6,rfl,h1,h2,h4,.inl (by omega)}
  ·exact{rfl,0,1,rfl,by omega,by omega,by omega,J4}
  rintro r aA ⟨e0,be,c6,rfl,h1,h2,h4,h5⟩;rw[e0];dsimp only;have g1:∀i,i<hint+1-min c6 (hint+1)->eR c left key a base i=true:=λi hi=>by
   rcases h5 with q|⟨q1,q2⟩
   ·omega
   ·exact up (j:=hint-c6) (by omega) (by omega) q2
  have g2:∀i,hint-be<=i->i<n->eR c left key a base i=false:=λi hi gX=>dn (i:=hint-be) hi gX h4;refine V5 (XH (W7 (I:=λx r aA=>aA=st/\∃u v,r=(none,u,v)/\u<=v/\v<=n/\v-u<=n-x/\(∀i,i<u->eR c left key a base i=true)/\(∀i,v<=i->i<n->eR c left key a base i=false))
   (Q:=λr aA=>aA=st/\∃v,r=(none,v,v)/\v<=n/\(∀i,i<v->eR c left key a base i=true)/\(∀i,v<=i->i<n->eR c left key a base i=false)) ?_ ?_ ?_) ?_)
  ·rintro x r aA _ hx ⟨rfl,u,v,rfl,h1,h2,h3,h4,h5⟩;dsimp only
   by_cases LD:u >= v
   ·rw[if_pos LD];obtain rfl:u=v:=by omega
    exact Wc {(rfl),u,rfl,h2,h4,h5}
   ·rw[if_neg LD];refine V5 (jo L hk hK hA hn (by omega) ?_)
    dsimp only;cases hb:eR c left key a base (u+(v-u) / 2)with
    |true =>
     rw[if_pos rfl];exact Wc {rfl,_,v,rfl,by omega,h2,by omega,λi hi=>up (j:=u+(v-u) / 2) (by omega) (by omega) hb,h5}
    |false =>
     rw[if_neg (by simp)]
     exact Wc {rfl,u,_,rfl,by omega,by omega,by omega,h4,λi hi gX=>dn (i:=u+(v-u) / 2) (by omega) (by omega) hb}
  ·rintro r aA ⟨rfl,u,v,rfl,h1,h2,h3,h4,h5⟩;obtain rfl:u=v:=by omega
   exact{(rfl),u,rfl,h2,h4,h5}
  ·exact{rfl,_,_,rfl,by omega,by omega,by omega,by assumption,by assumption}
  ·rintro r aA ⟨rfl,v,rfl,h2,h4,h5⟩;exact Wc (h v h2 h4 h5)
end
section
variable {c:V1->V1->Bool}{p q:Array V1}{t:List V1}{i j:Nat}
def wF {a:Array V1}{i:Nat}(h:i<a.size):a.toList.take (i+1)=a.toList.take i++[el a i]:=by
 have e:a.toList[i]?=some (el a i):=by rw[Wo];exact jW h
 rw[List.take_succ,e];rfl
def xP {a:Array V1}{i:Nat}(h:i<a.size):a.toList.drop i=el a i::a.toList.drop (i+1):=by
 have hl:i<a.toList.length:=by rw[Wa];exact h
 have e:a.toList[i]=el a i:=by
  have h1:=Wh hl;rw[Wo,jW h]at h1;exact(WA h1).symm
 rw[W6 hl,e]
structure Mg (c:V1->V1->Bool)(p q:Array V1)(t:List V1)(i j:Nat):Prop where
 hi:i<=p.size
 hj:j<=q.size
 perm:t.Perm (p.toList.take i++q.toList.take j)
 ly:t.Pairwise (le c)
 ap:∀x∈t,∀k,i<=k->k<p.size->le c x (el p k)
 aq:∀x∈t,∀k,j<=k->k<q.size->le c x (el q k)
def Gd (c:V1->V1->Bool)(p q:Array V1)(t:List V1):Prop:=t.Perm (p.toList++q.toList)/\t.Pairwise (le c)
def sC {x:V1}(h:t.Pairwise (le c))(hx:∀y∈t,le c y x):(t++[x]).Pairwise (le c):=by
 rw[Xy];exact{h,W5 _ _,λy hy z hz=>by rw[VU.mp hz];exact hx y hy}
def Mg.k8 (m:Mg c p q t i j)(hj:j<q.size)(sq:SR c q 0 q.size)(hle:∀k,i<=k->k<p.size->le c (el q j) (el p k)):Mg c p q (t++[el q j]) i (j+1) where
 hi:=m.hi
 hj:=hj
 perm:=by
  rw[wF hj,<- W3];exact m.perm.append_right _
 ly:=sC m.ly λy hy=>m.aq y hy j (VR _) hj
 ap:=λx hx k h1 h2=>by
  rcases V9.mp hx with h|h
  ·exact m.ap x h k h1 h2
  ·rw[VU.mp h];exact hle k h1 h2
 aq:=λx hx k h1 h2=>by
  rcases V9.mp hx with h|h
  ·exact m.aq x h k (by lia) h2
  ·rw[VU.mp h];exact sq j k (by lia) (by lia) h2
def Mg.k9 (m:Mg c p q t i j)(hi:i<p.size)(sp:SR c p 0 p.size)(hle:∀k,j<=k->k<q.size->le c (el p i) (el q k)):Mg c p q (t++[el p i]) (i+1) j where
 hi:=hi
 hj:=m.hj
 perm:=by
  rw[wF hi];refine(m.perm.append_right _).trans ?_;rw[W3,W3];exact List.Perm.append_left _ List.perm_append_comm
 ly:=sC m.ly λy hy=>m.ap y hy i (VR _) hi
 ap:=λx hx k h1 h2=>by
  rcases V9.mp hx with h|h
  ·exact m.ap x h k (by lia) h2
  ·rw[VU.mp h];exact sp i k (by lia) (by lia) h2
 aq:=λx hx k h1 h2=>by
  rcases V9.mp hx with h|h
  ·exact m.aq x h k h1 h2
  ·rw[VU.mp h];exact hle k h1 h2
def g6 {a:Array V1}{i k:Nat}(h:i+k<a.size):(a.toList.drop i).take (k+1)=(a.toList.drop i).take k++[el a (i+k)]:=by
 have e:(a.toList.drop i)[k]?=some (el a (i+k)):=by rw[Y3,Wo];exact jW h
 rw[List.take_succ,e];rfl
theorem Mg.ju (m:Mg c p q t i j)(sp:SR c p 0 p.size):∀(k:Nat),i+k<=p.size->(∀x,x<k->∀y,j<=y->y<q.size->le c (el p (i+x)) (el q y))->Mg c p q (t++(p.toList.drop i).take k) (i+k) j
 |0,_,_=>by simpa using m
 |k+1,h,hle=>by
  have m':=Mg.ju m sp k (by lia) λx hx=>hle x (by lia)
  rw[g6 (by lia),<- W3,<- Nat.add_assoc]
  exact m'.k9 (by lia) sp (hle k (by lia))
theorem Mg.jt (m:Mg c p q t i j)(sq:SR c q 0 q.size):∀(k:Nat),j+k<=q.size->(∀x,x<k->∀y,i<=y->y<p.size->le c (el q (j+x)) (el p y))->Mg c p q (t++(q.toList.drop j).take k) i (j+k)
 |0,_,_=>by simpa using m
 |k+1,h,hle=>by
  have m':=Mg.jt m sq k (by lia) λx hx=>hle x (by lia)
  rw[g6 (by lia),<- W3,<- Nat.add_assoc]
  exact m'.k8 (by lia) sq (hle k (by lia))
def Mg.full (m:Mg c p q t p.size q.size):Gd c p q t:=by
 refine{?_,m.ly};have h:=m.perm;rw[Xh (by rw[Wa];lia),Xh (by rw[Wa];lia)]at h
 exact h
def cE (a:Array V1)(i j:Nat):(a.extract i j).toList=(a.toList.drop i).take (j-i):=by
 rw[ZL,Y6]
def ur {a:Array V1}{i j:Nat}(h:a.size<=i):(a.toList.drop i).take (j-i)=[]:=by
 rw[Zs (by rw[Wa];exact h)]
 simp
def Mg.done {to:Array V1}(m:Mg c p q to.toList i j)(sp:SR c p 0 p.size)(sq:SR c q 0 q.size)(h:i=p.size\/j=q.size):Gd c p q (to++p.extract i p.size++q.extract j q.size).toList:=by
 rw[Xu,Xu,cE,cE];rcases h with rfl|rfl
 ·rw[ur (VR _),WZ];have m':=m.jt sq (q.size-j) (by have:=m.hj;lia) λx hx y h1 h2=>by lia
  rw[show j+(q.size-j)=q.size by have:=m.hj;lia]at m'
  exact m'.full
 ·rw[ur (a:=q) (VR _),WZ];have m':=m.ju sp (p.size-i) (by have:=m.hi;lia) λx hx y h1 h2=>by lia
  rw[show i+(p.size-i)=p.size by have:=m.hi;lia]at m'
  exact m'.full
def Mg.tail {to:Array V1}(O:cG c)(m:Mg c p q to.toList i j)(sp:SR c p 0 p.size)(sq:SR c q 0 q.size)(h:i+1=p.size)(hl:∀y,y<q.size->c (el q y) (el p (p.size-1))=true):Gd c p q (to++q.extract j q.size++p.extract i p.size).toList:=by
 rw[Xu,Xu,cE,cE];have m':=m.jt sq (q.size-j) (by have:=m.hj;lia) λx hx y h1 h2=>by
  rw[show y=p.size-1 by lia]
  exact O.of_lt (hl _ (by lia))
 rw[show j+(q.size-j)=q.size by have:=m.hj;lia]at m'
 have m2:=m'.ju sp (p.size-i) (by have:=m.hi;lia) λx hx y h1 h2=>by lia
 rw[show i+(p.size-i)=p.size by have:=m.hi;lia]at m2
 exact m2.full
def xZ (to a:Array V1)(i k:Nat):(to++a.extract i (i+k)).toList=to.toList++(a.toList.drop i).take k:=by
 rw[Xu,cE,show i+k-i=k by lia]
def Mg.start (O:cG c)(sp:SR c p 0 p.size)(sq:SR c q 0 q.size)(hq:0<q.size)(hp:0<p.size)(h:c (el q 0) (el p 0)=true):Mg c p q [el q 0] 0 1:=by
 have m:Mg c p q [] 0 0:={V_ _,V_ _,(by simp),.nil,(λx hx=>by cases hx),(λx hx=>by cases hx)}
 exact m.k8 hq sq λk _ hk=>O.trans (O.of_lt h) (sp 0 k (by lia) (by lia) hk)
end
structure kX (st aA:Wy):Prop where
 kind:kindOf aA=kindOf st
 arr:WD aA=WD st
 pend:Wr aA=Wr st
 fail:YC aA=YC st
def kX.refl (st:Wy):kX st st:={(rfl),rfl,rfl,rfl}
def kX.Gr {st aA:Wy}(e:kX st aA)(g:Nat):kX st (cM aA g):={(e.kind),e.arr,e.pend,e.fail}
abbrev RI:=Array V1×Nat×Nat×Nat×Nat
abbrev RG:=Array V1×Nat×Nat×Nat×Nat×Nat
abbrev RO:=Array V1×Nat×Nat×Nat
noncomputable def O0 (p q t:Array V1)(i j mg m n:Nat):StateT Wy Sem (ForInStep (Option (Array V1)×RG)):=do
 let z <- elem' p i
 if (i+1+1==p.size)=true then pure (.done (some (t.push z++q.extract j++p.extract (i+1)),t.push z,i+1,j,mg,m,n))
 else if (decide (m<7)&&decide (n<7))=true then pure (.done (none,t.push z,i+1,j,mg,m,n)) else pure (.yield (none,t.push z,i+1,j,mg,m,n))
noncomputable def O1 (p q t:Array V1)(i j mg m n:Nat):StateT Wy Sem (ForInStep (Option (Array V1)×RG)):=do
 let y <- elem' q j
 if (j+1==q.size)=true then pure (.done (some (t.push y++p.extract i++q.extract (j+1)),t.push y,i,j+1,mg,m,n))
 else do
  let x <- elem' p i
  let r <- cJ true x q (j+1) (q.size-(j+1)) 0
  match r with
  |some k=>if k>0 then (if (j+1+k==q.size)=true then pure (.done (some (t.push y++q.extract (j+1) (j+1+k)++p.extract i++q.extract (j+1+k)),t.push y++q.extract (j+1) (j+1+k),i,j+1+k,mg,m,k))
    else O0 p q (t.push y++q.extract (j+1) (j+1+k)) i (j+1+k) mg m k) else O0 p q (t.push y) i (j+1) mg m k
  |_=>pure (.done (some (t.push y++p.extract i++q.extract (j+1)),t.push y,i,j+1,mg,m,n))
noncomputable def Lp (p q t:Array V1)(i j mg m n:Nat):StateT Wy Sem (ForInStep (Option (Array V1)×RG)):=do
 modify λst=>cM st mg
 let y <- elem' q j
 let r <- cJ false y p i (p.size-i) 0
 match r with
 |some k=>if k>0 then (if (i+k+1==p.size)=true then pure (.done (some (t++p.extract i (i+k)++q.extract j++p.extract (i+k)),t++p.extract i (i+k),i+k,j,mg,k,n))
   else if (i+k==p.size)=true then pure (.done (some (t++p.extract i (i+k)++p.extract (i+k)++q.extract j),t++p.extract i (i+k),i+k,j,mg,k,n))
   else O1 p q (t++p.extract i (i+k)) (i+k) j mg k n) else O1 p q t i j mg k n
 |_=>pure (.done (some (t++p.extract i++q.extract j),t,i,j,mg,m,n))
def TY (p q:Array V1)(s:Option (Array V1)×RG):StateT Wy Sem (ForInStep (Option (Array V1)×RG)):=if s.2.2.2.2.1>1 then Lp p q s.2.1 s.2.2.1 s.2.2.2.1 (s.2.2.2.2.1-1) s.2.2.2.2.2.1 s.2.2.2.2.2.2 else Lp p q s.2.1 s.2.2.1 s.2.2.2.1 s.2.2.2.2.1 s.2.2.2.2.2.1 s.2.2.2.2.2.2
noncomputable def Lo (p q:Array V1)(mg:Nat)(s:Option (Array V1)×RI):StateT Wy Sem (ForInStep (Option (Array V1)×RI)):=do
 let y <- elem' q s.2.2.2.1
 if (s.2.2.2.1+1==q.size)=true then pure (.done (some (s.2.1.push y++p.extract s.2.2.1++q.extract (s.2.2.2.1+1)),s.2.1.push y,s.2.2.1,s.2.2.2.1+1,0,s.2.2.2.2.2+1))
 else if s.2.2.2.2.2+1 >= mg then pure (.done (none,s.2.1.push y,s.2.2.1,s.2.2.2.1+1,0,s.2.2.2.2.2+1)) else pure (.yield (none,s.2.1.push y,s.2.2.1,s.2.2.2.1+1,0,s.2.2.2.2.2+1))
noncomputable def Ln (p q:Array V1)(mg:Nat)(s:Option (Array V1)×RI):StateT Wy Sem (ForInStep (Option (Array V1)×RI)):=do
 let x <- elem' p s.2.2.1
 if (s.2.2.1+1+1==p.size)=true then pure (.done (some (s.2.1.push x++q.extract s.2.2.2.1++p.extract (s.2.2.1+1)),s.2.1.push x,s.2.2.1+1,s.2.2.2.1,s.2.2.2.2.1+1,0))
 else if s.2.2.2.2.1+1 >= mg then pure (.done (none,s.2.1.push x,s.2.2.1+1,s.2.2.2.1,s.2.2.2.2.1+1,0)) else pure (.yield (none,s.2.1.push x,s.2.2.1+1,s.2.2.2.1,s.2.2.2.2.1+1,0))
noncomputable def OZ (p q:Array V1)(mg:Nat)(s:Option (Array V1)×RI):StateT Wy Sem (ForInStep (Option (Array V1)×RI)):=do
 let y <- elem' q s.2.2.2.1
 let x <- elem' p s.2.2.1
 let r <- lt' y x
 match r with
 |some G0=>if G0=true then Lo p q mg s else Ln p q mg s
 |_=>pure (.done (some (s.2.1++p.extract s.2.2.1++q.extract s.2.2.2.1),s.2.1,s.2.2.1,s.2.2.2.1,s.2.2.2.2.1,s.2.2.2.2.2))
noncomputable def RV (p q:Array V1)(s:Option (Array V1)×RO):StateT Wy Sem (ForInStep (Option (Array V1)×RO)):=do
 let s1 <- forIn [:p.size+q.size] ((none,s.2.1,s.2.2.1,s.2.2.2.1,0,0):Option (Array V1)×RI) λ_ r=>OZ p q s.2.2.2.2 r
 match s1.1 with
 |some r=>pure (.done (some r,s1.2.1,s1.2.2.1,s1.2.2.2.1,s.2.2.2.2))
 |none=>do
  liftM (rule "list.sort.gallop")
  let s2 <- forIn [:p.size+q.size] ((none,s1.2.1,s1.2.2.1,s1.2.2.2.1,s.2.2.2.2+1,s1.2.2.2.2.1,s1.2.2.2.2.2):Option (Array V1)×RG) λ_ r=>TY p q r
  match s2.1 with
  |some r=>pure (.done (some r,s2.2.1,s2.2.2.1,s2.2.2.2.1,s2.2.2.2.2.1))
  |none=>do
   modify λst=>cM st (s2.2.2.2.2.1+1)
   pure (.yield (none,s2.2.1,s2.2.2.1,s2.2.2.2.1,s2.2.2.2.2.1+1))
theorem tL (p q:Array V1):jK p q=(do
  liftM (rule "list.sort.merge-lo")
  let y <- elem' q 0
  if (1==q.size)=true then pure (#[y]++p.extract 0++q.extract 1)
  else if (0+1==p.size)=true then pure (#[y]++q.extract 1++p.extract 0)
  else do
   let st <- get
   let s <- forIn [:p.size+q.size] ((none,#[y],0,1,gallopOf st):Option (Array V1)×RO) λ_ s=>RV p q s
   match s.1 with
   |some r=>pure r
   |none=>liftM (unsupported "internal:list.sort.merge-bound" : Sem (Array V1))):=by
 rw[tK];dsimp only;refine congrArg (bind _) (funext λ_=>?_);refine congrArg (bind _) (funext λy=>?_);refine congrArg (ite _ _) (congrArg (ite _ _) ?_);refine congrArg (bind _) (funext λy=>?_);refine congr (congrArg bind (congrArg _ (funext λ_=>funext λs=>?_))) (funext λs=>?_)
 ·refine congr (congrArg bind (congrArg _ (funext λ_=>funext λs=>?_))) (funext λs=>?_)
  ·rfl
  ·cases s.1
   ·refine congrArg (bind _) (funext λ_=>?_);refine congr (congrArg bind (congrArg _ (funext λ_=>funext λs=>?_))) (funext λs=>?_)
    ·rfl
    ·cases s.1 <;> rfl
   ·rfl
 ·cases s.1 <;> rfl
section
variable {prog:V2}{w:Wm}{A:Xd}{E:VT->VY->Prop}{s:VY}{κ:Yq}{c:V1->V1->Bool}{S:V1->Prop}{p q:Array V1}
def zV {st:Wy}{Q:ForInStep (Option (Array V1)×RG)->Wy->Prop}{t:Array V1}{i j mg m n:Nat}(O:cG c)(sp:SR c p 0 p.size)(sq:SR c q 0 q.size)(hl:∀y,y<q.size->c (el q y) (el p (p.size-1))=true)(m3:Mg c p q t.toList i j)(hi:i+1<p.size)(g3:∀y,j<=y->y<q.size->le c (el p i) (el q y))
  (hd:∀out r,Gd c p q out.toList->Q (.done (some out,r)) st) (hn:∀t' m n,Mg c p q t'.toList (i+1) j->i+1+1<p.size->Q (.done (none,t',i+1,j,mg,m,n)) st/\Q (.yield (none,t',i+1,j,mg,m,n)) st):wpS (model prog w) A E s (O0 p q t i j mg m n) Q st:=by
 refine V5 (aO (by lia) ?_)
 have m4:Mg c p q (t.push (el p i)).toList (i+1) j:=by
  rw[XY];exact m3.k9 (by lia) sp g3
 by_cases e5:(i+1+1==p.size)=true
 ·rw[if_pos e5];exact Wc (hd _ _ (m4.tail O sp sq (by simpa using e5) hl))
 rw[if_neg e5];have h5:i+1+1≠p.size:=by simpa using e5
 obtain⟨h6,h7⟩:=hn (t.push (el p i)) m n m4 (by lia)
 split
 ·exact Wc h6
 ·exact Wc h7
def zW {st:Wy}{Q:ForInStep (Option (Array V1)×RG)->Wy->Prop}{t:Array V1}{i j mg m n:Nat}(O:cG c)(L:gi prog w A E s κ c S)(hk:kindOf st=κ)(Sp:∀i,i<p.size->S (el p i))(Sq:∀i,i<q.size->S (el q i))(sp:SR c p 0 p.size)(sq:SR c q 0 q.size)(hl:∀y,y<q.size->c (el q y) (el p (p.size-1))=true)(m1:Mg c p q t.toList i j)(hi:i+1<p.size)(hj:j<q.size)(g1:∀y,i<=y->y<p.size->le c (el q j) (el p y))
  (hd:∀out r,Gd c p q out.toList->Q (.done (some out,r)) st) (hn:∀t' j' m n,Mg c p q t'.toList (i+1) j'->i+1+1<p.size->j<j'->j'<q.size->Q (.done (none,t',i+1,j',mg,m,n)) st/\Q (.yield (none,t',i+1,j',mg,m,n)) st):wpS (model prog w) A E s (O1 p q t i j mg m n) Q st:=by
 refine V5 (aO hj ?_);have m2:Mg c p q (t.push (el q j)).toList i (j+1):=by
  rw[XY];exact m1.k8 hj sq g1
 by_cases e3:(j+1==q.size)=true
 ·rw[if_pos e3];exact Wc (hd _ _ (m2.done sp sq (.inr (by simpa using e3))))
 rw[if_neg e3];have h3:j+1≠q.size:=by simpa using e3
 refine V5 (aO (by lia) (V5 (d7 O L hk (Sp _ (by lia)) (λx hx=>Sq _ (by lia)) (by lia) (λa b h1 h2 h3=>sq a b (by lia) h2 (by lia)) (by lia) λk k1 k2 k3=>?_)))
 have g3:∀y,j+1+k<=y->y<q.size->le c (el p i) (el q y):=λy h1 h2=>by
  have:=k3 (y-(j+1)) (by lia) (by lia)
  unfold eR at this;rw[if_pos rfl,show j+1+(y-(j+1))=y by lia]at this
  exact this
 dsimp only
 by_cases B4:k>0
 ·rw[if_pos B4];have m3:Mg c p q (t.push (el q j)++q.extract (j+1) (j+1+k)).toList i (j+1+k):=by
   rw[xZ];exact m2.jt sq k (by lia) λx hx y h1 h2=>O.trans (O.of_lt (show c (el q (j+1+x)) (el p i)=true from k2 x hx)) (sp _ y (by lia) h1 h2)
  by_cases e4:(j+1+k==q.size)=true
  ·rw[if_pos e4];exact Wc (hd _ _ (m3.done sp sq (.inr (by simpa using e4))))
  rw[if_neg e4];have h4:j+1+k≠q.size:=by simpa using e4
  exact zV O sp sq hl m3 hi g3 hd λt' m n h1 h2=>hn t' _ m n h1 h2 (by lia) (by lia)
 ·rw[if_neg B4];exact zV O sp sq hl m2 hi (λy h1 h2=>g3 y (by lia) h2) hd λt' m n h1 h2=>hn t' _ m n h1 h2 (by lia) (by lia)
def GU {st:Wy}{Q:ForInStep (Option (Array V1)×RG)->Wy->Prop}{t:Array V1}{i j mg m n:Nat}(O:cG c)(L:gi prog w A E s κ c S)(hk:kindOf st=κ)(Sp:∀i,i<p.size->S (el p i))(Sq:∀i,i<q.size->S (el q i))(sp:SR c p 0 p.size)(sq:SR c q 0 q.size)(hl:∀y,y<q.size->c (el q y) (el p (p.size-1))=true)(m0:Mg c p q t.toList i j)(hi:i+1<p.size)(hj:j<q.size)
  (hd:∀out r,Gd c p q out.toList->Q (.done (some out,r)) (cM st mg)) (hn:∀t' i' j' m n,Mg c p q t'.toList i' j'->i'+1<p.size->j'<q.size->i+j<i'+j'->Q (.done (none,t',i',j',mg,m,n)) (cM st mg)/\Q (.yield (none,t',i',j',mg,m,n)) (cM st mg)):wpS (model prog w) A E s (Lp p q t i j mg m n) Q st:=by
 refine V5 (Yk (V5 (aO hj (V5 (d7 O L hk (Sq _ hj) (λx hx=>Sp _ (by lia)) (by lia) (λa b h1 h2 h3=>sp a b (by lia) h2 (by lia)) (by lia) λk k1 k2 k3=>?_)))))
 have g0:∀x,x<k->le c (el p (i+x)) (el q j):=λx hx=>by
  have:=k2 x hx;unfold eR at this;rw[if_neg (by simp),Yj]at this
  exact this
 have g1:∀y,i+k<=y->y<p.size->le c (el q j) (el p y):=λy h1 h2=>by
  have:=k3 (y-i) (by lia) (by lia)
  unfold eR at this;rw[if_neg (by simp),ZS,show i+(y-i)=y by lia]at this
  exact O.of_lt this
 have VF:i+k<p.size:=by
  rcases W8 (i+k) p.size with ie|VI
  ·exact ie
  ·have h1:=g0 (p.size-1-i) (by lia)
   rw[show i+(p.size-1-i)=p.size-1 by lia]at h1
   exact absurd ((hl j hj).symm.trans h1) (by simp)
 dsimp only
 by_cases B4:k>0
 ·rw[if_pos B4];have m1:Mg c p q (t++p.extract i (i+k)).toList (i+k) j:=by
   rw[xZ];exact m0.ju sp k (by lia) λx hx y h1 h2=>O.trans (g0 x hx) (sq j y (by lia) h1 h2)
  by_cases e1:(i+k+1==p.size)=true
  ·rw[if_pos e1];exact Wc (hd _ _ (m1.tail O sp sq (by simpa using e1) hl))
  rw[if_neg e1];have EU:i+k+1≠p.size:=by simpa using e1
  rw[if_neg (by simp;lia)]
  exact zW O L hk Sp Sq sp sq hl m1 (by lia) hj g1 hd λt' j' m n h1 h2 h3 h4=>hn t' _ j' m n h1 h2 h4 (by lia)
 ·rw[if_neg B4];exact zW O L hk Sp Sq sp sq hl m0 hi hj (λy h1 h2=>g1 y (by lia) h2) hd λt' j' m n h1 h2 h3 h4=>hn t' _ j' m n h1 h2 h4 (by lia)
def GS {st:Wy}{Q:ForInStep (Option (Array V1)×RI)->Wy->Prop}{t:Array V1}{i j mg ma na:Nat}(O:cG c)(L:gi prog w A E s κ c S)(hk:kindOf st=κ)(Sp:∀i,i<p.size->S (el p i))(Sq:∀i,i<q.size->S (el q i))(sp:SR c p 0 p.size)(sq:SR c q 0 q.size)(hl:∀y,y<q.size->c (el q y) (el p (p.size-1))=true)(m:Mg c p q t.toList i j)(hi:i+1<p.size)(hj:j<q.size)
  (hd:∀out r,Gd c p q out.toList->Q (.done (some out,r)) st) (hn:∀t' i' j' m n,Mg c p q t'.toList i' j'->i'+1<p.size->j'<q.size->i+j<i'+j'->Q (.done (none,t',i',j',m,n)) st/\Q (.yield (none,t',i',j',m,n)) st):wpS (model prog w) A E s (OZ p q mg (none,t,i,j,ma,na)) Q st:=by
 unfold OZ Lo Ln;dsimp only;refine V5 (aO hj (V5 (aO (by lia) (V5 (L _ _ st _ (Sq _ hj) (Sp _ (by lia)) hk ?_)))))
 dsimp only;cases hc:c (el q j) (el p i)with
 |true =>
  rw[if_pos rfl];refine V5 (aO hj ?_);have m1:Mg c p q (t.push (el q j)).toList i (j+1):=by
   rw[XY];exact m.k8 hj sq λk h1 h2=>O.trans (O.of_lt hc) (sp i k (by lia) h1 h2)
  by_cases e3:(j+1==q.size)=true
  ·rw[if_pos e3];exact Wc (hd _ _ (m1.done sp sq (.inr (by simpa using e3))))
  rw[if_neg e3];have h3:j+1≠q.size:=by simpa using e3
  obtain⟨h6,h7⟩:=hn _ _ _ 0 (na+1) m1 hi (by lia) (by lia)
  split
  ·exact Wc h6
  ·exact Wc h7
 |false =>
  rw[if_neg (by simp)]
  refine V5 (aO (by lia) ?_)
  have m1:Mg c p q (t.push (el p i)).toList (i+1) j:=by
   rw[XY];exact m.k9 (by lia) sp λk h1 h2=>O.trans (show le c (el p i) (el q j) from hc) (sq j k (by lia) h1 h2)
  by_cases e3:(i+1+1==p.size)=true
  ·rw[if_pos e3];exact Wc (hd _ _ (m1.tail O sp sq (by simpa using e3) hl))
  rw[if_neg e3];have h3:i+1+1≠p.size:=by simpa using e3
  obtain⟨h6,h7⟩:=hn _ _ _ (ma+1) 0 m1 (by lia) hj (by lia)
  split
  ·exact Wc h6
  ·exact Wc h7
def u5 (O:cG c)(L:gi prog w A E s κ c S){Q:Array V1->Wy->Prop}{st:Wy}(hk:kindOf st=κ)(Sp:∀i,i<p.size->S (el p i))(Sq:∀i,i<q.size->S (el q i))(sp:SR c p 0 p.size)(sq:SR c q 0 q.size)
  (hp:0<p.size) (hq:0<q.size) (hf:c (el q 0) (el p 0)=true) (hl:∀y,y<q.size->c (el q y) (el p (p.size-1))=true) (h:∀to aA,kX st aA->Gd c p q to.toList->Q to aA) :
  wpS (model prog w) A E s (jK p q) Q st:=by
 rw[tL];refine V5 (ZG (YI {rfl,?_}));refine V5 (aO hq ?_);have m0:Mg c p q (#[el q 0]:Array V1).toList 0 1:=Mg.start O sp sq hq hp hf
 by_cases h1:(1==q.size)=true
 ·rw[if_pos h1];exact Wc (h _ st (kX.refl st) (m0.done sp sq (.inr (by simpa using h1))))
 rw[if_neg h1]
 by_cases h2:(0+1==p.size)=true
 ·rw[if_pos h2];exact Wc (h _ st (kX.refl st) (m0.tail O sp sq (by simpa using h2) hl))
 rw[if_neg h2];refine V5 (Y7 ?_);refine V5 (XH (W7
  (I:=λx r aA=>kX st aA/\∃to i j mg,r=(none,to,i,j,mg)/\Mg c p q to.toList i j/\i+1<p.size/\j<q.size/\x<i+j)
  (Q:=λr aA=>kX st aA/\∃out r',r=(some out,r')/\Gd c p q out.toList) ?_ ?_ ?_) ?_)
 ·rintro x r aA _ hx ⟨e,to,i,j,mg,rfl,m,hi,hj,hb⟩;unfold RV;dsimp only;refine V5 (XH (W7
   (I:=λy r aA=>kX st aA/\∃to i j m n,r=(none,to,i,j,m,n)/\Mg c p q to.toList i j/\i+1<p.size/\j<q.size/\x+min y 1<i+j)
   (Q:=λr aA=>kX st aA/\((∃out r',r=(some out,r')/\Gd c p q out.toList)\/∃to i j m n,r=(none,to,i,j,m,n)/\Mg c p q to.toList i j/\i+1<p.size/\j<q.size/\x+1<i+j)) ?_ ?_ ?_) ?_)
  ·rintro y r gn _ hy ⟨e2,to,i,j,ma,na,rfl,m,hi,hj,hb⟩;exact GS O L (e2.kind.trans hk) Sp Sq sp sq hl m hi hj (λout r h=>{e2,.inl {_,_,rfl,h}}) λt' i' j' m n h1 h2 h3 h4=>{{e2,.inr {_,_,_,_,_,rfl,h1,h2,h3,by lia}},{e2,_,_,_,_,_,rfl,h1,h2,h3,by lia}}
  ·rintro r gn ⟨e2,to,i,j,ma,na,rfl,m,hi,hj,hb⟩;exact{e2,.inr {_,_,_,_,_,rfl,m,hi,hj,by lia}}
  ·exact{e,_,_,_,_,_,rfl,m,hi,hj,by lia}
  rintro r gn ⟨e2,⟨out,r',rfl,g⟩|⟨to,i,j,ma,na,rfl,m,hi,hj,hb⟩⟩
  ·exact Wc {e2,_,_,rfl,g}
  dsimp only;refine V5 (ZG (YI {rfl,?_}));refine V5 (XH (W7
   (I:=λy r aA=>kX st aA/\∃to i j mg m n,r=(none,to,i,j,mg,m,n)/\Mg c p q to.toList i j/\i+1<p.size/\j<q.size/\x+1<i+j)
   (Q:=λr aA=>kX st aA/\((∃out r',r=(some out,r')/\Gd c p q out.toList)\/∃to i j mg m n,r=(none,to,i,j,mg,m,n)/\Mg c p q to.toList i j/\i+1<p.size/\j<q.size/\x+1<i+j)) ?_ ?_ ?_) ?_)
  ·rintro y r gn _ hy ⟨e2,to,i,j,mg,ma,na,rfl,m,hi,hj,hb⟩;show wpS (model prog w) A E s (if mg>1 then Lp p q to i j (mg-1) ma na else Lp p q to i j mg ma na) _ gn
   split <;> exact GU O L (e2.kind.trans hk) Sp Sq sp sq hl m hi hj (λout r h=>{e2.Gr _,.inl {_,_,rfl,h}}) λt' i' j' m n h1 h2 h3 h4=>{{e2.Gr _,.inr {_,_,_,_,_,_,rfl,h1,h2,h3,by lia}},{e2.Gr _,_,_,_,_,_,_,rfl,h1,h2,h3,by lia}}
  ·rintro r gn ⟨e2,to,i,j,mg,ma,na,rfl,m,hi,hj,hb⟩;exact{e2,.inr {_,_,_,_,_,_,rfl,m,hi,hj,hb}}
  ·exact{e2,_,_,_,_,_,_,rfl,m,hi,hj,hb}
  rintro r gn ⟨e2,⟨out,r',rfl,g⟩|⟨to,i,j,mg,ma,na,rfl,m,hi,hj,hb⟩⟩
  ·exact Wc {e2,_,_,rfl,g}
  dsimp only;refine V5 (Yk (Wc {e2.Gr _,_,_,_,_,rfl,m,hi,hj,by lia}))
 ·rintro r aA ⟨e,to,i,j,mg,rfl,m,hi,hj,hb⟩
  exfalso
  rw[show max 0 (p.size+q.size)=p.size+q.size by lia]at hb
  lia
 ·exact{kX.refl st,_,_,_,_,rfl,m0,by simp at h2;lia,by simp at h1;lia,by lia}
 ·rintro r aA ⟨e,out,r',rfl,g⟩;exact Wc (h _ aA e g)
end
section
variable {c:V1->V1->Bool}{p q:Array V1}{t:List V1}{i j:Nat}
structure Mh (c:V1->V1->Bool)(p q:Array V1)(t:List V1)(i j:Nat):Prop where
 hi:i<=p.size
 hj:j<=q.size
 perm:t.Perm (p.toList.drop i++q.toList.drop j)
 ly:t.Pairwise (le c)
 ap:∀x∈t,∀k,k<i->le c (el p k) x
 aq:∀x∈t,∀k,k<j->le c (el q k) x
def pX {a:Array V1}{i:Nat}(h0:0<i)(h:i<=a.size):a.toList.drop (i-1)=el a (i-1)::a.toList.drop i:=by
 rw[xP (by lia),show i-1+1=i by lia]
def Mh.k9 (m:Mh c p q t i j)(h0:0<i)(sp:SR c p 0 p.size)(hle:∀k,k<j->le c (el q k) (el p (i-1))):Mh c p q (el p (i-1)::t) (i-1) j where
 hi:=by have:=m.hi;lia
 hj:=m.hj
 perm:=by
  rw[pX h0 m.hi];exact m.perm.cons _
 ly:=WE.mpr {λx hx=>m.ap x hx _ (by lia),m.ly}
 ap:=λx hx k hk=>by
  rcases VX.mp hx with rfl|h
  ·exact sp k (i-1) (by lia) (by lia) (by have:=m.hi;lia)
  ·exact m.ap x h k (by lia)
 aq:=λx hx k hk=>by
  rcases VX.mp hx with rfl|h
  ·exact hle k hk
  ·exact m.aq x h k hk
def Mh.k8 (m:Mh c p q t i j)(h0:0<j)(sq:SR c q 0 q.size)(hle:∀k,k<i->le c (el p k) (el q (j-1))):Mh c p q (el q (j-1)::t) i (j-1) where
 hi:=m.hi
 hj:=by have:=m.hj;lia
 perm:=by
  rw[pX h0 m.hj];exact(m.perm.cons _).trans Zk.symm
 ly:=WE.mpr {λx hx=>m.aq x hx _ (by lia),m.ly}
 ap:=λx hx k hk=>by
  rcases VX.mp hx with rfl|h
  ·exact hle k hk
  ·exact m.ap x h k hk
 aq:=λx hx k hk=>by
  rcases VX.mp hx with rfl|h
  ·exact sq k (j-1) (by lia) (by lia) (by have:=m.hj;lia)
  ·exact m.aq x h k (by lia)
def o9 {a:Array V1}{i k:Nat}(h0:k<i)(h:i<=a.size):(a.toList.drop (i-(k+1))).take (k+1)=el a (i-(k+1))::(a.toList.drop (i-k)).take k:=by
 rw[xP (by lia),show i-(k+1)+1=i-k by lia,List.take_succ_cons]
theorem Mh.Ad (m:Mh c p q t i j)(sp:SR c p 0 p.size):∀(k:Nat),k<=i->(∀x,i-k<=x->x<i->∀y,y<j->le c (el q y) (el p x))->Mh c p q ((p.toList.drop (i-k)).take k++t) (i-k) j
 |0,_,_=>by simpa using m
 |k+1,h,hle=>by
  have m':=Mh.Ad m sp k (by lia) λx h1 h2=>hle x (by lia) h2
  rw[o9 (by lia) m.hi,List.cons_append]
  exact m'.k9 (by lia) sp λy hy=>hle _ (by lia) (by lia) y hy
theorem Mh.Ab (m:Mh c p q t i j)(sq:SR c q 0 q.size):∀(k:Nat),k<=j->(∀x,j-k<=x->x<j->∀y,y<i->le c (el p y) (el q x))->Mh c p q ((q.toList.drop (j-k)).take k++t) i (j-k)
 |0,_,_=>by simpa using m
 |k+1,h,hle=>by
  have m':=Mh.Ab m sq k (by lia) λx h1 h2=>hle x (by lia) h2
  rw[o9 (by lia) m.hj,List.cons_append]
  exact m'.k8 (by lia) sq λy hy=>hle _ (by lia) (by lia) y hy
def Mh.ju (m:Mh c p q t i j)(sp:SR c p 0 p.size){h:Nat}(hh:h<=i)(hle:∀x,h<=x->x<i->∀y,y<j->le c (el q y) (el p x)):Mh c p q ((p.toList.drop h).take (i-h)++t) h j:=by
 have m':=m.Ad sp (i-h) (by lia) λx h1 h2=>hle x (by lia) h2
 rw[show i-(i-h)=h by lia]at m'
 exact m'
def Mh.jt (m:Mh c p q t i j)(sq:SR c q 0 q.size){h:Nat}(hh:h<=j)(hle:∀x,h<=x->x<j->∀y,y<i->le c (el p y) (el q x)):Mh c p q ((q.toList.drop h).take (j-h)++t) i h:=by
 have m':=m.Ab sq (j-h) (by lia) λx h1 h2=>hle x (by lia) h2
 rw[show j-(j-h)=h by lia]at m'
 exact m'
def Mh.full (m:Mh c p q t 0 0):Gd c p q t:={(m.perm),m.ly}
def KS (a b to:Array V1)(i j:Nat):(a.extract 0 i++b.extract 0 j++to.reverse).toList=(a.toList.drop 0).take (i-0)++((b.toList.drop 0).take (j-0)++to.toList.reverse):=by
 rw[Xu,Xu,cE,cE,Array.toList_reverse,W3]
def Mh.done {to:Array V1}(m:Mh c p q to.toList.reverse i j)(sp:SR c p 0 p.size)(sq:SR c q 0 q.size)(h:i=0\/j=0):Gd c p q (p.extract 0 i++q.extract 0 j++to.reverse).toList:=by
 rw[KS];rcases h with rfl|rfl
 ·have m':=m.jt sq (h:=0) (V_ _) λx _ _ y hy=>by lia
  exact(m'.ju sp (h:=0) (V_ _) λx _ hx=>by lia).full
 ·have m':=m.jt sq (h:=0) (V_ _) λx _ hx=>by lia
  exact(m'.ju sp (h:=0) (V_ _) λx _ hx y hy=>by lia).full
def Mh.tail {to:Array V1}(O:cG c)(m:Mh c p q to.toList.reverse i j)(sp:SR c p 0 p.size)(sq:SR c q 0 q.size)(h:j=1)(hf:c (el q 0) (el p 0)=true):Gd c p q (q.extract 0 j++p.extract 0 i++to.reverse).toList:=by
 rw[KS];subst h;have m':=m.ju sp (h:=0) (V_ _) λx _ hx y hy=>by
  obtain rfl:y=0:=by lia
  exact O.trans (O.of_lt hf) (sp 0 x (by lia) (by lia) (by have:=m.hi;lia))
 exact(m'.jt sq (h:=0) (V_ _) λx _ _ y hy=>by lia).full
def jB (to:Array V1)(x:V1):(to.push x).toList.reverse=x::to.toList.reverse:=by
 rw[XY,YW];rfl
def xY (to a:Array V1)(h i:Nat):(to++(a.extract h i).reverse).toList.reverse=(a.toList.drop h).take (i-h)++to.toList.reverse:=by
 rw[Xu,YW,Array.toList_reverse,List.reverse_reverse,cE]
def Mh.start (sp:SR c p 0 p.size)(O:cG c)(hp:0<p.size)(hl:∀y,y<q.size->c (el q y) (el p (p.size-1))=true):Mh c p q [el p (p.size-1)] (p.size-1) q.size:=by
 have m:Mh c p q [] p.size q.size:={VR _,VR _,by rw[Zs (by simp),Zs (by simp)];exact .refl _,.nil,(λx hx=>by cases hx),(λx hx=>by cases hx)}
 exact m.k9 hp sp λk hk=>O.of_lt (hl k hk)
end
abbrev RJ:=Nat×Nat×Array V1×Nat×Nat
abbrev RH:=Nat×Nat×Array V1×Nat×Nat×Nat
abbrev RP:=Nat×Nat×Array V1×Nat
noncomputable def Qv (p q t:Array V1)(i j mg m n:Nat):StateT Wy Sem (ForInStep (Option (Array V1)×RH)):=do
 let z <- elem' p (i-1)
 if (i-1==0)=true then pure (.done (some (p.extract 0 (i-1)++q.extract 0 j++(t.push z).reverse),i-1,j,t.push z,mg,m,n))
 else if (decide (m<7)&&decide (n<7))=true then pure (.done (none,i-1,j,t.push z,mg,m,n)) else pure (.yield (none,i-1,j,t.push z,mg,m,n))
noncomputable def Qw (p q t:Array V1)(i j mg m n:Nat):StateT Wy Sem (ForInStep (Option (Array V1)×RH)):=do
 let y <- elem' q (j-1)
 if (j-1==1)=true then pure (.done (some (q.extract 0 (j-1)++p.extract 0 i++(t.push y).reverse),i,j-1,t.push y,mg,m,n))
 else do
  let x <- elem' p (i-1)
  let r <- cJ true x q 0 (j-1) (j-1-1)
  match r with
  |some h=>if j-1-h>0 then (if (h==1)=true then pure (.done (some (q.extract 0 h++p.extract 0 i++(t.push y++(q.extract h (j-1)).reverse).reverse),i,h,t.push y++(q.extract h (j-1)).reverse,mg,m,j-1-h))
    else if (h==0)=true then pure (.done (some (p.extract 0 i++q.extract 0 h++(t.push y++(q.extract h (j-1)).reverse).reverse),i,h,t.push y++(q.extract h (j-1)).reverse,mg,m,j-1-h))
    else Qv p q (t.push y++(q.extract h (j-1)).reverse) i h mg m (j-1-h)) else Qv p q (t.push y) i (j-1) mg m (j-1-h)
  |_=>pure (.done (some (p.extract 0 i++q.extract 0 (j-1)++(t.push y).reverse),i,j-1,t.push y,mg,m,n))
noncomputable def Ml (p q t:Array V1)(i j mg m n:Nat):StateT Wy Sem (ForInStep (Option (Array V1)×RH)):=do
 modify λst=>cM st mg
 let y <- elem' q (j-1)
 let r <- cJ false y p 0 i (i-1)
 match r with
 |some h=>if i-h>0 then (if (h==0)=true then pure (.done (some (p.extract 0 h++q.extract 0 j++(t++(p.extract h i).reverse).reverse),h,j,t++(p.extract h i).reverse,mg,i-h,n))
   else Qw p q (t++(p.extract h i).reverse) h j mg (i-h) n) else Qw p q t i j mg (i-h) n
 |_=>pure (.done (some (p.extract 0 i++q.extract 0 j++t.reverse),i,j,t,mg,m,n))
def Uw (p q:Array V1)(s:Option (Array V1)×RH):StateT Wy Sem (ForInStep (Option (Array V1)×RH)):=if s.2.2.2.2.1>1 then Ml p q s.2.2.2.1 s.2.1 s.2.2.1 (s.2.2.2.2.1-1) s.2.2.2.2.2.1 s.2.2.2.2.2.2 else Ml p q s.2.2.2.1 s.2.1 s.2.2.1 s.2.2.2.2.1 s.2.2.2.2.2.1 s.2.2.2.2.2.2
noncomputable def Qu (p q t:Array V1)(mg i j m:Nat):StateT Wy Sem (ForInStep (Option (Array V1)×RJ)):=do
 let x <- elem' p (i-1)
 if (i-1==0)=true then pure (.done (some (p.extract 0 (i-1)++q.extract 0 j++(t.push x).reverse),i-1,j,t.push x,m+1,0))
 else if m+1 >= mg then pure (.done (none,i-1,j,t.push x,m+1,0)) else pure (.yield (none,i-1,j,t.push x,m+1,0))
noncomputable def Qs (p q t:Array V1)(mg i j n:Nat):StateT Wy Sem (ForInStep (Option (Array V1)×RJ)):=do
 let y <- elem' q (j-1)
 if (j-1==1)=true then pure (.done (some (q.extract 0 (j-1)++p.extract 0 i++(t.push y).reverse),i,j-1,t.push y,0,n+1))
 else if n+1 >= mg then pure (.done (none,i,j-1,t.push y,0,n+1)) else pure (.yield (none,i,j-1,t.push y,0,n+1))
noncomputable def Sj (p q t:Array V1)(mg i j m n:Nat):StateT Wy Sem (ForInStep (Option (Array V1)×RJ)):=do
 let y <- elem' q (j-1)
 let x <- elem' p (i-1)
 let r <- lt' y x
 match r with
 |some G0=>if G0=true then Qu p q t mg i j m else Qs p q t mg i j n
 |_=>pure (.done (some (p.extract 0 i++q.extract 0 j++t.reverse),i,j,t,m,n))
noncomputable def Si (p q:Array V1)(s:Option (Array V1)×RP):StateT Wy Sem (ForInStep (Option (Array V1)×RP)):=do
 let s1 <- forIn [:p.size+q.size] ((none,s.2.1,s.2.2.1,s.2.2.2.1,0,0):Option (Array V1)×RJ) λ_ r=>Sj p q r.2.2.2.1 s.2.2.2.2 r.2.1 r.2.2.1 r.2.2.2.2.1 r.2.2.2.2.2
 match s1.1 with
 |some r=>pure (.done (some r,s1.2.1,s1.2.2.1,s1.2.2.2.1,s.2.2.2.2))
 |none=>do
  liftM (rule "list.sort.gallop")
  let s2 <- forIn [:p.size+q.size] ((none,s1.2.1,s1.2.2.1,s1.2.2.2.1,s.2.2.2.2+1,s1.2.2.2.2.1,s1.2.2.2.2.2):Option (Array V1)×RH) λ_ r=>Uw p q r
  match s2.1 with
  |some r=>pure (.done (some r,s2.2.1,s2.2.2.1,s2.2.2.2.1,s2.2.2.2.2.1))
  |none=>do
   modify λst=>cM st (s2.2.2.2.2.1+1)
   pure (.yield (none,s2.2.1,s2.2.2.1,s2.2.2.2.1,s2.2.2.2.2.1+1))
theorem tN (p q:Array V1):jL p q=(do
  liftM (rule "list.sort.merge-hi")
  let y <- elem' p (p.size-1)
  if (p.size-1==0)=true then pure (p.extract 0 (p.size-1)++q.extract 0++#[y].reverse)
  else if (q.size==1)=true then pure (q.extract 0++p.extract 0 (p.size-1)++#[y].reverse)
  else do
   let st <- get
   let s <- forIn [:p.size+q.size] ((none,p.size-1,q.size,#[y],gallopOf st):Option (Array V1)×RP) λ_ s=>Si p q s
   match s.1 with
   |some r=>pure r
   |none=>liftM (unsupported "internal:list.sort.merge-bound" : Sem (Array V1))):=by
 rw[tM];dsimp only;refine congrArg (bind _) (funext λ_=>?_);refine congrArg (bind _) (funext λy=>?_);refine congrArg (ite _ _) (congrArg (ite _ _) ?_);refine congrArg (bind _) (funext λy=>?_);refine congr (congrArg bind (congrArg _ (funext λ_=>funext λs=>?_))) (funext λs=>?_)
 ·refine congr (congrArg bind (congrArg _ (funext λ_=>funext λs=>?_))) (funext λs=>?_)
  ·rfl
  ·cases s.1
   ·refine congrArg (bind _) (funext λ_=>?_);refine congr (congrArg bind (congrArg _ (funext λ_=>funext λs=>?_))) (funext λs=>?_)
    ·rfl
    ·cases s.1 <;> rfl
   ·rfl
 ·cases s.1 <;> rfl
section
variable {prog:V2}{w:Wm}{A:Xd}{E:VT->VY->Prop}{s:VY}{κ:Yq}{c:V1->V1->Bool}{S:V1->Prop}{p q:Array V1}
def zX {st:Wy}{Q:ForInStep (Option (Array V1)×RH)->Wy->Prop}{t:Array V1}{i j mg m n:Nat}(sp:SR c p 0 p.size)(sq:SR c q 0 q.size)(m3:Mh c p q t.toList.reverse i j)(hi:0<i)(g3:∀k,k<j->le c (el q k) (el p (i-1)))
  (hd:∀out r,Gd c p q out.toList->Q (.done (some out,r)) st) (hn:∀t' m n,Mh c p q t'.toList.reverse (i-1) j->0<i-1->Q (.done (none,i-1,j,t',mg,m,n)) st/\Q (.yield (none,i-1,j,t',mg,m,n)) st):wpS (model prog w) A E s (Qv p q t i j mg m n) Q st:=by
 have gX:=m3.hi;refine V5 (aO (by lia) ?_)
 have m4:Mh c p q (t.push (el p (i-1))).toList.reverse (i-1) j:=by
  rw[jB];exact m3.k9 hi sp g3
 by_cases e5:(i-1==0)=true
 ·rw[if_pos e5];exact Wc (hd _ _ (m4.done sp sq (.inl (by simpa using e5))))
 rw[if_neg e5];have h5:i-1≠0:=by simpa using e5
 obtain⟨h6,h7⟩:=hn (t.push (el p (i-1))) m n m4 (by lia)
 split
 ·exact Wc h6
 ·exact Wc h7
def zY {st:Wy}{Q:ForInStep (Option (Array V1)×RH)->Wy->Prop}{t:Array V1}{i j mg m n:Nat}(O:cG c)(L:gi prog w A E s κ c S)(hk:kindOf st=κ)(Sp:∀i,i<p.size->S (el p i))(Sq:∀i,i<q.size->S (el q i))(sp:SR c p 0 p.size)(sq:SR c q 0 q.size)(hf:c (el q 0) (el p 0)=true)(m1:Mh c p q t.toList.reverse i j)(hi:0<i)(hj:1<j)(g1:∀x,x<i->le c (el p x) (el q (j-1)))
  (hd:∀out r,Gd c p q out.toList->Q (.done (some out,r)) st) (hn:∀t' j' m n,Mh c p q t'.toList.reverse (i-1) j'->0<i-1->1<j'->j'<j->Q (.done (none,i-1,j',t',mg,m,n)) st/\Q (.yield (none,i-1,j',t',mg,m,n)) st):wpS (model prog w) A E s (Qw p q t i j mg m n) Q st:=by
 have mi:=m1.hi;have mj:=m1.hj;refine V5 (aO (by lia) ?_)
 have m2:Mh c p q (t.push (el q (j-1))).toList.reverse i (j-1):=by
  rw[jB];exact m1.k8 (by lia) sq g1
 by_cases e3:(j-1==1)=true
 ·rw[if_pos e3];exact Wc (hd _ _ (m2.tail O sp sq (by simpa using e3) hf))
 rw[if_neg e3];have h3:j-1≠1:=by simpa using e3
 refine V5 (aO (by lia) (V5 (d7 O L hk (Sp _ (by lia)) (λx hx=>Sq _ (by lia)) (by lia) (λa b h1 h2 h3=>sq a b (by lia) h2 (by lia)) (by lia) λh k1 k2 k3=>?_)))
 have g2:∀x,x<h->c (el q x) (el p (i-1))=true:=λx hx=>by
  have:=k2 x hx;unfold eR at this;rw[if_pos rfl,Xg]at this;exact this
 have g4:∀x,h<=x->x<j-1->le c (el p (i-1)) (el q x):=λx h1 h2=>by
  have:=k3 x h1 h2;unfold eR at this;rw[if_pos rfl,Xg]at this;exact this
 have hh:0<h:=by
  rcases Yz h with z|z
  ·subst z;have h2:=O.trans (sp 0 (i-1) (by lia) (by lia) (by lia)) (g4 0 (VR _) (by lia))
   exact absurd (hf.symm.trans h2) (by simp)
  ·exact z
 dsimp only
 by_cases B4:j-1-h>0
 ·rw[if_pos B4];have m3:Mh c p q (t.push (el q (j-1))++(q.extract h (j-1)).reverse).toList.reverse i h:=by
   rw[xY];exact m2.jt sq k1 λx h1 h2 y hy=>O.trans (sp y (i-1) (by lia) (by lia) (by lia)) (g4 x h1 h2)
  by_cases e4:(h==1)=true
  ·rw[if_pos e4];exact Wc (hd _ _ (m3.tail O sp sq (by simpa using e4) hf))
  rw[if_neg e4];have h4:h≠1:=by simpa using e4
  rw[if_neg (by simp;lia)]
  exact zX sp sq m3 hi (λk hk=>O.of_lt (g2 k hk)) hd λt' m n h1 h2=>hn t' _ m n h1 h2 (by lia) (by lia)
 ·rw[if_neg B4];exact zX sp sq m2 hi (λk hk=>O.of_lt (g2 k (by lia))) hd λt' m n h1 h2=>hn t' _ m n h1 h2 (by lia) (by lia)
def GW {st:Wy}{Q:ForInStep (Option (Array V1)×RH)->Wy->Prop}{t:Array V1}{i j mg m n:Nat}(O:cG c)(L:gi prog w A E s κ c S)(hk:kindOf st=κ)(Sp:∀i,i<p.size->S (el p i))(Sq:∀i,i<q.size->S (el q i))(sp:SR c p 0 p.size)(sq:SR c q 0 q.size)(hf:c (el q 0) (el p 0)=true)(m0:Mh c p q t.toList.reverse i j)(hi:0<i)(hj:1<j)
  (hd:∀out r,Gd c p q out.toList->Q (.done (some out,r)) (cM st mg)) (hn:∀t' i' j' m n,Mh c p q t'.toList.reverse i' j'->0<i'->1<j'->i'+j'<i+j->Q (.done (none,i',j',t',mg,m,n)) (cM st mg)/\Q (.yield (none,i',j',t',mg,m,n)) (cM st mg)):wpS (model prog w) A E s (Ml p q t i j mg m n) Q st:=by
 have mi:=m0.hi;have mj:=m0.hj;refine V5 (Yk (V5 (aO (by lia) (V5 (d7 O L hk (Sq _ (by lia)) (λx hx=>Sp _ (by lia)) (by lia) (λa b h1 h2 h3=>sp a b (by lia) h2 (by lia)) (by lia) λh k1 k2 k3=>?_)))))
 have g0:∀x,x<h->le c (el p x) (el q (j-1)):=λx hx=>by
  have:=k2 x hx;unfold eR at this;rw[if_neg (by simp),Yj,Xg]at this
  exact this
 have g5:∀x,h<=x->x<i->le c (el q (j-1)) (el p x):=λx h1 h2=>by
  have:=k3 x h1 h2;unfold eR at this;rw[if_neg (by simp),ZS,Xg]at this
  exact O.of_lt this
 dsimp only
 by_cases B4:i-h>0
 ·rw[if_pos B4];have m1:Mh c p q (t++(p.extract h i).reverse).toList.reverse h j:=by
   rw[xY];exact m0.ju sp k1 λx h1 h2 y hy=>O.trans (sq y (j-1) (by lia) (by lia) (by lia)) (g5 x h1 h2)
  by_cases e1:(h==0)=true
  ·rw[if_pos e1];exact Wc (hd _ _ (m1.done sp sq (.inl (by simpa using e1))))
  rw[if_neg e1];have EU:h≠0:=by simpa using e1
  exact zY O L hk Sp Sq sp sq hf m1 (by lia) hj g0 hd λt' j' m n h1 h2 h3 h4=>hn t' _ j' m n h1 h2 h3 (by lia)
 ·rw[if_neg B4];exact zY O L hk Sp Sq sp sq hf m0 hi hj (λx hx=>g0 x (by lia)) hd λt' j' m n h1 h2 h3 h4=>hn t' _ j' m n h1 h2 h3 (by lia)
def GV {st:Wy}{Q:ForInStep (Option (Array V1)×RJ)->Wy->Prop}{t:Array V1}{i j mg ma na:Nat}(O:cG c)(L:gi prog w A E s κ c S)(hk:kindOf st=κ)(Sp:∀i,i<p.size->S (el p i))(Sq:∀i,i<q.size->S (el q i))(sp:SR c p 0 p.size)(sq:SR c q 0 q.size)(hf:c (el q 0) (el p 0)=true)(m:Mh c p q t.toList.reverse i j)(hi:0<i)(hj:1<j)
  (hd:∀out r,Gd c p q out.toList->Q (.done (some out,r)) st) (hn:∀t' i' j' m n,Mh c p q t'.toList.reverse i' j'->0<i'->1<j'->i'+j'<i+j->Q (.done (none,i',j',t',m,n)) st/\Q (.yield (none,i',j',t',m,n)) st):wpS (model prog w) A E s (Sj p q t mg i j ma na) Q st:=by
 have gX:=m.hi;have VG:=m.hj;refine V5 (aO (by lia) (V5 (aO (by lia) (V5 (L _ _ st _ (Sq _ (by lia)) (Sp _ (by lia)) hk ?_)))))
 dsimp only;cases hc:c (el q (j-1)) (el p (i-1))with
 |true =>
  rw[if_pos rfl];refine V5 (aO (by lia) ?_)
  have m1:Mh c p q (t.push (el p (i-1))).toList.reverse (i-1) j:=by
   rw[jB];exact m.k9 hi sp λk hk=>O.trans (sq k (j-1) (by lia) (by lia) (by lia)) (O.of_lt hc)
  by_cases e3:(i-1==0)=true
  ·rw[if_pos e3];exact Wc (hd _ _ (m1.done sp sq (.inl (by simpa using e3))))
  rw[if_neg e3];have h3:i-1≠0:=by simpa using e3
  obtain⟨h6,h7⟩:=hn _ _ _ (ma+1) 0 m1 (by lia) hj (by lia)
  split
  ·exact Wc h6
  ·exact Wc h7
 |false =>
  rw[if_neg (by simp)]
  refine V5 (aO (by lia) ?_)
  have m1:Mh c p q (t.push (el q (j-1))).toList.reverse i (j-1):=by
   rw[jB];exact m.k8 (by lia) sq λk hk=>O.trans (sp k (i-1) (by lia) (by lia) (by lia)) (show le c (el p (i-1)) (el q (j-1)) from hc)
  by_cases e3:(j-1==1)=true
  ·rw[if_pos e3];exact Wc (hd _ _ (m1.tail O sp sq (by simpa using e3) hf))
  rw[if_neg e3];have h3:j-1≠1:=by simpa using e3
  obtain⟨h6,h7⟩:=hn _ _ _ 0 (na+1) m1 hi (by lia) (by lia)
  split
  ·exact Wc h6
  ·exact Wc h7
def u6 (O:cG c)(L:gi prog w A E s κ c S){Q:Array V1->Wy->Prop}{st:Wy}(hk:kindOf st=κ)(Sp:∀i,i<p.size->S (el p i))(Sq:∀i,i<q.size->S (el q i))(sp:SR c p 0 p.size)(sq:SR c q 0 q.size)
  (hp:0<p.size) (hq:0<q.size) (hf:c (el q 0) (el p 0)=true) (hl:∀y,y<q.size->c (el q y) (el p (p.size-1))=true) (h:∀to aA,kX st aA->Gd c p q to.toList->Q to aA) :
  wpS (model prog w) A E s (jL p q) Q st:=by
 rw[tN];refine V5 (ZG (YI {rfl,?_}));refine V5 (aO (by lia) ?_)
 have m0:Mh c p q (#[el p (p.size-1)]:Array V1).toList.reverse (p.size-1) q.size:=Mh.start sp O hp hl
 by_cases h1:(p.size-1==0)=true
 ·rw[if_pos h1];exact Wc (h _ st (kX.refl st) (m0.done sp sq (.inl (by simpa using h1))))
 rw[if_neg h1];have EU:p.size-1≠0:=by simpa using h1
 by_cases h2:(q.size==1)=true
 ·rw[if_pos h2];exact Wc (h _ st (kX.refl st) (m0.tail O sp sq (by simpa using h2) hf))
 rw[if_neg h2];have B8:q.size≠1:=by simpa using h2
 refine V5 (Y7 ?_);refine V5 (XH (W7
  (I:=λx r aA=>kX st aA/\∃i j to mg,r=(none,i,j,to,mg)/\Mh c p q to.toList.reverse i j/\0<i/\1<j/\i+j+x<p.size+q.size)
  (Q:=λr aA=>kX st aA/\∃out r',r=(some out,r')/\Gd c p q out.toList) ?_ ?_ ?_) ?_)
 ·rintro x r aA _ hx ⟨e,i,j,to,mg,rfl,m,hi,hj,hb⟩;unfold Si;dsimp only;refine V5 (XH (W7
   (I:=λy r aA=>kX st aA/\∃i j to m n,r=(none,i,j,to,m,n)/\Mh c p q to.toList.reverse i j/\0<i/\1<j/\i+j+x+min y 1<p.size+q.size)
   (Q:=λr aA=>kX st aA/\((∃out r',r=(some out,r')/\Gd c p q out.toList)\/∃i j to m n,r=(none,i,j,to,m,n)/\Mh c p q to.toList.reverse i j/\0<i/\1<j/\i+j+x+1<p.size+q.size)) ?_ ?_ ?_) ?_)
  ·rintro y r gn _ hy ⟨e2,i,j,to,ma,na,rfl,m,hi,hj,hb⟩;exact GV O L (e2.kind.trans hk) Sp Sq sp sq hf m hi hj (λout r h=>{e2,.inl {_,_,rfl,h}}) λt' i' j' m n h1 h2 h3 h4=>{{e2,.inr {_,_,_,_,_,rfl,h1,h2,h3,by lia}},{e2,_,_,_,_,_,rfl,h1,h2,h3,by lia}}
  ·rintro r gn ⟨e2,i,j,to,ma,na,rfl,m,hi,hj,hb⟩;exact{e2,.inr {_,_,_,_,_,rfl,m,hi,hj,by lia}}
  ·exact{e,_,_,_,_,_,rfl,m,hi,hj,by lia}
  rintro r gn ⟨e2,⟨out,r',rfl,g⟩|⟨i,j,to,ma,na,rfl,m,hi,hj,hb⟩⟩
  ·exact Wc {e2,_,_,rfl,g}
  dsimp only;refine V5 (ZG (YI {rfl,?_}));refine V5 (XH (W7
   (I:=λy r aA=>kX st aA/\∃i j to mg m n,r=(none,i,j,to,mg,m,n)/\Mh c p q to.toList.reverse i j/\0<i/\1<j/\i+j+x+1<p.size+q.size)
   (Q:=λr aA=>kX st aA/\((∃out r',r=(some out,r')/\Gd c p q out.toList)\/∃i j to mg m n,r=(none,i,j,to,mg,m,n)/\Mh c p q to.toList.reverse i j/\0<i/\1<j/\i+j+x+1<p.size+q.size)) ?_ ?_ ?_) ?_)
  ·rintro y r gn _ hy ⟨e2,i,j,to,mg,ma,na,rfl,m,hi,hj,hb⟩;show wpS (model prog w) A E s (if mg>1 then Ml p q to i j (mg-1) ma na else Ml p q to i j mg ma na) _ gn
   split <;> exact GW O L (e2.kind.trans hk) Sp Sq sp sq hf m hi hj (λout r h=>{e2.Gr _,.inl {_,_,rfl,h}}) λt' i' j' m n h1 h2 h3 h4=>{{e2.Gr _,.inr {_,_,_,_,_,_,rfl,h1,h2,h3,by lia}},{e2.Gr _,_,_,_,_,_,_,rfl,h1,h2,h3,by lia}}
  ·rintro r gn ⟨e2,i,j,to,mg,ma,na,rfl,m,hi,hj,hb⟩;exact{e2,.inr {_,_,_,_,_,_,rfl,m,hi,hj,hb}}
  ·exact{e2,_,_,_,_,_,_,rfl,m,hi,hj,hb}
  rintro r gn ⟨e2,⟨out,r',rfl,g⟩|⟨i,j,to,mg,ma,na,rfl,m,hi,hj,hb⟩⟩
  ·exact Wc {e2,_,_,rfl,g}
  dsimp only;refine V5 (Yk (Wc {e2.Gr _,_,_,_,_,rfl,m,hi,hj,by lia}))
 ·rintro r aA ⟨e,i,j,to,mg,rfl,m,hi,hj,hb⟩
  exfalso
  rw[show max 0 (p.size+q.size)=p.size+q.size by lia]at hb
  lia
 ·exact{kX.refl st,_,_,_,_,rfl,m0,by lia,by lia,by lia}
 ·rintro r aA ⟨e,out,r',rfl,g⟩;exact Wc (h _ aA e g)
end
section
variable {c:V1->V1->Bool}{a b:Array V1}
structure Rg (a b:Array V1)(lo hi:Nat):Prop where
 perm:b.Perm a
 out:∀k,(k<lo\/hi<=k)->el b k=el a k
def Rg.refl {lo hi:Nat}:Rg a a lo hi:={Array.Perm.refl _,λ_ _=>rfl}
def Rg.trans {d:Array V1}{lo hi:Nat}(x:Rg a b lo hi)(y:Rg b d lo hi):Rg a d lo hi:={y.perm.trans x.perm,λk h=>(y.out k h).trans (x.out k h)}
def Rg.mono {lo hi F8 gX:Nat}(x:Rg a b lo hi)(h1:F8<=lo)(h2:hi<=gX):Rg a b F8 gX:={x.perm,λk h=>x.out k (by lia)}
def Rg.size {lo hi:Nat}(x:Rg a b lo hi):b.size=a.size:=x.perm.size_eq
def SR.congr {lo hi:Nat}(h:SR c a lo hi)(e:∀k,lo<=k->k<hi->el b k=el a k):SR c b lo hi:=λi j h1 h2 h3=>by
 rw[e i h1 (by lia),e j (by lia) h3]
 exact h i j h1 h2 h3
def NI (c:V1->V1->Bool)(a:Array V1)(lo hi:Nat):Prop:=∀i j,lo<=i->i<=j->j<hi->le c (el a j) (el a i)
def cq {i j:Nat}(hj:j<=a.size)(k:Nat):el (mirror a i j ((j-i) / 2)) k=if i<=k/\k<j then el a (i+j-1-k) else el a k:=by
 have e:=getElem?_mirror_all (i:=i) hj k
 by_cases h:i<=k/\k<j
 ·rw[if_pos h]at e ⊢
  exact eO e
 ·rw[if_neg h]at e ⊢
  exact eO e
def fD {i j:Nat}(hj:j<=a.size):Rg a (mirror a i j ((j-i) / 2)) i j:={mirror_perm _ _ _ _,λk h=>by rw[cq hj,if_neg (by lia)]}
def pD {i j:Nat}(hj:j<=a.size)(h:NI c a i j):SR c (mirror a i j ((j-i) / 2)) i j:=λx y h1 h2 h3=>by
 rw[cq hj,cq hj,if_pos (by lia),if_pos (by lia)]
 exact h _ _ (by lia) (by lia) (by lia)
def ku {lo i j:Nat}(Ql:lo<=i)(hj:j<=a.size)(h:NI c a lo j)(he:∀x y,i<=x->x<j->i<=y->y<j->le c (el a x) (el a y)):NI c (mirror a i j ((j-i) / 2)) lo j:=λx y h1 h2 h3=>by
 rw[cq hj,cq hj]
 by_cases hx:i<=x/\x<j
 ·rw[if_pos hx,if_pos (by lia)]
  exact he _ _ (by lia) (by lia) (by lia) (by lia)
 ·rw[if_neg hx]
  by_cases hy:i<=y/\y<j
  ·rw[if_pos hy];exact h _ _ (by lia) (by lia) (by lia)
  ·rw[if_neg hy];exact h _ _ h1 h2 h3
def SR.snoc {lo n:Nat}(O:cG c)(h:SR c a lo (lo+n))(h1:0<n)(hn:le c (el a (lo+n-1)) (el a (lo+n))):SR c a lo (lo+(n+1)):=λi j h2 h3 h4=>by
 by_cases hj:j<lo+n
 ·exact h i j h2 h3 hj
 ·obtain rfl:j=lo+n:=by lia
  by_cases hi:i<lo+n
  ·exact O.trans (h i (lo+n-1) h2 (by lia) (by lia)) hn
  ·obtain rfl:i=lo+n:=by lia
   exact O.refl _
def NI.snoc {lo n:Nat}(O:cG c)(h:NI c a lo (lo+n))(h1:0<n)(hn:le c (el a (lo+n)) (el a (lo+n-1))):NI c a lo (lo+(n+1)):=λi j h2 h3 h4=>by
 by_cases hj:j<lo+n
 ·exact h i j h2 h3 hj
 ·obtain rfl:j=lo+n:=by lia
  by_cases hi:i<lo+n
  ·exact O.trans hn (h i (lo+n-1) h2 (by lia) (by lia))
  ·obtain rfl:i=lo+n:=by lia
   exact O.refl _
def SR.one {lo:Nat}(O:cG c):SR c a lo (lo+1):=λi j h1 h2 h3=>by
 obtain rfl:i=j:=by lia
 exact O.refl _
end
structure kT (κ:Yq)(a₀:Array V1)(st:Wy):Prop where
 kind:kindOf st=κ
 fail:YC st=none
 perm:(WD st).Perm a₀
section
variable {prog:V2}{w:Wm}{A:Xd}{E:VT->VY->Prop}{s:VY}{κ:Yq}{c:V1->V1->Bool}{a₀:Array V1}
def kT.size {st:Wy}(h:kT κ a₀ st):(WD st).size=a₀.size:=h.perm.size_eq
def kT.mem {st:Wy}(h:kT κ a₀ st){i:Nat}(hi:i<a₀.size):el (WD st) i∈a₀.toList:=by
 have h1:i<(WD st).size:=by rw[h.size];exact hi
 refine(Yn.mp h.perm).mem_iff.mp ?_;have:=jW h1;rw[<- Wo]at this;exact Xz this
def kT.set {st:Wy}{b:Array V1}{lo hi:Nat}(h:kT κ a₀ st)(r:Rg (WD st) b lo hi):kT κ a₀ (Xk st b):={h.kind,h.fail,r.perm.trans h.perm}
def qo (L:gi prog w A E s κ c (·∈a₀.toList)){st:Wy}{i j:Nat}{Q:Option Bool->Wy->Prop}(h:kT κ a₀ st)(hi:i<a₀.size)(hj:j<a₀.size)(q:Q (some (c (el (WD st) i) (el (WD st) j))) st):
  wpS (model prog w) A E s (ltAt' i j) Q st:=by
 rw[ltAt'_eq];refine V5 (Y7 ?_);exact V5 (aO (by rw[h.size];exact hi) (V5 (aO (by rw[h.size];exact hj) (L _ _ st Q (h.mem hi) (h.mem hj) h.kind q))))
def jn (L:gi prog w A E s κ c (·∈a₀.toList)){st:Wy}{b:Array V1}{i j lo hi:Nat}{Q:Option Bool->Wy->Prop}(h:kT κ a₀ st)(R:Rg (WD st) b lo hi)(hi:i<a₀.size)(hj:j<a₀.size)(q:Q (some (c (el b i) (el b j))) (Xk st b)):
  wpS (model prog w) A E s (ltAt' i j) Q (Xk st b):=qo L (h.set R) hi hj q
def jm {st:Wy}{i j:Nat}{Q:Unit->Wy->Prop}(q:Q () (Xk st (mirror (WD st) i j ((j-i) / 2)))):wpS (model prog w) A E s (reverseSlice' i j) Q st:=by
 rw[reverseSlice'_eq];exact Yk q
def zZ (O:cG c)(L:gi prog w A E s κ c (·∈a₀.toList)){st:Wy}{lo fz:Nat}{Q:Option Nat->Wy->Prop}(h0:kT κ a₀ st)(h1:1<=fz)(hn:lo+fz<=a₀.size)
  (h:∀n b,1<=n->n<=fz->Rg (WD st) b lo (lo+fz)->SR c b lo (lo+n)->Q (some n) (Xk st b)):wpS (model prog w) A E s (countRun' lo fz) Q st:=by
 rw[countRun'_eq];dsimp only;refine V5 (XH (W7 (I:=λx r aA=>aA=st/\∃n,r=(none,n)/\n=x/\SR c (WD st) lo (lo+n))
  (Q:=λr aA=>aA=st/\∃n,r=(none,n)/\1<=n/\n<=fz/\SR c (WD st) lo (lo+n)/\(n=fz\/(n<fz/\c (el (WD st) (lo+n)) (el (WD st) (lo+n-1))=true))) ?_ ?_ ?_) ?_)
 ·rintro x r aA Gi hx ⟨rfl,n,rfl,rfl,hs⟩;dsimp only;refine V5 (qo L h0 (by lia) (by lia) ?_)
  dsimp only;cases hc:c (el (WD aA) (lo+n)) (el (WD aA) (lo+n-1))with
  |true =>
   rw[if_pos rfl];exact Wc {rfl,n,rfl,Gi,by lia,hs,.inr {by lia,hc}}
  |false =>
   rw[if_neg (by simp)]
   exact Wc {rfl,n+1,rfl,rfl,hs.snoc O Gi hc}
 ·rintro r aA ⟨rfl,n,rfl,hx,hs⟩;exact{rfl,n,rfl,by lia,by lia,hs,.inl (by lia)}
 ·exact{rfl,1,rfl,rfl,SR.one O}
 rintro r aA ⟨e0,n,rfl,Sa,Jh,hs,hc⟩;rw[e0];dsimp only
 by_cases Qc:(n==fz)=true
 ·rw[if_pos Qc];exact Wc (h n (WD st) Sa Jh Rg.refl hs)
 rw[if_neg Qc];have Uo:n≠fz:=by simpa using Qc
 have hc:c (el (WD st) (lo+n)) (el (WD st) (lo+n-1))=true:=by
  rcases hc with q|q
  ·lia
  ·exact q.2
 refine(λ(key:∀b,Rg (WD st) b lo (lo+fz)->NI c b lo (lo+(n+1))->wpS (model prog w) A E s ?cont Q (Xk st b))=>?main) ?key
 case main =>
  by_cases h2:n>1
  ·rw[if_pos h2];refine V5 (qo L h0 (by lia) (by lia) ?_)
   dsimp only;cases hr:c (el (WD st) lo) (el (WD st) (lo+n-1))with
   |true =>
    rw[if_pos rfl];exact Wc (h n (WD st) Sa Jh Rg.refl hs)
   |false =>
    rw[if_neg (by simp)]
    refine V5 (jm ?_);have hz:lo+n<=(WD st).size:=by have:=h0.size;lia
    have R0:Rg (WD st) (mirror (WD st) lo (lo+n) ((lo+n-lo) / 2)) lo (lo+fz):=(fD hz).mono (VR _) (by lia)
    have all:∀u v,lo<=u->u<lo+n->lo<=v->v<lo+n->le c (el (WD st) u) (el (WD st) v):=λu v h1 h2 h3 h4 =>
     O.trans (hs u (lo+n-1) h1 (by lia) (by lia)) (O.trans hr (hs lo v (VR _) h3 h4))
    have N0:NI c (mirror (WD st) lo (lo+n) ((lo+n-lo) / 2)) lo (lo+(n+1)):=by
     refine NI.snoc O (ku (VR _) hz (λu v h1 h2 h3=>all v u (by lia) (by lia) h1 (by lia)) λu v h1 h2 h3 h4=>all u v h1 h2 h3 h4) (by lia) ?_
     rw[cq hz,cq hz,if_neg (by lia),if_pos (by lia)]
     exact O.trans (O.of_lt hc) (all _ _ (by lia) (by lia) (by lia) (by lia))
    exact key _ R0 N0
  ·rw[if_neg h2];have N0:NI c (WD st) lo (lo+(n+1)):=NI.snoc O (λu v h1 h2 h3=>by
    obtain rfl:u=v:=by lia
    exact O.refl _) (by lia) (O.of_lt hc)
   show wpS _ _ _ _ _ Q (Xk st (WD st));exact key _ Rg.refl N0
 case key =>
  intro b0 R0 N0;refine V5 (ZG (YI {rfl,?_}));refine V5 (XH (W7 (I:=λx r aA=>∃b n lb,aA=Xk st b/\r=(none,n,lb)/\n=x/\Rg (WD st) b lo (lo+fz)/\NI c b lo (lo+n)/\lb<n/\(∀u v,lo+n-1-lb<=u->u<lo+n->lo+n-1-lb<=v->v<lo+n->le c (el b u) (el b v)))
   (Q:=λr aA=>∃b n lb,aA=Xk st b/\r=(none,n,lb)/\1<=n/\n<=fz/\Rg (WD st) b lo (lo+fz)/\NI c b lo (lo+n)/\lb<n/\(∀u v,lo+n-1-lb<=u->u<lo+n->lo+n-1-lb<=v->v<lo+n->le c (el b u) (el b v))) ?_ ?_ ?_) ?_)
  ·rintro x r aA Gi hx ⟨b,n',lb,rfl,rfl,rfl,R,N,hq,he⟩;dsimp only;refine V5 (jn L h0 R (by lia) (by lia) ?_)
   dsimp only;cases oN:c (el b (lo+n')) (el b (lo+n' - 1))with
   |true =>
    rw[if_pos rfl]
    by_cases BX:lb>0
    ·rw[if_pos BX];refine V5 (jm (Wc ?_));have hz:lo+n'<=b.size:=by have:=R.size;have:=h0.size;lia
     refine{mirror b (lo+n' - (lb+1)) (lo+n') ((lo+n' - (lo+n' - (lb+1))) / 2),n'+1,0,rfl,rfl,rfl,R.trans ((fD hz).mono (by lia) (by lia)),?_,by lia,?_}
     ·refine NI.snoc O (ku (by lia) hz N λu v h1 h2 h3 h4=>he u v (by lia) h2 (by lia) h4) (by lia) ?_
      rw[cq hz,cq hz,if_neg (by lia),if_pos (by lia)]
      exact O.trans (O.of_lt oN) (he _ _ (by lia) (by lia) (by lia) (by lia))
     ·intro u v h1 h2 h3 h4;obtain rfl:u=v:=by lia
      exact O.refl _
    ·rw[if_neg BX];refine Wc {b,n'+1,0,rfl,rfl,rfl,R,N.snoc O (by lia) (O.of_lt oN),by lia,?_}
     intro u v h1 h2 h3 h4;obtain rfl:u=v:=by lia
     exact O.refl _
   |false =>
    rw[if_neg (by simp)]
    refine V5 (jn L h0 R (by lia) (by lia) ?_)
    dsimp only;cases vZ:c (el b (lo+n' - 1)) (el b (lo+n'))with
    |true =>
     rw[if_pos rfl];exact Wc {b,n',lb,rfl,rfl,by lia,by lia,R,N,hq,he}
    |false =>
     rw[if_neg (by simp)]
     refine Wc {b,n'+1,lb+1,rfl,rfl,rfl,R,N.snoc O (by lia) vZ,by lia,?_}
     have hl:∀u,lo+n' - 1-lb<=u->u<lo+(n'+1)->le c (el b u) (el b (lo+n'))/\le c (el b (lo+n')) (el b u):=λu h1 h2=>by
      by_cases hu:u<lo+n'
      ·exact{O.trans (he u (lo+n' - 1) h1 hu (by lia) (by lia)) oN,O.trans vZ (he (lo+n' - 1) u (by lia) (by lia) h1 hu)}
      ·obtain rfl:u=lo+n':=by lia
       exact{O.refl _,O.refl _}
     intro u v h1 h2 h3 h4;exact O.trans (hl u (by lia) h2).1 (hl v (by lia) h4).2
  ·rintro r aA ⟨b,n',lb,rfl,rfl,hx,R,N,hq,he⟩;exact{b,n',lb,rfl,rfl,by lia,by lia,R,N,hq,he}
  ·refine{_,n+1,0,rfl,rfl,rfl,R0,N0,by lia,?_}
   intro u v h1 h2 h3 h4;obtain rfl:u=v:=by lia
   exact O.refl _
  rintro r aA ⟨b,n',lb,rfl,rfl,Uq,Up,RB,NB,hq,he⟩;dsimp only
  by_cases BX:lb>0
  ·rw[if_pos BX];refine V5 (jm ?_);have hz:lo+n'<=b.size:=by have:=RB.size;have:=h0.size;lia
   have NB:=ku (c:=c) (i:=lo+n' - (lb+1)) (by lia) hz NB λu v h1 h2 h3 h4=>he u v (by lia) h2 (by lia) h4
   have RB:=RB.trans ((fD (i:=lo+n' - (lb+1)) hz).mono (by lia) (by lia:lo+n'<=lo+fz))
   show wpS _ _ _ _ _ Q (Xk st (mirror b (lo+n' - (lb+1)) (lo+n') ((lo+n' - (lo+n' - (lb+1))) / 2)));generalize mirror b (lo+n' - (lb+1)) (lo+n') ((lo+n' - (lo+n' - (lb+1))) / 2)=b1 at NB RB;refine V5 (jm ?_);have R2:Rg (WD st) (mirror b1 lo (lo+n') ((lo+n' - lo) / 2)) lo (lo+fz):=RB.trans ((fD (by have:=RB.size;have:=h0.size;lia)).mono (VR _) (by lia))
   have S2:SR c (mirror b1 lo (lo+n') ((lo+n' - lo) / 2)) lo (lo+n'):=pD (by have:=RB.size;have:=h0.size;lia) NB
   show wpS _ _ _ _ _ Q (Xk st (mirror b1 lo (lo+n') ((lo+n' - lo) / 2)));generalize mirror b1 lo (lo+n') ((lo+n' - lo) / 2)=b2 at R2 S2;refine V5 (XH (W7 (I:=λx r aA=>aA=Xk st b2/\∃m,r=(none,m)/\m=x/\SR c b2 lo (lo+m))
    (Q:=λr aA=>aA=Xk st b2/\∃m,r=(none,m)/\1<=m/\m<=fz/\SR c b2 lo (lo+m)) ?_ ?_ ?_) ?_)
   ·rintro x r aA Gi hx ⟨rfl,m,rfl,rfl,hs⟩;dsimp only;refine V5 (jn L h0 R2 (by lia) (by lia) ?_)
    dsimp only;cases hc:c (el b2 (lo+m)) (el b2 (lo+m-1))with
    |true =>
     rw[if_pos rfl];exact Wc {rfl,m,rfl,by lia,by lia,hs}
    |false =>
     rw[if_neg (by simp)]
     exact Wc {rfl,m+1,rfl,rfl,hs.snoc O (by lia) hc}
   ·rintro r aA ⟨rfl,m,rfl,hx,hs⟩;exact{rfl,m,rfl,by lia,by lia,hs}
   ·exact{(rfl),n',rfl,rfl,S2}
   rintro r aA ⟨rfl,m,rfl,Qj,Qi,hs⟩;exact Wc (h m b2 Qj Qi R2 hs)
  ·rw[if_neg BX];refine V5 (jm ?_);have R2:Rg (WD st) (mirror b lo (lo+n') ((lo+n' - lo) / 2)) lo (lo+fz):=RB.trans ((fD (by have:=RB.size;have:=h0.size;lia)).mono (VR _) (by lia))
   have S2:SR c (mirror b lo (lo+n') ((lo+n' - lo) / 2)) lo (lo+n'):=pD (by have:=RB.size;have:=h0.size;lia) NB
   show wpS _ _ _ _ _ Q (Xk st (mirror b lo (lo+n') ((lo+n' - lo) / 2)));generalize mirror b lo (lo+n') ((lo+n' - lo) / 2)=b2 at R2 S2;refine V5 (XH (W7 (I:=λx r aA=>aA=Xk st b2/\∃m,r=(none,m)/\m=x/\SR c b2 lo (lo+m))
    (Q:=λr aA=>aA=Xk st b2/\∃m,r=(none,m)/\1<=m/\m<=fz/\SR c b2 lo (lo+m)) ?_ ?_ ?_) ?_)
   ·rintro x r aA Gi hx ⟨rfl,m,rfl,rfl,hs⟩;dsimp only;refine V5 (jn L h0 R2 (by lia) (by lia) ?_)
    dsimp only;cases hc:c (el b2 (lo+m)) (el b2 (lo+m-1))with
    |true =>
     rw[if_pos rfl];exact Wc {rfl,m,rfl,by lia,by lia,hs}
    |false =>
     rw[if_neg (by simp)]
     exact Wc {rfl,m+1,rfl,rfl,hs.snoc O (by lia) hc}
   ·rintro r aA ⟨rfl,m,rfl,hx,hs⟩;exact{rfl,m,rfl,by lia,by lia,hs}
   ·exact{(rfl),n',rfl,rfl,S2}
   rintro r aA ⟨rfl,m,rfl,Qj,Qi,hs⟩;exact Wc (h m b2 Qj Qi R2 hs)
end
section
variable {c:V1->V1->Bool}{a:Array V1}
def kM {src d:Nat}(hs:src<a.size)(hd:d<=src)(k:Nat):el (bubble a src d) k=if k=src-d then el a src else if src-d<k/\k<=src then el a (k-1) else el a k:=by
 have e:=getElem?_bubble hs d hd k
 by_cases h1:k=src-d
 ·rw[if_pos h1]at e ⊢
  exact eO e
 ·rw[if_neg h1]at e ⊢
  by_cases h2:src-d<k/\k<=src
  ·rw[if_pos h2]at e ⊢
   exact eO e
  ·rw[if_neg h2]at e ⊢
   exact eO e
def zF {lo k l:Nat}(O:cG c)(hk:lo+k<a.size)(hl:l<=k)(h:SR c a lo (lo+k))(h1:∀i,i<l->le c (el a (lo+i)) (el a (lo+k)))(h2:∀i,l<=i->i<k->le c (el a (lo+k)) (el a (lo+i))):
  SR c (bubble a (lo+k) (lo+k-(lo+l))) lo (lo+(k+1)):=λi j g1 g2 g3=>by
 rw[kM hk (by lia),kM hk (by lia),show lo+k-(lo+k-(lo+l))=lo+l by lia]
 have q1:∀i,lo<=i->i<lo+l->le c (el a i) (el a (lo+k)):=λi x y=>by
  have:=h1 (i-lo) (by lia)
  rwa [show lo+(i-lo)=i by lia]at this
 have q2:∀i,lo+l<=i->i<lo+k->le c (el a (lo+k)) (el a i):=λi x y=>by
  have:=h2 (i-lo) (by lia) (by lia)
  rwa [show lo+(i-lo)=i by lia]at this
 by_cases ei:i=lo+l
 ·rw[if_pos ei]
  by_cases ej:j=lo+l
  ·rw[if_pos ej];exact O.refl _
  ·rw[if_neg ej,if_pos (by lia)]
   exact q2 _ (by lia) (by lia)
 ·rw[if_neg ei]
  by_cases ej:j=lo+l
  ·rw[if_pos ej,if_neg (by lia)]
   exact q1 _ (by lia) (by lia)
  ·rw[if_neg ej]
   by_cases fi:lo+l<i/\i<=lo+k
   ·rw[if_pos fi,if_pos (by lia)]
    exact h _ _ (by lia) (by lia) (by lia)
   ·rw[if_neg fi]
    by_cases fj:lo+l<j/\j<=lo+k
    ·rw[if_pos fj];exact h _ _ (by lia) (by lia) (by lia)
    ·rw[if_neg fj];exact h _ _ (by lia) (by lia) (by lia)
def zG {src d:Nat}(hs:src<a.size)(hd:d<=src):Rg a (bubble a src d) (src-d) (src+1):=⟨bubble_perm _ _ _,λk h=>by
 rw[kM hs hd,if_neg (by lia),if_neg (by lia)]⟩
end
section
variable {prog:V2}{w:Wm}{A:Xd}{E:VT->VY->Prop}{s:VY}{κ:Yq}{c:V1->V1->Bool}{a₀:Array V1}
def GY (O:cG c)(L:gi prog w A E s κ c (·∈a₀.toList)){st:Wy}{lo n ok:Nat}{Q:Bool->Wy->Prop}(h0:kT κ a₀ st)(bY:ok<=n)(h1:1<=n)(hn:lo+n<=a₀.size)(hs:SR c (WD st) lo (lo+ok))
  (h:∀b,Rg (WD st) b lo (lo+n)->SR c b lo (lo+n)->Q true (Xk st b)):wpS (model prog w) A E s (binarySort' lo n ok) Q st:=by
 rw[binarySort'_eq];refine V5 (XH (W7 (I:=λk r aA=>r=(none,())/\k<=n/\∃b,aA=Xk st b/\Rg (WD st) b lo (lo+n)/\SR c b lo (lo+k))
  (Q:=λr aA=>r=(none,())/\∃b,aA=Xk st b/\Rg (WD st) b lo (lo+n)/\SR c b lo (lo+n)) ?_ ?_ ?_) ?_)
 ·rintro k r aA ze hk ⟨rfl,_,b,rfl,R,y9⟩;dsimp only;have hz:b.size=a₀.size:=R.size.trans h0.size;refine V5 (XH (W7 (I:=λx r aA=>aA=Xk st b/\∃l u,r=(none,l,u)/\l<=u/\u<=k/\u-l<=k-x/\(∀i,i<l->le c (el b (lo+i)) (el b (lo+k)))/\(∀i,u<=i->i<k->le c (el b (lo+k)) (el b (lo+i))))
   (Q:=λr aA=>aA=Xk st b/\∃l,r=(none,l,l)/\l<=k/\(∀i,i<l->le c (el b (lo+i)) (el b (lo+k)))/\(∀i,l<=i->i<k->le c (el b (lo+k)) (el b (lo+i)))) ?_ ?_ ?_) ?_)
  ·rintro x r aA _ hx ⟨rfl,l,u,rfl,g1,g2,g3,g4,g5⟩;dsimp only
   by_cases Se:l >= u
   ·rw[if_pos Se];obtain rfl:l=u:=by lia
    exact Wc {(rfl),l,rfl,g2,g4,g5}
   ·rw[if_neg Se];refine V5 (jn L h0 R (by lia) (by lia) ?_)
    dsimp only;cases hc:c (el b (lo+k)) (el b (lo+(l+u) / 2))with
    |true =>
     rw[if_pos rfl];exact Wc {rfl,l,_,rfl,by lia,by lia,by lia,g4,λi h1 h2=>O.trans (O.of_lt hc) (y9 _ _ (by lia) (by lia) (by lia))}
    |false =>
     rw[if_neg (by simp)]
     exact Wc {rfl,_,u,rfl,by lia,by lia,by lia,λi h1=>O.trans (y9 _ _ (by lia) (by lia) (by lia)) (show le c (el b (lo+(l+u) / 2)) (el b (lo+k)) from hc),g5}
  ·rintro r aA ⟨rfl,l,u,rfl,g1,g2,g3,g4,g5⟩;obtain rfl:l=u:=by lia
   exact{(rfl),l,rfl,g2,g4,g5}
  ·exact{rfl,0,k,rfl,V_ _,VR _,by lia,λi hi=>by lia,λi h1 h2=>by lia}
  rintro r aA ⟨rfl,l,rfl,g2,g4,g5⟩;dsimp only;rw[moveDown'_eq];refine V5 (Yk (Wc {rfl,by lia,_,rfl,R.trans ((zG (a:=b) (by lia) (by lia)).mono (by lia) (by lia)),zF (a:=b) O (by lia) g2 y9 g4 g5}))
 ·rintro r aA ⟨rfl,hx,b,rfl,R,y9⟩;rw[show max (max ok 1) n=n by lia]at y9
  exact{(rfl),b,rfl,R,y9}
 ·refine{rfl,by lia,WD st,rfl,Rg.refl,?_}
  by_cases h2:ok=0
  ·subst h2;exact SR.one O
  ·rw[show max ok 1=ok by lia]
   exact hs
 ·rintro r aA ⟨rfl,b,rfl,R,y9⟩;exact Wc (h b R y9)
theorem uf (base:Nat):∀(l:List V1) (off:Nat) (a:Array V1),base+off+l.length<=a.size->∀k:Nat,
  ((l.zipIdx off).foldl (λx (z:V1×Nat)=>x.setIfInBounds (base+z.2) z.1) a)[k]?=if base+off<=k/\k<base+off+l.length then l[k-(base+off)]? else a[k]?
 |[],off,a,_,k=>by
  rw[if_neg (by rw[List.length_nil];lia)]
  rfl
 |x::l,off,a,h,k=>by
  rw[V7]at h;rw[List.zipIdx_cons,XU,uf base l (off+1) _ (by rw[Zh];lia)]
  by_cases h1:base+(off+1)<=k/\k<base+(off+1)+l.length
  ·rw[if_pos h1,if_pos (by rw[V7];lia),show k-(base+off)=k-(base+(off+1))+1 by lia,YB]
  ·rw[if_neg h1,Array.getElem?_setIfInBounds]
   by_cases h2:base+off=k
   ·subst h2;rw[if_pos rfl,if_pos (by lia),if_pos (by rw[V7];lia),YY]
    rfl
   ·rw[if_neg h2,if_neg (by rw[V7];lia)]
def Dn (a:Array V1)(base:Nat)(l:List V1):Array V1:=l.zipIdx.foldl (λx (z:V1×Nat)=>x.setIfInBounds (base+z.2) z.1) a
def qm {a:Array V1}{base:Nat}{l:List V1}(h:base+l.length<=a.size)(k:Nat):(Dn a base l)[k]?=if base<=k/\k<base+l.length then l[k-base]? else a[k]?:=uf base l 0 a h k
def zT {a:Array V1}{base:Nat}{l:List V1}(h:base+l.length<=a.size):(Dn a base l).toList=a.toList.take base++(l++a.toList.drop (base+l.length)):=by
 apply Zc;intro k;rw[Wo,qm h];have hz:a.toList.length=a.size:=Wa
 by_cases h1:base<=k/\k<base+l.length
 ·rw[if_pos h1,WV (by rw[WH];lia),WH,Xe (by lia)]
  congr 1
  lia
 ·rw[if_neg h1]
  by_cases h2:k<base
  ·rw[Xe (by rw[WH];lia),Ys h2,Wo]
  ·rw[WV (by rw[WH];lia),WH,WV (by lia),Y3,Wo]
   congr 1
   lia
def Hl (a:Array V1)(base m:Nat):a.toList=a.toList.take base++((a.toList.drop base).take m++a.toList.drop (base+m)):=by
 have h1:=(XQ base a.toList).symm;have h2:=(XQ m (a.toList.drop base)).symm;rw[List.drop_drop]at h2;rw[<- h2];exact h1
def GQ {a:Array V1}{base:Nat}{l:List V1}(h:base+l.length<=a.size)(hp:l.Perm ((a.toList.drop base).take l.length)):Rg a (Dn a base l) base (base+l.length) where
 perm:=by
  rw[Yn,zT h];refine List.Perm.trans ?_ (ZC (Hl a base l.length).symm);exact List.Perm.append_left _ (hp.append_right _)
 out:=λk hk=>eO (by rw[qm h,if_neg (by lia)])
end
section
variable {prog:V2}{w:Wm}{A:Xd}{E:VT->VY->Prop}{s:VY}{κ:Yq}{c:V1->V1->Bool}{a₀:Array V1}
def Dq {σ:Type}{M:Model}{Q:PUnit->σ->Prop}{st aA:σ}(h:Q ⟨⟩ aA):wpS M A E s (set aA:StateT σ Sem PUnit) Q st:=by
 unfold wpS;rw[StateT.run_set];exact Wd {(rfl),h}
def wg {a:Array V1}{lo hi i:Nat}(h:i<hi-lo)(hh:hi<=a.size):el (a.extract lo hi) i=el a (lo+i) :=
 eO (by rw[Array.getElem?_extract,if_pos (by lia)])
def nE {a:Array V1}{lo hi:Nat}(hh:hi<=a.size):(a.extract lo hi).size=hi-lo:=by
 rw[Array.size_extract];lia
def xq {a:Array V1}{lo hi:Nat}(hh:hi<=a.size){z:V1}(h:z∈(a.extract lo hi).toList):∃u,lo<=u/\u<hi/\z=el a u:=by
 obtain⟨i,gX⟩:=ZK h;rw[Wo]at gX;have ie:i<(a.extract lo hi).size:=by
  rcases W8 i (a.extract lo hi).size with q|q
  ·exact q
  ·rw[Array.getElem?_eq_none q]at gX;cases gX
 rw[nE hh]at ie;exact{lo+i,by lia,by lia,by rw[<- wg ie hh,xO gX]}
def u7 (O:cG c)(L:gi prog w A E s κ c (·∈a₀.toList)){st:Wy}{i sa na pw sb nb ON:Nat}{Q:Bool->Wy->Prop}(h0:kT κ a₀ st)(p1:(Wr st)[i]?=some (sa,na,pw))(p2:(Wr st)[i+1]?=some (sb,nb,ON))
  (y9:sb=sa+na) (VC:1<=na) (VB:1<=nb) (hz:sb+nb<=a₀.size) (s1:SR c (WD st) sa sb) (s2:SR c (WD st) sb (sb+nb))
  (h:∀aA,kindOf aA=κ->YC aA=none->Wr aA=((Wr st).setIfInBounds i (sa,na+nb,pw)).eraseIdxIfInBounds (i+1)->Rg (WD st) (WD aA) sa (sb+nb)->SR c (WD aA) sa (sb+nb)->Q true aA) :
  wpS (model prog w) A E s (mergeAt' i) Q st:=by
 rw[tO];refine V5 (Y7 ?_);rw[p1,p2];dsimp only;refine V5 (Dq ?_);have hsz:=h0.size;have hm:∀{j},j<a₀.size->el (WD st) j∈a₀.toList:=λhj=>h0.mem hj;generalize ha:WD st=a at *
 have yj:kindOf (YK st (((Wr st).setIfInBounds i (sa,na+nb,pw)).eraseIdxIfInBounds (i+1)))=κ:=h0.kind;have Hj:YC (YK st (((Wr st).setIfInBounds i (sa,na+nb,pw)).eraseIdxIfInBounds (i+1)))=none:=h0.fail;have Hk:WD (YK st (((Wr st).setIfInBounds i (sa,na+nb,pw)).eraseIdxIfInBounds (i+1)))=a:=ha;have Kv:Wr (YK st (((Wr st).setIfInBounds i (sa,na+nb,pw)).eraseIdxIfInBounds (i+1)))=((Wr st).setIfInBounds i (sa,na+nb,pw)).eraseIdxIfInBounds (i+1):=rfl;generalize hP:((Wr st).setIfInBounds i (sa,na+nb,pw)).eraseIdxIfInBounds (i+1)=P at *
 generalize YK st P=Of at *
 refine V5 (aO (by lia) ?_)
 refine V5 (d7 O L yj (hm (by lia)) (λx hx=>hm (by lia)) (by lia) (λx y h1 h2 h3=>s1 x y h1 h2 (by lia)) (by lia) λk k1 k2 k3=>?_)
 dsimp only;have g0:∀x,sa<=x->x<sa+k->le c (el a x) (el a sb):=λx h1 h2=>by
  have:=k2 (x-sa) (by lia)
  unfold eR at this;rw[if_neg (by simp),Yj,show sa+(x-sa)=x by lia]at this
  exact this
 by_cases e1:(na-k==0)=true
 ·rw[if_pos e1];have e1:na-k=0:=by simpa using e1
  refine Wc (h Of yj Hj Kv (by rw[Hk];exact Rg.refl) ?_)
  rw[Hk];intro x y h1 h2 h3
  by_cases hx:x<sb
  ·by_cases hy:y<sb
   ·exact s1 x y h1 h2 hy
   ·exact O.trans (g0 x h1 (by lia)) (s2 sb y (VR _) (by lia) h3)
  ·exact s2 x y (by lia) h2 h3
 rw[if_neg e1];have e1:na-k≠0:=by simpa using e1
 have g1:c (el a sb) (el a (sa+k))=true:=by
  have:=k3 k (VR _) (by lia)
  unfold eR at this;rw[if_neg (by simp),ZS]at this
  exact this
 refine V5 (aO (by lia) ?_)
 refine V5 (d7 O L yj (hm (by lia)) (λx hx=>hm (by lia)) (by lia) (λx y h1 h2 h3=>s2 x y h1 h2 (by lia)) (by lia) λm m1 m2 m3=>?_)
 dsimp only;rw[show sa+k+(na-k)-1=sb-1 by lia]at m2 m3
 have g2:∀x,sb<=x->x<sb+m->c (el a x) (el a (sb-1))=true:=λx h1 h2=>by
  have:=m2 (x-sb) (by lia)
  unfold eR at this;rw[if_pos rfl,show sb+(x-sb)=x by lia]at this
  exact this
 have g3:∀x,sb+m<=x->x<sb+nb->le c (el a (sb-1)) (el a x):=λx h1 h2=>by
  have:=m3 (x-sb) (by lia) (by lia)
  unfold eR at this;rw[if_pos rfl,show sb+(x-sb)=x by lia]at this
  exact this
 by_cases e2:(m==0)=true
 ·exfalso
  have e2:m=0:=by simpa using e2
  have:=O.trans (s1 (sa+k) (sb-1) (by lia) (by lia) (by lia)) (g3 sb (by lia) (by lia))
  exact absurd (g1.symm.trans this) (by simp)
 rw[if_neg e2];have e2:m≠0:=by simpa using e2
 have zx:(a.extract (sa+k) sb).size=sb-(sa+k):=nE (by lia)
 have zy:(a.extract sb (sb+m)).size=m:=by rw[nE (by lia)];lia
 have ex:∀{t},t<sb-(sa+k)->el (a.extract (sa+k) sb) t=el a (sa+k+t):=λht=>wg ht (by lia)
 have ey:∀{t},t<m->el (a.extract sb (sb+m)) t=el a (sb+t):=λht=>wg (by lia) (by lia)
 have fin:∀(out:Array V1) (gn:Wy),kX Of gn->Gd c (a.extract (sa+k) sb) (a.extract sb (sb+m)) out.toList ->
   wpS (model prog w) A E s (do
    modify λs2=>Xk s2 (out.toList.zipIdx.foldl (λx z=>match z with|(p,j)=>x.setIfInBounds (sa+k+j) p) (WD s2))
    let y <- get
    pure (YC y).isNone:StateT Wy Sem Bool) Q gn:=by
  rintro out gn e ⟨gp,gs⟩;refine V5 (Yk (V5 (Y7 (Wc ?_))));show Q (YC gn).isNone (Xk gn (Dn (WD gn) (sa+k) out.toList));rw[e.fail,Hj,e.arr,Hk];have zo:out.toList.length=sb-(sa+k)+m:=by
   rw[gp.length_eq,Wf,Wa,Wa,zx,zy]
  have hb:sa+k+out.toList.length<=a.size:=by lia
  have xy:(a.toList.drop (sa+k)).take out.toList.length=(a.extract (sa+k) sb).toList++(a.extract sb (sb+m)).toList:=by
   rw[cE,cE,zo,show sb+m-sb=m by lia,List.take_add,List.drop_drop,show sa+k+(sb-(sa+k))=sb by lia]
  have R:Rg a (Dn a (sa+k) out.toList) (sa+k) (sa+k+out.toList.length):=GQ hb (by rw[xy];exact gp)
  refine h _ (e.kind.trans yj) (e.fail.trans Hj) (e.pend.trans Kv) (R.mono (by lia) (by lia)) ?_
  show SR c (Dn a (sa+k) out.toList) sa (sb+nb);have Jj:∀t,sa+k<=t->t<sb+m->∃z,out.toList[t-(sa+k)]?=some z/\el (Dn a (sa+k) out.toList) t=z/\((∃u,sa+k<=u/\u<sb/\z=el a u)\/∃u,sb<=u/\u<sb+m/\z=el a u):=by
   intro t h1 h2;have hl:t-(sa+k)<out.toList.length:=by lia
   refine{out.toList[t-(sa+k)],Wh hl,xO (by rw[qm hb,if_pos (by lia)];exact Wh hl),?_}
   have i8:=gp.mem_iff.mp (YM hl);rcases V9.mp i8 with q|q
   ·exact .inl (xq (by lia) q)
   ·exact .inr (xq (by lia) q)
  have SE:∀t,t<sa+k->el (Dn a (sa+k) out.toList) t=el a t:=λt ht=>R.out t (.inl ht);have NQ:∀t,sb+m<=t->el (Dn a (sa+k) out.toList) t=el a t:=λt ht=>R.out t (.inr (by lia))
  intro x y h1 h2 h3
  by_cases hx:x<sa+k
  ·rw[SE x hx]
   by_cases hy:y<sa+k
   ·rw[SE y hy];exact s1 x y h1 h2 (by lia)
   ·by_cases Pd:y<sb+m
    ·obtain⟨z,_,ez,Pc⟩:=Jj y (by lia) Pd
     rw[ez];rcases Pc with⟨u,u1,u2,rfl⟩|⟨u,u1,u2,rfl⟩
     ·exact s1 x u h1 (by lia) u2
     ·exact O.trans (g0 x h1 hx) (s2 sb u (VR _) u1 (by lia))
    ·rw[NQ y (by lia)]
     exact O.trans (g0 x h1 hx) (s2 sb y (VR _) (by lia) h3)
  ·by_cases LC:x<sb+m
   ·obtain⟨z,iz,ez,Pc⟩:=Jj x (by lia) LC
    rw[ez]
    by_cases Pd:y<sb+m
    ·obtain⟨z',T6,QO,_⟩:=Jj y (by lia) Pd
     rw[QO]
     by_cases Pe:x=y
     ·subst Pe;rw[ez]at QO;rw[QO];exact O.refl _
     ·obtain⟨q1,q2⟩:=Ww.mp iz;obtain⟨q3,q4⟩:=Ww.mp T6;have:=Y5.mp gs _ _ q1 q3 (by lia)
      rw[q2,q4]at this;exact this
    ·rw[NQ y (by lia)]
     rcases Pc with⟨u,u1,u2,rfl⟩|⟨u,u1,u2,rfl⟩
     ·exact O.trans (s1 u (sb-1) (by lia) (by lia) (by lia)) (g3 y (by lia) h3)
     ·exact s2 u y (by lia) (by lia) h3
   ·rw[NQ x (by lia),NQ y (by lia)]
    exact s2 x y (by lia) h2 h3
 have go:∀(out:Array V1) (gn:Wy),kX Of gn->Gd c (a.extract (sa+k) sb) (a.extract sb (sb+m)) out.toList->wpS (model prog w) A E s (do
    modify λs2=>Xk s2 (out.toList.zipIdx.foldl (λx z=>match z with|(p,j)=>x.setIfInBounds (sa+k+j) p) (WD s2))
    let y <- get
    pure (YC y).isNone:StateT Wy Sem Bool) Q gn:=fin
 have RY:0<(a.extract (sa+k) sb).size:=by lia
 have RX:0<(a.extract sb (sb+m)).size:=by lia
 have Sx:∀t,t<(a.extract (sa+k) sb).size->el (a.extract (sa+k) sb) t∈a₀.toList:=λt ht=>by rw[ex (by lia)];exact hm (by lia)
 have Sy:∀t,t<(a.extract sb (sb+m)).size->el (a.extract sb (sb+m)) t∈a₀.toList:=λt ht=>by rw[ey (by lia)];exact hm (by lia)
 have Rl:SR c (a.extract (sa+k) sb) 0 (a.extract (sa+k) sb).size:=λx y h1 h2 h3=>by
  rw[ex (by lia),ex (by lia)]
  exact s1 _ _ (by lia) (by lia) (by lia)
 have Rk:SR c (a.extract sb (sb+m)) 0 (a.extract sb (sb+m)).size:=λx y h1 h2 h3=>by
  rw[ey (by lia),ey (by lia)]
  exact s2 _ _ (by lia) (by lia) (by lia)
 have hf:c (el (a.extract sb (sb+m)) 0) (el (a.extract (sa+k) sb) 0)=true:=by
  rw[ex (by lia),ey (by lia)]
  exact g1
 have hl:∀y,y<(a.extract sb (sb+m)).size->c (el (a.extract sb (sb+m)) y) (el (a.extract (sa+k) sb) ((a.extract (sa+k) sb).size-1))=true:=λy hy=>by
  rw[ey (by lia),ex (by lia),show sa+k+((a.extract (sa+k) sb).size-1)=sb-1 by lia]
  exact g2 _ (by lia) (by lia)
 by_cases e3:na-k<=m
 ·rw[if_pos e3];exact V5 (u5 O L yj Sx Sy Rl Rk RY RX hf hl go)
 ·rw[if_neg e3];exact V5 (u6 O L yj Sx Sy Rl Rk RY RX hf hl go)
end
section
variable {c:V1->V1->Bool}{a b:Array V1}
def Runs (c:V1->V1->Bool)(a:Array V1):List (Nat×Nat×Nat)->Nat->Nat->Prop
 |[],lo,hi=>lo=hi
 |z::r,lo,hi=>z.1=lo/\1<=z.2.1/\SR c a lo (lo+z.2.1)/\Runs c a r (lo+z.2.1) hi
theorem Runs.app:∀{l r:List (Nat×Nat×Nat)} {lo hi:Nat},Runs c a (l++r) lo hi->∃m,Runs c a l lo m/\Runs c a r m hi
 |[],r,lo,hi,h=>{(lo),rfl,h}
 |z::l,r,lo,hi,⟨h1,h2,h3,h4⟩=>by
  obtain⟨m,g1,g2⟩:=Runs.app h4;exact{m,{(h1),h2,h3,g1},g2}
theorem Runs.join:∀{l r:List (Nat×Nat×Nat)} {lo m hi:Nat},Runs c a l lo m->Runs c a r m hi->Runs c a (l++r) lo hi
 |[],r,lo,m,hi,h,g=>by
  obtain rfl:lo=m:=h;exact g
 |z::l,r,lo,m,hi,⟨h1,h2,h3,h4⟩,g=>{h1,h2,h3,Runs.join h4 g}
theorem Runs.len:∀{l:List (Nat×Nat×Nat)} {lo hi:Nat},Runs c a l lo hi->lo+l.length<=hi
 |[],lo,hi,h=>Nat.le_of_eq h
 |z::l,lo,hi,⟨h1,h2,h3,h4⟩=>by
  have:=Runs.len h4;rw[V7];lia
theorem Runs.congr:∀{l:List (Nat×Nat×Nat)} {lo hi:Nat},Runs c a l lo hi->(∀k,lo<=k->k<hi->el b k=el a k)->Runs c b l lo hi
 |[],lo,hi,h,_=>h
 |z::l,lo,hi,⟨h1,h2,h3,h4⟩,e=>by
  have hl:=Runs.len h4;exact{h1,h2,h3.congr λk g1 g2=>e k g1 (by lia),Runs.congr h4 λk g1 g2=>e k (by lia) g2}
theorem Runs.pow:∀{l l':List (Nat×Nat×Nat)} {lo hi:Nat},Runs c a l lo hi->l'.map (λz=>(z.1,z.2.1))=l.map (λz=>(z.1,z.2.1))->Runs c a l' lo hi
 |[],[],_,_,h,_=>h
 |[],z::l',_,_,_,e=>by cases e
 |z::l,[],_,_,_,e=>by cases e
 |z::l,z'::l',lo,hi,⟨h1,h2,h3,h4⟩,e=>by
  rw[Ws,Ws]at e;injection e with e1 e2
  injection e1 with e3 e4
  exact{e3.trans h1,by rw[e4];exact h2,by rw[e4];exact h3,by rw[e4];exact Runs.pow h4 e2}
end
section
variable {prog:V2}{w:Wm}{A:Xd}{E:VT->VY->Prop}{s:VY}{κ:Yq}{c:V1->V1->Bool}{a₀:Array V1}
def Hm {α:Type}{l:List α}{i:Nat}(h:i+1<l.length):∃l1 x y l2,l=l1++x::y::l2/\l1.length=i:=by
 refine{l.take i,l[i],l[i+1],l.drop (i+2),?_,by rw[WH];lia}
 rw[<- W6 h,<- W6 (by lia),XQ]
def o4 (O:cG c)(L:gi prog w A E s κ c (·∈a₀.toList)){st:Wy}{i hi:Nat}{Q:Bool->Wy->Prop}(h0:kT κ a₀ st)(hr:Runs c (WD st) (Wr st).toList 0 hi)(hh:hi<=a₀.size)(Sl:i+1<(Wr st).size)
  (h:∀aA,kT κ a₀ aA->Rg (WD st) (WD aA) 0 hi->Runs c (WD aA) (Wr aA).toList 0 hi->(Wr aA).size+1=(Wr st).size->Q true aA) :
  wpS (model prog w) A E s (mergeAt' i) Q st:=by
 obtain⟨l1,⟨sa,na,pw⟩,⟨sb,nb,ON⟩,l2,el,hl⟩:=Hm (l:=(Wr st).toList) (i:=i) (by rw[Wa];exact Sl)
 rw[el]at hr;obtain⟨m,r1,r2⟩:=hr.app;obtain⟨x1,x2,x3,y1,y2,y3,r3⟩:=r2;dsimp only at x1 x2 x3 y1 y2 y3 r3;have hlen:=r3.len;have Sf:=r1.len;have p1:(Wr st)[i]?=some (sa,na,pw):=by
  rw[<- Wo,el,WV (by lia),hl,YY]
  rfl
 have p2:(Wr st)[i+1]?=some (sb,nb,ON):=by
  rw[<- Wo,el,WV (by lia),hl,show i+1-i=1 by lia]
  rfl
 subst x1;refine u7 O L h0 p1 p2 y1 x2 y2 (by lia) (by rw[y1];exact x3) (by rw[y1];exact y3) λaA k1 k2 k3 R S=>?_
 have ep:(Wr aA).toList=l1++(sa,na+nb,pw)::l2:=by
  rw[k3];have hz:i+1<((Wr st).setIfInBounds i (sa,na+nb,pw)).size:=by rw[Zh];exact Sl
  have e1:(((Wr st).setIfInBounds i (sa,na+nb,pw)).eraseIdxIfInBounds (i+1)).toList=((Wr st).toList.set i (sa,na+nb,pw)).eraseIdx (i+1):=by
   unfold Array.eraseIdxIfInBounds;rw[dif_pos hz,Array.toList_eraseIdx,Array.toList_setIfInBounds]
  rw[e1,el,<- hl,List.set_append_right _ _ (VR _),YY,List.set_cons_zero,List.eraseIdx_append_of_length_le (by lia),show l1.length+1-l1.length=1 by lia]
  rfl
 have out:∀k,(k<sa\/sb+nb<=k)->TS.el (WD aA) k=TS.el (WD st) k:=R.out;refine h aA {k1,k2,R.perm.trans h0.perm} (R.mono (V_ _) (by lia)) ?_ ?_
 ·rw[ep];refine Runs.join (r1.congr λk g1 g2=>out k (.inl (by lia))) {rfl,by show 1<=na+nb;lia,?_,?_}
  ·show SR c (WD aA) sa (sa+(na+nb));rw[show sa+(na+nb)=sb+nb by lia]
   exact S
  ·show Runs c (WD aA) l2 (sa+(na+nb)) hi;rw[show sa+(na+nb)=sa+na+nb by lia]
   exact r3.congr λk g1 g2=>out k (.inr (by lia))
 ·have e2:(Wr aA).size=l1.length+(l2.length+1):=by rw[<- Wa,ep,Wf,V7]
  have e3:(Wr st).size=l1.length+(l2.length+1+1):=by rw[<- Wa,el,Wf,V7,V7]
  lia
theorem mY:∀(f n r:Nat),1<=n->1<=minRun' f n r
 |0,n,r,h=>by show 1<=n+r;lia
 |f+1,n,r,h=>by
  rw[minRun'_succ]
  split
  ·lia
  ·exact mY f _ _ (by lia)
def DT (p:Array (Nat×Nat×Nat))(i w:Nat):(p.modify i λx=>(x.1,x.2.1,w)).toList.map (λz=>(z.1,z.2.1))=p.toList.map (λz=>(z.1,z.2.1)):=by
 apply Zc;intro k;rw[Wg,Wg,Wo,Wo,Array.getElem?_modify]
 split
 ·rw[Option.map_map];rfl
 ·rfl
def rY (O:cG c)(L:gi prog w A E s κ c (·∈a₀.toList)){st:Wy}{Q:Unit->Wy->Prop}(h0:kT κ a₀ st)(hp:Wr st=#[])(h2:2<=a₀.size)
  (h:∀aA,kT κ a₀ aA->SR c (WD aA) 0 a₀.size->Q () aA):wpS (model prog w) A E s sortRuns' Q st:=by
 rw[sortRuns'_eq];refine V5 (Y7 ?_);dsimp only;rw[h0.size];have Ur:=mY a₀.size a₀.size 0 (by lia)
 generalize minRun' a₀.size a₀.size 0=mr at Ur;refine V5 (XH (W7 (I:=λx r aA=>kT κ a₀ aA/\∃lo,r=(none,lo)/\lo<=a₀.size/\(a₀.size<=lo\/x<=lo)/\Runs c (WD aA) (Wr aA).toList 0 lo)
  (Q:=λr aA=>kT κ a₀ aA/\r=(none,a₀.size)/\Runs c (WD aA) (Wr aA).toList 0 a₀.size) ?_ ?_ ?_) ?_)
 ·rintro x r aA _ hx ⟨hS,lo,rfl,Ql,Ut,hr⟩;dsimp only
  by_cases hl:lo >= a₀.size
  ·rw[if_pos hl];obtain rfl:lo=a₀.size:=by lia
   exact Wc {(hS),rfl,hr}
  rw[if_neg hl];refine V5 (zZ O L hS (by lia) (by lia) λn b n1 n2 R Sb=>?_)
  dsimp only;have uX:kT κ a₀ (Xk aA b):=hS.set R;have rg:Runs c (WD (Xk aA b)) (Wr (Xk aA b)).toList 0 lo:=Runs.congr (b:=b) hr λk q1 q2=>R.out k (.inl q2);refine(λ(key:∀(N:Nat) (stx:Wy),1<=N->lo+N<=a₀.size->Runs c (WD stx) (Wr stx).toList 0 lo->kT κ a₀ stx->SR c (WD stx) lo (lo+N)->(?G:Nat->Wy->Prop) N stx)=>?main) ?key
  case main =>
   by_cases R_:n<mr
   ·rw[if_pos R_];refine V5 (ZG (YI {rfl,?_}));refine V5 (GY O L uX (by lia) (by lia) (by lia) Sb λb' R' U7=>?_)
    rw[if_neg (by simp)]
    have NK:1<=min (a₀.size-lo) mr:=by lia
    have QE:lo+min (a₀.size-lo) mr<=a₀.size:=by lia
    have rg:Runs c (WD (Xk (Xk aA b) b')) (Wr (Xk (Xk aA b) b')).toList 0 lo:=Runs.congr (b:=b') rg λk q1 q2=>R'.out k (.inl q2);have uX:kT κ a₀ (Xk (Xk aA b) b'):=uX.set R';have GG:SR c (WD (Xk (Xk aA b) b')) lo (lo+(min (a₀.size-lo) mr)):=U7;generalize Xk (Xk aA b) b'=stx at rg uX GG ⊢
    generalize min (a₀.size-lo) mr=N at NK QE GG ⊢
    exact key N stx NK QE rg uX GG
   ·rw[if_neg R_];have GG:SR c (WD (Xk aA b)) lo (lo+n):=Sb;exact key n _ n1 (by lia) rg uX GG
  case key =>
   intro N stx NK QE rg uX GG;refine V5 (Y7 ?_);have MY:∀(mf:Wy),kT κ a₀ mf->SR c (WD mf) lo (lo+N)->Runs c (WD mf) (Wr mf).toList 0 lo->kT κ a₀ (YK mf ((Wr mf).push (lo,N,0)))/\∃F8,((none,lo+N):Option Unit×Nat)=(none,F8)/\F8<=a₀.size/\(a₀.size<=F8\/x+1<=F8)/\Runs c (WD mf) ((Wr mf).push (lo,N,0)).toList 0 F8:=λmf g1 g2 g3 =>
    {{(g1.kind),g1.fail,g1.perm},_,rfl,by lia,by lia,by rw[XY];exact g3.join {(rfl),NK,g2,rfl}}
   cases hb:(Wr stx).back? with
   |none =>
    dsimp only;exact V5 (Yk (Wc (MY stx uX GG rg)))
   |some z =>
    obtain⟨s1,n1,p1⟩:=z;dsimp only;refine V5 (XH (W7 (I:=λx r aA=>r=(none,())/\kT κ a₀ aA/\SR c (WD aA) lo (lo+N)/\Runs c (WD aA) (Wr aA).toList 0 lo)
     (Q:=λr aA=>r=(none,())/\kT κ a₀ aA/\SR c (WD aA) lo (lo+N)/\Runs c (WD aA) (Wr aA).toList 0 lo) ?_ ?_ ?_) ?_)
    ·rintro y r mf _ _ ⟨rfl,g1,g2,g3⟩;refine V5 (Y7 ?_)
     by_cases L_:(Wr mf).size>1
     ·rw[if_pos L_];cases hq:(Wr mf)[(Wr mf).size-2]? with
      |none =>
       dsimp only;exact Wc {(rfl),g1,g2,g3}
      |some z =>
       obtain⟨u,v,RA⟩:=z;dsimp only
       split
       ·exact Wc {(rfl),g1,g2,g3}
       ·refine V5 (o4 O L g1 g3 (by lia) (by lia) λKu f1 f2 f3 f4=>?_)
        exact Wc {rfl,f1,g2.congr λk q1 q2=>f2.out k (.inr q1),f3}
     ·rw[if_neg L_];dsimp only;exact Wc {(rfl),g1,g2,g3}
    ·rintro r mf ⟨rfl,g1,g2,g3⟩;exact{(rfl),g1,g2,g3}
    ·exact{(rfl),uX,GG,rg}
    rintro r mf ⟨rfl,g1,g2,g3⟩;dsimp only;refine V5 (Yk (V5 (Yk (Wc ?_))));exact MY (YK mf _) {(g1.kind),g1.fail,g1.perm} g2 (g3.pow (DT _ _ _))
 ·rintro r aA ⟨hS,lo,rfl,Ql,Ut,hr⟩;obtain rfl:lo=a₀.size:=by lia
  exact{(hS),rfl,hr}
 ·exact{h0,0,rfl,V_ _,.inr (VR _),by rw[hp];rfl}
 rintro r aA ⟨hS,rfl,hr⟩;dsimp only;refine V5 (XH (W7 (I:=λx r aA=>r=(none,())/\kT κ a₀ aA/\Runs c (WD aA) (Wr aA).toList 0 a₀.size/\((Wr aA).size<=1\/(Wr aA).size+x<=a₀.size))
  (Q:=λr aA=>r=(none,())/\kT κ a₀ aA/\Runs c (WD aA) (Wr aA).toList 0 a₀.size/\(Wr aA).size<=1) ?_ ?_ ?_) ?_)
 ·rintro x r gn _ hx ⟨rfl,uX,rg,hz⟩;refine V5 (Y7 ?_)
  by_cases h1:(Wr gn).size<=1
  ·rw[if_pos h1];exact Wc {(rfl),uX,rg,h1}
  rw[if_neg h1];refine V5 (o4 O L uX rg (VR _) ?_ λmf UK R3 Ui Vx=>?_)
  ·split
   ·split <;> lia
   ·rw[if_neg (by simp)]
    lia
  ·exact Wc {rfl,UK,Ui,.inr (by lia)}
 ·rintro r gn ⟨rfl,uX,rg,hz⟩;exact{rfl,uX,rg,by lia}
 ·refine{rfl,hS,hr,.inr ?_};have:=hr.len;rw[Wa]at this;lia
 ·rintro r gn ⟨rfl,uX,rg,hz⟩;refine Wc (h gn uX ?_)
  match hq:(Wr gn).toList,rg with
  |[],e=>
   have:(0:Nat)=a₀.size:=e;lia
  |[z],e =>
   obtain⟨e1,e2,e3,e4⟩:=e;have e4:0+z.2.1=a₀.size:=e4;rw[e4]at e3;exact e3
  |z::y::l,e =>
   have:(Wr gn).toList.length<=1:=by rw[Wa];exact hz
   rw[hq]at this;simp at this
end
def lex_nil {y:List Int}:HT.lexLt [] y=decide (0<y.length):=by cases y <;> rfl
def jN {a b:Int}{x y:List Int}:HT.lexLt (a::x) (b::y)=if a=b then HT.lexLt x y else decide (a<b):=rfl
theorem tT:∀{x y:List Int},HT.lexLt x y=true->HT.lexLt y x=false
 |[],[],_=>rfl
 |[],_::_,_=>rfl
 |_::_,[],h=>by cases h
 |a::x,b::y,h=>by
  rw[jN]at h ⊢
  by_cases e:a=b
  ·rw[if_pos e]at h;rw[if_pos e.symm];exact tT h
  ·rw[if_neg e]at h;rw[if_neg λz=>e z.symm];have:=of_decide_eq_true h;exact decide_eq_false (by lia)
theorem xt:∀{x z:List Int} (y:List Int),HT.lexLt x z=true->HT.lexLt x y=true\/HT.lexLt y z=true
 |[],[],_,h=>by cases h
 |[],_::_,[],h=>.inr rfl
 |[],_::_,_::_,h=>.inl rfl
 |_::_,[],_,h=>by cases h
 |a::x,b::z,[],h=>.inr rfl
 |a::x,b::z,d::y,h=>by
  rw[jN]at h ⊢
  rw[jN]
  by_cases e:a=b
  ·subst e;rw[if_pos rfl]at h
   by_cases e2:a=d
   ·subst e2;rw[if_pos rfl,if_pos rfl];exact xt y h
   ·rw[if_neg e2,if_neg λq=>e2 q.symm]
    by_cases e3:a<d
    ·exact .inl (decide_eq_true e3)
    ·exact .inr (decide_eq_true (by lia))
  ·rw[if_neg e]at h;have h:=of_decide_eq_true h
   by_cases e2:a=d
   ·subst e2;rw[if_neg e];exact .inr (decide_eq_true h)
   ·rw[if_neg e2]
    by_cases e3:a<d
    ·exact .inl (decide_eq_true e3)
    ·rw[if_neg (by lia)]
     exact .inr (decide_eq_true (by lia))
def byKey (kf:VT->List Int)(x y:V1):Bool:=HT.lexLt (kf x.1) (kf y.1)
def Ea (kf:VT->List Int):cG (byKey kf):={λ_ _ h=>tT h,λ_ y _ h=>xt (kf y.1) h}
section
variable {prog:V2}{w:Wm}{A:Xd}{E:VT->VY->Prop}{s:VY}
theorem tS {b:Bool}{Q:Bool->VY->Prop}:∀{ns ms:List Int} {us vs:List VT} (i:Nat),Yw us ns->Yw vs ms->Q (HT.lexLt ns ms) s->PySem.W.KatLex prog w A b (decide (ns.length<ms.length)) Q (us.zip vs) i s
 |[],ms,us,vs,i,hu,hv,q=>by
  cases hu;rw[Z3];rw[lex_nil]at q;exact PySem.W.kat_nil q
 |n::ns,[],us,vs,i,hu,hv,q=>by
  cases hv;rw[List.zip_nil_right];exact PySem.W.kat_nil q
 |n::ns,m::ms,us,vs,i,hu,hv,q=>by
  cases hu with
  |cons _ t hu =>
   cases hv with
   |cons _ t' hv =>
    rw[Y0];refine PySem.W.kat_cons (wpAny_eqBool_int ?_);rw[jN]at q
    by_cases e:n=m
    ·subst e;rw[if_pos rfl]at q;rw[beq_self_eq_true];have:=tS (b:=b) (Q:=Q) (i+1) hu hv q;rw[show decide ((n::ns).length<(n::ms).length)=decide (ns.length<ms.length) by rw[V7,V7];congr 1;simp]
     exact PySem.W.kat_yes this
    ·rw[if_neg e]at q;rw[show (n==m)=false from beq_eq_false_iff_ne.mpr e]
     refine PySem.W.kat_no ?_;cases b&&i==0 with
     |true=>exact oneLt_int q
     |false=>exact PySem.W.kat_one _ _ (lt_int q)
def uL (h:Heap)(kf:VT->List Int)(a:Addr)(vs:List VT):Prop :=
 ∀v∈vs,∃t o xs k,v=.ref t/\t≠a/\h.get? t=some o/\o.cls=.type "tuple" /\ o.data=.seq xs k/\Yw xs.toList (kf v)/\kf v≠[]
def yQ {kf:VT->List Int}{a:Addr}{vs:List VT}{b:Bool}{a₀:Array V1}(T:uL s.heap kf a vs)(hm:∀z∈a₀.toList,z.1∈vs):gi prog w A E s (tuples' b) (byKey kf) (·∈a₀.toList):=by
 intro x y st Q hx hy hk q;obtain⟨t,o,xs,n,e1,_,e2,_,e3,e4,_⟩:=T _ (hm _ hx);obtain⟨t',o',SU,n',f1,_,f2,_,f3,f4,_⟩:=T _ (hm _ hy);rw[lt'_eq];refine V5 (Y7 ?_);rw[hk,e1,f1];have z1:xs.size=(kf x.1).length:=by rw[<- Wa];exact e4.length
 have z2:SU.size=(kf y.1).length:=by rw[<- Wa];exact f4.length
 refine V5 (ZG (wpAny_attempt (PySem.W.kat_lt e2 e3 f2 f3 ?_)));rw[z1,z2];exact tS 0 e4 f4 {rfl,Wc q}
theorem l_ {kf:VT->List Int}{a:Addr}{h:Heap}:∀{vs:List VT},uL h kf a vs->∃fs:List VT,PySem.W.KatTups h vs fs/\fs.length=vs.length/\∀f∈fs,∃n t,f=Value.int n t
 |[],_=>{[],tv,rfl,λf hf=>by cases hf}
 |v::vs,T=>by
  obtain⟨fs,h1,h2,h3⟩:=l_ (vs:=vs) λu hu=>T u (V8 _ hu);obtain⟨t,o,xs,k,rfl,_,e2,e3,e4,e5,e6⟩:=T v V0;obtain⟨f,r,ef,n,tk,hn⟩:∃f r,xs.toList=f::r/\∃n tk,f=Value.int n tk:=by
   generalize kf (.ref t)=ks at e5 e6;generalize xs.toList=us at e5;cases e5 with
   |nil=>exact absurd rfl e6
   |cons n tk r=>exact{_,_,rfl,_,_,rfl}
  have e:xs[0]?=some f:=by rw[<- Wo,ef];rfl
  exact⟨f::fs,PySem.W.KatTups.cons e2 e3 e4 e h1,by rw[V7,V7,h2],λg hg=>by
   rcases VX.mp hg with rfl|hg
   ·exact{_,_,hn}
   ·exact h3 g hg⟩
def yU {kf:VT->List Int}{a:Addr}{vs:List VT}{Q:Yq->VY->Prop}(T:uL s.heap kf a vs)(h0:0<vs.length)(q:Q (tuples' true) s):WM (model prog w) A (keyKind' vs.toArray) Q E s:=by
 obtain⟨fs,h1,h2,h3⟩:=l_ T;refine PySem.W.kat_kind (T:=.type "int") h1 (by lia) (λv hv=>?_) (by decide) q
 obtain⟨n,t,rfl⟩:=h3 v hv;exact .now
theorem Ap {α:Type}{R:α->α->Prop}:∀{l:List α},l.length<2->l.Pairwise R
 |[],_=>.nil
 |[x],_=>W5 _ _
 |_::_::_,h=>by
  rw[V7,V7]at h;lia
def vO {a:Addr} {vs:List VT} {n:Nat} {κ:Yq} {c:VT->VT->Bool} {P:PySem.Fin->VY->Prop} (ho:s.heap.get? a=some (X5 "list" vs.toArray n)) (hz:vs.length<=1000000) (O:cG λx y=>c x.1 y.1)
  (T:∀s':VY,(∀t o,t≠a->s.heap.get? t=some o->s'.heap.get? t=some o)->(2<=vs.length->∀(Q:Yq->VY->Prop),Q κ s'->WM (model prog w) A (keyKind' vs.toArray) Q E s')/\gi prog w A E s' κ (λx y=>c x.1 y.1) (·∈(vs.toArray.zip vs.toArray).toList))
  (h:∀out:List VT,out.Perm vs->out.Pairwise (λx y=>c y x=false)->P (.done (.ret .none)) {s with heap:=sortedHeap s.heap a vs out.toArray}) :
  WM (model prog w) A (ZN.«list.sort» {[.ref a],[]}) P E s:=by
 have la:a<s.heap.objs.size:=Wt ho;obtain⟨ep,hc⟩:∃ep,(s.heap.update a (Yl λ_=>#[])).get? a=some (X5 "list" #[] ep):={_,get?_update_seq ho (λ_=>#[])};have old:∀t o,t≠a->s.heap.get? t=some o->(((s.heap.update a (Yl λ_=>#[])).push (X5 "tuple" vs.toArray 0)).push (X5 "list" #[] 0)).get? t=some o:=λt o ht e =>
  V6 _ (V6 _ (by rw[ZO _ _ _ _ ht];exact e))
 have pQ:(((s.heap.update a (Yl λ_=>#[])).push (X5 "tuple" vs.toArray 0)).push (X5 "list" #[] 0)).get? a=some (X5 "list" #[] ep):=V6 _ (V6 _ hc);have big:∀m:Nat,m<=vs.length->m<=Wi:=λm hm=>by rw[XI];lia
 have zz:vs.toArray.size=vs.length:=by simp
 rw[list_sort_plain];refine VV (listItems_at ho rfl ?_);refine VV (listUpdate_at ho rfl ?_ (big _ (Nat.le_of_eq zz)) (V_ _));refine VV (seqEpoch_at hc rfl ?_);refine VV (wpAny_newTuple ?_ (big _ (VR _)));refine VV (wpAny_newList ?_ (V_ _));refine Xo ?_;show WM (model prog w) A _ P E {s with heap:=((s.heap.update a (Yl λ_=>#[])).push (X5 "tuple" vs.toArray 0)).push (X5 "list" #[] 0)}
 dsimp only;have done:∀aA:Wy,(WD aA).Perm (vs.toArray.zip vs.toArray)->(WD aA).toList.Pairwise (le λx y=>c x.1 y.1)->P (.done (.ret .none)) {s with heap:=sortedHeap s.heap a vs ((WD aA).map (·.2))}:=λaA hp hs=>by
  have h1:∀z∈(WD aA).toList,z.1=z.2:=λz hz=>by
   have:=(Yn.mp hp).mem_iff.mp hz;rw[Array.toList_zip]at this;obtain⟨i,hi⟩:=ZK this;rw[List.getElem?_zip_eq_some]at hi;exact WA (hi.1.symm.trans hi.2)
  have e2:(WD aA).map (·.2)=((WD aA).toList.map (·.2)).toArray:=by
   apply Array.toList_inj.mp;rw[Array.toList_map]
  rw[e2];refine h _ ?_ ?_
  ·have:=(Yn.mp hp).map (λz:V1=>z.2);rw[Array.toList_zip]at this;refine this.trans (ZC ?_);exact List.map_snd_zip (by simp)
  ·rw[WJ];refine hs.imp_of_mem λ{x y} hx hy hl=>?_;rw[<- h1 x hx,<- h1 y hy];exact hl
 by_cases h2:vs.toArray.size<2
 ·rw[if_pos h2,if_pos h2];refine VV (Wd ?_);rw[StateT.run_pure];refine VV (Wd ?_);dsimp only;refine VV (seqEpoch_at pQ rfl ?_);refine VV (listUpdate_at pQ rfl ?_ (V_ _) (by rw[Array.size_map,Array.size_zip];exact WG (big _ (by lia)) (Nat.le_succ _)))
  simp only[bne_self_eq_false,ZT,if_false];refine Wd (done (SortSt.mk' general' (vs.toArray.zip vs.toArray) #[] 7 none) (Array.Perm.refl _) ?_);refine Ap ?_;show (vs.toArray.zip vs.toArray).toList.length<2;rw[Wa,Array.size_zip];lia
 ·rw[if_neg h2,if_neg h2];obtain⟨hK,L⟩:=T {s with heap:=((s.heap.update a (Yl λ_=>#[])).push (X5 "tuple" vs.toArray 0)).push (X5 "list" #[] 0)} old
  refine VV (hK (by lia) _ ?_)
  have zp:(vs.toArray.zip vs.toArray).size=vs.length:=by rw[Array.size_zip];lia
  refine VV (YZ (rY (Q:=λ_ aA=>(WD aA).Perm (vs.toArray.zip vs.toArray)/\YC aA=none/\SR (λx y=>c x.1 y.1) (WD aA) 0 vs.length) O L
   (st:=SortSt.mk' κ (vs.toArray.zip vs.toArray) #[] 7 none) {rfl,rfl,Array.Perm.refl _} rfl (by lia) λaA g1 g2=>{g1.perm,g1.fail,by rw[zp]at g2;exact g2}) ?_ λ_ _ e=>e)
  rintro⟨⟨⟩,aA⟩ s' ⟨rfl,hp,hf,hs⟩;dsimp only;have zs:(WD aA).size=vs.length:=hp.size_eq.trans zp;refine VV (seqEpoch_at pQ rfl ?_);refine VV (listUpdate_at pQ rfl ?_ (V_ _) (by rw[Array.size_map,zs];exact WG (big _ (VR _)) (Nat.le_succ _)))
  rw[hf];simp only[bne_self_eq_false,ZT,if_false];refine Wd (done aA hp ?_);rw[Y5];intro i j hi hj aI;rw[Wa]at hi hj;have:=hs i j (V_ _) (by lia) (by lia)
  have ei:el (WD aA) i=(WD aA).toList[i]:=xO (by rw[<- Wo];exact Wh _)
  have ej:el (WD aA) j=(WD aA).toList[j]:=xO (by rw[<- Wo];exact Wh _)
  rw[ei,ej]at this;exact this
def vN {a:Addr} {vs:List VT} {n:Nat} {kf:VT->List Int} {P:PySem.Fin->VY->Prop} (ho:s.heap.get? a=some (X5 "list" vs.toArray n)) (hz:vs.length<=1000000) (T:uL s.heap kf a vs)
  (h:∀out:List VT,out.Perm vs->out.Pairwise (λx y=>HT.lexLt (kf y) (kf x)=false)->P (.done (.ret .none)) {s with heap:=sortedHeap s.heap a vs out.toArray}) :
  WM (model prog w) A (ZN.«list.sort» {[.ref a],[]}) P E s:=by
 refine vO (κ:=tuples' true) (c:=λx y=>HT.lexLt (kf x) (kf y)) ho hz (Ea kf) (λs' kp=>?_) h;have T':uL s'.heap kf a vs:=λv hv=>by
  obtain⟨t,o,xs,k,e1,e2,e3,r⟩:=T v hv;exact{t,o,xs,k,e1,e2,kp t o e2 e3,r}
 exact⟨λh2 Q q=>yU T' (by lia) q,yQ T' λz hz=>by
  rw[Array.toList_zip]at hz;exact(Zz hz).1⟩
end
end TS
namespace ST
open PySem PyProof.Rows
section
variable {prog:V2}{w:Wm}{A:Xd}{E:VT->VY->Prop}{s:VY}
abbrev TK (prog:V2)(w:Wm):=Zj (intKind prog w)
abbrev kH (prog:V2)(w:Wm)(k:List Int):Int:=(TK prog w).hash k
abbrev ent (prog:V2)(w:Wm)(x:Addr×List Int):Int×VT:=(kH prog w x.2,.ref x.1)
structure gh (prog:V2)(w:Wm)(o:Obj)(ts:List (Addr×List Int))(es:Array (Int×VT))(ep:Nat)(t:SetTable):Prop where
 ex:o.ExactSet
 dat:o.data=.set es ep t
 J6:es.toList=ts.map (ent prog w)
 wf:WF t (ts.map λx=>kH prog w x.2)
 Oo:t.place.size*5<t.mask*3
 F5:t.mask<=8191
 led:t.led=!w.params.followText "set-order"
 Ni:t.plain=true
 RM:(ts.map (·.2)).Nodup
def JQ (prog:V2)(w:Wm)(h:Heap)(ts:List (Addr×List Int)):Prop:=∀x∈ts,(TK prog w).is h x.2 x.1
def gh.fits {o:Obj}{ts:List (Addr×List Int)}{es:Array (Int×VT)}{ep:Nat}{t:SetTable}(S:gh prog w o ts es ep t):t.fits es.size=true:=by
 have h1:=S.wf.sz;have h2:es.size=ts.length:=by rw[<- Wa,S.J6,VS]
 rw[VS]at h1;unfold SetTable.fits SetTable.fill;rw[S.wf.J7,h2,h1];have:=S.Oo;simp;lia
def gh.size {o:Obj}{ts:List (Addr×List Int)}{es:Array (Int×VT)}{ep:Nat}{t:SetTable}(S:gh prog w o ts es ep t):es.size=ts.length/\t.place.size=ts.length:=by
 have h1:=S.wf.sz;rw[VS]at h1;exact{by rw[<- Wa,S.J6,VS],h1}
def zw (d:Nat)(n:Int)(tk:Tok):ofAClassStatement d (.int n tk)=pure false:=by
 cases d <;> rfl
def r9 {k:List Int}{b:Addr}{Q:Bool->VY->Prop}(hk:(TK prog w).is s.heap k b)(q:Q false s):WM (model prog w) A (ofAClassStatement 8 (.ref b)) Q E s:=by
 obtain⟨o,items,n,ho,hc,hd,hi⟩:=hk;have hT:s.TypeIs (.ref b) "tuple" := {(o),ho,hc};unfold ofAClassStatement;refine VV (wpAny_typeOf hT ?_);dsimp only;rw[if_pos (by rfl)]
 refine VV (Wd ?_);rw[if_neg (by simp)]
 refine VV (wpAny_seqItems ho hd ?_);dsimp only;rw[<- Array.forIn_toList];refine VV (Z7 _ (λrest r s'=>r=(none,())/\s'=s/\∀v∈rest,∃n tk,v=Value.int n tk) _ ?_ ?_ _ _ {rfl,rfl,?_})
 ·rintro v rest r s' ⟨rfl,rfl,oO⟩;obtain⟨n,tk,rfl⟩:=oO v V0;rw[zw];refine VV (Wd ?_);rw[if_neg (by simp)]
  exact Wd {rfl,rfl,λu hu=>oO u (V8 _ hu)}
 ·rintro r s' ⟨rfl,rfl,_⟩;exact Wd q
 ·generalize items.toList=vs at hi
  induction hi with
  |nil=>intro v hv;cases hv
  | @cons k v ks vs h1 h2 ih =>
   intro u hu;rcases VX.mp hu with rfl|hu
   ·obtain⟨t,rfl⟩:=ZY h1;exact{_,_,rfl}
   ·exact ih u hu
def Dp {k:List Int}{b:Addr}(hk:(TK prog w).is s.heap k b)(l:List (Addr×List Int)){Q:Bool->VY->Prop}(T:JQ prog w s.heap l)(q:Q false s):WM (model prog w) A (searchCouldBeSeen (.ref b) (l.map λx=>Value.ref x.1)) Q E s:=by
 unfold searchCouldBeSeen;refine VV (Z7 _ (λrest r s'=>r=(none,())/\s'=s/\∀v∈rest,∃x∈l,v=Value.ref x.1) _ ?_ ?_ _ _ {rfl,rfl,?_})
 ·rintro v rest r s' ⟨rfl,rfl,oO⟩;obtain⟨x,hx,rfl⟩:=oO v V0;have Gq:∀v∈rest,∃x∈l,v=Value.ref x.1:=λu hu=>oO u (V8 _ hu);dsimp only
  split
  ·exact Wd {(rfl),rfl,Gq}
  ·refine VV ((TK prog w).quiet hk ?_);rw[if_neg (by simp)]
   refine VV ((TK prog w).quiet (T x hx) ?_);rw[if_neg (by simp)]
   refine VV (r9 hk ?_);rw[if_neg (by simp)]
   refine VV (r9 (T x hx) ?_);rw[if_neg (by simp)]
   exact Wd {(rfl),rfl,Gq}
 ·rintro r s' ⟨rfl,rfl,_⟩;exact Wd q
 ·intro v hv;obtain⟨x,hx,rfl⟩:=V4.mp hv;exact{(x),hx,rfl}
end
end ST
namespace L2
open PySem PySem.Spec PyProof.Rows
inductive D where
 |ck|bl (b:Bool)|int (i:Int)|str (x:Str)|obj (a:Addr)
 |tup (ds:List D)|lst (ds:List D)
 |dT (ks:List (List Key)) (ds:List D)|dK (ks:List Key) (ds:List D)
 |sT (ts:List (List Int))
 |ob (φ:Addr->HO)
def Hq (P:V2)(w:Wm)(a:Addr)(ts:List (Addr×List Int))(h:Heap):Prop:=∃o es ep t,h.get? a=some o/\ST.gh P w o ts es ep t
abbrev nY (P:V2)(w:Wm)(a:Addr)(ts:List (Addr×List Int)):HO:=.ext (Hq P w a ts)
def FF (P:V2)(w:Wm)(H:Hp)(a:Addr)(ts:List (List Int)):Prop :=
 ∃b_:List (Addr×List Int),H a=some (nY P w a b_)/\(∀x∈b_,H x.1=some (.tup (x.2.map V.int)))/\(b_.map (·.2)).Perm ts
section
variable (P:V2)(w:Wm)(W:Addr->Prop)(H:Hp)
mutual
def aD:D->V->Prop
 |.ck,v=>v=.ck
 |.bl b,v=>v=.bl b
 |.int i,v=>v=.int i
 |.str x,v=>v=.str x
 |.obj a,v=>v=.ref a
 |.tup ds,v=>∃a vs,v=.ref a/\H a=some (.tup vs)/\ai ds vs
 |.lst ds,v=>∃a vs,v=.ref a/\H a=some (.lst vs)/\¬ W a/\ai ds vs
 |.dT ks ds,v=>∃a vs,v=.ref a/\H a=some (.dT (ks.zip vs))/\ks.length=vs.length/\¬ W a/\ai ds vs
 |.dK ks ds,v=>∃a vs,v=.ref a/\H a=some (.dK (ks.zip vs))/\ks.length=vs.length/\¬ W a/\ai ds vs
 |.sT ts,v=>∃a,v=.ref a/\FF P w H a ts/\¬ W a
 |.ob φ,v=>∃a,v=.ref a/\(H a=some (φ a)/\∀xs,φ a≠.tup xs)/\¬ W a
def ai:List D->List V->Prop
 |[],vs=>vs=[]
 |d::ds,vs=>∃v r,vs=v::r/\aD d v/\ai ds r
end
end
mutual
def D.flat:D->Bool
 |.tup ds=>D.dO ds
 |.lst _=>false
 |.dT _ _=>false
 |.dK _ _=>false
 |.sT _=>false
 |.ob _=>false
 |_=>true
def D.dO:List D->Bool
 |[]=>true
 |d::ds=>D.flat d&&D.dO ds
end
structure Kp (W:Addr->Prop)(H H':Hp):Prop where
 out:∀b o,H b=some o->¬ W b->H' b=some o
 tup:∀b xs,H b=some (.tup xs)->H' b=some (.tup xs)
def Kp.refl {W:Addr->Prop}{H:Hp}:Kp W H H:={λ_ _ e _=>e,λ_ _ e=>e}
def Kp.trans {W:Addr->Prop}{H H1 H2:Hp}(a:Kp W H H1)(b:Kp W H1 H2):Kp W H H2:={λc o e n=>b.out c o (a.out c o e n) n,λc xs e=>b.tup c xs (a.tup c xs e)}
def aE.kp {W:Addr->Prop}{H H':Hp}(h:aE H H'):Kp W H H':={λb o e _=>h b o e,λb xs e=>h b _ e}
def Kp.mono {W W':Addr->Prop}{H H':Hp}(h:Kp W H H')(s:∀a,W a->W' a):Kp W' H H':={λb o e n=>h.out b o e λz=>n (s b z),h.tup}
section
variable {P:V2}{w:Wm}{W W':Addr->Prop}{H H':Hp}
mutual
theorem aD.keep (k:Kp W H H'):∀{d:D} {v:V},aD P w W H d v->aD P w W H' d v
 |.ck,_,h=>h
 |.bl _,_,h=>h
 |.int _,_,h=>h
 |.str _,_,h=>h
 |.obj _,_,h=>h
 |.tup ds,_,⟨a,vs,e,t,r⟩=>{a,vs,e,k.tup a vs t,ai.keep k r}
 |.lst ds,_,⟨a,vs,e,t,n,r⟩=>{a,vs,e,k.out a _ t n,n,ai.keep k r}
 |.dT ks ds,_,⟨a,vs,e,t,l,n,r⟩=>{a,vs,e,k.out a _ t n,l,n,ai.keep k r}
 |.dK ks ds,_,⟨a,vs,e,t,l,n,r⟩=>{a,vs,e,k.out a _ t n,l,n,ai.keep k r}
 |.sT ts,_,⟨a,e,⟨b_,t,r,z⟩,n⟩=>{a,e,{b_,k.out a _ t n,λx hx=>k.tup _ _ (r x hx),z},n}
 |.ob φ,_,⟨a,e,⟨t,z⟩,n⟩=>{a,e,{k.out a _ t n,z},n}
theorem ai.keep (k:Kp W H H'):∀{ds:List D} {vs:List V},ai P w W H ds vs->ai P w W H' ds vs
 |[],_,h=>h
 |d::ds,_,⟨v,r,e,h1,h2⟩=>{v,r,e,aD.keep k h1,ai.keep k h2}
end
mutual
theorem aD.a8 (s:∀a,W' a->W a):∀{d:D} {v:V},aD P w W H d v->aD P w W' H d v
 |.ck,_,h=>h
 |.bl _,_,h=>h
 |.int _,_,h=>h
 |.str _,_,h=>h
 |.obj _,_,h=>h
 |.tup ds,_,⟨a,vs,e,t,r⟩=>{a,vs,e,t,ai.a8 s r}
 |.lst ds,_,⟨a,vs,e,t,n,r⟩=>{a,vs,e,t,λz=>n (s a z),ai.a8 s r}
 |.dT ks ds,_,⟨a,vs,e,t,l,n,r⟩=>{a,vs,e,t,l,λz=>n (s a z),ai.a8 s r}
 |.dK ks ds,_,⟨a,vs,e,t,l,n,r⟩=>{a,vs,e,t,l,λz=>n (s a z),ai.a8 s r}
 |.sT ts,_,⟨a,e,t,n⟩=>{a,e,t,λz=>n (s a z)}
 |.ob φ,_,⟨a,e,t,n⟩=>{a,e,t,λz=>n (s a z)}
theorem ai.a8 (s:∀a,W' a->W a):∀{ds:List D} {vs:List V},ai P w W H ds vs->ai P w W' H ds vs
 |[],_,h=>h
 |d::ds,_,⟨v,r,e,h1,h2⟩=>{v,r,e,aD.a8 s h1,ai.a8 s h2}
end
mutual
theorem aD.flat:∀{d:D} {v:V},d.flat=true->aD P w W H d v->aD P w W' H d v
 |.ck,_,_,h=>h
 |.bl _,_,_,h=>h
 |.int _,_,_,h=>h
 |.str _,_,_,h=>h
 |.obj _,_,_,h=>h
 |.tup ds,_,f,⟨a,vs,e,t,r⟩=>{a,vs,e,t,ai.flat (by simpa[D.flat] using f) r}
 |.lst ds,_,f,_=>by simp[D.flat]at f
 |.dT ks ds,_,f,_=>by simp[D.flat]at f
 |.dK ks ds,_,f,_=>by simp[D.flat]at f
 |.sT ts,_,f,_=>by simp[D.flat]at f
 |.ob φ,_,f,_=>by simp[D.flat]at f
theorem ai.flat:∀{ds:List D} {vs:List V},D.dO ds=true->ai P w W H ds vs->ai P w W' H ds vs
 |[],_,_,h=>h
 |d::ds,_,f,⟨v,r,e,h1,h2⟩=>by
  have f':(d.flat&&D.dO ds)=true:=f;rw[WL]at f';exact{v,r,e,aD.flat f'.1 h1,ai.flat f'.2 h2}
end
def aD.same (s:aE H H'){d:D}{v:V}(h:aD P w W H d v):aD P w W H' d v:=h.keep s.kp
def ai.same (s:aE H H'){ds:List D}{vs:List V}(h:ai P w W H ds vs):ai P w W H' ds vs:=h.keep s.kp
theorem ai.length:∀{ds:List D} {vs:List V},ai P w W H ds vs->vs.length=ds.length
 |[],_,h=>by rw[show _=[] from h];rfl
 |d::ds,_,⟨v,r,e,h1,h2⟩=>by rw[e,V7,V7,ai.length h2]
theorem ai.get:∀{ds:List D} {vs:List V} {i:Nat} {d:D},ai P w W H ds vs->ds[i]?=some d->∃v,vs[i]?=some v/\aD P w W H d v
 |[],_,_,_,_,e=>by simp at e
 |d::ds,_,0,_,⟨v,r,e,h1,h2⟩,e'=>by simp at e';subst e' e;exact{v,by simp,h1}
 |d::ds,_,i+1,_,⟨v,r,e,h1,h2⟩,e'=>by
  subst e;obtain⟨u,e1,e2⟩:=ai.get (i:=i) h2 (by simpa using e')
  exact{u,by simpa using e1,e2}
theorem ai.append:∀{ds ds':List D} {vs vs':List V},ai P w W H ds vs->ai P w W H ds' vs'->ai P w W H (ds++ds') (vs++vs')
 |[],_,_,_,h,h'=>by rw[show _=[] from h];exact h'
 |d::ds,_,_,_,⟨v,r,e,h1,h2⟩,h'=>by subst e;exact{v,_,rfl,h1,ai.append h2 h'}
def ai.one {d:D}{v:V}(h:aD P w W H d v):ai P w W H [d] [v]:={v,[],rfl,h,rfl}
theorem ai.take:∀{ds:List D} {vs:List V} (n:Nat),ai P w W H ds vs->ai P w W H (ds.take n) (vs.take n)
 |[],_,n,h=>by rw[show _=[] from h];simp[ai]
 |d::ds,_,0,_=>by simp[ai]
 |d::ds,_,n+1,⟨v,r,e,h1,h2⟩=>by subst e;exact{v,_,rfl,h1,ai.take n h2}
theorem ai.drop:∀{ds:List D} {vs:List V} (n:Nat),ai P w W H ds vs->ai P w W H (ds.drop n) (vs.drop n)
 |[],_,n,h=>by rw[show _=[] from h];simp[ai]
 |d::ds,_,0,h=>h
 |d::ds,_,n+1,⟨v,r,e,h1,h2⟩=>by subst e;exact ai.drop n h2
end
open PySem.SeqAt
abbrev Dm (W:Addr->Prop)(H:Hp):Prop:=∀a,W a->H a≠none
abbrev Rp (X:Cx)(W:Addr->Prop)(H:Hp)(d:D)(v:V):Prop:=aD X.prog X.w W H d v
abbrev uP (X:Cx)(W:Addr->Prop)(H:Hp)(ds:List D)(vs:List V):Prop:=ai X.prog X.w W H ds vs
def Rt (X:Cx)(f:D->Option D):V->Hp->VK->Prop:=λx H Q=>∃W d1 d,Dm W H/\Rp X W H d1 x/\f d1=some d/\∀v H',aE H H'->Rp X W H' d v->Q v H'
def Rr (X:Cx)(f:D->D->Option D):R2:=λx y H Q=>∃W d1 d2 d,Dm W H/\Rp X W H d1 x/\Rp X W H d2 y/\f d1 d2=some d/\∀v H',aE H H'->Rp X W H' d v->Q v H'
def Tp (X:Cx)(f:List D->Option D):List V->Hp->VK->Prop:=λxs H Q=>∃W ds d,Dm W H/\uP X W H ds xs/\f ds=some d/\∀v H',aE H H'->Rp X W H' d v->Q v H'
abbrev bC (X:Cx)(f:VT->VT->Sem VT)(g:D->D->Option D):Prop:=jk X f (Rr X g)
abbrev dB (X:Cx)(f:VT)(g:List D->Option D):Prop:=fM X f (Tp X g)
section
variable {X:Cx}{W:Addr->Prop}{H:Hp}
def Ek {p:Addr}(d:Dm W H)(n:H p=none):¬ W p:=λz=>d p z n
def Rp.rd {p:Addr}{vs:List V}{ds:List D}(d:Dm W H)(n:H p=none)(r:uP X W H ds vs):Rp X W (upd H p (.lst vs)) (.lst ds) (.ref p) :=
 {p,vs,rfl,ao,Ek d n,r.same (aE.new n)}
end
def D.IK:D->Option Int
 |.int i=>some i
 |_=>none
def D.IJ:D->Option (List D)
 |.lst a=>some a
 |_=>none
def D.II:D->Option (List D)
 |.tup a=>some a
 |_=>none
def D.C9:D->Bool
 |.ck=>true
 |_=>false
def D.jP {d:D}{i:Int}(h:d.IK=some i):d=.int i:=by cases d <;> first|(cases h;rfl)|cases h
def D.nc {d:D}{i:List D}(h:d.IJ=some i):d=.lst i:=by cases d <;> first|(cases h;rfl)|cases h
def D.tY {d:D}{i:List D}(h:d.II=some i):d=.tup i:=by cases d <;> first|(cases h;rfl)|cases h
def D.tZ {d:D}(h:d.C9=true):d=.ck:=by cases d <;> first|rfl|cases h
def D.EH {d:D}:d=.ck↔d.C9=true:={λe=>by rw[e];rfl,D.tZ}
def oI (f:Int->Int->Option D)(a b:D):Option D:=match a.IK,b.IK with
 |some i,some j=>f i j
 |_,_=>none
def kB {f:Int->Int->Option D}{a b d:D}(h:oI f a b=some d):∃i j,a=.int i/\b=.int j/\f i j=some d:=by
 unfold oI at h;cases ha:a.IK with
 |none=>rw[ha]at h;cases h
 |some i =>
  cases hb:b.IK with
  |none=>rw[ha,hb]at h;cases h
  |some j=>rw[ha,hb]at h;exact{i,j,D.jP ha,D.jP hb,h}
def Iq (f:D->D->Option D)(g:List D->List D->Option D)(a b:D):Option D:=match a.IJ,b.IJ with
 |some i,some j=>g i j
 |_,_=>f a b
def yR {f:D->D->Option D}{g:List D->List D->Option D}{a b d:D}(h:Iq f g a b=some d):(∃i j,a=.lst i/\b=.lst j/\g i j=some d)\/f a b=some d:=by
 unfold Iq at h;cases ha:a.IJ with
 |none=>rw[ha]at h;exact .inr h
 |some i =>
  cases hb:b.IJ with
  |none=>rw[ha,hb]at h;exact .inr h
  |some j=>rw[ha,hb]at h;exact .inl {i,j,D.nc ha,D.nc hb,h}
def Fn:D->D->Option D:=Iq (oI λi j=>some (.int (i+j))) λa b=>if a.length+b.length<=Wi then some (.lst (a++b)) else none
def QS:D->D->Option D:=oI λi j=>some (.int (i-j))
instance (i j:Int):Decidable (n9 i j):=by unfold n9;infer_instance
instance (i j:Int):Decidable (C4 i j):=by unfold C4;infer_instance
def Fd:D->D->Option D:=oI λi j=>if n9 i j then some (.int (i*j)) else none
def MI:D->D->Option D:=oI λi j=>if 0<j then some (.int (i % j)) else none
def Jx:D->D->Option D:=oI λi j=>if 0<j/\j<2 ^ 200 then some (.int (i / j)) else none
def QT:D->Option D
 |.int i=>some (.int (-i))
 |_=>none
section
variable {X:Cx}
def fq {c:Prop}[Decidable c]{α:Type}{a b:α}(h:(if c then some a else none)=some b):c/\b=a:=by
 by_cases hc:c
 ·rw[if_pos hc]at h;cases h;exact{(hc),rfl}
 ·rw[if_neg hc]at h;cases h
def Be {f:VT->VT->Sem VT}{C:Int->Int->Prop}{g:Int->Int->V}{h:Int->Int->D}{F:Int->Int->Option D}(ho:jk X f (rI C g))(hF:∀i j d,F i j=some d->C i j/\d=h i j)
  (hg:∀(W:Addr->Prop) (H:Hp) i j,Rp X W H (h i j) (g i j)):bC X f (oI F):=by
 intro pins s σ H x y v u Q I rx ry hh;obtain⟨W,d1,d2,d,hd,r1,r2,e,q⟩:=hh;obtain⟨i,j,rfl,rfl,e⟩:=kB e;obtain⟨c,rfl⟩:=hF _ _ _ e;cases r1;cases r2;exact ho pins s σ H _ _ v u Q I rx ry {i,j,rfl,rfl,c,q _ _ (aE.refl _) (hg W H i j)}
def Bd {f:VT->VT->Sem VT}{g:Int->Int->V}{h:Int->Int->D}(ho:jk X f (DI g))
  (hg:∀(W:Addr->Prop) (H:Hp) i j,Rp X W H (h i j) (g i j)):bC X f (oI λi j=>some (h i j)):=by
 intro pins s σ H x y v u Q I rx ry hh;obtain⟨W,d1,d2,d,hd,r1,r2,e,q⟩:=hh;obtain⟨i,j,rfl,rfl,e⟩:=kB e;cases e;cases r1;cases r2;exact ho pins s σ H _ _ v u Q I rx ry {i,j,rfl,rfl,q _ _ (aE.refl _) (hg W H i j)}
def bD:bC X (XX .Sub) QS:=Bd (h:=λi j=>.int (i-j)) Bc λ_ _ _ _=>rfl
def dU:bC X (XX .Mult) Fd:=Be (h:=λi j=>.int (i*j)) vC (λ_ _ _ e=>fq e) λ_ _ _ _=>rfl
def qN:bC X (XX .Mod) MI:=Be (h:=λi j=>.int (i % j)) mQ (λ_ _ _ e=>fq e) λ_ _ _ _=>rfl
def qP:bC X (XX .FloorDiv) Jx:=Be (h:=λi j=>.int (i / j)) mR (λ_ _ _ e=>let ⟨c,e⟩:=fq e;{ql.of c.1 c.2,e}) λ_ _ _ _=>rfl
def wB:MW X (unaryOp .USub) (Rt X QT):=by
 intro pins s σ H x v Q I rx h;obtain⟨W,d1,d,hd,r1,e,q⟩:=h;cases d1 with
 |int i=>cases e;cases r1;exact z8 pins s σ H _ v Q I rx {i,rfl,q _ _ (aE.refl _) rfl}
 |_=>cases e
end
def Fl (p:Int->Int->Bool):D->D->Option D:=oI λi j=>some (.bl (p i j))
abbrev U1:D->D->Option D:=Fl λi j=>decide (i<j)
abbrev U3:D->D->Option D:=Fl λi j=>decide (i<=j)
abbrev gD:D->D->Option D:=Fl λi j=>decide (j<i)
section
variable {X:Cx}
def qQ {p:Int->Int->Bool}{f:VT->VT->Sem VT}(ho:jk X f (DI λi j=>.bl (p i j))):bC X f (Fl p):=Bd (h:=λi j=>.bl (p i j)) ho λ_ _ _ _=>rfl
def qO:bC X (W_ .Lt) U1:=qQ KW
def vD:bC X (W_ .LtE) U3:=qQ KY
def HU:bC X (W_ .Gt) gD:=qQ F1
end
mutual
def D.pd:D->PyData
 |.ck=>.none
 |.bl b=>.bool b
 |.int i=>.int i
 |.str x=>.str x
 |.tup ds=>.tuple (D.jf ds)
 |.lst ds=>.list (D.jf ds)
 |_=>.dict []
def D.jf:List D->List PyData
 |[]=>[]
 |d::ds=>d.pd::D.jf ds
end
abbrev D.vm (d:D):Bool:=shaped d.pd
mutual
theorem cZ {X:Cx}{pins:List (Addr×Obj)}{σ:St}{H:Hp}{s:VY}(I:Inv X pins σ H s){W:Addr->Prop}:∀{d:D} {v:V} {u:VT},Rp X W H d v->RelV v u->d.pd.canLay0=true->∃as,Reads s.heap u d.pd as
 |.ck,_,_,h,r,_=>by cases h;cases r;exact{_,.none}
 |.bl b,_,_,h,r,_=>by cases h;cases r;exact{_,.bool b}
 |.int i,_,_,h,r,_=>by cases h;obtain⟨t,rfl⟩:=r;exact{_,.int i t}
 |.str x,_,_,h,r,_=>by cases h;obtain⟨t,rfl⟩:=r;exact{_,.str x t}
 |.tup ds,_,_,h,r,c=>by
  obtain⟨a,vs,rfl,e,q⟩:=h;cases r;obtain⟨its,rv,⟨o,ho,hc,n,hd⟩,hz⟩:=I.tuple (nW.of e);obtain⟨as,ha⟩:=gP I q rv (by simpa[D.pd,Xx] using c)
  exact{_,.tuple ho hc hd (by simpa using ha)}
 |.lst ds,_,_,h,r,c=>by
  obtain⟨a,vs,rfl,e,_,q⟩:=h;cases r;obtain⟨z,its,n,rv,e'⟩:=I.bY a _ e;obtain⟨as,ha⟩:=gP I q rv (by simpa[D.pd,Xx] using c)
  exact{_,.list e' rfl rfl (by simpa using ha)}
 |.obj _,_,_,_,_,c=>by simp[D.pd,Xx]at c
 |.dT _ _,_,_,_,_,c=>by simp[D.pd,Xx]at c
 |.dK _ _,_,_,_,_,c=>by simp[D.pd,Xx]at c
 |.sT _,_,_,_,_,c=>by simp[D.pd,Xx]at c
 |.ob _,_,_,_,_,c=>by simp[D.pd,Xx]at c
theorem gP {X:Cx}{pins:List (Addr×Obj)}{σ:St}{H:Hp}{s:VY}(I:Inv X pins σ H s){W:Addr->Prop}:∀{ds:List D} {vs:List V} {us:List VT},uP X W H ds vs->Vals vs us->Ye (D.jf ds)=true->∃as,ReadsAll s.heap us (D.jf ds) as
 |[],_,_,h,r,_=>by
  rw[show _=[] from h]at r
  cases r;exact{_,.nil}
 |d::ds,_,_,⟨v,vr,e,h1,h2⟩,r,c=>by
  subst e;have c':(d.pd.canLay0&&Ye (D.jf ds))=true:=c;rw[WL]at c';cases r with
  |cons r1 r2 =>
   obtain⟨as,ha⟩:=cZ I h1 r1 c'.1;obtain⟨bs,hb⟩:=gP I h2 r2 c'.2;exact{_,.cons ha hb}
end
def Gz (a b:D):Option D:=if a.vm=true/\b.vm=true then some (.bl (XB a.pd b.pd)) else none
def p0 (a b:D):Option D:=if a.vm=true/\b.vm=true then some (.bl (!XB a.pd b.pd)) else none
section
variable {X:Cx}
def fX (hu:X.A.units+64<Yo):bC X (W_ .Eq) Gz:=by
 intro pins s σ H x y v u Q I rx ry h;obtain⟨W,d1,d2,d,hd,r1,r2,e,q⟩:=h;obtain⟨⟨s1,s2⟩,rfl⟩:=fq e;obtain⟨as,ra⟩:=cZ I r1 rx (Xp s1);obtain⟨bs,rb⟩:=cZ I r2 ry (Xp s2);exact compareEq_shaped ra rb s1 s2 hu {.bl _,H,I,rfl,q _ _ (aE.refl _) rfl}
def cN (hu:X.A.units+64<Yo):bC X (W_ .NotEq) p0:=by
 intro pins s σ H x y v u Q I rx ry h;obtain⟨W,d1,d2,d,hd,r1,r2,e,q⟩:=h;obtain⟨⟨s1,s2⟩,rfl⟩:=fq e;obtain⟨as,ra⟩:=cZ I r1 rx (Xp s1);obtain⟨bs,rb⟩:=cZ I r2 ry (Xp s2);exact compareNe_shaped ra rb s1 s2 hu {.bl _,H,I,rfl,q _ _ (aE.refl _) rfl}
def QU (a b:D):Option D:=match b.C9 with
 |true=>some (.bl a.C9)
 |false=>none
def MH (a b:D):Option D:=match b.C9 with
 |true=>some (.bl (!a.C9))
 |false=>none
def Rp.Ej {W:Addr->Prop}{H:Hp}{d:D}{v:V}(h:Rp X W H d v):v=.ck↔d=.ck:=by
 cases d with
 |ck=>cases h;simp
 |bl b=>cases h;simp
 |int i=>cases h;simp
 |str x=>cases h;simp
 |obj a=>cases h;simp
 |tup ds=>obtain⟨a,vs,rfl,_⟩:=h;simp
 |lst ds=>obtain⟨a,vs,rfl,_⟩:=h;simp
 |dT ks ds=>obtain⟨a,vs,rfl,_⟩:=h;simp
 |dK ks ds=>obtain⟨a,vs,rfl,_⟩:=h;simp
 |sT ts=>obtain⟨a,rfl,_⟩:=h;simp
 |ob φ=>obtain⟨a,rfl,_⟩:=h;simp
def t5 {b d e:D}(h:(match b.C9 with|true=>some d|false=>none)=some e):b=.ck/\e=d:=by
 cases q:b.C9 with
 |true=>rw[q]at h;cases h;exact{D.tZ q,rfl}
 |false=>rw[q]at h;cases h
def Rp.xo {W:Addr->Prop}{H:Hp}{d:D}{v:V}(h:Rp X W H d v):decide (v=.ck)=d.C9:=by
 have q:=h.Ej.trans D.EH;cases e:d.C9 with
 |true=>exact decide_eq_true (q.mpr e)
 |false=>exact decide_eq_false λz=>by rw[q.mp z]at e;cases e
def xi:bC X (W_ .Is) QU:=by
 intro pins s σ H x y v u Q I rx ry h;obtain⟨W,d1,d2,d,hd,r1,r2,e,q⟩:=h;obtain⟨rfl,rfl⟩:=t5 e;cases r2;exact HS pins s σ H _ _ v u Q I rx ry {rfl,q _ _ (aE.refl _) (congrArg V.bl r1.xo)}
def tj:bC X (W_ .IsNot) MH:=by
 intro pins s σ H x y v u Q I rx ry h;obtain⟨W,d1,d2,d,hd,r1,r2,e,q⟩:=h;obtain⟨rfl,rfl⟩:=t5 e;cases r2;exact Eb pins s σ H _ _ v u Q I rx ry {rfl,q _ _ (aE.refl _) (congrArg (λb=>V.bl (!b)) r1.xo)}
end
noncomputable def MN:D->D->Option Bool
 |a,.lst ds=>if a.vm=true/\(D.lst ds).vm=true then some ((D.jf ds).any λy=>XB y a.pd) else none
 |a,.tup ds=>if a.vm=true/\(D.tup ds).vm=true then some ((D.jf ds).any λy=>XB y a.pd) else none
 |_,_=>none
def wj (a b:D):Option D:=(MN a b).map λc=>.bl (!c)
def wJ {ds:List D}{n:PyData}(hn:n=.list (D.jf ds)\/n=.tuple (D.jf ds))(h:shaped n=true):Ye (D.jf ds)=true/\XD (D.jf ds)<=64:=by
 have h1:=Xp h;have h2:=depth_of_shaped h;rcases hn with rfl|rfl
 ·refine{by simpa[Xx] using h1,?_}
  have:YE (.list (D.jf ds))=XD (D.jf ds)+1:=by simp[YE]
  lia
 ·refine{by simpa[Xx] using h1,?_}
  have:YE (.tuple (D.jf ds))=XD (D.jf ds)+1:=by simp[YE]
  lia
section
variable {X:Cx}
def yJ (hu:X.A.units+64+1<Yo):bC X (W_ .NotIn) wj:=by
 intro pins s σ H x y v u Q I rx ry h;obtain⟨W,d1,d2,d,hd,r1,r2,e,q⟩:=h;cases d2 with
 |lst ds =>
  obtain⟨b,e1,rfl⟩:=Wk.mp e;obtain⟨⟨s1,s2⟩,rfl⟩:=fq e1;obtain⟨as,ra⟩:=cZ I r1 rx (Xp s1);obtain⟨bs,rb⟩:=cZ I r2 ry (Xp s2);obtain⟨c1,c2⟩:=wJ (.inl rfl) s2;exact notIn_list_reads rb ra c1 (Xp s1) (by have:=Nat.min_le_left (XD (D.jf ds)) d1.pd.depth;lia) {.bl _,H,I,rfl,q _ _ (aE.refl _) rfl}
 |tup ds =>
  obtain⟨b,e1,rfl⟩:=Wk.mp e;obtain⟨⟨s1,s2⟩,rfl⟩:=fq e1;obtain⟨as,ra⟩:=cZ I r1 rx (Xp s1);obtain⟨bs,rb⟩:=cZ I r2 ry (Xp s2);obtain⟨c1,c2⟩:=wJ (.inr rfl) s2;exact notIn_tuple_reads rb ra c1 (Xp s1) (by have:=Nat.min_le_left (XD (D.jf ds)) d1.pd.depth;lia) {.bl _,H,I,rfl,q _ _ (aE.refl _) rfl}
 |_=>cases e
def zO (a b:D):Option D:=match b.IK with
 |some i=>match a.IJ with
  |some ds=>uI ds i
  |none=>match a.II with
   |some ds=>uI ds i
   |none=>none
 |none=>none
def CD {a b d:D}(h:zO a b=some d):∃ds i,(a=.lst ds\/a=.tup ds)/\b=.int i/\uI ds i=some d:=by
 unfold zO at h;cases hb:b.IK with
 |none=>rw[hb]at h;cases h
 |some i =>
  rw[hb]at h;cases ha:a.IJ with
  |some ds=>rw[ha]at h;exact{ds,i,.inl (D.nc ha),D.jP hb,h}
  |none =>
   rw[ha]at h;cases ht:a.II with
   |some ds=>rw[ht]at h;exact{ds,i,.inr (D.tY ht),D.jP hb,h}
   |none=>rw[ht]at h;cases h
def uP.uI {W:Addr->Prop}{H:Hp}{ds:List D}{vs:List V}{i:Int}{d:D}(h:uP X W H ds vs)(e:L2.uI ds i=some d):∃v,L2.uI vs i=some v/\Rp X W H d v:=by
 unfold L2.uI at *
 rw[h.length];cases q:C8 ds.length i with
 |none=>rw[q]at e;cases e
 |some j =>
  rw[q]at e;exact ai.get h e
def IG:GK X (Rr X zO):=by
 intro value slice pins s σ H x y v u Q I rx ry h hs;obtain⟨W,d1,d2,d,hd,r1,r2,e,q⟩:=h;obtain⟨ds,i,h,rfl,e⟩:=CD e;cases r2;rcases h with rfl|rfl
 ·obtain⟨p,vs,rfl,h1,n1,q1⟩:=r1;obtain⟨z,hz,rz⟩:=uP.uI (X:=X) q1 e;exact fZ value slice pins s σ H _ _ v u Q I rx ry {p,vs,i,z,rfl,rfl,eQ.of h1,hz,q _ _ (aE.refl _) rz} hs
 ·obtain⟨p,vs,rfl,h1,q1⟩:=r1;obtain⟨z,hz,rz⟩:=uP.uI (X:=X) q1 e;exact BF value slice pins s σ H _ _ v u Q I rx ry {p,vs,i,z,rfl,rfl,nW.of h1,hz,q _ _ (aE.refl _) rz} hs
def cutD (xs:List D)(lo hi:Option Int):List D:=(xs.drop (HT.my xs.length 0 lo)).take (HT.my xs.length xs.length hi-HT.my xs.length 0 lo)
def MF:D->Option Int->Option Int->Option D
 |.lst ds,lo,hi=>some (.lst (cutD ds lo hi))
 |_,_,_=>none
def ML:List D->Option D
 |[.lst ds]=>some (.int ds.length)
 |[.tup ds]=>some (.int ds.length)
 |_=>none
def zE:dB X (.builtin "len") ML:=by
 intro pins s σ H xs us Q I r h;obtain⟨W,ds,d,hd,r1,e,q⟩:=h
 match ds,e with
 |[.lst es],e =>
  cases e;obtain⟨v,r',rfl,⟨p,vs,rfl,h1,n1,q1⟩,hr⟩:=r1;cases hr;refine jZ pins s σ H _ us Q I r {p,vs,rfl,.inl (eQ.of h1),?_};rw[q1.length];exact q _ _ (aE.refl _) rfl
 |[.tup es],e =>
  cases e;obtain⟨v,r',rfl,⟨p,vs,rfl,h1,q1⟩,hr⟩:=r1;cases hr;refine jZ pins s σ H _ us Q I r {p,vs,rfl,.inr (nW.of h1),?_};rw[q1.length];exact q _ _ (aE.refl _) rfl
def MK:List D->Option D
 |[.int i,.int j]=>some (.int (if j>i then j else i))
 |_=>none
def MJ:List D->Option D
 |[.int i,.int j]=>some (.int (if j<i then j else i))
 |_=>none
def xX {W:Addr->Prop}{H:Hp}{a b:D}{xs:List V}(h:uP X W H [a,b] xs):∃x y,xs=[x,y]/\Rp X W H a x/\Rp X W H b y:=by
 obtain⟨x,r,rfl,hx,y,r',rfl,hy,hr⟩:=h;cases hr;exact{(x),y,rfl,hx,hy}
def qg {W:Addr->Prop}{H:Hp}{a:D}{xs:List V}(h:uP X W H [a] xs):∃x,xs=[x]/\Rp X W H a x:=by
 obtain⟨x,r,rfl,hx,hr⟩:=h;cases hr;exact{(x),rfl,hx}
def nQ (hc:X.calm=true):dB X (.builtin "max") MK:=by
 intro pins s σ H xs us Q I r h;obtain⟨W,ds,d,hd,r1,e,q⟩:=h
 match ds,e with
 |[.int i,.int j],e =>
  cases e;obtain⟨x,y,rfl,hx,hy⟩:=xX r1;cases hx;cases hy;exact qa hc pins s σ H _ us Q I r {i,j,rfl,q _ _ (aE.refl _) rfl}
def nP (hc:X.calm=true):dB X (.builtin "min") MJ:=by
 intro pins s σ H xs us Q I r h;obtain⟨W,ds,d,hd,r1,e,q⟩:=h
 match ds,e with
 |[.int i,.int j],e =>
  cases e;obtain⟨x,y,rfl,hx,hy⟩:=xX r1;cases hx;cases hy;exact zB hc pins s σ H _ us Q I r {i,j,rfl,q _ _ (aE.refl _) rfl}
def QV:List D->Option D
 |[.int i]=>some (.int i)
 |[.bl k]=>some (.int (if k then 1 else 0))
 |_=>none
def qb:dB X (.type "int") QV:=by
 intro pins s σ H xs us Q I r h;obtain⟨W,ds,d,hd,r1,e,q⟩:=h
 match ds,e with
 |[.int i],e =>
  cases e;obtain⟨x,rfl,hx⟩:=qg r1;cases hx;exact kP pins s σ H _ us Q I r (.inl {i,rfl,q _ _ (aE.refl _) rfl})
 |[.bl k],e =>
  cases e;obtain⟨x,rfl,hx⟩:=qg r1;cases hx;exact kP pins s σ H _ us Q I r (.inr {k,rfl,q _ _ (aE.refl _) rfl})
end
def PE.pre {X:Cx}{e:Expr}{t t':TE}(h:PE X e t)(k:∀σ H Q,t' σ H Q->t σ H Q):PE X e t':=λpins s σ H Q I q=>h pins s σ H Q I (k σ H Q q)
def PT.pre {X:Cx}{e:Expr}{t t':TT}(h:PT X e t)(k:∀σ H Q,t' σ H Q->t σ H Q):PT X e t':=λpins s σ H Q I q=>h pins s σ H Q I (k σ H Q q)
def PA.pre {X:Cx}{es:List Expr}{t t':TA}(h:PA X es t)(k:∀σ H Q,t' σ H Q->t σ H Q):PA X es t':=λpos pins s σ H Q I q=>h pos pins s σ H Q I (k σ H Q q)
section
variable {X:Cx}{e:Expr}{σ:St}{H:Hp}
def PW.pre {t t':TT}(h:PW X e t)(k:∀σ H Q,t' σ H Q->t σ H Q):PW X e t':=λw pins s σ H Q I q=>h w pins s σ H Q I (k σ H Q q)
end
abbrev FD:=List D->(D->Prop)->Prop
def dc (F:FD):Prop:=∀ds R R',(∀d,R d->R' d)->F ds R->F ds R'
section
variable {X:Cx}{e:Expr}{pos:Pos}{σ:St}{H:Hp}
def JS.pre {ops:List Y4}{rs:List Expr}{t t':V->TE}(h:JS X ops rs t)(k:∀x σ H Q,t' x σ H Q->t x σ H Q):JS X ops rs t':=λpos pins s σ H x v Q I r q=>h pos pins s σ H x v Q I r (k x σ H Q q)
def uT.pre {ops:List Y4}{rs:List Expr}{t t':V->TT}(h:uT X ops rs t)(k:∀x σ H Q,t' x σ H Q->t x σ H Q):uT X ops rs t':=λpos pins s σ H x v Q I r q=>h pos pins s σ H x v Q I r (k x σ H Q q)
def PO.pre {e:Option Expr}{t t':TO}(h:PO X e t)(k:∀σ H Q,t' σ H Q->t σ H Q):PO X e t':=λpins s σ H Q I q=>h pins s σ H Q I (k σ H Q q)
end
abbrev NF:D->Prop:=λd=>d.flat=true
section
abbrev NL:D->Prop:=λd=>match d with | .lst ds=>D.dO ds=true|d=>d.flat=true
end
section
variable {P:V2}{w:Wm}{W W':Addr->Prop}{H:Hp}
mutual
theorem aD.grow (s:∀a,W' a->W a\/H a=none):∀{d:D} {v:V},aD P w W H d v->aD P w W' H d v
 |.ck,_,h=>h
 |.bl _,_,h=>h
 |.int _,_,h=>h
 |.str _,_,h=>h
 |.obj _,_,h=>h
 |.tup ds,_,⟨a,vs,e,t,r⟩=>{a,vs,e,t,ai.grow s r}
 |.lst ds,_,⟨a,vs,e,t,n,r⟩=>{a,vs,e,t,λz=>(s a z).elim n λq=>(by rw[t]at q;cases q),ai.grow s r}
 |.dT ks ds,_,⟨a,vs,e,t,l,n,r⟩=>{a,vs,e,t,l,λz=>(s a z).elim n λq=>(by rw[t]at q;cases q),ai.grow s r}
 |.dK ks ds,_,⟨a,vs,e,t,l,n,r⟩=>{a,vs,e,t,l,λz=>(s a z).elim n λq=>(by rw[t]at q;cases q),ai.grow s r}
 |.sT ts,_,⟨a,e,⟨b_,t,r,z⟩,n⟩=>{a,e,{(b_),t,r,z},λz=>(s a z).elim n λq=>(by rw[t]at q;cases q)}
 |.ob φ,_,⟨a,e,⟨t,z⟩,n⟩=>{a,e,{(t),z},λz=>(s a z).elim n λq=>(by rw[t]at q;cases q)}
theorem ai.grow (s:∀a,W' a->W a\/H a=none):∀{ds:List D} {vs:List V},ai P w W H ds vs->ai P w W' H ds vs
 |[],_,h=>h
 |d::ds,_,⟨v,r,e,h1,h2⟩=>{v,r,e,aD.grow s h1,ai.grow s h2}
end
end
def U8 (X:Cx)(W:Addr->Prop)(J:It)(ds:List D)(H0:Hp):Prop:=∀(i:Nat) (H:Hp),Kp W H0 H ->
 (∀d,ds[i]?=some d->J.go i H/\∀x H1,J.Ki i H x H1->aE H H1/\Rp X W H1 d x)/\(ds.length<=i->J.stop i H)
def zR (X:Cx)(W:Addr->Prop)(J:It)(ds:List D)(H0:Hp):Prop:=∀W':Addr->Prop,(∀b,W' b->W b\/H0 b=none)->U8 X W' J ds H0
section
variable {X:Cx}{tg e:Expr}
def PI.pre {iter:Expr}{t t':TI}(h:PI X tg iter t)(k:∀σ H R,t' σ H R->t σ H R):PI X tg iter t':=λpins s σ H R I q=>h pins s σ H R I (k σ H R q)
def tX {W:Addr->Prop}{H:Hp}{p:Addr}{vs:List V}{ds:List D}(h1:H p=some (.lst vs))(n1:¬ W p)(q1:uP X W H ds vs):zR X W (NY X.K p) ds H:=λW' hW i H' k=>by
 have h2:=k.out p _ h1 λz=>(hW p z).elim n1 λq=>by rw[h1]at q;cases q
 replace q1:=ai.grow hW q1;constructor
 ·intro d hd;obtain⟨v,hv,rv⟩:=ai.get q1 hd;refine{{vs,v,eQ.of h2,hv},λx H1 y=>?_};obtain⟨rfl,y⟩:=y;have e:=y vs (eQ.of h2);rw[hv]at e;cases e;exact{aE.refl _,rv.keep k}
 ·intro hl;exact{vs,eQ.of h2,by rw[q1.length];exact hl}
def iU (lo:Int)(n:Nat):List D:=(VW n).map λ(k:Nat)=>D.int (lo+(k:Int))
def kA {W:Addr->Prop}{H:Hp}{lo:Int}{n:Nat}:zR X W (M4 lo n) (iU lo n) H:=λ_ _ i H' k=>by
 constructor
 ·intro d hd;unfold iU at hd;rw[Wg]at hd;have hi:i<n:=by
   by_cases h:i<n
   ·exact h
   ·rw[Xw (by simpa using h)]at hd;cases hd
  rw[XN hi]at hd;cases hd;refine{hi,λx H1 y=>?_};obtain⟨rfl,rfl⟩:=y;exact{aE.refl _,rfl}
 ·intro hl;unfold iU at hl;rw[VS,We]at hl;exact hl
end
section
variable {X:Cx}{tg:Expr}{ye:List Expr}
def PG.pre {t t':TG}(h:PG X tg t)(k:∀v σ H Q,t' v σ H Q->t v σ H Q):PG X tg t':=λpins s σ H v u Q I r q=>h pins s σ H v u Q I r (k v σ H Q q)
def GJ.pre {t t':GF}(h:GJ X ye t)(k:∀v σ H Q,t' v σ H Q->t v σ H Q):GJ X ye t':=λpins s σ H v u Q I r q=>h pins s σ H v u Q I r (k v σ H Q q)
end
def m9 {H:Hp}{a:Addr}{o o':HO}(h:H a=some o)(ht:∀xs,o≠.tup xs):Kp (·=a) H (upd H a o') :=
 {λb u e n=>by rw[aB n];exact e,λb xs e=>by rw[aB (F3 e h (λz=>ht xs z.symm))];exact e}
section
variable {σ:St}{β:a9}{own:Nat->List Addr}
def bc (own:Nat->List Addr)(i:Nat)(as:List Addr):Nat->List Addr:=λj=>if j=i then as else own j
def fW {own:Nat->List Addr}{i j:Nat}{a:Addr}(h:a∈bc own i [] j):a∈own j/\j≠i:=by
 unfold bc at h
 by_cases e:j=i
 ·rw[if_pos e]at h;cases h
 ·rw[if_neg e]at h;exact{(h),e}
def b4 {α:Type}{β:List α}{i j:Nat}{x:α}(h:i≠j):(β.set i x)[j]?=β[j]?:=by rw[Zb,if_neg h]
def cA {α:Type}{β:List α}{i:Nat}{x y:α}(h:(β.set i x)[i]?=some y):y=x/\i<β.length:=by
 rw[Zb,if_pos rfl]at h
 by_cases hi:i<β.length
 ·rw[if_pos hi]at h;cases h;exact{(rfl),hi}
 ·rw[if_neg hi]at h;cases h
def get_set {α:Type}{σ:List α}{i:Nat}{x:α}(h:i<σ.length):(σ.set i x)[i]?=some x:=by rw[Zb,if_pos rfl,if_pos h]
end
structure Sn (Z:Hp×(Addr->Prop))(H:Hp)(W:Addr->Prop):Prop where
 w:∀b,W b->Z.2 b\/Z.1 b=none
 k:Kp (λb=>Z.2 b\/Z.1 b=none) Z.1 H
 d:∀b,Z.1 b≠none->H b≠none
def Sn.refl {H:Hp}{W:Addr->Prop}:Sn (H,W) H W:={λ_ z=>.inl z,Kp.refl,λ_ z=>z}
def Sn.same {Z:Hp×(Addr->Prop)}{H H':Hp}{W:Addr->Prop}(n:Sn Z H W)(s:aE H H'):Sn Z H' W:={n.w,n.k.trans s.kp,λb z e=>n.d b z (s.free e)}
def Sn.free {Z:Hp×(Addr->Prop)}{H:Hp}{W:Addr->Prop}(n:Sn Z H W){a:Addr}(h:H a=none):Z.1 a=none:=by
 cases q:Z.1 a with
 |none=>rfl
 |some o=>exact absurd h (n.d a (by rw[q];intro z;cases z))
def Sn.upd {Z:Hp×(Addr->Prop)}{H:Hp}{W:Addr->Prop}(n:Sn Z H W){a:Addr}{o o':HO}(h:H a=some o)(ht:∀xs,o≠.tup xs)(wa:W a):Sn Z (L2.upd H a o') W :=
 ⟨n.w,n.k.trans ((m9 h ht).mono λb z=>by rw[z];exact n.w a wa),λb z e=>by
  by_cases hb:b=a
  ·subst hb;rw[ao]at e;cases e
  ·rw[aB hb]at e;exact n.d b z e⟩
def Sn.trans {Z:Hp×(Addr->Prop)}{H1 H:Hp}{W1 W:Addr->Prop}(n1:Sn Z H1 W1)(n:Sn (H1,W1) H W):Sn Z H W:=by
 have big:∀b,W1 b\/H1 b=none->Z.2 b\/Z.1 b=none:=λb z=>z.elim (n1.w b) λq=>.inr (n1.free q);exact{λb z=>big b (n.w b z),n1.k.trans (n.k.mono big),λb z=>n.d b (n1.d b z)}
section
variable {X:Cx}{st:Stmt}{rest:List Stmt}{σ:St}{H:Hp}
def PS.pre {t t':TS}(h:PS X st t)(k:∀D σ H,t' D σ H->t D σ H):PS X st t':=λpins s σ H D I q=>h pins s σ H D I (k D σ H q)
def rX.pre {t t':TS}(h:rX X rest t)(k:∀D σ H,t' D σ H->t D σ H):rX X rest t':=λpins s σ H D I q=>h pins s σ H D I (k D σ H q)
end
section
variable {b:Expr}{H:Hp}
def held {P:V2}{w:Wm}{W W2:Addr->Prop}{H2:Hp}{d:D}{v:V}(r:aD P w W H d v)(n:Sn (H,W) H2 W2):aD P w W2 H2 d v :=
 aD.a8 n.w (aD.keep n.k (aD.grow (λb z=>z) r))
end
def Sn.kp {Z:Hp×(Addr->Prop)}{H H':Hp}{W:Addr->Prop}(n:Sn Z H W)(k:Kp W H H')(dn:∀c,H c≠none->H' c≠none):Sn Z H' W:={n.w,n.k.trans (k.mono n.w),λb z=>dn b (n.d b z)}
end L2
namespace U9
open PySem PySem.Spec PyProof.Rows
end U9
namespace L2
open PySem PySem.Spec PySem.SeqAt PyProof.Rows
noncomputable def dM:List D->Option (List Int)
 |[]=>some []
 |.int i::ds=>(dM ds).map (i::·)
 |_::_=>none
theorem t6:∀{ds:List D} {ns:List Int},dM ds=some ns->ds=ns.map D.int
 |[],_,h=>by cases h;rfl
 |.int i::ds,_,h=>by
  obtain⟨ns,h1,rfl⟩:=Wk.mp h;rw[Ws,<- t6 h1]
 |.ck::_,_,h=>by cases h
 |.bl _::_,_,h=>by cases h
 |.str _::_,_,h=>by cases h
 |.obj _::_,_,h=>by cases h
 |.tup _::_,_,h=>by cases h
 |.lst _::_,_,h=>by cases h
 |.dT _ _::_,_,h=>by cases h
 |.dK _ _::_,_,h=>by cases h
 |.sT _::_,_,h=>by cases h
 |.ob _::_,_,h=>by cases h
theorem pL:∀(ns:List Int),dM (ns.map D.int)=some ns
 |[]=>rfl
 |n::ns=>by rw[Ws];show (dM (ns.map D.int)).map _=_;rw[pL ns];rfl
theorem bw {P:V2}{w:Wm}{W:Addr->Prop}{H:Hp}:∀{ns:List Int} {vs:List V},ai P w W H (ns.map D.int) vs->vs=ns.map V.int
 |[],_,h=>h
 |n::ns,_,⟨v,r,e,h1,h2⟩=>by rw[e,bw h2,show v=V.int n from h1];rfl
theorem pK {P:V2}{w:Wm}{W:Addr->Prop}{H:Hp}:∀(ns:List Int),ai P w W H (ns.map D.int) (ns.map V.int)
 |[]=>rfl
 |n::ns=>{_,_,rfl,rfl,pK ns}
end L2
namespace TS
open PySem PyProof.Rows
section
variable {prog:V2}{w:Wm}{A:Xd}{E:VT->VY->Prop}{s:VY}
def vi {x:VT}{vs:List VT}{kf:VT->List Int}{Q:VT->VY->Prop}(hz:vs.length<=1000000)
  (col:∀(B:Xd) (R:List VT->VY->Prop),B.units<=A.units+1->(∀(h':Heap) (tk:Nat),(∀b o,s.heap.get? b=some o->h'.get? b=some o)->s.heap.objs.size<=h'.objs.size->R vs {s with heap:=h',toks:=tk})->WM (model prog w) B (collect x) R E s)
  (T:uL s.heap kf s.heap.objs.size vs)
  (h:∀(out:List VT) (l:Addr) (h':Heap) (tk:Nat) (n:Nat),out.Perm vs->out.Pairwise (λx y=>HT.lexLt (kf y) (kf x)=false)->s.heap.objs.size<=l->(∀b o,s.heap.get? b=some o->h'.get? b=some o)->h'.get? l=some (X5 "list" out.toArray n)->Q (.ref l) {s with heap:=h',toks:=tk}) :
  WM (model prog w) A (call (.builtin "sorted") [x]) Q E s:=by
 refine Calls.call_function_entry kind_sorted plain_sorted entry_sorted (args_sorted1 _) ?_;unfold ZN.«sorted»
 refine VV (m:=checkCount "sorted" 1 1 _) (Wd ?_);refine VV (col A.in1 _ (VR _) λh' tk kp TZ=>?_);have nl:vs.length<=Wi:=by rw[XI];lia
 refine VV (wpAny_newList ?_ nl);have hl:(h'.push (X5 "list" vs.toArray 0)).get? h'.objs.size=some (X5 "list" vs.toArray 0):=WT _ rfl;have T':uL (h'.push (X5 "list" vs.toArray 0)) kf h'.objs.size vs:=λv hv=>by
  obtain⟨t,o,xs,k,e1,_,e3,r⟩:=T v hv;exact{t,o,xs,k,e1,WX (Wt (kp _ _ e3)),V6 _ (kp _ _ e3),r}
 refine VV (Xo (Zi slot_list_sort {_,hl,rfl} entry_list_sort (vN (s:={s with heap:=h'.push (X5 "list" vs.toArray 0),toks:=tk}) hl hz T' λout hp hs=>{_,rfl,?_}) (args_list_sort _)))
 obtain⟨n,hn⟩:=sortedHeap_at (out:=out.toArray) hl;refine Wd {_,rfl,h out h'.objs.size _ tk n hp hs TZ (λb o e=>?_) hn};have hb:=Wt (kp _ _ e);rw[sortedHeap_old (WX hb) (by rw[size_push'];exact XC hb)]
 exact V6 _ (kp _ _ e)
end
end TS
namespace L2
open PySem PySem.Spec PyProof.Rows
def yV (H:Hp):VT->List Int
 |.ref t=>match H t with
  |some (.tup xs)=>xs.filterMap fun
   |.int i=>some i
   |_=>none
  |_=>[]
 |_=>[]
theorem ui:∀ns:List Int,((ns.map V.int).filterMap fun
   |.int i=>some i
   |_=>none)=ns
 |[]=>rfl
 |n::ns=>by
  rw[Ws,WW];dsimp only;rw[ui ns]
def m_ {H:Hp}{t:Addr}{ns:List Int}(h:H t=some (.tup (ns.map V.int))):yV H (.ref t)=ns:=by
 unfold yV;dsimp only;rw[h];exact ui ns
def Mw (H:Hp):VT->Addr×List Int
 |.ref t=>(t,yV H (.ref t))
 |_=>(0,[])
abbrev FE (H:Hp)(ts:List (Addr×List Int)):Prop:=∀t∈ts,H t.1=some (.tup (t.2.map V.int))/\t.2≠[]
abbrev vd (t:Addr×List Int):V:=.ref t.1
theorem o7:∀{ts:List (Addr×List Int)} {us:List VT},Vals (ts.map vd) us->us=ts.map λt=>Value.ref t.1
 |[],_,.nil=>rfl
 |t::ts,_,.cons r q=>by
  rw[Ws,<- o7 q];cases r;rfl
theorem pq:∀(ts:List (Addr×List Int)),Vals (ts.map vd) (ts.map λt=>Value.ref t.1)
 |[]=>.nil
 |t::ts=>.cons rfl (pq ts)
def yG {H:Hp}{ts:List (Addr×List Int)}(T:FE H ts){out:List VT}(hp:out.Perm (ts.map λt=>Value.ref t.1)):out=(out.map (Mw H)).map (λt=>Value.ref t.1)/\(out.map (Mw H)).Perm ts:=by
 constructor
 ·rw[WR];refine(Wu (g:=id) λv hv=>?_).trans (List.map_id _) |>.symm
  obtain⟨t,ht,rfl⟩:=V4.mp (hp.mem_iff.mp hv);rfl
 ·refine(hp.map (Mw H)).trans (ZC ?_);rw[WR];refine(Wu (g:=id) λt ht=>?_).trans (List.map_id _);show (t.1,yV H (.ref t.1))=t;rw[m_ (T t ht).1]
def Du {P:V2}{w:Wm}{H:Hp}{h:Heap}{ts:List (Addr×List Int)}(ok:jl P w H h)(T:FE H ts){a:Addr}(ha:h.objs.size<=a):TS.uL h (yV H) a (ts.map λt=>Value.ref t.1):=λv hv=>by
 obtain⟨t,ht,rfl⟩:=V4.mp hv;obtain⟨h1,h2⟩:=T t ht;obtain⟨_,its,r,o,ho,hc,n,hd⟩:=(show b9 P w H h t.1 (.tup (t.2.map V.int)) from ok _ _ h1)
 exact{t.1,o,_,n,rfl,WX (WI (Wt ho) ha),ho,hc,hd,by rw[m_ h1];exact intsAre_of (by simpa using r),by rw[m_ h1];exact h2}
section
variable {X:Cx}
def rK:fM X (.builtin "sorted") (λxs H Q=>∃(p:Addr) (ts:List (Addr×List Int)),xs=[.ref p]/\eQ X.K H p (ts.map vd)/\FE H ts/\ts.length<=1000000 /\
  ∀(l:Addr) (b_:List (Addr×List Int)),H l=none->b_.Perm ts->b_.Pairwise (λx y=>HT.lexLt y.2 x.2=false)->Q (.ref l) (upd H l (.lst (b_.map vd)))):=by
 intro pins s σ H xs us Q I r h;obtain⟨p,ts,rfl,hq,T,hz,q⟩:=h;obtain⟨u,rfl,rx⟩:=vals1 r;cases rx;obtain⟨its,r',pl,hl⟩:=I.list hq;obtain rfl:=o7 r';have nl:(ts.map λt=>Value.ref t.1).length<=Wi:=by rw[VS,XI];lia
 refine TS.vi (kf:=yV H) (by rw[VS];exact hz) (λB R _ hR=>?_) (Du I.bY T (VR _)) λout l h' tk n hp hs hle kp ho=>?_
 ·refine collect_list pl.isList (hR _ s.toks (λb o e=>?_) ?_) nl
  ·have hb:=Wt e;rw[ZO _ _ _ _ (WX hb)];exact V6 _ e
  ·rw[Heap.size_update,size_push'];exact Nat.le_succ _
 ·obtain⟨e1,e2⟩:=yG T hp;have zl:out.length=ts.length:=by rw[hp.length_eq,VS]
  refine{.ref l,_,I.laid (t':=tk) (o:=.lst ((out.map (Mw H)).map vd)) kp hle ?_,rfl,q l _ (I.bY.fresh hle) e2 ?_}
  ·refine{by rw[VS,VS,zl,XI];lia,out,n,?_,ho}
   have:=pq (out.map (Mw H));rw[<- e1]at this;exact this
  ·rw[WJ];refine hs.imp_of_mem λ{x y} hx hy hh=>?_;obtain⟨t,ht,rfl⟩:=V4.mp (hp.mem_iff.mp hx);obtain⟨t',Pl,rfl⟩:=V4.mp (hp.mem_iff.mp hy);exact hh
end
end L2
namespace ST
open PySem PyProof.Rows
section
variable {prog:V2}{w:Wm}{A:Xd}{E:VT->VY->Prop}{s:VY}
variable {a b:Addr}{o:Obj}{ts:List (Addr×List Int)}{es:Array (Int×VT)}{ep:Nat}{t:SetTable}{k:List Int}
def gh.at (S:gh prog w o ts es ep t){i:Nat}(hi:i<t.place.size):∃x,ts[i]?=some x/\es[i]?=some (ent prog w x):=by
 have hl:i<ts.length:=by rw[<- S.size.2];exact hi
 exact{ts[i],Wh hl,by rw[<- Wo,S.J6,Wg,Wh hl];rfl}
def Bj (S:gh prog w o ts es ep t):t.gaveWay=false:=by
 obtain⟨j,hj,e⟩:=S.wf.F5;unfold SetTable.gaveWay;rw[e];obtain⟨i,rfl⟩:∃i,j=i+1:={j-1,by lia}
 have:0<2 ^ i:=ZH (by decide)
 rw[Zp];have:(2 ^ i*2-1) % 2=1:=by lia
 rw[this];rfl
def oj (ho:s.heap.get? a=some o)(S:gh prog w o ts es ep t)(T:JQ prog w s.heap ts)(hk:(TK prog w).is s.heap k b)(hu:A.units<Yo){kS:Bool}{N:Nat}{Q:SetFound->VY->Prop}
  (hN:¬ rS t (cR t.mask (kH prog w k) N)) (hO:∀x,x<N->rS t (cR t.mask (kH prog w k) x)) (VM:N<10*SetTable.turns t.mask)
  (Qf:(∀x∈ts,x.2≠k)->Q (.free (cR t.mask (kH prog w k) N) false) s) (Qt:∀i:Option Nat,(∃x∈ts,x.2=k)->(kS=false->i.isSome=true)->Q (.there i) s) :
  ∀(d n f:Nat) (Ah:Option SetTable.Probe),Ah.getD (Oe t.mask (kH prog w k))=gE t.mask (kH prog w k) n->n+d=N->d<f ->
   (∀m,m<n->∀i x,i<t.place.size->g t.place i=cR t.mask (kH prog w k) m->ts[i]?=some x->x.2≠k) ->
   WM (model prog w) A (setSearchFrom a (.ref b) (kH prog w k) kS f Ah) Q E s:=by
 intro d
 induction d using YU with
 |_ d ih =>
  intro n f Ah LH pN NG Ms;obtain⟨f,rfl⟩:∃f',f=f'+1:={f-1,by lia}
  unfold setSearchFrom;refine VV (Yd ho S.dat S.fits ?_);dsimp only;rw[Bj S,if_neg (by simp)]
  rw[Hh,LH];generalize R8:SetTable.probe t _ (kH prog w k) (gE t.mask (kH prog w k) n)=pr;have hash:∀i x,i<t.place.size->ts[i]?=some x->(es[i]?.map (·.1)).getD 0=kH prog w x.2:=λi x hi hx=>by
   obtain⟨y,h1,h2⟩:=S.at hi;rw[hx]at h1;obtain rfl:=WA h1;rw[h2];rfl
  rcases sQ S.wf (λi=>(es[i]?.map (·.1)).getD 0) (kH prog w k) hN hO d n (10*SetTable.turns t.mask) pN (by lia)with⟨q1,q2⟩|⟨m,i,q1,q2,q3,q4,q5,q6,q7⟩
  ·have e:pr=some (.empty (cR t.mask (kH prog w k) N) none):=R8.symm.trans q1;rw[e];dsimp only;refine Wd (Qf λx hx Dc=>?_);obtain⟨i,hi⟩:=ZK hx;have Gm:i<t.place.size:=by
    rw[S.size.2];exact(Ww.mp hi).1
   obtain⟨n',g1,g2⟩:=S.wf.Rq i (kH prog w x.2) (by rw[Wg,hi];rfl)
   rw[Dc]at g1 g2;have Ji:n'<N:=by
    rcases W8 n' N with z|z
    ·exact z
    ·rcases W8 N n' with z2|z2
     ·exact absurd (g2 N z2) hN
     ·obtain rfl:N=n':=by lia
      exact absurd {(i),Gm,g1.symm} hN
   rcases W8 n' n with z|z
   ·exact Ms n' z i x Gm g1.symm hi Dc
   ·exact q2 n' z Ji i Gm g1.symm (by rw[hash i x Gm hi,Dc])
  ·have e:pr=some (.candidate (cR t.mask (kH prog w k) m) i (gE t.mask (kH prog w k) (m+1))):=R8.symm.trans q6;rw[e];dsimp only;obtain⟨x,Gi,LC⟩:=S.at q3;have Pf:x∈ts:=Xz Gi;have Gj:t.slot (cR t.mask (kH prog w k) m)=.live i:=by rw[<- q4];exact ph S.wf.C6 q3
   refine(λ(key:?G)=>?main) ?key
   case main =>
    cases hl:t.led with
    |true =>
     rw[if_neg (by simp)]
     exact key
    |false =>
     rw[if_pos (by simp)]
     have Pm:(es.filter (·.1==kH prog w k)).toList.map (·.2)=(ts.filter λx=>kH prog w x.2==kH prog w k).map λx=>Value.ref x.1:=by
      rw[Array.toList_filter,S.J6,List.filter_map,WR];rfl
     rw[Pm];refine VV (Dp hk _ (λy hy=>T y (VZ.mp hy).1) ?_);rw[if_neg (by simp)]
     exact key
   case key =>
    rw[LC];dsimp only;refine VV (Xo ((TK prog w).eqBool hu (T x Pf) hk ?_));refine VV (Yd ho S.dat S.fits ?_);dsimp only;have IS:t.sameMemory t.moves t.mask=some true:=by
     unfold SetTable.sameMemory;rw[if_pos (beq_self_eq_true _)]
    by_cases Dc:x.2=k
    ·rw[decide_eq_true Dc];cases kS with
     |true =>
      rw[if_pos (by rfl)]
      exact Wd (Qt none {(x),Pf,Dc} (λz=>by cases z))
     |false =>
      rw[if_neg (by simp),IS]
      dsimp only;rw[if_pos rfl,Gj];dsimp only;rw[LC];dsimp only;refine VV (wpAny_isSame_ref_self ?_);rw[if_pos rfl];refine VV (Wd ?_);exact Wd (Qt (some i) {(x),Pf,Dc} (λ_=>rfl))
    ·rw[decide_eq_false Dc,if_neg (by simp),IS]
     dsimp only;rw[if_pos rfl,Gj];dsimp only;rw[LC];dsimp only;refine VV (wpAny_isSame_ref_self ?_);rw[if_pos rfl];refine VV (Wd ?_);dsimp only;rw[if_neg (by simp)]
     refine ih (N-(m+1)) (by lia) (m+1) f _ rfl (by lia) (by lia) λm' Me i' x' h1 h2 h3=>?_
     rcases W8 m' n with z|z
     ·exact Ms m' z i' x' h1 h2 h3
     ·by_cases e2:m'=m
      ·subst e2;obtain rfl:=S.wf.C6.inj h1 q3 (h2.trans q4.symm);rw[Gi]at h3;obtain rfl:=WA h3;exact Dc
      ·intro z2;exact q7 m' z (by lia) i' h1 h2 (by rw[hash i' x' h1 h3,z2])
end
theorem uK (n:Nat):∀(f j:Nat),n<2 ^ (j+f)->∃j',j<=j'/\SetTable.sizeAbove.go n f (2 ^ j)=2 ^ j'/\n<2 ^ j'/\(j'=j\/2 ^ (j' - 1)<=n)
 |0,j,h=>{j,VR _,rfl,h,.inl rfl}
 |f+1,j,h=>by
  unfold SetTable.sizeAbove.go
  by_cases hc:2 ^ j<=n
  ·rw[if_pos hc,<- Zp];obtain⟨j',h1,h2,h3,h4⟩:=uK n f (j+1) (by rw[show j+1+f=j+(f+1) by lia];exact h)
   refine{j',by lia,h2,h3,.inr ?_}
   rcases h4 with rfl|h4
   ·exact hc
   ·exact h4
  ·rw[if_neg hc];exact{j,VR _,rfl,by lia,.inl rfl}
def CZ {n:Nat}(h:n<=4000):∃j,3<=j/\SetTable.sizeAbove n=2 ^ j/\n<2 ^ j/\2 ^ j<=8192:=by
 obtain⟨j,h1,h2,h3,h4⟩:=uK n 64 3 (Yy h (by decide))
 refine{j,h1,h2,h3,?_};rcases h4 with rfl|h4
 ·decide
 ·have:j-1<12:=by
   rcases W8 (j-1) 12 with z|z
   ·exact z
   ·have:2 ^ 12<=2 ^ (j-1):=YQ (by decide) z
    lia
  have:2 ^ j<=2 ^ 12:=YQ (by decide) (by lia)
  lia
def ET (d:Nat)(n:Int)(tk:Tok):hashByValue d (.int n tk)=pure true:=by
 cases d <;> rfl
section
variable {prog:V2}{w:Wm}{A:Xd}{E:VT->VY->Prop}{s:VY}
variable {a b:Addr}{o:Obj}{ts:List (Addr×List Int)}{es:Array (Int×VT)}{ep:Nat}{t:SetTable}{k:List Int}
def GX {Q:Bool->VY->Prop}(hk:(TK prog w).is s.heap k b)(q:Q true s):WM (model prog w) A (hashByValue 8 (.ref b)) Q E s:=by
 obtain⟨o,items,n,ho,hc,hd,hi⟩:=hk;have hT:s.TypeIs (.ref b) "tuple" := {(o),ho,hc};unfold hashByValue;refine VV (wpAny_specialOf hT F.slot_tuple_hash.lookup ?_);dsimp only;refine VV (wpAny_seqItems ho hd ?_);dsimp only[Option.getD_some];rw[<- Array.forIn_toList];refine VV (Z7 _ (λrest r s'=>r=(none,())/\s'=s/\∀v∈rest,∃n tk,v=Value.int n tk) _ ?_ ?_ _ _ {rfl,rfl,?_})
 ·rintro v rest r s' ⟨rfl,rfl,oO⟩;obtain⟨n,tk,rfl⟩:=oO v V0;rw[ET];refine VV (Wd ?_);rw[if_neg (by simp)]
  exact Wd {rfl,rfl,λu hu=>oO u (V8 _ hu)}
 ·rintro r s' ⟨rfl,rfl,_⟩;exact Wd q
 ·generalize items.toList=vs at hi
  induction hi with
  |nil=>intro v hv;cases hv
  | @cons k v ks vs h1 h2 ih =>
   intro u hu;rcases VX.mp hu with rfl|hu
   ·obtain⟨t,rfl⟩:=ZY h1;exact{_,_,rfl}
   ·exact ih u hu
def o3 (ho:s.heap.get? a=some o)(S:gh prog w o ts es ep t)(T:JQ prog w s.heap ts)(hk:(TK prog w).is s.heap k b)(hu:A.units<Yo){kS:Bool}{Q:SetFound->VY->Prop}
  (Qf:∀N,(∀x∈ts,x.2≠k)->¬ rS t (cR t.mask (kH prog w k) N)->(∀x,x<N->rS t (cR t.mask (kH prog w k) x))->Q (.free (cR t.mask (kH prog w k) N) false) s)
  (Qt:∀i:Option Nat,(∃x∈ts,x.2=k)->(kS=false->i.isSome=true)->Q (.there i) s) :
  WM (model prog w) A (setSearch a (.ref b) (kH prog w k) kS) Q E s:=by
 obtain⟨N,h1,h2,h3⟩:=S.wf.first (kH prog w k)
 have hm:=S.F5;unfold setSearch;exact oj ho S T hk hu h2 h3 h1 (λq=>Qf N q h2 h3) Qt N 0 100000 none rfl (Xg N) (by unfold SetTable.turns at h1;lia) λm hm=>by lia
def rZ (ho:s.heap.get? a=some o)(S:gh prog w o ts es ep t)(T:JQ prog w s.heap ts)(hk:(TK prog w).is s.heap k b)(hu:A.units<Yo){Q:Bool->VY->Prop}
  (q:Q (decide (∃x∈ts,x.2=k)) {s with toks:=s.toks+(k.length+1)}):WM (model prog w) A (setContains a (.ref b)) Q E s:=by
 unfold setContains;refine Xo ?_;refine VV ((TK prog w).pyHash hu hk ?_);unfold setFind setFindIn;refine VV (VV (Yd (s:={s with toks:=s.toks+(TK prog w).draws k}) ho S.dat S.fits ?_))
 dsimp only;rw[if_neg (by simp[byScan,Value.scannable])]
 refine VV (o3 (s:={s with toks:=s.toks+(TK prog w).draws k}) ho S T hk hu (λN g1 g2 g3=>?_) λi g1 g2=>?_)
 ·dsimp only;refine Wd (Wd ?_);rw[decide_eq_false (λt9=>by obtain⟨x,hx,e⟩:=t9;exact g1 x hx e)]at q
  exact q
 ·dsimp only;refine Wd (Wd ?_);rw[decide_eq_true g1]at q;rw[g2 rfl];exact q
def xB {h:Heap}(ho:h.get? a=some o)(hd:o.data=.set es ep t)(fO:Array (Int×VT))(t':SetTable):(h.update a (ZQ fO t')).get? a=some {o with data:=.set fO (ep+1) t'}:=by
 have e:=Heap.get?_update_self (ZQ fO t') ho (by rw[putSet_of fO t' hd];rfl)
 rw[e,putSet_of fO t' hd]
def AV {α:Type}(l:List α)(p:Nat)(x:α):(l.take p++x::l.drop p).Perm (x::l):=by
 refine Zk.trans (List.Perm.cons x ?_);rw[XQ]
def zU (ho:s.heap.get? a=some o)(hx:o.ExactSet)(hd:o.data=.set es ep t)(he:es.toList=ts.map (ent prog w))(hw:WF t (ts.map λx=>kH prog w x.2))(VD:0<ts.length)(hn:ts.length<=1000)
  (Qn:t.led=!w.params.followText "set-order") (hpl:t.plain=true) (pN:(ts.map (·.2)).Nodup) {Q:Unit->VY->Prop}
  (q:∀(b_:List (Addr×List Int)) (fO:Array (Int×VT)) (t':SetTable),b_.Perm ts->gh prog w {o with data:=.set fO (ep+1) t'} b_ fO (ep+1) t'->Q () {s with heap:=s.heap.update a (ZQ fO t')}) :
  WM (model prog w) A (setRelay a (SetTable.grown ts.length)) Q E s:=by
 have hz:es.size=ts.length:=by rw[<- Wa,he,VS]
 have hp:t.place.size=ts.length:=by have:=hw.sz;rw[VS]at this;exact this
 have hf:t.fits es.size=true:=by
  unfold SetTable.fits SetTable.fill;rw[hw.J7,hz,hp];have:=hw.room;simp;lia
 unfold setRelay;refine VV (Yd ho hd hf ?_);dsimp only;have hg:SetTable.grown ts.length=ts.length*4:=by unfold SetTable.grown;rw[if_neg (by lia)]
 rw[hg];obtain⟨j,j3,ja,jb,jc⟩:=CZ (n:=ts.length*4) (by lia)
 rw[ja,if_neg (by rw[XI];lia)]
 have hs:(es.map (·.1)).size=ts.length:=by rw[Array.size_map,hz]
 obtain⟨t',order,e1,e2,e3,e4,e5,e6,e7,e8⟩:=ED (hs:=es.map (·.1)) j3 (by lia) t.finger (t.movedTo (2 ^ j-1)) t.led t.plain
 rw[hs]at e6 e8;have er:t.relaid (es.map (·.1)) (ts.length*4)=some (t',order):=by
  unfold SetTable.relaid;rw[ja];exact e1
 rw[er];have gd:∀i,i<ts.length->es[i]?=some (ent prog w (ts.getD i (0,[]))):=λi hi=>by
  rw[<- Wo,he,Wg,Wh hi,Xc,Wh hi];rfl
 have lV:(order.filterMap (es[·]?)).toList=(order.toList.map λi=>ts.getD i (0,[])).map (ent prog w):=by
  rw[Array.toList_filterMap,WR];have:∀l:List Nat,(∀i∈l,i<ts.length)->l.filterMap (es[·]?)=l.map (ent prog w ∘ λi=>ts.getD i (0,[])):=λl=>by
   induction l with
   |nil=>intro _;rfl
   |cons i l ih =>
    intro h;rw[WW,gd i (h i V0),Ws,ih λy hy=>h y (V8 _ hy)];rfl
  exact this _ λi hi=>V3.mp (e6.mem_iff.mp hi)
 have BW:(order.toList.map λi=>ts.getD i (0,[])).Perm ts:=by
  refine(e6.map _).trans (ZC ?_);apply Zc;intro i;rw[Wg]
  by_cases hi:i<ts.length
  ·rw[XN hi,Wh hi];show some (ts.getD i (0,[]))=_;rw[Xc,Wh hi];rfl
  ·rw[Xw (by rw[We];lia),Xw (by lia)]
   rfl
 have hsz:(order.filterMap (es[·]?)).size=es.size:=by
  rw[<- Wa,lV,VS,BW.length_eq,hz]
 refine VV ?_;show WM _ _ (if (order.filterMap (es[·]?)).size != es.size then _ else _) _ _ _
 rw[hsz,if_neg (by simp)]
 refine Wd ?_;dsimp only;refine wpAny_storeSet_of ho hd (q _ _ t' BW {hx,rfl,lV,?_,?_,by lia,e3.trans Qn,e4.trans hpl,?_}) (by rw[hsz,hz,XI];lia)
 ·rw[WR];have:(order.toList.map λi=>(es.map (·.1)).getD i 0)=order.toList.map ((λx=>kH prog w x.2) ∘ λi=>ts.getD i (0,[])):=by
   refine Wu λi hi=>?_;have hi:=V3.mp (e6.mem_iff.mp hi);rw[Wl,Array.getElem?_map,gd i hi];rfl
  rw[<- this];exact e7
 ·rw[e8,e2];lia
 ·exact((BW.map (·.2)).nodup_iff).mpr pN
def z5 (ho:s.heap.get? a=some o)(S:gh prog w o ts es ep t)(T:JQ prog w s.heap ts)(hk:(TK prog w).is s.heap k b)(hu:A.units<Yo)(hn:ts.length<1000)(f:Nat){Q:Bool->VY->Prop}
  (q:∀(h':Heap) (o':Obj) (b_:List (Addr×List Int)) (fO:Array (Int×VT)) (wb:Nat) (t':SetTable) (added:Bool),X7 a s.heap h'->h'.get? a=some o'->gh prog w o' b_ fO wb t' ->
   ((∃x∈ts,x.2=k)->b_=ts)->((∀x∈ts,x.2≠k)->b_.Perm ((b,k)::ts))->Q added {s with heap:=h'}) :
  WM (model prog w) A (setAddHashedIn a (.ref b) (kH prog w k) (f+1)) Q E s:=by
 unfold setAddHashedIn;refine VV (Yd ho S.dat S.fits ?_);dsimp only;rw[if_neg (by simp[byScan,Value.scannable])]
 refine VV (o3 ho S T hk hu (λN g1 g2 g3=>?_) λi g1 g2=>?_)
 ·dsimp only;refine VV (Yd ho S.dat S.fits ?_);dsimp only;have hr:t.place.size+1<=t.mask:=by
   have:=S.Oo;obtain⟨j,hj,e⟩:=S.wf.F5;have:2 ^ 3<=2 ^ j:=YQ (by decide) hj
   lia
  obtain⟨W,hp⟩:=S.wf.put (lH _ _ _) g2 g3 hr;have pe:(t.put (cR t.mask (kH prog w k) N)).1.plain=t.plain/\(t.put (cR t.mask (kH prog w k) N)).1.led=t.led/\(t.put (cR t.mask (kH prog w k) N)).1.mask=t.mask:={(rfl),rfl,rfl};have pf:(t.put (cR t.mask (kH prog w k) N)).1.dummies=#[]:=W.J7;generalize (t.put (cR t.mask (kH prog w k) N)).1=t1 at *
  generalize (t.put (cR t.mask (kH prog w k) N)).2=p at *
  obtain⟨OR,Ry,Tz⟩:=pe;rw[OR,S.Ni,if_pos rfl];refine VV (GX hk ?_);rw[if_pos rfl];have hz:=S.size;have Jv:(SetTable.insertAt es p (kH prog w k,Value.ref b)).toList=(ts.take p++(b,k)::ts.drop p).map (ent prog w):=by
   rw[nh,S.J6,Wv,Ws,Ze,List.map_drop]
  have W1:WF t1 ((ts.take p++(b,k)::ts.drop p).map λx=>kH prog w x.2):=by
   rw[Wv,Ws,Ze,List.map_drop];exact W
  have pm:(ts.take p++(b,k)::ts.drop p).Perm ((b,k)::ts):=AV ts p (b,k);have gB:(ts.take p++(b,k)::ts.drop p).length=ts.length+1:=pm.length_eq;have Er:((ts.take p++(b,k)::ts.drop p).map (·.2)).Nodup:=by
   refine((pm.map (·.2)).nodup_iff).mpr ?_;rw[Ws,WB];exact⟨λhm=>by
    obtain⟨x,hx,e⟩:=V4.mp hm;exact g1 x hx e,S.RM⟩
  have Dy:(SetTable.insertAt es p (kH prog w k,Value.ref b)).size=ts.length+1:=by rw[<- Wa,Jv,VS,gB]
  have Vu:t1.place.size=ts.length+1:=by have:=W1.sz;rw[VS,gB]at this;exact this
  refine VV (wpAny_storeSet_of ho S.dat ?_ (by rw[Dy,XI];lia))
  have Qb:=xB ho S.dat (SetTable.insertAt es p (kH prog w k,Value.ref b)) t1;have Ro:X7 a s.heap (s.heap.update a (ZQ (SetTable.insertAt es p (kH prog w k,Value.ref b)) t1)):=Heap.SameBut.update _ _ _;have fin:∀(h':Heap) (o':Obj) (b_:List (Addr×List Int)) (fO:Array (Int×VT)) (wb:Nat) (t':SetTable),X7 a s.heap h'->h'.get? a=some o'->gh prog w o' b_ fO wb t'->b_.Perm (ts.take p++(b,k)::ts.drop p)->Q true {s with heap:=h'} :=
   λh' o' b_ fO wb t' q1 q2 q3 q4=>q h' o' b_ fO wb t' true q1 q2 q3 (λzb=>by obtain⟨x,hx,e⟩:=zb;exact absurd e (g1 x hx)) λ_=>q4.trans pm
  by_cases ub:t1.tooFull=true
  ·rw[ub,if_pos (by rfl)]
   have Mn:SetTable.grown (es.size+1)=SetTable.grown (ts.take p++(b,k)::ts.drop p).length:=by rw[gB,hz.1]
   rw[Mn];refine VV (zU (s:={s with heap:=s.heap.update a (ZQ (SetTable.insertAt es p (kH prog w k,Value.ref b)) t1)}) Qb S.ex rfl Jv W1 (by lia) (by lia) (Ry.trans S.led) (OR.trans S.Ni) Er λb_ fO t' r1 r2=>Wd ?_)
   have Um:=xB Qb rfl fO t';exact fin _ _ b_ fO _ t' (Ro.trans (Heap.SameBut.update _ _ _)) Um r2 r1
  ·rw[if_neg (by simpa using ub)]
   refine Wd (fin _ _ _ _ _ _ Ro Qb {S.ex,rfl,Jv,W1,?_,by rw[Tz];exact S.F5,Ry.trans S.led,OR.trans S.Ni,Er} (.refl _))
   unfold SetTable.tooFull SetTable.fill at ub;rw[pf]at ub;simp at ub;lia
 ·dsimp only;exact Wd (q s.heap o ts es ep t false (Heap.SameBut.refl _ _) ho S (λ_=>rfl) λg=>absurd g1 λy_=>by obtain⟨x,hx,e⟩:=y_;exact g x hx e)
def GZ (ho:s.heap.get? a=some o)(S:gh prog w o ts es ep t)(T:JQ prog w s.heap ts)(hk:(TK prog w).is s.heap k b)(hu:A.units<Yo)(hn:ts.length<1000){Q:Bool->VY->Prop}
  (q:∀(h':Heap) (o':Obj) (b_:List (Addr×List Int)) (fO:Array (Int×VT)) (wb:Nat) (t':SetTable) (added:Bool) (tk:Nat),s.toks<=tk->X7 a s.heap h'->h'.get? a=some o'->gh prog w o' b_ fO wb t' ->
   ((∃x∈ts,x.2=k)->b_=ts)->((∀x∈ts,x.2≠k)->b_.Perm ((b,k)::ts))->Q added {s with heap:=h',toks:=tk}) :
  WM (model prog w) A (setAdd a (.ref b)) Q E s:=by
 unfold setAdd;refine Xo ?_;refine VV ((TK prog w).pyHash hu hk ?_);unfold setAddHashed;refine Xo ?_;exact z5 (s:={s with toks:=s.toks+(TK prog w).draws k}) ho S T hk hu hn 99999 λh' o' b_ fO wb t' added r1 r2 r3 r4 r5=>q h' o' b_ fO wb t' added _ (Nat.le_add_right _ _) r1 r2 r3 r4 r5
end
section
variable {w:Wm}
abbrev SG (w:Wm):Bool:=w.params.followText "set-order"
end
section
variable {prog:V2}{w:Wm}{s:VY}
variable {a:Addr}{o:Obj}{ts:List (Addr×List Int)}{es:Array (Int×VT)}{ep:Nat}{t:SetTable}
def mq (ho:s.heap.get? a=some o) (S:gh prog w o ts es ep t):s.TypeIs (.ref a) "set" := {(o),ho,S.ex.1}
theorem sW {α β:Type}{f:α->β}:∀{ts:List α} {l:List β},l.Perm (ts.map f)->∃us:List α,us.Perm ts/\l=us.map f
 |[],l,h=>{[],.refl _,List.perm_nil.mp h}
 |x::ts,l,h=>by
  obtain⟨l1,l2,rfl⟩:=ZR (h.mem_iff.mpr (show f x∈(x::ts).map f from V0))
  have h':(l1++l2).Perm (ts.map f):=(Zk.symm.trans h).cons_inv;obtain⟨us,h1,h2⟩:=sW h';obtain⟨u1,u2,rfl,e1,e2⟩:=List.map_eq_append_iff.mp h2.symm;refine{u1++x::u2,Zk.trans (h1.cons x),?_};rw[Wv,Ws,e1,e2]
end
section
variable {prog:V2}{w:Wm}{A:Xd}{E:VT->VY->Prop}{s:VY}
def vI (w:Wm):Obj:={cls:=.type "set",dict:=none,data:=.set #[] 0 (.fresh 0 0 (!SG w))}
def Em (prog:V2)(w:Wm):gh prog w (vI w) [] #[] 0 (.fresh 0 0 (!SG w)) where
 ex:={(rfl),rfl,rfl}
 dat:=rfl
 J6:=rfl
 wf:={rfl,rfl,λi j _ hj=>absurd hj (Nat.not_lt_zero _),λi hi=>absurd hi (Nat.not_lt_zero _),{3,VR _,rfl},V_ _,λi h hi=>by simp at hi}
 Oo:=by show 0*5<7*3;decide
 F5:=by show 7<=8191;decide
 led:=rfl
 Ni:=rfl
 RM:=W9
def Bw {xs:List VT} {R:VT->VY->Prop} (hc:checkBuiltinCall "set.__new__" {.type "set" :: xs,[]}=pure ()) (hx:xs=[]\/∃v,xs=[v]) (q:R (.ref s.heap.objs.size) {s with heap:=s.heap.push (vI w)}) :
  Zn (model prog w) A (.call (.builtin "set.__new__") {.type "set" :: xs,[]}) (wants R E) s:=by
 refine codeAny_of_tree ?_;show WM _ A.in1 (checkBuiltinCall "set.__new__" {.type "set" :: xs,[]} >>= λ_=>again (.builtin "set.__new__" {.type "set" :: xs,[]})) _ _ s;refine VV (wpAny_of_eq hc (Wd {plainId_quiet F.plain_set_new _,codeAny_builtin F.entry_set_new ?_}));rw[Around.under_plainId F.plain_set_new _];unfold ZN.«set.__new__» Builtin.Frozenset.newClass;have S9:=sub_set_self;obtain⟨hp,gs,dr,tk,os⟩:=s;rcases hx with rfl|⟨v,rfl⟩
 all_goals
  dsimp only
  wp_walk
  refine wpAny_askSetting (Wd ?_);dsimp only;simp only[newObj];exact VV (wpAny_alloc (Wd (Wd q)))
end
end ST
namespace TS
open PySem PyProof.Rows
end TS
namespace ST
open PySem PyProof.Rows
end ST
namespace L2
open PySem PySem.Spec PySem.SeqAt PyProof.Rows HT
theorem i5:∀{a b:List Int},lexLt a b=false->lexLt b a=false->a=b
 |[],[],_,_=>rfl
 |[],_::_,h,_=>by cases h
 |_::_,[],_,h=>by cases h
 |x::xs,y::ys,h1,h2=>by
  rw[i4]at h1 h2
  by_cases e:x=y
  ·subst e;rw[if_pos rfl]at h1 h2;rw[i5 h1 h2]
  ·rw[if_neg e]at h1;rw[if_neg (λz=>e z.symm)]at h2;have:=of_decide_eq_false h1;have:=of_decide_eq_false h2;omega
theorem m8:∀{a b:List Int},lexLt a b=true->lexLt b a=false
 |[],[],h=>by cases h
 |[],_::_,_=>rfl
 |_::_,[],h=>by cases h
 |x::xs,y::ys,h=>by
  rw[i4]at h ⊢
  by_cases e:x=y
  ·subst e;rw[if_pos rfl]at h ⊢
   exact m8 h
  ·rw[if_neg e]at h;rw[if_neg (λz=>e z.symm)];have:=of_decide_eq_true h;exact decide_eq_false (by lia)
theorem lh:∀{a b c:List Int},lexLt a b=true->lexLt b c=true->lexLt a c=true
 |[],[],_,h,_=>by cases h
 |[],_::_,[],_,h=>by cases h
 |[],_::_,_::_,_,_=>rfl
 |_::_,[],_,h,_=>by cases h
 |x::xs,y::ys,[],_,h=>by cases h
 |x::xs,y::ys,z::zs,h1,h2=>by
  rw[i4]at h1 h2 ⊢
  by_cases e:x=y
  ·subst e;rw[if_pos rfl]at h1
   by_cases e2:x=z
   ·subst e2;rw[if_pos rfl]at h2 ⊢
    exact lh h1 h2
   ·rw[if_neg e2]at h2 ⊢
    exact h2
  ·rw[if_neg e]at h1;have q1:=of_decide_eq_true h1
   by_cases e2:y=z
   ·subst e2;rw[if_neg e];exact h1
   ·rw[if_neg e2]at h2;have q2:=of_decide_eq_true h2;rw[if_neg (by omega)]
    exact decide_eq_true (by omega)
noncomputable def vW (k:List Int):List (List Int)->List (List Int)
 |[]=>[k]
 |x::xs=>if lexLt x k=true then x::vW k xs else k::x::xs
def ly:List (List Int)->List (List Int)
 |[]=>[]
 |k::ks=>vW k (ly ks)
theorem kG (k:List Int):∀xs,(vW k xs).Perm (k::xs)
 |[]=>.refl _
 |x::xs=>by
  unfold vW
  split
  ·exact((kG k xs).cons x).trans (List.Perm.swap _ _ _)
  ·exact .refl _
theorem ml:∀ks,(ly ks).Perm ks
 |[]=>.refl _
 |k::ks=>(kG k (ly ks)).trans ((ml ks).cons k)
abbrev uN (ks:List (List Int)):Prop:=ks.Pairwise λx y=>HT.lexLt y x=false
def le_trans' {a b c:List Int}(h1:lexLt b a=false)(h2:lexLt c b=false):lexLt c a=false:=by
 cases h:lexLt c a with
 |false=>rfl
 |true =>
  cases hb:lexLt a b with
  |true=>rw[lh h hb]at h2;cases h2
  |false =>
   have:=i5 hb h1;subst this;rw[h]at h2;cases h2
theorem pM (k:List Int):∀xs,uN xs->uN (vW k xs)
 |[],_=>by simp[vW]
 |x::xs,h=>by
  obtain⟨h1,h2⟩:=WE.mp h;unfold vW
  split
  ·rename_i hx
   refine WE.mpr {λy hy=>?_,pM k xs h2};rcases VX.mp ((kG k xs).mem_iff.mp hy)with rfl|hy
   ·exact m8 hx
   ·exact h1 y hy
  ·rename_i hx
   have zN:lexLt x k=false:=by cases q:lexLt x k <;> simp_all
   refine WE.mpr {λy hy=>?_,h};rcases VX.mp hy with rfl|hy
   ·exact zN
   ·exact le_trans' zN (h1 y hy)
theorem mh:∀ks,uN (ly ks)
 |[]=>.nil
 |k::ks=>pM k _ (mh ks)
theorem kZ:∀{a b:List (List Int)},a.Perm b->uN a->uN b->a=b
 |[],b,p,_,_=>by rw[List.nil_perm.mp p]
 |x::a,[],p,_,_=>by have:=p.length_eq;simp at this
 |x::a,y::b,p,ha,hb=>by
  obtain⟨a1,a2⟩:=WE.mp ha;obtain⟨b1,b2⟩:=WE.mp hb;have Pe:x=y:=by
   rcases VX.mp (p.mem_iff.mp (V0 (a:=x) (l:=a)))with h|h
   ·exact h
   ·rcases VX.mp (p.mem_iff.mpr (V0 (a:=y) (l:=b)))with h' | h'
    ·exact h'.symm
    ·exact i5 (b1 x h) (a1 y h')
  subst Pe;rw[kZ (List.perm_cons x |>.mp p) a2 b2]
def Ai {a b:List (List Int)}(p:a.Perm b)(h:uN a):a=ly b:=kZ (p.trans (ml b).symm) h (mh b)
abbrev kD (k:List Int):D:=.tup (k.map D.int)
noncomputable def iH:List D->Option (List (List Int))
 |[]=>some []
 |.tup a::ds=>match dM a,iH ds with
  |some k,some ks=>if k=[] then none else some (k::ks)
  |_,_=>none
 |_::_=>none
theorem tV:∀{ds:List D} {ks:List (List Int)},iH ds=some ks->ds=ks.map kD/\∀k∈ks,k≠[]
 |[],_,h=>by cases h;exact{rfl,λ_ z=>nomatch z}
 |.tup a::ds,ks,h=>by
  have h':(match dM a,iH ds with|some k,some ks=>if k=[] then none else some (k::ks)|_,_=>none)=some ks:=h
  cases ea:dM a with
  |none=>rw[ea]at h';cases h'
  |some k =>
   cases eb:iH ds with
   |none=>rw[ea,eb]at h';cases h'
   |some kr =>
    rw[ea,eb]at h'
    by_cases hk:k=[]
    ·simp[hk]at h'
    ·simp only[hk,if_false,Z0]at h';subst h';obtain⟨h1,h2⟩:=tV eb;rw[Ws,<- h1,t6 ea];refine{rfl,λx hx=>?_};rcases VX.mp hx with rfl|hx
     ·exact hk
     ·exact h2 x hx
 |.ck::_,_,h=>by cases h
 |.bl _::_,_,h=>by cases h
 |.str _::_,_,h=>by cases h
 |.obj _::_,_,h=>by cases h
 |.int _::_,_,h=>by cases h
 |.lst _::_,_,h=>by cases h
 |.dT _ _::_,_,h=>by cases h
 |.dK _ _::_,_,h=>by cases h
 |.sT _::_,_,h=>by cases h
 |.ob _::_,_,h=>by cases h
theorem pH:∀{ks:List (List Int)},(∀k∈ks,k≠[])->iH (ks.map kD)=some ks
 |[],_=>rfl
 |k::ks,h=>by
  show (match dM (k.map D.int),iH (ks.map kD)with|some k,some ks=>if k=[] then none else some (k::ks)|_,_=>none)=_
  rw[pL,pH λx hx=>h x (V8 _ hx)];simp[h k (V0 ..)]
section
variable {P:V2}{w:Wm}{W:Addr->Prop}{H:Hp}
theorem pG:∀{ks:List (List Int)} {vs:List V},(∀k∈ks,k≠[])->ai P w W H (ks.map kD) vs->∃ts:List (Addr×List Int),vs=ts.map vd/\FE H ts/\ts.map (·.2)=ks
 |[],_,_,h=>{[],h,(λ_ z=>nomatch z),rfl}
 |k::ks,_,hk,⟨v,r,e,⟨a,us,e1,e2,e3⟩,h2⟩=>by
  obtain⟨ts,q1,q2,q3⟩:=pG (λx hx=>hk x (V8 _ hx)) h2;refine{(a,k)::ts,by rw[e,e1,q1];rfl,λt ht=>?_,by rw[Ws,q3]}
  rcases VX.mp ht with rfl|ht
  ·rw[bw e3]at e2;exact{e2,hk k (V0 ..)}
  ·exact q2 t ht
theorem pk:∀{ts:List (Addr×List Int)},(∀t∈ts,H t.1=some (.tup (t.2.map V.int)))->ai P w W H ((ts.map (·.2)).map kD) (ts.map vd)
 |[],_=>rfl
 |t::ts,h=>{_,_,rfl,{t.1,_,rfl,h t (V0 ..),pK t.2},pk λx hx=>h x (V8 _ hx)}
noncomputable def rF:List D->Option D
 |[.lst ds]=>match iH ds with
  |some ks=>if ks.length<=1000000 then some (.lst ((ly ks).map kD)) else none
  |none=>none
 |[.sT ts]=>if ts.length<=1000/\(∀k∈ts,k≠[]) then some (.lst ((ly ts).map kD)) else none
 |_=>none
theorem BH:∀{ns:List Int} {its:List VT},Vals (ns.map V.int) its->ItemsAre (intKind P w) ns its
 |[],_,.nil=>.nil
 |n::ns,_,.cons r t=>by
  obtain⟨tk,rfl⟩:=r;exact .cons (by show Value.isInt n (.int n tk)=true;simp[Value.isInt]) (BH t)
def qt {h:Heap}{ts:List (Addr×List Int)}(ok:jl P w H h)(T:∀t∈ts,H t.1=some (.tup (t.2.map V.int))):ST.JQ P w h ts:=λt ht=>by
 obtain⟨_,its,r,o,ho,hc,n,hd⟩:=(show b9 P w H h t.1 (.tup (t.2.map V.int)) from ok _ _ (T t ht))
 refine{o,its.toArray,n,ho,hc,hd,?_};exact BH r
end
def tu (ns:List Int):Prop:=∃x y:Int,ns=[x,y]/\0<=x/\0<=y/\y<2147483647
def Hand.ok {H:Hp}{h:Addr}(d:Hand H h):∃ns,H h=some (.lst (ns.map V.int))/\tu ns:=by
 obtain⟨x,y,e,h1,h2,h3⟩:=d;exact{[x,y],e,x,y,rfl,h1,h2,h3}
def tu.hand {H:Hp}{h:Addr}{ns:List Int}(e:H h=some (.lst (ns.map V.int)))(o:tu ns):Hand H h:=by
 obtain⟨x,y,rfl,h1,h2,h3⟩:=o;exact{(x),y,e,h1,h2,h3}
def gY:FD:=λds R=>∃n:Int,ds=[.int n]/\0<n/\n<2 ^ 200/\∀r:Int,0<=r->r<n->R (.int r)
def gY.mono:dc gY:=λds R R' k ⟨n,e,h1,h2,q⟩=>{n,e,h1,h2,λr a b=>k _ (q r a b)}
section
variable {X:Cx}{W:Addr->Prop}{H:Hp}
def En {p:Addr}{vs:List V}{ds:List D}(n:H p=none)(f:NL (.lst ds))(r:uP X W H ds vs):Rp X (λa=>H a≠none) (upd H p (.lst vs)) (.lst ds) (.ref p) :=
 {p,vs,rfl,ao,λz=>z n,ai.flat f (r.same (aE.new n))}
def Oz (X:Cx)(f:D->D->Option D):R2:=λx y H Q=>∃W d1 d2 d,Dm W H/\Rp X W H d1 x/\Rp X W H d2 y/\f d1 d2=some d/\∀v H',aE H H'->Rp X W H' d v->(NL d->Rp X (λa=>H a≠none) H' d v)->Q v H'
def Oy (X:Cx)(f:List D->Option D):List V->Hp->VK->Prop:=λxs H Q=>∃W ds d,Dm W H/\uP X W H ds xs/\f ds=some d/\∀v H',aE H H'->Rp X W H' d v->(NL d->Rp X (λa=>H a≠none) H' d v)->Q v H'
def KD (X:Cx)(f:D->Option Int->Option Int->Option D):V->Option Int->Option Int->Hp->VK->Prop:=λx lo hi H Q=>∃W d1 d,Dm W H/\Rp X W H d1 x/\f d1 lo hi=some d/\∀v H',aE H H'->Rp X W H' d v->(NL d->Rp X (λa=>H a≠none) H' d v)->Q v H'
abbrev M0 (X:Cx)(f:VT->VT->Sem VT)(g:D->D->Option D):Prop:=jk X f (Oz X g)
abbrev JX (X:Cx)(f:VT)(g:List D->Option D):Prop:=fM X f (Oy X g)
def aJ:M0 X (XX .Add) Fn:=by
 intro pins s σ H x y v u Q I rx ry h;obtain⟨W,d1,d2,d,hd,r1,r2,e,q⟩:=h;rcases yR e with⟨a,b,rfl,rfl,e⟩|e
 ·obtain⟨hl,rfl⟩:=fq e;obtain⟨p,vs,rfl,h1,n1,q1⟩:=r1;obtain⟨p',vs',rfl,h2,n2,q2⟩:=r2;exact Bf pins s σ H _ _ v u Q I rx ry {p,p',vs,vs',rfl,rfl,h1,h2,by rw[q1.length,q2.length];exact hl,λl pO=>q _ _ (aE.new pO) (Rp.rd hd pO (q1.append q2)) λf=>En pO f (q1.append q2)}
 ·obtain⟨i,j,rfl,rfl,e⟩:=kB e;cases e;cases r1;cases r2;exact vE pins s σ H _ _ v u Q I rx ry {i,j,rfl,rfl,q _ _ (aE.refl _) rfl λ_=>rfl}
def DF:Q0 X (KD X MF):=by
 intro pins s σ H x v vl vu lo hi sl Q I rx hs pl pu h;obtain⟨W,d1,d,hd,r1,e,q⟩:=h;cases d1 with
 |lst ds =>
  cases e;obtain⟨p,vs,rfl,h1,n1,q1⟩:=r1;have rr:uP X W H (cutD ds lo hi) (uC vs lo hi):=by
   unfold uC cutD;rw[q1.length];exact(ai.drop _ q1).take _
  exact wI pins s σ H _ v vl vu lo hi sl Q I rx hs pl pu {p,vs,rfl,eQ.of h1,λl hl=>q _ _ (aE.new hl) (Rp.rd hd hl rr) λf=>En hl f rr}
 |_=>cases e
def j4:JX X (.builtin "sorted") (λds=>match ds with | [.lst ds]=>rF [.lst ds]|_=>none):=by
 intro pins s σ H xs us Q I r h;obtain⟨W,ds,d,hd,r1,e,q⟩:=h
 match ds,e with
 |[.lst es],e =>
  have e':(match iH es with|some ks=>if ks.length<=1000000 then some (D.lst ((ly ks).map kD)) else none|none=>none)=some d:=e
  cases ek:iH es with
  |none=>rw[ek]at e';cases e'
  |some ks =>
   rw[ek]at e';obtain⟨hl,rfl⟩:=fq e';obtain⟨rfl,hk⟩:=tV ek;obtain⟨x,rfl,p,vs,rfl,hp,n1,q1⟩:=qg r1;obtain⟨ts,rfl,T,rfl⟩:=pG hk q1;refine rK pins s σ H _ us Q I r {p,ts,rfl,eQ.of hp,T,by simpa using hl,λl b_ pO Jc P8=>?_}
   have eq:b_.map (·.2)=ly (ts.map (·.2)):=Ai (Jc.map _) (WJ.mpr P8);rw[<- eq]at q;have rk:=pk (P:=X.prog) (w:=X.w) (W:=W) (H:=H) (ts:=b_) λt ht=>(T t (Jc.mem_iff.mp ht)).1;exact q _ _ (aE.new pO) (Rp.rd hd pO rk) λf=>En pO f rk
end
end L2
namespace L2.Q
open PySem PySem.Spec PySem.SeqAt PyProof.Rows
section
variable (P:V2)(w:Wm)(H:Hp)
mutual
def Own:D->V->List Addr->Prop
 |.tup ds,v,A=>∃a vs,v=.ref a/\H a=some (.tup vs)/\aL ds vs A
 |.lst ds,v,A=>∃a vs A',v=.ref a/\H a=some (.lst vs)/\A=a::A'/\aL ds vs A'
 |.dT ks ds,v,A=>∃a vs A',v=.ref a/\H a=some (.dT (ks.zip vs))/\ks.length=vs.length/\A=a::A'/\aL ds vs A'
 |.dK ks ds,v,A=>∃a vs A',v=.ref a/\H a=some (.dK (ks.zip vs))/\ks.length=vs.length/\A=a::A'/\aL ds vs A'
 |.sT ts,v,A=>∃a,v=.ref a/\FF P w H a ts/\A=[a]
 |.ob φ,v,A=>∃a,v=.ref a/\(H a=some (φ a)/\∀xs,φ a≠.tup xs)/\A=[a]
 |.ck,v,A=>v=.ck/\A=[]
 |.bl b,v,A=>v=.bl b/\A=[]
 |.int i,v,A=>v=.int i/\A=[]
 |.str x,v,A=>v=.str x/\A=[]
 |.obj a,v,A=>v=.ref a/\A=[]
def aL:List D->List V->List Addr->Prop
 |[],vs,A=>vs=[]/\A=[]
 |d::ds,vs,A=>∃v r A1 A2,vs=v::r/\A=A1++A2/\Own d v A1/\aL ds r A2
end
end
section
variable {P:V2}{w:Wm}{W:Addr->Prop}{H H':Hp}
def yr {a:Addr}{ts:List (List Int)}(k:∀b xs,H b=some (.tup xs)->H' b=some (.tup xs))(ha:∀o,H a=some o->H' a=some o)(h:FF P w H a ts):FF P w H' a ts :=
 let ⟨b_,e,r,z⟩:=h;{b_,ha _ e,λx hx=>k _ _ (r x hx),z}
mutual
theorem Own.keep (k:∀b xs,H b=some (.tup xs)->H' b=some (.tup xs)):∀{d:D} {v:V} {A:List Addr},(∀c∈A,∀o,H c=some o->H' c=some o)->Own P w H d v A->Own P w H' d v A
 |.tup ds,_,_,ha,⟨a,vs,e,t,r⟩=>{a,vs,e,k a vs t,aL.keep k ha r}
 |.lst ds,_,_,ha,⟨a,vs,A',e,t,eA,r⟩=>{a,vs,A',e,ha a (by rw[eA];simp) _ t,eA,aL.keep k (λc hc=>ha c (by rw[eA];simp[hc])) r}
 |.dT ks ds,_,_,ha,⟨a,vs,A',e,t,l,eA,r⟩=>{a,vs,A',e,ha a (by rw[eA];simp) _ t,l,eA,aL.keep k (λc hc=>ha c (by rw[eA];simp[hc])) r}
 |.dK ks ds,_,_,ha,⟨a,vs,A',e,t,l,eA,r⟩=>{a,vs,A',e,ha a (by rw[eA];simp) _ t,l,eA,aL.keep k (λc hc=>ha c (by rw[eA];simp[hc])) r}
 |.sT ts,_,_,ha,⟨a,e,r,eA⟩=>{a,e,yr k (λo ho=>ha a (by rw[eA];simp) o ho) r,eA}
 |.ob φ,_,_,ha,⟨a,e,r,eA⟩=>{a,e,{ha a (by rw[eA];simp) _ r.1,r.2},eA}
 |.ck,_,_,_,h=>h
 |.bl _,_,_,_,h=>h
 |.int _,_,_,_,h=>h
 |.str _,_,_,_,h=>h
 |.obj _,_,_,_,h=>h
theorem aL.keep (k:∀b xs,H b=some (.tup xs)->H' b=some (.tup xs)):∀{ds:List D} {vs:List V} {A:List Addr},(∀c∈A,∀o,H c=some o->H' c=some o)->aL P w H ds vs A->aL P w H' ds vs A
 |[],_,_,_,h=>h
 |d::ds,_,_,ha,⟨v,r,A1,A2,e,eA,h1,h2⟩=>{v,r,A1,A2,e,eA,Own.keep k (λc hc=>ha c (by rw[eA];simp[hc])) h1,aL.keep k (λc hc=>ha c (by rw[eA];simp[hc])) h2}
end
mutual
theorem Own.rep:∀{d:D} {v:V} {A:List Addr},(∀c∈A,¬ W c)->Own P w H d v A->aD P w W H d v
 |.tup ds,_,_,ha,⟨a,vs,e,t,r⟩=>{a,vs,e,t,aL.rep ha r}
 |.lst ds,_,_,ha,⟨a,vs,A',e,t,eA,r⟩=>{a,vs,e,t,ha a (by rw[eA];simp),aL.rep (λc hc=>ha c (by rw[eA];simp[hc])) r}
 |.dT ks ds,_,_,ha,⟨a,vs,A',e,t,l,eA,r⟩=>{a,vs,e,t,l,ha a (by rw[eA];simp),aL.rep (λc hc=>ha c (by rw[eA];simp[hc])) r}
 |.dK ks ds,_,_,ha,⟨a,vs,A',e,t,l,eA,r⟩=>{a,vs,e,t,l,ha a (by rw[eA];simp),aL.rep (λc hc=>ha c (by rw[eA];simp[hc])) r}
 |.sT ts,_,_,ha,⟨a,e,r,eA⟩=>{a,e,r,ha a (by rw[eA];simp)}
 |.ob φ,_,_,ha,⟨a,e,r,eA⟩=>{a,e,r,ha a (by rw[eA];simp)}
 |.ck,_,_,_,h=>h.1
 |.bl _,_,_,_,h=>h.1
 |.int _,_,_,_,h=>h.1
 |.str _,_,_,_,h=>h.1
 |.obj _,_,_,_,h=>h.1
theorem aL.rep:∀{ds:List D} {vs:List V} {A:List Addr},(∀c∈A,¬ W c)->aL P w H ds vs A->ai P w W H ds vs
 |[],_,_,_,h=>h.1
 |d::ds,_,_,ha,⟨v,r,A1,A2,e,eA,h1,h2⟩=>{v,r,e,Own.rep (λc hc=>ha c (by rw[eA];simp[hc])) h1,aL.rep (λc hc=>ha c (by rw[eA];simp[hc])) h2}
end
mutual
theorem Own.oh:∀{d:D} {v:V} {A:List Addr},Own P w H d v A->∀c∈A,H c≠none/\∀xs,H c≠some (.tup xs)
 |.tup ds,_,_,⟨a,vs,e,t,r⟩,c,hc=>aL.oh r c hc
 |.lst ds,_,_,⟨a,vs,A',e,t,eA,r⟩,c,hc=>by
  rw[eA]at hc;rcases VX.mp hc with rfl|hc
  ·rw[t];exact{λz=>(nomatch z),λxs z=>by cases z}
  ·exact aL.oh r c hc
 |.dT ks ds,_,_,⟨a,vs,A',e,t,l,eA,r⟩,c,hc=>by
  rw[eA]at hc;rcases VX.mp hc with rfl|hc
  ·rw[t];exact{λz=>(nomatch z),λxs z=>by cases z}
  ·exact aL.oh r c hc
 |.dK ks ds,_,_,⟨a,vs,A',e,t,l,eA,r⟩,c,hc=>by
  rw[eA]at hc;rcases VX.mp hc with rfl|hc
  ·rw[t];exact{λz=>(nomatch z),λxs z=>by cases z}
  ·exact aL.oh r c hc
 |.sT ts,_,_,⟨a,e,⟨b_,t,r,z⟩,eA⟩,c,hc=>by
  rw[eA]at hc;rw[VU.mp hc,t];exact{λz=>(nomatch z),λxs z=>by cases z}
 |.ob φ,_,_,⟨a,e,⟨t,z⟩,eA⟩,c,hc=>by
  rw[eA]at hc;rw[VU.mp hc,t];exact{λz=>(nomatch z),λxs q=>z xs (WA q)}
 |.ck,_,_,h,c,hc=>by rw[h.2]at hc;cases hc
 |.bl _,_,_,h,c,hc=>by rw[h.2]at hc;cases hc
 |.int _,_,_,h,c,hc=>by rw[h.2]at hc;cases hc
 |.str _,_,_,h,c,hc=>by rw[h.2]at hc;cases hc
 |.obj _,_,_,h,c,hc=>by rw[h.2]at hc;cases hc
theorem aL.oh:∀{ds:List D} {vs:List V} {A:List Addr},aL P w H ds vs A->∀c∈A,H c≠none/\∀xs,H c≠some (.tup xs)
 |[],_,_,h,c,hc=>by rw[h.2]at hc;cases hc
 |d::ds,_,_,⟨v,r,A1,A2,e,eA,h1,h2⟩,c,hc=>by
  rw[eA]at hc;rcases V9.mp hc with hc|hc
  ·exact Own.oh h1 c hc
  ·exact aL.oh h2 c hc
end
mutual
theorem eG:∀{d:D} {v:V},d.flat=true->aD P w W H d v->Own P w H d v []
 |.tup ds,_,f,⟨a,vs,e,t,r⟩=>{a,vs,e,t,ia (by simpa[D.flat] using f) r}
 |.lst ds,_,f,_=>by simp[D.flat]at f
 |.dT ks ds,_,f,_=>by simp[D.flat]at f
 |.dK ks ds,_,f,_=>by simp[D.flat]at f
 |.sT ts,_,f,_=>by simp[D.flat]at f
 |.ob φ,_,f,_=>by simp[D.flat]at f
 |.ck,_,_,h=>{(h),rfl}
 |.bl _,_,_,h=>{(h),rfl}
 |.int _,_,_,h=>{(h),rfl}
 |.str _,_,_,h=>{(h),rfl}
 |.obj _,_,_,h=>{(h),rfl}
theorem ia:∀{ds:List D} {vs:List V},D.dO ds=true->ai P w W H ds vs->aL P w H ds vs []
 |[],_,_,h=>{(h),rfl}
 |d::ds,_,f,⟨v,r,e,h1,h2⟩=>by
  have f':(d.flat&&D.dO ds)=true:=f;rw[WL]at f';exact{v,r,[],[],e,rfl,eG f'.1 h1,ia f'.2 h2}
end
theorem aL.length:∀{ds:List D} {vs:List V} {A:List Addr},aL P w H ds vs A->vs.length=ds.length
 |[],_,_,h=>by rw[h.1];rfl
 |d::ds,_,_,⟨v,r,A1,A2,e,eA,h1,h2⟩=>by rw[e,V7,V7,aL.length h2]
theorem aL.append:∀{ds ds':List D} {vs vs':List V} {A A':List Addr},aL P w H ds vs A->aL P w H ds' vs' A'->aL P w H (ds++ds') (vs++vs') (A++A')
 |[],_,_,_,_,_,h,h'=>by rw[h.1,h.2];exact h'
 |d::ds,_,_,_,_,_,⟨v,r,A1,A2,e,eA,h1,h2⟩,h'=>by
  subst e eA;exact{v,_,A1,_,rfl,by rw[W3],h1,aL.append h2 h'}
def aL.one {d:D}{v:V}{A:List Addr}(h:Own P w H d v A):aL P w H [d] [v] A:={v,[],A,[],rfl,by simp,h,rfl,rfl}
theorem aL.split:∀{ds:List D} {vs:List V} {A:List Addr} {i:Nat} {d:D},aL P w H ds vs A->ds[i]?=some d->∃v A1 A2 A3,vs[i]?=some v/\A=A1++(A2++A3)/\aL P w H (ds.take i) (vs.take i) A1/\Own P w H d v A2/\aL P w H (ds.drop (i+1)) (vs.drop (i+1)) A3
 |[],_,_,_,_,_,e=>by simp at e
 |d::ds,_,_,0,_,⟨v,r,A1,A2,e,eA,h1,h2⟩,e'=>by
  simp at e';subst e' e eA;exact{v,[],A1,A2,by simp,by simp,{(rfl),rfl},h1,by simpa using h2}
 |d::ds,_,_,i+1,_,⟨v,r,A1,A2,e,eA,h1,h2⟩,e'=>by
  subst e eA;obtain⟨u,B1,B2,B3,g1,g2,g3,g4,g5⟩:=aL.split (i:=i) h2 (by simpa using e')
  exact{u,A1++B1,B2,B3,by simpa using g1,by rw[g2];simp[W3],by simpa using {v,_,A1,B1,rfl,rfl,h1,g3},g4,by simpa using g5}
end
inductive Kd where
 |own|gj|old|bor
inductive Sk where
 |one|two|at (h:Addr)
inductive B where
 |val (y:Bool) (d:D)|own (d:D)|hand (ok:List Int->Prop)|shl (y:Sk) (d:D)
abbrev a9:=List (Option B)
structure Cfg where
 H0:Hp
 IO:Addr->Prop
 ro:Bool
 U:Addr->Prop:=λ_=>False
abbrev Wn (own:Nat->List Addr):Addr->Prop:=λa=>∃i,a∈own i
def av (C:Cfg)(W:Addr->Prop):Kd->Addr->Prop
 |.own,a=>W a\/C.H0 a≠none
 |.gj,a=>W a\/C.H0 a≠none
 |.old,a=>W a
 |.bor,_=>False
def iy (C:Cfg)(W:Addr->Prop)(k:Kd)(a:Addr):Prop:=av C W k a\/C.U a
abbrev yk (y:Bool):Kd:=match y with|true=>.gj|false=>.old
def Td:D->HO->List V->Prop
 |.lst _,o,vs=>o=.lst vs
 |.dT ks _,o,vs=>o=.dT (ks.zip vs)/\ks.length=vs.length
 |.dK ks _,o,vs=>o=.dK (ks.zip vs)/\ks.length=vs.length
 |_,_,_=>False
def Te:D->List D
 |.lst ds=>ds
 |.dT _ ds=>ds
 |.dK _ ds=>ds
 |_=>[]
def FG (P:V2)(w:Wm)(W:Addr->Prop)(H:Hp):List D->List V->List Addr->Prop
 |[],vs,A=>vs=[]/\A=[]
 |d::ds,vs,A=>∃b us r A',vs=.ref b::r/\A=b::A'/\H b=some (.lst us)/\(∃es,d=.lst es/\ai P w W H es us)/\FG P w W H ds r A'
def nX (P:V2)(w:Wm)(W:Addr->Prop)(H:Hp)(d:D)(v:V)(A:List Addr):Prop:=∃a o vs,v=.ref a/\A=[a]/\H a=some o/\Td d o vs/\ai P w W H (Te d) vs
def Ke (P:V2)(w:Wm)(W:Addr->Prop)(H:Hp)(y:Sk)(d:D)(v:V)(A:List Addr):Prop:=match y with
 |.one=>nX P w W H d v A
 |.at h=>nX P w W H d v A/\v=.ref h
 |.two=>∃a vs A' ds,v=.ref a/\A=a::A'/\H a=some (.lst vs)/\d=.lst ds/\FG P w W H ds vs A'
theorem FG.map {P:V2}{w:Wm}{W W':Addr->Prop}{H H':Hp}(hr:∀ds vs,ai P w W H ds vs->ai P w W' H' ds vs):∀{ds:List D} {vs:List V} {A:List Addr},(∀c∈A,∀o,H c=some o->H' c=some o)->FG P w W H ds vs A->FG P w W' H' ds vs A
 |[],_,_,_,h=>h
 |_::_,_,_,ha,⟨b,us,r,A',e1,e2,e3,⟨es,e4,e5⟩,h⟩=>{b,us,r,A',e1,e2,ha b (by rw[e2];simp) _ e3,{es,e4,hr _ _ e5},FG.map hr (λc hc=>ha c (by rw[e2];simp[hc])) h}
theorem FG.rep {P:V2}{w:Wm}{W W':Addr->Prop}{H:Hp}(hs:∀ds vs,ai P w W H ds vs->ai P w W' H ds vs):∀{ds:List D} {vs:List V} {A:List Addr},(∀c∈A,¬ W' c)->FG P w W H ds vs A->ai P w W' H ds vs
 |[],_,_,_,h=>h.1
 |_::_,_,_,ha,⟨b,us,r,A',e1,e2,e3,⟨es,e4,e5⟩,h⟩=>by
  subst e1 e2 e4;exact{.ref b,r,rfl,{b,us,rfl,e3,ha b (by simp),hs _ _ e5},FG.rep hs (λc hc=>ha c (by simp[hc])) h}
def nX.map {P:V2}{w:Wm}{W W':Addr->Prop}{H H':Hp}{d:D}{v:V}{A:List Addr}(h:nX P w W H d v A)(ha:∀c∈A,∀o,H c=some o->H' c=some o)(hr:∀ds vs,ai P w W H ds vs->ai P w W' H' ds vs):nX P w W' H' d v A :=
 let ⟨a,o,vs,e1,e2,e3,e4,r⟩:=h;{a,o,vs,e1,e2,ha a (by rw[e2];simp) o e3,e4,hr _ _ r}
def Ke.map {P:V2}{w:Wm}{W W':Addr->Prop}{H H':Hp}{y:Sk}{d:D}{v:V}{A:List Addr}(h:Ke P w W H y d v A)(ha:∀c∈A,∀o,H c=some o->H' c=some o)(hr:∀ds vs,ai P w W H ds vs->ai P w W' H' ds vs):Ke P w W' H' y d v A:=by
 cases y with
 |one=>exact nX.map h ha hr
 | «at» b=>exact{nX.map h.1 ha hr,h.2}
 |two =>
  obtain⟨a,vs,A',ds,e1,e2,e3,e4,r⟩:=h;exact{a,vs,A',ds,e1,e2,ha a (by rw[e2];simp) _ e3,e4,r.map hr λc hc=>ha c (by rw[e2];simp[hc])}
def nX.rep {P:V2}{w:Wm}{W W':Addr->Prop}{H:Hp}{d:D}{v:V}{A:List Addr}(h:nX P w W H d v A)(ha:∀c∈A,¬ W' c)(hs:∀ds vs,ai P w W H ds vs->ai P w W' H ds vs):aD P w W' H d v:=by
 obtain⟨a,o,vs,rfl,rfl,e,sh,r⟩:=h;have na:=ha a (by simp)
 replace r:=hs _ _ r;cases d with
 |lst ds=>cases sh;exact{(a),vs,rfl,e,na,r}
 |dT ks ds=>obtain⟨rfl,l⟩:=sh;exact{(a),vs,rfl,e,l,na,r}
 |dK ks ds=>obtain⟨rfl,l⟩:=sh;exact{(a),vs,rfl,e,l,na,r}
 |_=>exact sh.elim
def Ke.rep {P:V2}{w:Wm}{W W':Addr->Prop}{H:Hp}{y:Sk}{d:D}{v:V}{A:List Addr}(h:Ke P w W H y d v A)(ha:∀c∈A,¬ W' c)(hs:∀ds vs,ai P w W H ds vs->ai P w W' H ds vs):aD P w W' H d v:=by
 cases y with
 |one=>exact nX.rep h ha hs
 | «at» b=>exact nX.rep h.1 ha hs
 |two =>
  obtain⟨a,vs,A',ds,rfl,rfl,e3,rfl,r⟩:=h;exact{a,vs,rfl,e3,ha a (by simp),r.rep hs λc hc=>ha c (by simp[hc])}
structure cT (P:V2)(w:Wm)(C:Cfg)(σ:St)(H:Hp)(β:a9)(own:Nat->List Addr):Prop where
 len:β.length=σ.length
 val:∀(i:Nat) (y:Bool) (d:D),β[i]?=some (some (.val y d))->∃v,σ[i]?=some (some v)/\aD P w (iy C (Wn own) (yk y)) H d v
 ow:∀(i:Nat) (d:D),β[i]?=some (some (.own d))->∃v,σ[i]?=some (some v)/\Own P w H d v (own i)/\∀c∈own i,C.H0 c=none
 pN:∀(i:Nat) (ok:List Int->Prop),β[i]?=some (some (.hand ok))->∃a ns,σ[i]?=some (some (.ref a))/\H a=some (.lst (ns.map V.int))/\ok ns/\own i=[a]/\((∀b,¬ C.IO b)\/C.IO a)
 dm:∀(i:Nat) (a:Addr),a∈own i->H a≠none/\(∀xs,H a≠some (.tup xs))/\(C.H0 a=none\/C.IO a)/\¬ C.U a
 oi:∀(i j:Nat) (a:Addr),a∈own i->a∈own j->i=j
 oG:∀i,(own i).Nodup
 kp:Kp C.IO C.H0 H
 iN:∀a,C.H0 a≠none->H a≠none
 shl:∀(i:Nat) (y:Sk) (d:D),β[i]?=some (some (.shl y d))->∃v,σ[i]?=some (some v)/\Ke P w (iy C (Wn own) (yk true)) H y d v (own i)/\∀c∈own i,C.H0 c=none
abbrev SQ (X:Cx):=cT X.prog X.w
section
variable {P:V2}{w:Wm}{C:Cfg}{σ:St}{H H':Hp}{β:a9}{own:Nat->List Addr}{W W':Addr->Prop}
def cT.xQ (b:cT P w C σ H β own):Dm (Wn own) H:=λa ⟨i,h⟩=>(b.dm i a h).1
def cT.Di (b:cT P w C σ H β own)(k:Kd):Dm (av C (Wn own) k) H:=λa h=>by
 cases k with
 |own=>exact h.elim (b.xQ a) (b.iN a)
 |gj=>exact h.elim (b.xQ a) (b.iN a)
 |old=>exact b.xQ a h
 |bor=>exact h.elim
def l0 (s:∀a,W' a->W a)(k:Kd):∀a,av C W' k a->av C W k a:=λa h=>by
 cases k with
 |own=>exact h.imp (s a) id
 |gj=>exact h.imp (s a) id
 |old=>exact s a h
 |bor=>exact h
def nT (s:∀a,W' a->W a)(k:Kd):∀a,iy C W' k a->iy C W k a:=λa h=>h.imp (l0 s k a) id
def cT.keep (b:cT P w C σ H β own)(k:Kp (λa=>H a=none) H H')(kp:Kp C.IO H H')(dn:∀a,H a≠none->H' a≠none):cT P w C σ H' β own:=by
 have ko:∀c o,H c=some o->H' c=some o:=λc o e=>k.out c o e (by rw[e];exact λz=>(nomatch z))
 have same:aE H H':=ko;exact⟨b.len,λi y d e=>let ⟨v,h1,h2⟩:=b.val i y d e;{v,h1,h2.same same},λi d e=>let ⟨v,h1,h2,h3⟩:=b.ow i d e;{v,h1,h2.keep (λ_ _ e=>same _ _ e) (λc _ o e=>same c o e),h3},
  λi ok e=>let ⟨a,ns,h1,h2,h3⟩:=b.pN i ok e;{a,ns,h1,same _ _ h2,h3},λi a h=>by
   obtain⟨h1,h2,h3⟩:=b.dm i a h;cases q:H a with
   |none=>exact absurd q h1
   |some o=>rw[same a o q];exact{λz=>(nomatch z),λxs z=>h2 xs (by rw[q];exact z),h3},b.oi,b.oG,b.kp.trans kp,λa z=>dn a (b.iN a z),λi y d e=>let ⟨v,h1,h2,h3⟩:=b.shl i y d e;{v,h1,h2.map (λc _ o e=>same c o e) (λ_ _ r=>r.same same),h3}⟩
def cT.same (b:cT P w C σ H β own)(s:aE H H'):cT P w C σ H' β own:=b.keep s.kp s.kp λa z e=>z (s.free e)
def j_ {own:Nat->List Addr}{i:Nat}{a:Addr}(h:Wn (bc own i []) a):Wn own a:=let ⟨j,q⟩:=h;{j,(fW q).1}
def cD {own:Nat->List Addr}{i j:Nat}{A:List Addr}(h:i≠j):bc own i A j=own j:=by unfold bc;rw[if_neg (YX h)]
def os_eq {own:Nat->List Addr}{i:Nat}{A:List Addr}:bc own i A i=A:=by unfold bc;rw[if_pos rfl]
def cT.kj {i:Nat}{d:D}{v:V}{y:Bool}(b:cT P w C σ H β own)(r:aD P w (iy C (Wn own) (yk y)) H d v):cT P w C (σ.set i (some v)) H (β.set i (some (.val y d))) (bc own i []):=by
 have sub:∀y a,iy C (Wn (bc own i [])) (yk y) a->iy C (Wn own) (yk y) a:=λy=>nT (λa h=>j_ h) _;refine{by simp[b.len],λj y' d' e=>?_,λj d' e=>?_,λj ok e=>?_,λj a h=>b.dm j a (fW h).1,λj k a h1 h2=>b.oi j k a (fW h1).1 (fW h2).1,λj=>?_,b.kp,b.iN,λj y' d' e=>?_}
 ·by_cases aI:i=j
  ·subst aI;obtain⟨e',hl⟩:=cA e;cases e';exact{v,get_set (by rw[<- b.len];exact hl),r.a8 (sub _)}
  ·rw[b4 aI]at e ⊢
   obtain⟨u,h1,h2⟩:=b.val j y' d' e;exact{u,h1,h2.a8 (sub _)}
 ·by_cases aI:i=j
  ·subst aI;obtain⟨e',hl⟩:=cA e;cases e'
  ·rw[b4 aI]at e ⊢
   rw[cD aI];exact b.ow j d' e
 ·by_cases aI:i=j
  ·subst aI;obtain⟨e',hl⟩:=cA e;cases e'
  ·rw[b4 aI]at e ⊢
   rw[cD aI];exact b.pN j ok e
 ·by_cases aI:i=j
  ·rw[aI,os_eq];exact W9
  ·rw[cD aI];exact b.oG j
 ·by_cases aI:i=j
  ·subst aI;obtain⟨e',hl⟩:=cA e;cases e'
  ·rw[b4 aI]at e ⊢
   rw[cD aI];obtain⟨u,h1,h2,h3⟩:=b.shl j y' d' e;exact{u,h1,h2.map (λ_ _ _ z=>z) (λ_ _ r=>ai.a8 (sub _) r),h3}
def cT.As {i:Nat}{d:D}{v:V}{A:List Addr}(b:cT P w C σ H β own)(r:Own P w H d v A)(nd:A.Nodup)(nw:∀c∈A,C.H0 c=none/\¬ Wn own c/\C.U c):
  cT P w {C with U:=λ_=>False} (σ.set i (some v)) H (β.set i (some (.own d))) (bc own i A):=by
 have sub:∀y a,iy {C with U:=λ_=>False} (Wn (bc own i A)) (yk y) a->iy C (Wn own) (yk y) a:=λy a h=>by
  have q:∀a,Wn (bc own i A) a->Wn own a\/a∈A:=λa zb=>by
   obtain⟨j,q⟩:=zb
   by_cases aI:i=j
   ·rw[aI,os_eq]at q;exact .inr q
   ·rw[cD aI]at q;exact .inl {(j),q}
  have q':∀a,Wn (bc own i A) a->Wn own a\/C.U a:=λa z=>(q a z).imp id λz=>(nw a z).2.2;rcases h with h|h
  ·cases y with
   |true=>exact h.elim (λz=>(q' a z).imp .inl id) λz=>.inl (.inr z)
   |false=>exact q' a h
  ·exact h.elim
 have mem:∀{j c},c∈bc own i A j->(i=j/\c∈A)\/(i≠j/\c∈own j):=λ{j c} h=>by
  by_cases aI:i=j
  ·subst aI;rw[os_eq]at h;exact .inl {(rfl),h}
  ·rw[cD aI]at h;exact .inr {(aI),h}
 refine{by simp[b.len],λj y' d' e=>?_,λj d' e=>?_,λj ok e=>?_,λj a h=>?_,λj k a h1 h2=>?_,λj=>?_,b.kp,b.iN,λj y' d' e=>?_}
 ·by_cases aI:i=j
  ·subst aI;obtain⟨e',hl⟩:=cA e;cases e'
  ·rw[b4 aI]at e ⊢
   obtain⟨u,h1,h2⟩:=b.val j y' d' e;exact{u,h1,h2.a8 (sub _)}
 ·by_cases aI:i=j
  ·subst aI;obtain⟨e',hl⟩:=cA e;cases e';rw[os_eq];exact{v,get_set (by rw[<- b.len];exact hl),r,λc hc=>(nw c hc).1}
  ·rw[b4 aI]at e ⊢
   rw[cD aI];exact b.ow j d' e
 ·by_cases aI:i=j
  ·subst aI;obtain⟨e',hl⟩:=cA e;cases e'
  ·rw[b4 aI]at e ⊢
   rw[cD aI];exact b.pN j ok e
 ·rcases mem h with⟨_,h⟩|⟨_,h⟩
  ·exact{(r.oh a h).1,(r.oh a h).2,.inl (nw a h).1,λz=>z}
  ·exact{(b.dm j a h).1,(b.dm j a h).2.1,(b.dm j a h).2.2.1,λz=>z}
 ·rcases mem h1 with⟨e1,h1⟩|⟨n1,h1⟩
  ·rcases mem h2 with⟨e2,h2⟩|⟨n2,h2⟩
   ·rw[<- e1,<- e2]
   ·exact absurd {(k),h2} (nw a h1).2.1
  ·rcases mem h2 with⟨e2,h2⟩|⟨n2,h2⟩
   ·exact absurd {(j),h1} (nw a h2).2.1
   ·exact b.oi j k a h1 h2
 ·by_cases aI:i=j
  ·rw[<- aI,os_eq];exact nd
  ·rw[cD aI];exact b.oG j
 ·by_cases aI:i=j
  ·subst aI;obtain⟨e',hl⟩:=cA e;cases e'
  ·rw[b4 aI]at e ⊢
   rw[cD aI];obtain⟨u,h1,h2,h3⟩:=b.shl j y' d' e;exact{u,h1,h2.map (λ_ _ _ z=>z) (λ_ _ r=>ai.a8 (sub _) r),h3}
abbrev Cfg.u (C:Cfg)(U:Addr->Prop):Cfg:={C with U:=U}
def cT.r_ {U:Addr->Prop}(b:cT P w C σ H β own)(hU:∀a,U a->H a=none):cT P w (C.u U) σ H β own :=
 {b.len,λi y d e=>let ⟨v,h1,h2⟩:=b.val i y d e;{v,h1,aD.grow (λa z=>z.elim (λz=>.inl (.inl z)) λz=>.inr (hU a z)) h2},b.ow,b.pN,λi a h=>let ⟨h1,h2,h3,_⟩:=b.dm i a h;{h1,h2,h3,λz=>h1 (hU a z)},b.oi,b.oG,b.kp,b.iN,λi y d e=>let ⟨v,h1,h2,h3⟩:=b.shl i y d e;{v,h1,h2.map (λ_ _ _ z=>z) (λ_ _ r=>ai.grow (λa z=>z.elim (λz=>.inl (.inl z)) λz=>.inr (hU a z)) r),h3}}
def cT.TJ {U:Addr->Prop}(b:cT P w (C.u U) σ H β own):cT P w (C.u λ_=>False) σ H β own :=
 {b.len,λi y d e=>let ⟨v,h1,h2⟩:=b.val i y d e;{v,h1,aD.a8 (λa z=>z.elim .inl λz=>z.elim) h2},b.ow,b.pN,λi a h=>let ⟨h1,h2,h3,_⟩:=b.dm i a h;{h1,h2,h3,λz=>z},b.oi,b.oG,b.kp,b.iN,λi y d e=>let ⟨v,h1,h2,h3⟩:=b.shl i y d e;{v,h1,h2.map (λ_ _ _ z=>z) (λ_ _ r=>ai.a8 (λa z=>z.elim .inl λz=>z.elim) r),h3}}
def cT.l8 {i:Nat}{y:Bool}{d:D}(b:cT P w C σ H β own)(e:β[i]?=some (some (.val y d))):∃v,σ[i]?=some (some v)/\aD P w (av C (Wn own) (yk y)) H d v:=let ⟨v,h1,h2⟩:=b.val i y d e;{v,h1,aD.a8 (λa z=>.inl z) h2}
end
def KV (P:V2)(w:Wm)(C:Cfg)(Z:Hp×(Addr->Prop))(own:Nat->List Addr)(H:Hp):Kd->D->V->Prop
 |.own,d,v=>∃A,Own P w H d v A/\A.Nodup/\∀c∈A,Z.1 c=none/\¬ Wn own c/\C.H0 c=none
 |.gj,d,v=>aD P w (av C (Wn own) .gj) H d v
 |.old,d,v=>aD P w (av C (Wn own) .old) H d v
 |.bor,d,v=>aD P w (av C (Wn own) .bor) H d v
structure Q3 (P:V2)(w:Wm)(C:Cfg)(σ:St)(H:Hp)(own:Nat->List Addr)(p:Bool)(β':a9)(H':Hp)(aS:Nat->List Addr):Prop where
 sq:cT P w C σ H' β' aS
 sn:Sn (H,Wn own) H' (Wn aS)
 pu:p=true->aE H H'/\aS=own
 le:∀a,Wn aS a->Wn own a
abbrev Out (X:Cx):=Q3 X.prog X.w
section
variable {X:Cx}{C:Cfg}{σ:St}{H H1 H2 H':Hp}{own aF bh:Nat->List Addr}{p p':Bool}{β β1 β2 β':a9}{Z:Hp×(Addr->Prop)}{d:D}{v:V}{k:Kd}{P:V2}{w:Wm}
def Out.refl (s:SQ X C σ H β own)(p:Bool):Out X C σ H own p β H own:={s,Sn.refl,λ_=>{aE.refl _,rfl},λ_ z=>z}
def Out.trans (a:Out X C σ H own p β1 H1 aF)(b:Out X C σ H1 aF p' β2 H2 bh):Out X C σ H own (p&&p') β2 H2 bh:=⟨b.sq,a.sn.trans b.sn,λh=>by
 rw[WL]at h;obtain⟨s1,e1⟩:=a.pu h.1;obtain⟨s2,e2⟩:=b.pu h.2;exact{s1.trans s2,e2.trans e1},λc z=>a.le c (b.le c z)⟩
def Out.same (a:Out X C σ H own p β1 H1 aF)(s:aE H1 H2):Out X C σ H own p β1 H2 aF:={a.sq.same s,a.sn.same s,λh=>let ⟨s1,e1⟩:=a.pu h;{s1.trans s,e1},a.le}
noncomputable def Out.wk (a:Out X C σ H own p β1 H1 aF)(h:p'=true->p=true):Out X C σ H own p' β1 H1 aF:={a.sq,a.sn,λz=>a.pu (h z),a.le}
def KV.rep (h:KV P w C Z own H k d v):aD P w (av C (Wn own) k) H d v:=by
 cases k with
 |own=>obtain⟨A,h1,h2,h3⟩:=h;exact h1.rep λc hc z=>z.elim (h3 c hc).2.1 λz=>z (h3 c hc).2.2
 |_=>exact h
def KV.gj (h:KV P w C Z own H .own d v):KV P w C Z own H .gj d v:=KV.rep (k:=.own) h
def KV.flat {W:Addr->Prop}(f:d.flat=true)(h:aD P w W H d v):KV P w C Z own H .own d v:={[],eG f h,W9,λc hc=>(nomatch hc)}
noncomputable abbrev Kd.wk:Kd->Kd
 |.own=>.gj
 |.gj=>.gj
 |.old=>.old
 |.bor=>.bor
abbrev Kd.max:Kd->Kd->Kd
 |.bor,_=>.bor
 |_,.bor=>.bor
 |.old,_=>.old
 |_,.old=>.old
 |_,_=>.gj
def dk {W:Addr->Prop}{a b:Kd}:∀c,av C W (a.max b) c->av C W a c:=λc h=>by
 cases a <;> cases b <;> first|exact h|exact h.elim|exact .inl h
def gg {W:Addr->Prop}{a b:Kd}:∀c,av C W (a.max b) c->av C W b c:=λc h=>by
 cases a <;> cases b <;> first|exact h|exact h.elim|exact .inl h
def KV.of (h:aD P w (av C (Wn own) k.wk) H d v):KV P w C Z own H k.wk d v:=by
 cases k <;> exact h
def KV.Kw (h:KV P w C Z own H k d v)(s:aE H H'):KV P w C Z own H' k d v:=by
 cases k with
 |own=>obtain⟨A,h1,h2⟩:=h;exact{A,h1.keep (λb xs e=>s _ _ e) (λc _ o e=>s c o e),h2}
 |gj=>exact aD.same s h
 |old=>exact aD.same s h
 |bor=>exact aD.same s h
def KV.held (hk:k≠.bor)(h:KV P w C Z own H k d v)(n:Sn (H,Wn own) H2 (Wn bh)):KV P w C Z bh H2 k d v:=by
 cases k with
 |own =>
  obtain⟨A,h1,h2,h3⟩:=h;refine{A,h1.keep n.k.tup (λc hc o e=>n.k.out c o e λz=>z.elim (h3 c hc).2.1 λz=>(h1.oh c hc).1 z),h2,λc hc=>{(h3 c hc).1,λz=>(n.w c z).elim (h3 c hc).2.1 λz=>(h1.oh c hc).1 z,(h3 c hc).2.2}}
 |gj =>
  have g:aD P w (λa=>av C (Wn own) .gj a\/H a=none) H d v:=aD.grow (λb z=>z) h;exact aD.a8 (λb z=>z.elim (λz=>(n.w b z).imp .inl id) λz=>.inl (.inr z)) (aD.keep (n.k.mono λb z=>z.imp .inl id) g)
 |old=>exact held (W:=Wn own) h n
 |bor=>exact absurd rfl hk
def KV.Mo (h:KV P w C Z own H k d v)(s:aE H H2)(e:bh=own):KV P w C Z bh H2 k d v:=by rw[e];exact h.Kw s
abbrev hold (k:Kd)(p:Bool):Prop:=match k,p with
 |.bor,false=>False
 |_,_=>True
def KV.ho (h:KV P w C Z own H k d v)(o:Out X C σ H own p β' H2 bh)(hh:hold k p):KV P w C Z bh H2 k d v:=by
 cases p with
 |true=>obtain⟨s,e⟩:=o.pu rfl;exact h.Mo s e
 |false=>exact h.held (by rintro rfl;exact hh) o.sn
def KV.later (h:KV P w C (H1,Wn aF) own H k d v)(n:Sn Z H1 (Wn aF)):KV P w C Z own H k d v:=by
 cases k with
 |own=>obtain⟨A,h1,h2,h3⟩:=h;exact{A,h1,h2,λc hc=>{n.free (h3 c hc).1,(h3 c hc).2}}
 |_=>exact h
end
abbrev aQ:=a9->(D->Kd->a9->Prop)->Prop
abbrev aZ:=a9->(Bool->a9->Prop)->Prop
abbrev cF:=a9->(List D->List Kd->a9->Prop)->Prop
def tQ (X:Cx)(C:Cfg)(p:Bool)(φ:aQ):TE:=λσ H Q=>∃β own,SQ X C σ H β own/\φ β λd k β'=>∀v H' aS,Out X C σ H own p β' H' aS->KV X.prog X.w C (H,Wn own) aS H' k d v->Q v H'
def j7 (X:Cx)(C:Cfg)(p:Bool)(φ:aZ):TT:=λσ H Q=>∃β own,SQ X C σ H β own/\φ β λb β'=>∀H' aS,Out X C σ H own p β' H' aS->Q b H'
def KF (P:V2)(w:Wm)(C:Cfg)(own:Nat->List Addr)(H:Hp):List Kd->List D->List V->List Addr->Prop
 |[],ds,vs,A=>ds=[]/\vs=[]/\A=[]
 |k::ks,ds,vs,A=>∃d dr v vr A1 A2,ds=d::dr/\vs=v::vr/\A=A1++A2/\(match k with | .own=>Own P w H d v A1|k=>A1=[]/\aD P w (av C (Wn own) k) H d v)/\KF P w C own H ks dr vr A2
def uU (P:V2)(w:Wm)(C:Cfg)(Z:Hp×(Addr->Prop))(own:Nat->List Addr)(H:Hp)(ks:List Kd)(ds:List D)(vs:List V):Prop :=
 ∃A,KF P w C own H ks ds vs A/\A.Nodup/\∀c∈A,Z.1 c=none/\¬ Wn own c/\C.H0 c=none
def ve (X:Cx)(C:Cfg)(p:Bool)(φ:cF):TA:=λσ H Q=>∃β own,SQ X C σ H β own/\φ β λds ks β'=>∀vs H' aS,Out X C σ H own p β' H' aS->uU X.prog X.w C (H,Wn own) aS H' ks ds vs->Q vs H'
section
variable {C:Cfg}{H H1:Hp}{own aF:Nat->List Addr}{Z:Hp×(Addr->Prop)}{d:D}{v:V}{k:Kd}{P:V2}{w:Wm}{ks:List Kd}{ds:List D}{vs:List V}
def uU.nil:uU P w C Z own H [] [] []:={[],{(rfl),rfl,rfl},W9,λc hc=>(nomatch hc)}
theorem KF.oh:∀{ks:List Kd} {ds:List D} {vs:List V} {A:List Addr},KF P w C own H ks ds vs A->∀c∈A,H c≠none
 |[],_,_,_,⟨_,_,e⟩,c,hc=>by rw[e]at hc;cases hc
 |k::ks,_,_,_,⟨d,dr,v,vr,A1,A2,rfl,rfl,rfl,h1,h2⟩,c,hc=>by
  rcases V9.mp hc with hc|hc
  ·cases k with
   |own=>exact(Own.oh h1 c hc).1
   |_=>rw[h1.1]at hc;cases hc
  ·exact KF.oh h2 c hc
def uU.cons (h1:KV P w C Z aF H1 k d v)(n:Sn (H1,Wn aF) H (Wn own))(EU:KV P w C Z own H k d v)(h2:uU P w C (H1,Wn aF) own H ks ds vs)(n0:Sn Z H1 (Wn aF)):uU P w C Z own H (k::ks) (d::ds) (v::vs):=by
 obtain⟨A2,f2,C7,q2⟩:=h2;have z2:∀c∈A2,Z.1 c=none/\¬ Wn own c/\C.H0 c=none:=λc hc=>{n0.free (q2 c hc).1,(q2 c hc).2};cases k with
 |own =>
  obtain⟨A1,o1,Er,q1⟩:=h1;obtain⟨VQ,Vv,TQ,Rv⟩:=(show KV P w C Z own H .own d v from KV.held (k:=.own) (λz=>(nomatch z)) ({(A1),o1,Er,q1}:KV P w C Z aF H1 .own d v) n)
  have OV:Own P w H d v A1:=o1.keep n.k.tup (λc hc o e=>n.k.out c o e λz=>z.elim (q1 c hc).2.1 λz=>(o1.oh c hc).1 z);refine{A1++A2,{(d),ds,v,vs,A1,A2,rfl,rfl,rfl,OV,f2},WY.mpr {Er,C7,λa ha b hb e=>?_},λc hc=>?_}
  ·subst e;exact(o1.oh a ha).1 (q2 a hb).1
  ·rcases V9.mp hc with hc|hc
   ·exact{(q1 c hc).1,λz=>(n.w c z).elim (q1 c hc).2.1 λz=>(o1.oh c hc).1 z,(q1 c hc).2.2}
   ·exact z2 c hc
 |gj=>exact{A2,{d,ds,v,vs,[],A2,rfl,rfl,rfl,{(rfl),EU},f2},C7,z2}
 |old=>exact{A2,{d,ds,v,vs,[],A2,rfl,rfl,rfl,{(rfl),EU},f2},C7,z2}
 |bor=>exact{A2,{d,ds,v,vs,[],A2,rfl,rfl,rfl,{(rfl),EU},f2},C7,z2}
abbrev i6:List Kd->Kd
 |[]=>.gj
 |k::ks=>Kd.max k (i6 ks)
theorem KF.jA:∀{ks:List Kd} {ds:List D} {vs:List V} {A:List Addr},KF P w C own H ks ds vs A->(∀c∈A,¬ Wn own c/\C.H0 c=none)->ai P w (av C (Wn own) (i6 ks)) H ds vs
 |[],_,_,_,⟨e1,e2,e⟩,_=>by rw[e1,e2];rfl
 |k::ks,_,_,_,⟨d,dr,v,vr,A1,A2,rfl,rfl,rfl,h1,h2⟩,hA=>by
  refine{v,vr,rfl,?_,ai.a8 gg (KF.jA h2 λc hc=>hA c (Wx _ hc))};cases k with
  |own=>exact aD.a8 dk (Own.rep (W:=av C (Wn own) .own) (λc hc z=>z.elim (hA c (WK _ hc)).1 λz=>z (hA c (WK _ hc)).2) h1)
  |gj=>exact aD.a8 (dk (a:=.gj)) h1.2
  |old=>exact aD.a8 (dk (a:=.old)) h1.2
  |bor=>exact aD.a8 (dk (a:=.bor)) h1.2
def uU.jA (h:uU P w C Z own H ks ds vs):ai P w (av C (Wn own) (i6 ks)) H ds vs:=let ⟨A,h1,_,h3⟩:=h;h1.jA λc hc=>(h3 c hc).2
def uU.bor (h:uU P w C Z own H ks ds vs):ai P w (λ_=>False) H ds vs:=ai.a8 (λ_ z=>z.elim) h.jA
def ya:List Kd->List D->Prop
 |k::ks,d::ds=>(match k with | .own=>True|_=>d.flat=true)/\ya ks ds
 |_,_=>True
theorem KF.HN:∀{ks:List Kd} {ds:List D} {vs:List V} {A:List Addr},KF P w C own H ks ds vs A->ya ks ds->aL P w H ds vs A
 |[],_,_,_,⟨e1,e2,e⟩,_=>by rw[e1,e2,e];exact{(rfl),rfl}
 |k::ks,_,_,_,⟨d,dr,v,vr,A1,A2,rfl,rfl,rfl,h1,h2⟩,⟨f1,f2⟩=>by
  refine{v,vr,A1,A2,rfl,rfl,?_,KF.HN h2 f2};cases k with
  |own=>exact h1
  |gj=>rw[h1.1];exact eG f1 h1.2
  |old=>rw[h1.1];exact eG f1 h1.2
  |bor=>rw[h1.1];exact eG f1 h1.2
theorem jO:∀{ks:List Kd},(i6 ks).wk=i6 ks
 |[]=>rfl
 |k::ks=>by cases k <;> cases h:i6 ks <;> simp[i6,Kd.max,h]
def BE (ks:List Kd)(ds:List D)(K:Kd->Prop):Prop:=match ks.all (λk=>match k with | .own=>true|_=>false)with
 |true=>K .own
 |false=>(ya ks ds/\K .own)\/K (i6 ks)
def BE.mono {ks:List Kd}{ds:List D}{K K':Kd->Prop}(k:∀x,K x->K' x)(h:BE ks ds K):BE ks ds K':=by
 unfold BE at *
 split
 ·next e=>rw[e]at h;exact k _ h
 ·next e=>rw[e]at h;exact h.imp (λz=>{z.1,k _ z.2}) (k _)
def BE.of {ks:List Kd}{ds:List D}{K:Kd->Prop}(h:BE ks ds K):(ya ks ds/\K .own)\/K (i6 ks):=by
 unfold BE at h
 split at h
 ·next e =>
  refine .inl {?_,h}
  clear h
  induction ks generalizing ds with
  |nil=>cases ds <;> trivial
  |cons k ks ih =>
   cases ds with
   |nil=>trivial
   |cons d ds =>
    rw[List.all_cons,WL]at e;refine{?_,ih e.2};have e1:=e.1;cases k <;> first|trivial|cases e1
 ·exact h
end
structure PQ (X:Cx)(C:Cfg)(p:Bool)(e:Expr)(φ:aQ):Prop where
 mono:∀β R R',(∀d k β,R d k β->R' d k β)->φ β R->φ β R'
 pe:PE X e (tQ X C p φ)
structure uZ (X:Cx)(C:Cfg)(p:Bool)(e:Expr)(φ:aZ):Prop where
 mono:∀β R R',(∀d β,R d β->R' d β)->φ β R->φ β R'
 pt:PT X e (j7 X C p φ)
structure wx (X:Cx)(C:Cfg)(p:Bool)(e:Expr)(φ:aZ):Prop where
 mono:∀β R R',(∀d β,R d β->R' d β)->φ β R->φ β R'
 pw:PW X e (j7 X C p φ)
structure uQ (X:Cx)(C:Cfg)(p:Bool)(es:List Expr)(φ:cF):Prop where
 mono:∀β R R',(∀d k β,R d k β->R' d k β)->φ β R->φ β R'
 pa:PA X es (ve X C p φ)
section
variable {X:Cx}{C:Cfg}{a b c e:Expr}{es:List Expr}{φ φa φb:aQ}{τ τa τb:aZ}{φs:cF}{pos:Pos}{σ:St}{H H':Hp}{β:a9}{own:Nat->List Addr}{p p':Bool}
def tQ.of (h:PQ X C p e φ)(s:SQ X C σ H β own){R:D->Kd->a9->Prop}{Q:VK}(hr:φ β R)(k:∀d kd β' v H' aS,R d kd β'->Out X C σ H own p β' H' aS->KV X.prog X.w C (H,Wn own) aS H' kd d v->Q v H'):tQ X C p φ σ H Q :=
 {β,own,s,h.mono β _ _ (λd kd β' hd v H' aS o r=>k d kd β' v H' aS hd o r) hr}
def j7.of (h:uZ X C p e τ)(s:SQ X C σ H β own){R:Bool->a9->Prop}{Q:Bool->Hp->Prop}(hr:τ β R)(k:∀t β' H' aS,R t β'->Out X C σ H own p β' H' aS->Q t H'):j7 X C p τ σ H Q :=
 {β,own,s,h.mono β _ _ (λt β' hd H' aS o=>k t β' H' aS hd o) hr}
def ve.of (h:uQ X C p es φs)(s:SQ X C σ H β own){R:List D->List Kd->a9->Prop}{Q:List V->Hp->Prop}(hr:φs β R)(k:∀ds ks β' vs H' aS,R ds ks β'->Out X C σ H own p β' H' aS->uU X.prog X.w C (H,Wn own) aS H' ks ds vs->Q vs H'):ve X C p φs σ H Q :=
 {β,own,s,h.mono β _ _ (λd kd β' hd v H' aS o r=>k d kd β' v H' aS hd o r) hr}
def wx.t (h:wx X C p e τ):uZ X C p e τ:={(h.mono),h.pw.pt}
noncomputable abbrev vk (y:Bool):D->Kd
 |.int _=>.own
 |.bl _=>.own
 |.ck=>.own
 |.str _=>.own
 |_=>yk y
def qB:B->(D->Kd->Prop)->Prop
 |.val y d,K=>K d (vk y d)
 |.own d,K=>K d .bor
 |.hand _,_=>False
 |.shl _ _,_=>False
def OD (i:Nat):aQ:=λβ R=>∃b,β[i]?=some (some b)/\qB b λd k=>R d k β
def Iy {P:V2}{w:Wm}{Z:Hp×(Addr->Prop)}{y:Bool}{d:D}{v:V}(h:aD P w (av C (Wn own) (yk y)) H d v):KV P w C Z own H (vk y d) d v:=by
 cases d with
 |int i=>exact KV.flat rfl h
 |bl i=>exact KV.flat rfl h
 |ck=>exact KV.flat rfl h
 |str i=>exact KV.flat rfl h
 |_=>cases y <;> exact h
def ae {i:Nat}{x:Str}(hn:Nm X i x:=by exact Bm):
  PQ X C true (.Name x pos) (OD i):=⟨λβ R R' k zb=>by obtain⟨b,e,h⟩:=zb;exact{b,e,by cases b <;> first|exact k _ _ _ h|exact h},(gR hn).pre λσ H Q y_=>by
 obtain⟨β,own,s,b,e,q⟩:=y_;cases b with
 |val y d=>obtain⟨v,h1,h2⟩:=s.l8 e;exact{v,h1,q v H own (Out.refl s _) (Iy h2)}
 |own d=>obtain⟨v,h1,h2,h3⟩:=s.ow i d e;exact{v,h1,q v H own (Out.refl s _) (h2.rep λ_ _ z=>z)}
 |hand ok=>exact q.elim
 |shl _ _=>exact q.elim⟩
def qC (d:D):aQ:=λβ R=>R d .own β
def aj {i j}:PQ X C true (.Constant (.int i) j pos) (qC (.int i)):={λρ R R' k h=>k _ _ _ h,bb.pre λσ H Q IU=>by obtain⟨β,own,s,q⟩:=IU;exact q _ H own (Out.refl s _) (KV.flat (W:=λ_=>False) rfl rfl)}
def gQ {b j}:PQ X C true (.Constant (.bool b) j pos) (qC (.bl b)):={λρ R R' k h=>k _ _ _ h,FZ.pre λσ H Q PJ=>by obtain⟨β,own,s,q⟩:=PJ;exact q _ H own (Out.refl s _) (KV.flat (W:=λ_=>False) rfl rfl)}
def mI {j}:PQ X C true (.Constant .none j pos) (qC .ck):={λρ R R' k h=>k _ _ _ h,HJ.pre λσ H Q EM=>by obtain⟨β,own,s,q⟩:=EM;exact q _ H own (Out.refl s _) (KV.flat (W:=λ_=>False) rfl rfl)}
def Az (X:Cx)(f:D->D->Option D)(N:D->Prop):R2:=λx y H Q=>∃W d1 d2 d,Dm W H/\Rp X W H d1 x/\Rp X W H d2 y/\f d1 d2=some d/\∀v H',aE H H'->Rp X W H' d v->(N d->Rp X (λa=>H a≠none) H' d v)->Q v H'
abbrev NV (X:Cx)(f:VT->VT->Sem VT)(g:D->D->Option D)(N:D->Prop):Prop:=jk X f (Az X g N)
def bC.m {f:VT->VT->Sem VT}{g:D->D->Option D}(h:bC X f g):NV X f g NF:=λpins s σ H x y v u Q I rx ry ⟨W,d1,d2,d,hd,r1,r2,e,q⟩ =>
 h pins s σ H x y v u Q I rx ry {W,d1,d2,d,hd,r1,r2,e,λv H' s r=>q v H' s r λf=>aD.flat f r}
noncomputable def kN (N:D->Prop)(d:D)(k:Kd)(K:Kd->Prop):Prop:=match d with
 |.int _=>K .own
 |.bl _=>K .own
 |.ck=>K .own
 |.str _=>K .own
 |.tup _=>K k
 |_=>(N d/\K .own)\/K k
def kN.mono {N:D->Prop}{d:D}{k:Kd}{K K':Kd->Prop}(h:∀x,K x->K' x)(q:kN N d k K):kN N d k K':=by
 cases d <;> first|exact h _ q|exact q.imp (λz=>⟨z.1,h _ z.2⟩) (h _)
def jH {P:V2}{w:Wm}{Z:Hp×(Addr->Prop)}{d:D}{v:V}(hd:Dm (Wn own) H)(h0:∀a,C.H0 a≠none->H a≠none)(hz:∀a,Z.1 a≠none->H a≠none)(f:NL d)(r:aD P w (λa=>H a≠none) H' d v):KV P w C Z own H' .own d v:=by
 have nn:∀{a:Addr},¬ (H a≠none)->H a=none:=λ{a} h=>Wz λz=>h z;have cl:∀{a:Addr},H a=none->Z.1 a=none/\¬ Wn own a/\C.H0 a=none:=λ{a} h=>{Wz λz=>hz a z h,λz=>hd a z h,Wz λz=>h0 a z h};cases d with
 |lst ds =>
  obtain⟨a,vs,rfl,e,n,q⟩:=r;exact{[a],{a,vs,[],rfl,e,rfl,ia f q},by simp,λc hc=>by rw[VU.mp hc];exact cl (nn n)}
 |_=>exact KV.flat f r
noncomputable def KV.kN {N:D->Prop}{P:V2}{w:Wm}{Z:Hp×(Addr->Prop)}{d:D}{v:V}{k:Kd}{K:Kd->Prop}(hk:k.wk=k)(r:aD P w (av C (Wn own) k) H' d v)(ro:N d->KV P w C Z own H' .own d v)(q:kN N d k K):∃k',K k'/\KV P w C Z own H' k' d v:=by
 have rk:KV P w C Z own H' k d v:=by rw[<- hk];exact KV.of (by rw[hk];exact r)
 cases d with
 |int i=>exact{_,q,KV.flat rfl r}
 |bl i=>exact{_,q,KV.flat rfl r}
 |ck=>exact{_,q,KV.flat rfl r}
 |str i=>exact{_,q,KV.flat rfl r}
 |tup ds=>exact{_,q,rk}
 |_=>exact q.elim (λz=>{_,z.2,ro z.1}) λz=>{_,z,rk}
structure Dk (N:D->Prop):Prop where
 nl:∀d,N d->NL d
def aX:Dk NL:={λ_ h=>h}
def ag:Dk NF:={λd h=>by cases d <;> first|exact h|cases h}
def F4 {a b:Kd}:(a.max b).wk=a.max b:=by cases a <;> cases b <;> rfl
def zL (g:D->D->Option D)(N:D->Prop)(pb:Bool)(φa φb:aQ):aQ:=λβ R=>φa β λx ka β1=>hold ka pb/\φb β1 λy kb β2=>∃d,g x y=some d/\kN N d (ka.max kb) λk=>R d k β2
variable {g:D->D->Option D}{N:D->Prop}
def zL.mono (ha:PQ X C p a φa)(hb:PQ X C p' b φb):∀β R R',(∀d k β,R d k β->R' d k β)->zL g N p' φa φb β R->zL g N p' φa φb β R':=λβ R R' k h =>
 ha.mono β _ _ (λx ka β1 hx=>{hx.1,hb.mono β1 _ _ (λy kb β2 BV=>by obtain⟨d,e,q⟩:=BV;exact{d,e,q.mono λ_ z=>k _ _ _ z}) hx.2}) h
def vq (hn:Dk N)(ha:PQ X C p a φa)(hb:PQ X C p' b φb):∀σ H Q,tQ X C (p&&p') (zL g N p' φa φb) σ H Q->Ko (Az X g N) (tQ X C p φa) (tQ X C p' φb) σ H Q:=λσ H Q ⟨β,own,s,h⟩ =>
 tQ.of ha s h λd1 k1 β1 v1 H1 aF ⟨hh,h1⟩ o1 r1=>tQ.of hb o1.sq h1 λd2 k2 β2 v2 H2 bh BU o2 r2=>by
  obtain⟨d,e,q⟩:=BU;have OC:=r1.ho o2 hh;refine{av C (Wn bh) (k1.max k2),d1,d2,d,o2.sq.Di _,aD.a8 dk OC.rep,aD.a8 gg r2.rep,e,λv H' s3 r3 n3=>?_};have o:=(o1.trans o2).same s3;obtain⟨k,q,r⟩:=KV.kN (Z:=(H,Wn own)) F4 r3 (λn=>jH (H:=H2) o2.sq.xQ o2.sq.iN (λa z=>o2.sn.d a (o1.sn.d a z)) (hn.nl _ n) (n3 n)) q;exact q v H' bh o r
def aH {op:Operator}(hn:Dk N)(ho:NV X (XX op) g N)(ha:PQ X C p a φa)(hb:PQ X C p' b φb):PQ X C (p&&p') (.BinOp a op b pos) (zL g N p' φa φb):={zL.mono ha hb,(dt ho ha.pe hb.pe).pre (vq hn ha hb)}
def iY {op:Y4}(hn:Dk N)(ho:NV X (W_ op) g N)(ha:PQ X C p a φa)(hb:PQ X C p' b φb)(hm:X_ op b=false:=by first|exact tD _ (by decide) (by decide)|rfl):PQ X C (p&&p') (.Compare a [op] [b] pos) (zL g N p' φa φb) :=
 {zL.mono ha hb,(xa ho ha.pe hb.pe hm).pre (vq hn ha hb)}
def a5 (hn:Dk N)(ho:GK X (Az X g N))(ha:PQ X C p a φa)(hb:PQ X C p' b φb)(hs:rR b:=by exact λ_ _=>rfl):PQ X C (p&&p') (.Subscript a b pos) (zL g N p' φa φb):={zL.mono ha hb,(mK ho ha.pe hb.pe hs).pre (vq hn ha hb)}
def AA (φ:aQ):aZ:=λβ R=>φ β λd k β'=>∃b,d=.bl b/\R b β'
def aM {op:Y4}(hn:Dk N)(ho:NV X (W_ op) g N)(ha:PQ X C p a φa)(hb:PQ X C p' b φb)(hm:X_ op b=false:=by first|exact tD _ (by decide) (by decide)|rfl):uZ X C (p&&p') (.Compare a [op] [b] pos) (AA (zL g N p' φa φb)) :=
 ⟨λβ R R' k h=>zL.mono ha hb β _ _ (λd kd β BS=>by obtain⟨t,e,q⟩:=BS;exact{t,e,k _ _ q}) h,(wW ho ha.pe hb.pe hm).pre λσ H Q ⟨β,own,s,h⟩ =>
  tQ.of ha s h λd1 k1 β1 v1 H1 aF ⟨hh,h1⟩ o1 r1=>tQ.of hb o1.sq h1 λd2 k2 β2 v2 H2 bh I_ o2 r2=>by
   obtain⟨d,e,q⟩:=I_;have OC:=r1.ho o2 hh;refine{av C (Wn bh) (k1.max k2),d1,d2,d,o2.sq.Di _,aD.a8 dk OC.rep,aD.a8 gg r2.rep,e,λv H' s3 r3 n3=>?_};obtain⟨k,⟨t,et,q'⟩,r⟩:=KV.kN (Z:=(H,Wn own)) F4 r3 (λn=>jH (H:=H2) o2.sq.xQ o2.sq.iN (λa z=>o2.sn.d a (o1.sn.d a z)) (hn.nl _ n) (n3 n)) q;subst et;cases r3;exact{t,rfl,q' H' bh ((o1.trans o2).same s3)}⟩
def qJ (ha:PQ X C p a φa)(he:∀whole,Z9 a X.env whole=(do let v <- whole;Y8 a.pos;holding [v] (truthy v)):=by intro _;rfl):uZ X C p a (AA φa) :=
 ⟨λβ R R' k h=>ha.mono β _ _ (λd kd β' I9=>by obtain⟨b,e,q⟩:=I9;exact{b,e,k _ _ q}) h,(HC ha.pe he).pre λσ H Q ⟨β,own,s,h⟩=>tQ.of ha s h λd k β' v H1 aF IY o1 r1=>by
  obtain⟨b,e,q⟩:=IY;subst e;cases r1.rep;exact{b,rfl,q H1 aF o1}⟩
def KI (τ:aZ):aZ:=λβ R=>τ β λb β'=>R (!b) β'
def lL (ha:uZ X C p a τ):uZ X C p (.UnaryOp .Not a pos) (KI τ) :=
 {λβ R R' k h=>ha.mono β _ _ (λb β' q=>k _ _ q) h,(HD ha.pt).pre λσ H Q IX=>by obtain⟨β,own,s,h⟩:=IX;exact j7.of ha s h λb β' H1 aF q o=>q H1 aF o}
variable {rest:List Expr}
def KN (τa τb:aZ):aZ:=λβ R=>τa β λt β1=>if t=true then τb β1 R else R false β1
def OI (τa τb:aZ):aZ:=λβ R=>τa β λt β1=>if t=true then R true β1 else τb β1 R
def sR (ha:uZ X C p a τ):wx X C p (.BoolOp .And [a] pos) τ:={ha.mono,pw_and1 ha.pt}
def jE (ha:uZ X C p a τ):wx X C p (.BoolOp .Or [a] pos) τ:={ha.mono,pw_or1 ha.pt}
def FA {p q:Bool}(z:(p&&q)=true):p=true:=by cases p <;> first|rfl|cases z
def QW {p q:Bool}(z:(p&&q)=true):q=true:=by cases p <;> first|exact z|cases z
def wZ (ha:uZ X C p a τa)(hb:wx X C p' (.BoolOp .And (b::rest) pos) τb):wx X C (p&&p') (.BoolOp .And (a::b::rest) pos) (KN τa τb) :=
 ⟨λβ R R' k h=>ha.mono β _ _ (λt β1 q=>by
   cases t
   ·exact k _ _ q
   ·exact hb.mono β1 _ _ k q) h,(pw_and ha.pt hb.pw).pre λσ H Q ⟨β,own,s,h⟩=>j7.of ha s h λt β1 H1 aF q o1=>by
  cases t
  ·exact q H1 aF (o1.wk FA)
  ·exact j7.of hb.t o1.sq q λt' β2 H2 bh q2 o2=>q2 H2 bh (o1.trans o2)⟩
def mG (ha:uZ X C p a τa)(hb:wx X C p' (.BoolOp .Or (b::rest) pos) τb):wx X C (p&&p') (.BoolOp .Or (a::b::rest) pos) (OI τa τb) :=
 ⟨λβ R R' k h=>ha.mono β _ _ (λt β1 q=>by
   cases t
   ·exact hb.mono β1 _ _ k q
   ·exact k _ _ q) h,(pw_or ha.pt hb.pw).pre λσ H Q ⟨β,own,s,h⟩=>j7.of ha s h λt β1 H1 aF q o1=>by
  cases t
  ·exact j7.of hb.t o1.sq q λt' β2 H2 bh q2 o2=>q2 H2 bh (o1.trans o2)
  ·exact q H1 aF (o1.wk FA)⟩
def Tw (φa φb:aQ):aQ:=λβ R=>φa β λx _ β1=>∃c,x=.bl c/\if c=true then R (.bl true) .own β1 else φb β1 R
def AQ {op}(h:PQ X C p a φ):PQ X C p (.BoolOp op [a] pos) φ:={h.mono,HI h.pe}
def F_ {P:V2}{w:Wm}{Z:Hp×(Addr->Prop)}{b:Bool}:KV P w C Z own H .own (.bl b) (.bl b):=KV.flat (W:=λ_=>False) rfl rfl
def FV (ha:PQ X C p a φa)(hb:PQ X C p' (.BoolOp .Or (b::rest) pos) φb):PQ X C (p&&p') (.BoolOp .Or (a::b::rest) pos) (Tw φa φb) :=
 ⟨λβ R R' k h=>ha.mono β _ _ (λd kd β1 ⟨c,e,q⟩=>⟨c,e,by
   cases c
   ·exact hb.mono β1 _ _ k q
   ·exact k _ _ _ q⟩) h,(KR ha.pe hb.pe).pre λσ H Q ⟨β,own,s,h⟩=>tQ.of ha s h λd kd β1 v H1 aF IV o1 r1=>by
  obtain⟨c,e,q⟩:=IV;subst e;cases r1.rep;refine{c,rfl,?_};cases c
  ·exact tQ.of hb o1.sq q λd2 k2 β2 v2 H2 bh q2 o2 r2=>q2 v2 H2 bh (o1.trans o2) (r2.later o1.sn)
  ·exact q _ H1 aF (o1.wk FA) F_⟩
def Tu (g:D->Option D)(φa:aQ):aQ:=λβ R=>φa β λx _ β1=>∃d,g x=some d/\d.flat=true/\R d .own β1
def FT {op:UnaryOp}{g:D->Option D}(ho:MW X (unaryOp op) (Rt X g))(ha:PQ X C p a φa):PQ X C p (.UnaryOp op a pos) (Tu g φa) :=
 ⟨λβ R R' k h=>ha.mono β _ _ (λx _ β1 PX=>by obtain⟨d,e,f,q⟩:=PX;exact{d,e,f,k _ _ _ q}) h,(FY ho ha.pe).pre λσ H Q ⟨β,own,s,h⟩ =>
  tQ.of ha s h λd1 k1 β1 v1 H1 aF PV o1 r1=>by obtain⟨d,e,f,q⟩:=PV;exact{_,d1,d,o1.sq.Di _,r1.rep,e,λv H' s2 r2=>q v H' aF (o1.same s2) (KV.flat f r2)}⟩
def OJ:cF:=λβ R=>R [] [] β
def KL (pr:Bool)(φ:aQ)(φs:cF):cF:=λβ R=>φ β λd k β1=>hold k pr/\φs β1 λds ks β2=>R (d::ds) (k::ks) β2
def af:uQ X C true [] OJ:={λβ R R' k h=>k _ _ _ h,eF.pre λσ H Q PU=>by obtain⟨β,own,s,q⟩:=PU;exact q [] H own (Out.refl s _) uU.nil}
def ab (ha:PQ X C p a φ)(hr:uQ X C p' es φs)(hs:Wj (a::es) X.env=(false,eval a X.env)::Wj es X.env:=by rfl):uQ X C (p&&p') (a::es) (KL p' φ φs) :=
 ⟨λβ R R' k h=>ha.mono β _ _ (λd kd β1 q=>{q.1,hr.mono β1 _ _ (λds ks β2 q2=>k _ _ _ q2) q.2}) h,(bN ha.pe hr.pa hs).pre λσ H Q ⟨β,own,s,h⟩ =>
  tQ.of ha s h λd1 k1 β1 v1 H1 aF PR o1 r1=>by obtain⟨hh,h1⟩:=PR;exact ve.of hr o1.sq h1 λds ks β2 vs H2 bh q o2 r2=>q (v1::vs) H2 bh (o1.trans o2) (uU.cons r1 o2.sn (r1.ho o2 hh) r2 o1.sn)⟩
def OE (φs:cF):aQ:=λβ R=>φs β λds ks β1=>ds.length<=Wi/\BE ks ds λk=>R (.tup ds) k β1
def OK (φs:cF):aQ:=λβ R=>φs β λds ks β1=>ds.length<=Wi/\BE ks ds λk=>R (.lst ds) k β1
def aL.same {P:V2}{w:Wm}{ds:List D}{vs:List V}{A:List Addr}(s:aE H H')(h:aL P w H ds vs A):aL P w H' ds vs A:=h.keep (λb xs e=>s _ _ e) λc _ o e=>s c o e
def Iz {P:V2}{w:Wm}{Z:Hp×(Addr->Prop)}{ks:List Kd}{ds:List D}{vs:List V}{K:Kd->Prop}{q:Addr}(hq:H q=none)(h:uU P w C Z own H ks ds vs)(m:BE ks ds K):∃k,K k/\KV P w C Z own (upd H q (.tup vs)) k (.tup ds) (.ref q):=by
 rcases m.of with⟨f,k⟩|k
 ·obtain⟨A,h1,h2,h3⟩:=h;exact{_,k,A,{q,vs,rfl,ao,(h1.HN f).same (aE.new hq)},h2,h3}
 ·refine{_,k,?_};rw[<- jO];exact KV.of (by rw[jO];exact{q,vs,rfl,ao,h.jA.same (aE.new hq)})
def IA {P:V2}{w:Wm}{Z:Hp×(Addr->Prop)}{ks:List Kd}{ds:List D}{vs:List V}{K:Kd->Prop}{q:Addr}(hq:H q=none)(hd:Dm (Wn own) H)(h0:∀a,C.H0 a≠none->H a≠none)(hz:∀a,Z.1 a≠none->H a≠none)(h:uU P w C Z own H ks ds vs)(m:BE ks ds K):∃k,K k/\KV P w C Z own (upd H q (.lst vs)) k (.lst ds) (.ref q):=by
 rcases m.of with⟨f,k⟩|k
 ·obtain⟨A,h1,h2,h3⟩:=h;refine{_,k,q::A,{q,vs,A,rfl,ao,rfl,(h1.HN f).same (aE.new hq)},WB.mpr {λz=>h1.oh q z hq,h2},λc hc=>?_};rcases VX.mp hc with rfl|hc
  ·exact{Wz λz=>hz c z hq,λz=>hd c z hq,Wz λz=>h0 c z hq}
  ·exact h3 c hc
 ·refine{_,k,?_};have nq:¬ av C (Wn own) (i6 ks) q:=λz=>by
   cases e:i6 ks <;> rw[e]at z <;> first|exact z.elim (λz=>hd q z hq) λz=>h0 q z hq|exact hd q z hq|exact z
  rw[<- jO];exact KV.of (by rw[jO];exact{q,vs,rfl,ao,nq,h.jA.same (aE.new hq)})
def uU.length {P:V2}{w:Wm}{Z:Hp×(Addr->Prop)}{ks:List Kd}{ds:List D}{vs:List V}(h:uU P w C Z own H ks ds vs):vs.length=ds.length:=h.jA.length
def aN {x1}(h:uQ X C p es φs):PQ X C p (.Tuple es x1 pos) (OE φs) :=
 ⟨λβ R R' k q=>h.mono β _ _ (λds ks β1 PN=>by obtain⟨l,q⟩:=PN;exact{l,q.mono λ_ z=>k _ _ _ z}) q,(AX h.pa).pre λσ H Q ⟨β,own,s,q⟩=>ve.of h s q λds ks β1 vs H1 aF ⟨l,q1⟩ o1 r1 =>
  {by rw[r1.length];exact l,λq hq=>let ⟨k,q1,r⟩:=Iz hq r1 q1;q1 _ _ aF (o1.same (aE.new hq)) r}⟩
def bJ (h:uQ X C p es φs):PQ X C p (.List es pos) (OK φs) :=
 ⟨λβ R R' k q=>h.mono β _ _ (λds ks β1 PM=>by obtain⟨l,q⟩:=PM;exact{l,q.mono λ_ z=>k _ _ _ z}) q,(vA h.pa).pre λσ H Q ⟨β,own,s,q⟩=>ve.of h s q λds ks β1 vs H1 aF ⟨l,q1⟩ o1 r1 =>
  {by rw[r1.length];exact l,λq hq=>let ⟨k,q1,r⟩:=IA hq o1.sq.xQ o1.sq.iN (λa z=>o1.sn.d a z) r1 q1;q1 _ _ aF (o1.same (aE.new hq)) r}⟩
end
section
variable {X:Cx}{C:Cfg}{a b c e:Expr}{es:List Expr}{φ φa φb:aQ}{φs:cF}{pos:Pos}{σ:St}{H H':Hp}{β:a9}{own:Nat->List Addr}{p:Bool}{g:D->D->Option D}{N:D->Prop}
abbrev qh:=D->Kd->aQ
structure NT (X:Cx)(C:Cfg)(ops:List Y4)(es:List Expr)(φ:qh):Prop where
 mono:∀x k β R R',(∀d k β,R d k β->R' d k β)->φ x k β R->φ x k β R'
 ch:JS X ops es λx σ H Q=>∃β own d k,SQ X C σ H β own/\Rp X (av C (Wn own) k) H d x/\φ d k β λd' k' β'=>∀v H',aE H H'->SQ X C σ H' β' own->KV X.prog X.w C (H,Wn own) own H' k' d' v->Q v H'
 SF:uT X ops es λx σ H Q=>∃β own d k,SQ X C σ H β own/\Rp X (av C (Wn own) k) H d x/\φ d k β λd' k' β'=>∃b,d'=.bl b/\∀H',aE H H'->SQ X C σ H' β' own->Q b H'
def OM (g:D->D->Option D)(φb:aQ):qh:=λx _ β R=>φb β λy _ β1=>∃b,g x y=some (.bl b)/\R (.bl b) .own β1
def OL (g:D->D->Option D)(φb:aQ)(φr:qh):qh:=λx _ β R=>φb β λy ky β1=>∃k,g x y=some (.bl k)/\if k=true then φr y ky β1 R else R (.bl false) .own β1
variable {op HW:Y4}{ops:List Y4}{rs:List Expr}{φr:qh}
def DQ (ho:bC X (W_ op) g)(hb:PQ X C true b φb):NT X C [op] [b] (OM g φb) :=
 ⟨λx k β R R' h q=>hb.mono β _ _ (λy _ β1 t9=>by obtain⟨d,e,q⟩:=t9;exact{d,e,h _ _ _ q}) q,
  (Jz ho hb.pe).pre λx σ H Q ⟨β,own,d,k,s,r,h⟩=>tQ.of hb s h λd2 k2 β2 v2 H2 bh y_ o2 r2=>by
    obtain⟨d',e,q⟩:=y_;obtain⟨s2,rfl⟩:=o2.pu rfl;exact{av C (Wn bh) (k.max k2),d,d2,.bl d',o2.sq.Di _,aD.a8 dk (r.same s2),aD.a8 gg r2.rep,e,λv H' s3 r3=>q v H' (s2.trans s3) (o2.sq.same s3) (KV.flat rfl r3)},
  (Fq ho hb.pe).pre λx σ H Q ⟨β,own,d,k,s,r,h⟩=>tQ.of hb s h λd2 k2 β2 v2 H2 bh LJ o2 r2=>by
    obtain⟨d',e,b,eb,q⟩:=LJ;obtain⟨s2,rfl⟩:=o2.pu rfl;cases eb;exact⟨av C (Wn bh) (k.max k2),d,d2,.bl d',o2.sq.Di _,aD.a8 dk (r.same s2),aD.a8 gg r2.rep,e,λv H' s3 r3=>by
      cases r3;exact{_,rfl,q H' (s2.trans s3) (o2.sq.same s3)}⟩⟩
def sV (ho:bC X (W_ op) g)(hb:PQ X C true b φb)(hc:NT X C (HW::ops) (c::rs) φr):NT X C (op::HW::ops) (b::c::rs) (OL g φb φr) :=
 ⟨λx k β R R' h q=>hb.mono β _ _ (λy ky β1 ⟨d,e,q⟩=>⟨d,e,by
   cases d
   ·exact h _ _ _ q
   ·exact hc.mono y ky β1 _ _ h q⟩) q,
  (Fs ho hb.pe hc.ch).pre λx σ H Q ⟨β,own,d,k,s,r,h⟩=>tQ.of hb s h λd2 k2 β2 v2 H2 bh EM o2 r2=>by
    obtain⟨t,e,q⟩:=EM;obtain⟨s2,rfl⟩:=o2.pu rfl;refine{av C (Wn bh) (k.max k2),d,d2,.bl t,o2.sq.Di _,aD.a8 dk (r.same s2),aD.a8 gg r2.rep,e,λv H' s3 r3=>?_};cases r3;refine{t,rfl,?_};cases t
    · exact q _ H' (s2.trans s3) (o2.sq.same s3) F_
    · exact{β2,bh,d2,k2,o2.sq.same s3,r2.rep.same s3,hc.mono d2 k2 β2 _ _ (λd' k' β' q' v C1 s4 sq r4=>q' v C1 ((s2.trans s3).trans s4) sq (r4.later ((o2.same s3).sn))) q},
  (CK ho hb.pe hc.SF).pre λx σ H Q ⟨β,own,d,k,s,r,h⟩=>tQ.of hb s h λd2 k2 β2 v2 H2 bh vY o2 r2=>by
    obtain⟨t,e,q⟩:=vY;obtain⟨s2,rfl⟩:=o2.pu rfl;refine{av C (Wn bh) (k.max k2),d,d2,.bl t,o2.sq.Di _,aD.a8 dk (r.same s2),aD.a8 gg r2.rep,e,λv H' s3 r3=>?_};cases r3;refine{t,rfl,?_};cases t
    · obtain⟨b,eb,q⟩:=q;cases eb;exact q H' (s2.trans s3) (o2.sq.same s3)
    · exact{β2,bh,d2,k2,o2.sq.same s3,r2.rep.same s3,hc.mono d2 k2 β2 _ _ (λd' k' β' BV=>by obtain⟨b,eb,q'⟩:=BV;exact{b,eb,λC1 s4 sq=>q' C1 ((s2.trans s3).trans s4) sq}) q}⟩
def HB (φa:aQ)(φr:qh):aQ:=λβ R=>φa β λx k β1=>φr x k β1 R
def yB {mO mN:Y4}(ha:PQ X C true a φa)(hc:NT X C (mO::mN::ops) (b::c::rs) φr)(hm:lastMarks (mO::mN::ops) (b::c::rs)=false:=by with_unfolding_all rfl):
  uZ X C true (.Compare a (mO::mN::ops) (b::c::rs) pos) (AA (HB φa φr)) :=
 ⟨λβ R R' k h=>ha.mono β _ _ (λx kx β1 q=>hc.mono x kx β1 _ _ (λd kd β' Ja=>by obtain⟨b,e,q⟩:=Ja;exact{b,e,k _ _ q}) q) h,(yz ha.pe hc.SF hm).pre λσ H Q ⟨β,own,s,h⟩=>tQ.of ha s h λd k β1 v H1 aF q o1 r1=>by
  obtain⟨s1,rfl⟩:=o1.pu rfl;exact{β1,aF,d,k,o1.sq,r1.rep,hc.mono d k β1 _ _ (λd' k' β' BS=>by obtain⟨b,e,q'⟩:=BS;exact{b,e,λC1 s4 sq=>q' C1 aF {sq,o1.sn.same s4,λ_=>{s1.trans s4,rfl},o1.le}}) q}⟩
abbrev C0:=a9->(Option Int->a9->Prop)->Prop
structure NR (X:Cx)(C:Cfg)(e:Option Expr)(φ:C0):Prop where
 mono:∀β R R',(∀d β,R d β->R' d β)->φ β R->φ β R'
 po:PO X e λσ H Q=>∃β own,SQ X C σ H β own/\φ β λo β'=>∀H',aE H H'->SQ X C σ H' β' own->Q o H'
def sU:NR X C none (λβ R=>R none β):={λβ R R' k h=>k _ _ h,w6.pre λσ H Q BR=>by obtain⟨β,own,s,q⟩:=BR;exact q H (aE.refl _) s}
def sS (ha:PQ X C true a φ):NR X C (some a) (λβ R=>φ β λd _ β1=>∃i,d=.int i/\R (some i) β1) :=
 ⟨λβ R R' k h=>ha.mono β _ _ (λd _ β1 BQ=>by obtain⟨i,e,q⟩:=BQ;exact{i,e,k _ _ q}) h,(w5 ha.pe).pre λσ H Q ⟨β,own,s,h⟩=>tQ.of ha s h λd k β1 v H1 aF I9 o1 r1=>by
  obtain⟨i,e,q⟩:=I9;subst e;cases r1.rep;obtain⟨s1,rfl⟩:=o1.pu rfl;exact{i,rfl,q H1 s1 o1.sq}⟩
def Tv (φ:aQ)(φl φh:C0):aQ:=λβ R=>φ β λx k β1=>φl β1 λl β2=>φh β2 λh β3=>∃d,MF x l h=some d/\kN NL d k.wk λk'=>R d k' β3
def FL {k:Kd}:k.wk.wk=k.wk:=by cases k <;> rfl
def CP {W:Addr->Prop}{k:Kd}:∀c,av C W k.wk c->av C W k c:=λc h=>by cases k <;> exact h
def FU {lo hi:Option Expr}{φl φh:C0}{p2:Pos}(ha:PQ X C p a φ)(hl:NR X C lo φl)(hh:NR X C hi φh):PQ X C p (.Subscript a (.Slice lo hi none p2) pos) (Tv φ φl φh) :=
 ⟨λβ R R' k h=>ha.mono β _ _ (λx kx β1 q=>hl.mono β1 _ _ (λl β2 q=>hh.mono β2 _ _ (λu β3 IZ=>by obtain⟨d,e,q⟩:=IZ;exact{d,e,q.mono λ_ z=>k _ _ _ z}) q) q) h,
  (sX DF ha.pe hl.po hh.po).pre λσ H Q ⟨β,own,s,h⟩=>tQ.of ha s h λd k β1 v H1 aF q o1 r1 =>
    ⟨β1,aF,o1.sq,hl.mono β1 _ _ (λl β2 q H2 s2 Tb=>⟨β2,aF,Tb,hh.mono β2 _ _ (λu β3 IX H3 s3 Ng=>by
      obtain⟨d',e,q⟩:=IX;refine{av C (Wn aF) k.wk,d,d',Ng.Di _,((aD.a8 CP r1.rep).same s2).same s3,e,λv H' s4 r4 n4=>?_};obtain⟨k',q,r⟩:=KV.kN (Z:=(H,Wn own)) FL r4 (λn=>jH (H:=H3) Ng.xQ Ng.iN (λa z e=>o1.sn.d a z (s2.free (s3.free e))) n (n4 n)) q;exact q v H' aF {Ng.same s4,o1.sn.same ((s2.trans s3).trans s4),λz=>{(o1.pu z).1.trans ((s2.trans s3).trans s4),(o1.pu z).2},o1.le} r) q⟩) q⟩⟩
def KC (X:Cx)(f:List D->Option D)(N:D->Prop):List V->Hp->VK->Prop:=λxs H Q=>∃W ds d,Dm W H/\uP X W H ds xs/\f ds=some d/\∀v H',aE H H'->Rp X W H' d v->(N d->Rp X (λa=>H a≠none) H' d v)->Q v H'
abbrev C2 (X:Cx)(f:VT)(g:List D->Option D)(N:D->Prop):Prop:=fM X f (KC X g N)
def dB.m {f:VT}{g:List D->Option D}(h:dB X f g):C2 X f g NF:=λpins s σ H xs us Q I r ⟨W,ds,d,hd,r1,e,q⟩ =>
 h pins s σ H xs us Q I r {W,ds,d,hd,r1,e,λv H' s r=>q v H' s r λf=>aD.flat f r}
def k7 (g:List D->Option D)(N:D->Prop)(φs:cF):aQ:=λβ R=>φs β λds ks β1=>∃d,g ds=some d/\kN N d (i6 ks) λk=>R d k β1
variable {x:Str}{pp:Pos}{id T:String}{gs:List D->Option D}
def k7.mono (h:uQ X C p es φs):∀β R R',(∀d k β,R d k β->R' d k β)->k7 gs N φs β R->k7 gs N φs β R':=λβ R R' k q=>h.mono β _ _ (λds ks β1 P6=>by obtain⟨d,e,q⟩:=P6;exact{d,e,q.mono λ_ z=>k _ _ _ z}) q
def sP (hn:Dk N)(h:uQ X C p es φs):∀σ H Q,tQ X C p (k7 gs N φs) σ H Q->Nc (KC X gs N) (ve X C p φs) σ H Q:=λσ H Q ⟨β,own,s,q⟩=>ve.of h s q λds ks β1 vs H1 aF P4 o1 r1=>by
 obtain⟨d,e,q1⟩:=P4;refine{av C (Wn aF) (i6 ks),ds,d,o1.sq.Di _,r1.jA,e,λv H' s2 r2 n2=>?_};obtain⟨k',q,r⟩:=KV.kN (Z:=(H,Wn own)) jO r2 (λn=>jH (H:=H1) o1.sq.xQ o1.sq.iN (λa z=>o1.sn.d a z) (hn.nl _ n) (n2 n)) q1;exact q v H' aF (o1.same s2) r
def c0 (Ji:Dk N)(hc:C2 X (.builtin id) gs N)(hm:X.mg x=none)(hv:Xl x=some (.builtin id))(ha:uQ X C p (e::es) φs)(hg:Gl X x:=by rfl)(hn:x≠"__name__" := by decide)(hdb:(x==("__debug__" : Str))=false:=by decide)
  (t7:Wj (e::es) X.env=(false,eval e X.env)::Wj es X.env:=by rfl) (hpl:(XT pos (Wj es X.env)).any (·.1)=false:=by rfl) :
  PQ X C p (.Call (.Name x pp) (e::es) [] pos) (k7 gs N φs):={k7.mono ha,(mL hc hg hm hv ha.pa hn hdb (he:=t7) (hpl:=hpl)).pre (sP Ji ha)}
def pz (Ji:Dk N)(hc:C2 X (.type T) gs N)(hm:X.mg x=none)(hv:Xl x=some (.type T))(ha:uQ X C p (e::es) φs)(hg:Gl X x:=by rfl)(hn:x≠"__name__" := by decide)(hdb:(x==("__debug__" : Str))=false:=by decide)
  (t7:Wj (e::es) X.env=(false,eval e X.env)::Wj es X.env:=by rfl) (hpl:(XT pos (Wj es X.env)).any (·.1)=false:=by rfl) :
  PQ X C p (.Call (.Name x pp) (e::es) [] pos) (k7 gs N φs):={k7.mono ha,(pB hc hg hm hv ha.pa hn hdb (he:=t7) (hpl:=hpl)).pre (sP Ji ha)}
end
def uR (P:V2)(w:Wm)(ro:Bool)(H H':Hp)(d:D)(v:V):Prop:=match ro with
 |true=>∃A,Own P w H' d v A/\A.Nodup/\∀c∈A,H c=none
 |false=>aD P w (λa=>H a≠none) H' d v
abbrev rk (ro:Bool):Kd:=match ro with|true=>.own|false=>.gj
def bZ (P:V2)(w:Wm)(ro:Bool)(F:FD):Sp:=λvs H Q _=>∃ds,ai P w (λ_=>False) H ds vs/\F ds λd=>∀v H',aE H H'->uR P w ro H H' d v->Q v H'
def vh (P:V2)(w:Wm)(ok:List Int->Prop)(ro:Bool)(F:FD):Sp:=λvs H Q _=>∃h vs' ds ns,vs=.ref h::vs'/\H h=some (.lst (ns.map V.int))/\ok ns/\ai P w (λa=>a=h) H ds vs' /\
 F ds λd=>∀v H' og,Kp (·=h) H H'->(∀c,H c≠none->H' c≠none)->H' h=some (.lst (og.map V.int))->ok og->uR P w ro H H' d v->Q v H'
section
variable {X:Cx}{C:Cfg}{k ih:Nat}{f:Addr}{fd:WN}{ps:List Str}{F:FD}{ro p:Bool}{x hx:Str}{pp pos px:Pos}{e:Expr}{es:List Expr}{φs:cF}{ok:List Int->Prop}{σ:St}{H H':Hp}{β:a9}{own:Nat->List Addr}{P:V2}{w:Wm}
def uR.kv {Z:Hp×(Addr->Prop)}{d:D}{v:V}(hd:Dm (Wn own) H)(h0:∀a,C.H0 a≠none->H a≠none)(hz:∀a,Z.1 a≠none->H a≠none)(h:uR P w ro H H' d v):KV P w C Z own H' (rk ro) d v:=by
 cases ro with
 |true =>
  obtain⟨A,h1,h2,h3⟩:=h;exact{A,h1,h2,λc hc=>{Wz λz=>hz c z (h3 c hc),λz=>hd c z (h3 c hc),Wz λz=>h0 c z (h3 c hc)}}
 |false=>exact aD.a8 (λa z=>z.elim (hd a) (h0 a)) h
def OH (ro:Bool)(F:FD)(φs:cF):aQ:=λβ R=>φs β λds _ β1=>F ds λd=>R d (rk ro) β1
def aw (mF:dc F)(G:aG X.prog X.w X.K X.mg X.base bu k f fd ps (bZ X.prog X.w ro F))(hr:da k X.A)(hm:X.mg x=some (.ref f))(hk:PySem.W.keepIn X.K (.ref f)=true)(hb:Binds X.K fd ps [])(ha:uQ X C p (e::es) φs)(hg:Gl X x:=by rfl)
  (hdb:(x==("__debug__" : Str))=false:=by decide)
  (t7:Wj (e::es) X.env=(false,eval e X.env)::Wj es X.env:=by rfl) (hpl:(XT pos (Wj es X.env)).any (·.1)=false:=by rfl) :
  PQ X C p (.Call (.Name x pp) (e::es) [] pos) (OH ro F φs) :=
 ⟨λβ R R' k h=>ha.mono β _ _ (λds ks β1 q=>mF ds _ _ (λd q=>k _ _ _ q) q) h,(xb G hr hg hm hk hb .nil F0 ha.pa (hdb:=hdb) (he:=t7) (hpl:=hpl)).pre λσ H Q ⟨β,own,s,h⟩=>ve.of ha s h λds ks β1 vs H1 aF q o1 r1=>by
  rw[WZ];exact{ds,r1.bor,mF ds _ _ (λd q2 v H' s2 r2=>q2 v H' aF (o1.same s2) (r2.kv o1.sq.xQ o1.sq.iN λa z=>o1.sn.d a z)) q}⟩
def cT.drawn {i:Nat}{h:Addr}{og:List Int}(b:cT P w C σ H β own)(e:β[i]?=some (some (.hand ok)))(hσ:σ[i]?=some (some (.ref h)))(k:Kp (·=h) H H')(e':H' h=some (.lst (og.map V.int)))(o':ok og)(dn:∀c,H c≠none->H' c≠none):cT P w C σ H' β own:=by
 obtain⟨a,ns,h1,h2,h3,h4,h5⟩:=b.pN i ok e;rw[hσ]at h1;cases h1;have wh:Wn own h:={i,by rw[h4];simp}
 have kW:∀y,Kp (iy C (Wn own) (yk y)) H H':=λy=>k.mono λc z=>by rw[z];cases y <;> first|exact .inl wh|exact .inl (.inl wh)
 have ne:∀j,j≠i->∀c∈own j,c≠h:=λj hj c hc z=>hj (b.oi j i c hc (by rw[h4,z];simp))
 refine⟨b.len,λj y d e=>let ⟨v,g1,g2⟩:=b.val j y d e;{v,g1,g2.keep (kW y)},λj d ej=>?_,λj zM ej=>?_,λj c hc=>?_,b.oi,b.oG,{λc o z n=>?_,λc xs z=>k.tup c xs (b.kp.tup c xs z)},λc z=>dn c (b.iN c z),λj y d ej=>by
  obtain⟨v,g1,g2,g3⟩:=b.shl j y d ej;have hj:j≠i:=λz=>by rw[z,e]at ej;cases ej
  exact{v,g1,g2.map (λc hc o eo=>k.out c o eo (ne j hj c hc)) (λ_ _ r=>r.keep (kW true)),g3}⟩
 ·obtain⟨v,g1,g2,g3⟩:=b.ow j d ej;have hj:j≠i:=λz=>by rw[z,e]at ej;cases ej
  exact{v,g1,g2.keep k.tup (λc hc o eo=>k.out c o eo (ne j hj c hc)),g3}
 ·by_cases hj:j=i
  ·subst hj;rw[e]at ej;cases ej;exact{(h),og,hσ,e',o',h4,h5}
  ·obtain⟨a,ms,g1,g2,g3,g4,g5⟩:=b.pN j zM ej;exact{a,ms,g1,k.out a _ g2 (ne j hj a (by rw[g4];simp)),g3,g4,g5}
 ·obtain⟨g1,g2,g3⟩:=b.dm j c hc
  by_cases ud:c=h
  ·rw[ud,e'];rw[ud]at g3;exact{λz=>(nomatch z),λxs z=>(by cases z),g3}
  ·cases q:H c with
   |none=>exact absurd q g1
   |some o=>rw[k.out c o q ud];exact{λz=>(nomatch z),λxs z=>g2 xs (by rw[q];exact z),g3}
 ·refine k.out c o (b.kp.out c o z n) λq=>?_;subst q;rcases (b.dm i c (by rw[h4];simp)).2.2.1 with z0|z0
  ·rw[z0]at z;cases z
  ·exact n z0
def KJ (ih:Nat)(ok:List Int->Prop)(ro:Bool)(F:FD)(φs:cF):aQ:=λβ R=>β[ih]?=some (some (.hand ok))/\φs β λds ks β1=>β1[ih]?=some (some (.hand ok))/\hold (i6 ks) false/\F ds λd=>R d (rk ro) β1
def fT (mF:dc F)(G:aG X.prog X.w X.K X.mg X.base bu k f fd ps (vh X.prog X.w ok ro F))(hr:da k X.A)(hm:X.mg x=some (.ref f))(hk:PySem.W.keepIn X.K (.ref f)=true)(hb:Binds X.K fd ps [])(ha:uQ X C p es φs)(hn:Nm X ih hx:=by exact Bm)(hg:Gl X x:=by rfl)(hdb:(x==("__debug__" : Str))=false:=by decide)
  (t7:Wj (.Name hx px::es) X.env=(false,eval (.Name hx px) X.env)::Wj es X.env:=by rfl) (hpl:(XT pos (Wj es X.env)).any (·.1)=false:=by rfl) :
  PQ X C false (.Call (.Name x pp) (.Name hx px::es) [] pos) (KJ ih ok ro F φs) :=
 ⟨λβ R R' k P1=>by obtain⟨e,h⟩:=P1;exact{e,ha.mono β _ _ (λds ks β1 IW=>by obtain⟨e,hh,q⟩:=IW;exact{e,hh,mF ds _ _ (λd q=>k _ _ _ q) q}) h},
  (xb G hr hg hm hk hb .nil F0 (bN (gR (pos:=px) hn) ha.pa t7) (hdb:=hdb) (he:=t7) (hpl:=hpl)).pre λσ H Q IV=>by
  obtain⟨β,own,s,e,h⟩:=IV;obtain⟨hh,ns,h1,h2,h3,h4⟩:=s.pN ih ok e;refine{.ref hh,h1,ve.of ha s h λds ks β1 vs H1 aF i7 o1 r1=>?_};obtain⟨e1,ho,q⟩:=i7;obtain⟨VH,TH,g1,g2,g3,g4,g5⟩:=o1.sq.pN ih ok e1;rw[h1]at g1;cases g1;have wh:Wn aF hh:={ih,by rw[g4];simp}
  rw[WZ];refine{hh,vs,ds,TH,rfl,g2,g3,ai.a8 (λa z=>?_) r1.jA,mF ds _ _ (λd q v H' og kp dn e' zM r=>?_) q}
  ·subst z;cases hk:i6 ks with
   |own=>exact .inl wh
   |gj=>exact .inl wh
   |old=>exact wh
   |bor=>rw[hk]at ho;exact ho.elim
  ·exact q v H' aF {o1.sq.drawn e1 h1 kp e' zM dn,o1.sn.kp (kp.mono λb z=>by rw[z];exact wh) dn,λz=>(nomatch z),o1.le} (r.kv o1.sq.xQ o1.sq.iN λa z=>o1.sn.d a z)⟩
end
abbrev Cfg.z (C:Cfg):Cfg:=C.u λ_=>False
def SB (X:Cx)(C:Cfg)(Z:Hp×(Addr->Prop))(σ:St)(H:Hp)(β:a9):Prop:=∃own,SQ X C.z σ H β own/\Sn Z H (Wn own)
structure cH where
 nx:a9->Prop
 rt:D->a9->Prop
 bk:a9->Prop:=λ_=>False
 ct:a9->Prop:=λ_=>False
def cH.up (E:cH)(n:a9->Prop):cH:={(n),E.rt,E.bk,E.ct}
def cH.lp (E:cH)(n:a9->Prop):cH:={(n),E.rt,E.nx,n}
structure Vm (X:Cx)(C:Cfg)(Z:Hp×(Addr->Prop))(E:cH)(D:Ends):Prop where
 nx:∀σ H β,SB X C Z σ H β->E.nx β->D.nx σ H
 rt:∀σ H β d v,SB X C Z σ H β->uR X.prog X.w C.ro C.H0 H d v->E.rt d β->D.rt v H
 bk:∀σ H β,SB X C Z σ H β->E.bk β->D.bk σ H
 ct:∀σ H β,SB X C Z σ H β->E.ct β->D.ct σ H
structure Le (E E':cH):Prop where
 nx:∀β,E.nx β->E'.nx β
 rt:∀d β,E.rt d β->E'.rt d β
 bk:∀β,E.bk β->E'.bk β
 ct:∀β,E.ct β->E'.ct β
abbrev zQ:=cH->a9->Prop
def ap (ψ:zQ)(E:cH)(β:a9):Prop:=ψ E β
def eN (R:D->Prop):cH:={nx:=λ_=>R .ck,rt:=λd _=>R d}
def eH (ok:List Int->Prop)(R:D->Prop):cH:={nx:=λ_=>False,rt:=λd β=>β[0]?=some (some (.hand ok))/\R d}
def Ri (X:Cx)(C:Cfg)(ψ:zQ):TS:=λD σ H=>∃Z E β,SB X C Z σ H β/\ψ E β/\Vm X C Z E D
structure PB (X:Cx)(C:Cfg)(st:Stmt)(ψ:zQ):Prop where
 mono:∀E E' β,Le E E'->ψ E β->ψ E' β
 ps:PS X st (Ri X C ψ)
structure x_ (X:Cx)(C:Cfg)(st:List Stmt)(ψ:zQ):Prop where
 mono:∀E E' β,Le E E'->ψ E β->ψ E' β
 ps:rX X st (Ri X C ψ)
section
variable {X:Cx}{C:Cfg}{st:Stmt}{rest a b:List Stmt}{ψ ψ1 ψ2:zQ}{Z:Hp×(Addr->Prop)}{σ:St}{H H':Hp}{β β':a9}{pos pos':Pos}{e c:Expr}{φ:aQ}{τ:aZ}{p:Bool}{own aS:Nat->List Addr}{i:Nat}{x:Str}
def Out.sb (n:Sn Z H (Wn own))(o:Out X C.z σ H own p β' H' aS):SB X C Z σ H' β':={aS,o.sq,n.trans o.sn}
def bg:x_ X C [] (λE β=>E.nx β):={λE E' β l h=>l.nx β h,wX.pre λD σ H t9=>by obtain⟨Z,E,β,sb,h,ok⟩:=t9;exact ok.nx σ H β sb h}
def ah (h1:PB X C st ψ1)(h2:x_ X C rest ψ2):x_ X C (st::rest) (λE β=>ψ1 (E.up (ap ψ2 E)) β) :=
 ⟨λE E' β l h=>h1.mono {E with nx:=ψ2 E} {E' with nx:=ψ2 E'} β {λβ' q=>h2.mono E E' β' l q,l.rt,l.bk,l.ct} h,(eC h1.ps h2.ps).pre λD σ H ⟨Z,E,β,sb,h,ok⟩ =>
  {Z,{E with nx:=ψ2 E},β,sb,h,{λσ' H' β' vo h'=>{(Z),E,β',vo,h',ok},ok.rt,ok.bk,ok.ct}}⟩
def ak (h1:PB X C st ψ):x_ X C [st] ψ:={h1.mono,jC h1.ps}
def bU (h1:PB X C st ψ1)(h2:x_ X C rest ψ2):x_ X C (st::rest) (λE β=>∃J:a9->Prop,ψ1 (E.up J) β/\∀β',J β'->ap ψ2 E β') :=
 ⟨λE E' β l y_=>by obtain⟨J,h,k⟩:=y_;exact{J,h1.mono {E with nx:=J} {E' with nx:=J} β {λ_ q=>q,l.rt,l.bk,l.ct} h,λβ' q=>h2.mono E E' β' l (k β' q)},(eC h1.ps h2.ps).pre λD σ H ⟨Z,E,β,sb,⟨J,h,k⟩,ok⟩ =>
  {Z,{E with nx:=J},β,sb,h,{λσ' H' β' vo h'=>{Z,E,β',vo,k β' h',ok},ok.rt,ok.bk,ok.ct}}⟩
def yH:x_ X C a (λ_ _=>False):={λ_ _ _ _ h=>h.elim,yA.pre λD σ H EM=>by obtain⟨Z,E,β,sb,h,ok⟩:=EM;exact h.elim}
def c4 (hc:uZ X C.z p c τ)(ha:x_ X C a ψ1)(hb:x_ X C b ψ2):PB X C (.If c a b pos) (λE β=>τ β λt β'=>if t=true then ap ψ1 E β' else ap ψ2 E β') :=
 ⟨λE E' β l h=>hc.mono _ _ _ (λt β' q=>by
   cases t
   ·exact hb.mono E E' β' l q
   ·exact ha.mono E E' β' l q) h,(FR hc.pt ha.ps hb.ps).pre λD σ H EL=>by
  obtain⟨Z,E,β,⟨own,s,n⟩,h,ok⟩:=EL;refine j7.of hc s h λt β' H1 aF q o1=>?_;cases t
  ·exact{Z,E,β',o1.sb n,q,ok}
  ·exact{Z,E,β',o1.sb n,q,ok}⟩
abbrev Ge (d:D)(k:Kd)(K:B->Prop):Prop:=match k with
 |.own=>K (.val true d)
 |.gj=>K (.val true d)
 |.old=>K (.val false d)
 |.bor=>d.flat=true/\K (.val true d)
def Ge.mono {d:D}{k:Kd}{K K':B->Prop}(h:∀b,K b->K' b)(q:Ge d k K):Ge d k K':=by
 cases k <;> first|exact h _ q|exact⟨q.1,h _ q.2⟩
def Ge.of {P:V2}{w:Wm}{d:D}{v:V}{k:Kd}{K:B->Prop}(r:KV P w C Z own H k d v)(q:Ge d k K):∃y,K (.val y d)/\aD P w (av C (Wn own) (yk y)) H d v:=by
 cases k with
 |own=>exact{(true),q,r.gj}
 |gj=>exact{(true),q,r}
 |old=>exact{(false),q,r}
 |bor=>exact{true,q.2,aD.flat q.1 r}
def An {own:Nat->List Addr}{i:Nat}(n:Sn Z H (Wn own)):Sn Z H (Wn (bc own i [])):={λb z=>n.w b (j_ z),n.k,n.d}
def aR (he:PQ X C.z p e φ)(hN:X.N.Nodup)(hi:X.N[i]?=some x:=by rfl)(hx:Loc X.env.scope x:=by first|exact .inl rfl|exact .inr rfl)
  (hs:X9 e (some (.Name x pos')) pos.line X.env=pure false:=by rfl) (hf:X.fn x=true\/X.env.scope.names.lookup x=some .local:=by first|exact .inl rfl|exact .inr rfl|assumption) :
  PB X C (.Assign [.Name x pos'] e pos) (λE β=>φ β λd k β'=>Ge d k λb=>E.nx (β'.set i (some b))) :=
 ⟨λE E' β l q=>he.mono _ _ _ (λd k β' q=>q.mono λ_=>l.nx _) q,(vw hN hi hx he.pe hs hf).pre λD σ H ⟨Z,E,β,⟨own,s,n⟩,q,ok⟩=>tQ.of he s q λd k β' v H' aS q o r=>by
  obtain⟨y,q,r⟩:=q.of r;exact ok.nx _ _ _ {_,o.sq.kj (aD.a8 (λa z=>z.elim id λz=>z.elim) r),An (n.trans o.sn)} q⟩
abbrev Gf (k:Kd)(d:D):Prop:=match k with
 |.own=>True
 |_=>d.flat=true
def KV.fl {P:V2}{w:Wm}{d:D}{v:V}{k:Kd}(f:Gf k d)(r:KV P w C Z own H k d v):KV P w C Z own H .own d v:=by
 cases k with
 |own=>exact r
 |gj=>exact KV.flat f r.rep
 |old=>exact KV.flat f r.rep
 |bor=>exact KV.flat f r.rep
def c3 (he:∀U,PQ X (C.u U) p e φ)(hN:X.N.Nodup)(hi:X.N[i]?=some x:=by rfl)(hx:Loc X.env.scope x:=by first|exact .inl rfl|exact .inr rfl)
  (hs:X9 e (some (.Name x pos')) pos.line X.env=pure false:=by rfl) (hf:X.fn x=true\/X.env.scope.names.lookup x=some .local:=by first|exact .inl rfl|exact .inr rfl|assumption) :
  PB X C (.Assign [.Name x pos'] e pos) (λE β=>φ β λd k β'=>Gf k d/\E.nx (β'.set i (some (.own d)))) :=
 ⟨λE E' β l q=>(he λ_=>False).mono _ _ _ (λd k β' q=>{q.1,l.nx _ q.2}) q,λpins s σ H D I ⟨Z,E,β,⟨own,sq,n⟩,q,ok⟩ =>
  vw hN hi hx (he λa=>H a=none).pe hs hf pins s σ H D I (tQ.of (he λa=>H a=none) (sq.r_ (C:=C.z) (U:=λa=>H a=none) λa z=>z) q λd k β' v H' aS Jb o r=>by
   obtain⟨f,q⟩:=Jb;obtain⟨A,h1,h2,h3⟩:=r.fl f;refine ok.nx _ _ _ {_,o.sq.As h1 h2 λc hc=>{(h3 c hc).2.2,(h3 c hc).2.1,(h3 c hc).1},?_} q;have m:=n.trans o.sn;exact⟨λb Ja=>by
    obtain⟨j,hj⟩:=Ja
    by_cases aI:i=j
    ·rw[<- aI,os_eq]at hj;exact .inr (n.free (h3 b hj).1)
    ·rw[cD aI]at hj;exact m.w b {(j),hj},m.k,m.d⟩)⟩
def cT.KO {P:V2}{w:Wm}{U U2:Addr->Prop}{d d':D}{v:V}{A':List Addr}{c:Addr}{o:HO}(b:cT P w (C.u U) σ H β own)(e:β[i]?=some (some (.own d)))(hσ:σ[i]?=some (some v))(hc:c∈own i)
  (r:Own P w (upd H c o) d' v A') (nd:A'.Nodup) (hA:∀a∈A',a∈own i\/(C.H0 a=none/\¬ Wn own a/\U a)) (hU:∀a,U2 a->U a) (QG:∀a∈A',¬ U2 a):cT P w (C.u U2) σ (upd H c o) (β.set i (some (.own d'))) (bc own i A'):=by
 obtain⟨g1,g2,g3,g4⟩:=b.dm i c hc;obtain⟨oc,Jd⟩:∃oc,H c=some oc:=by
  cases q:H c with
  |none=>exact absurd q g1
  |some oc=>exact{(oc),rfl}
 have ht:∀xs,oc≠.tup xs:=λxs z=>g2 xs (by rw[Jd,z])
 have k:Kp (·=c) H (upd H c o):=m9 Jd ht;have h0:∀a∈own i,C.H0 a=none:=by obtain⟨_,_,_,h⟩:=b.ow i d e;exact h
 have wc:Wn own c:={(i),hc};have sub:∀y a,iy (C.u U2) (Wn (bc own i A')) (yk y) a->iy (C.u U) (Wn own) (yk y) a:=λy a h=>by
  have q:∀a,Wn (bc own i A') a->Wn own a\/U a:=λa BU=>by
   obtain⟨j,q⟩:=BU
   by_cases aI:i=j
   ·rw[aI,os_eq]at q;rcases hA a q with z|z
    ·exact .inl {(i),z}
    ·exact .inr z.2.2
   ·rw[cD aI]at q;exact .inl {(j),q}
  rcases h with h|h
  ·cases y with
   |true=>exact h.elim (λz=>(q a z).imp .inl id) λz=>.inl (.inr z)
   |false=>exact q a h
  ·exact .inr (hU a h)
 have mem:∀{j c},c∈bc own i A' j->(i=j/\c∈A')\/(i≠j/\c∈own j):=λ{j c} h=>by
  by_cases aI:i=j
  ·subst aI;rw[os_eq]at h;exact .inl {(rfl),h}
  ·rw[cD aI]at h;exact .inr {(aI),h}
 have Nl:∀j,i≠j->∀a∈own j,a≠c:=λj aI a ha z=>aI (b.oi i j c hc (by rw[<- z];exact ha))
 refine⟨by simp[b.len],λj y' d2 e2=>?_,λj d2 e2=>?_,λj ok e2=>?_,λj a h=>?_,λj k2 a h1 h2=>?_,λj=>?_,{λa oa z n=>?_,λa xs z=>k.tup a xs (b.kp.tup a xs z)},λa z=>?_,λj y' d2 e2=>by
  by_cases aI:i=j
  ·subst aI;obtain⟨e',hl⟩:=cA e2;cases e'
  ·rw[b4 aI]at e2;rw[cD aI];obtain⟨u,h1,h2,h3⟩:=b.shl j y' d2 e2;exact{u,h1,h2.map (λa ha oa ea=>k.out a oa ea (Nl j aI a ha)) (λ_ _ r=>ai.a8 (sub _) (r.keep (k.mono λa z=>by rw[z];cases y' <;> first|exact .inl wc|exact .inl (.inl wc)))),h3}⟩
 ·by_cases aI:i=j
  ·subst aI;obtain⟨e',hl⟩:=cA e2;cases e'
  ·rw[b4 aI]at e2;obtain⟨u,h1,h2⟩:=b.val j y' d2 e2;exact{u,h1,(h2.keep (k.mono λa z=>by rw[z];cases y' <;> first|exact .inl wc|exact .inl (.inl wc))).a8 (sub _)}
 ·by_cases aI:i=j
  ·subst aI;obtain⟨e',hl⟩:=cA e2;cases e';rw[os_eq];exact{v,hσ,r,λa ha=>(hA a ha).elim (h0 a) λz=>z.1}
  ·rw[b4 aI]at e2;rw[cD aI];obtain⟨u,h1,h2,h3⟩:=b.ow j d2 e2;exact{u,h1,h2.keep k.tup (λa ha oa ea=>k.out a oa ea (Nl j aI a ha)),h3}
 ·by_cases aI:i=j
  ·subst aI;obtain⟨e',hl⟩:=cA e2;cases e'
  ·rw[b4 aI]at e2;rw[cD aI];obtain⟨a,ns,h1,h2,h3,h4,h5⟩:=b.pN j ok e2;exact{a,ns,h1,k.out a _ h2 (Nl j aI a (by rw[h4];simp)),h3,h4,h5}
 ·rcases mem h with⟨_,h⟩|⟨aI,h⟩
  ·exact{(r.oh a h).1,(r.oh a h).2,.inl ((hA a h).elim (h0 a) λz=>z.1),QG a h}
  ·obtain⟨q1,q2,q3,q4⟩:=b.dm j a h;rw[aB (Nl j aI a h)];exact{q1,q2,q3,λz=>q4 (hU a z)}
 ·rcases mem h1 with⟨e1,h1⟩|⟨n1,h1⟩
  ·rcases mem h2 with⟨e2,h2⟩|⟨n2,h2⟩
   ·rw[<- e1,<- e2]
   ·rcases hA a h1 with z|z
    ·exact absurd (b.oi i k2 a z h2) n2
    ·exact absurd {(k2),h2} z.2.1
  ·rcases mem h2 with⟨e2,h2⟩|⟨n2,h2⟩
   ·rcases hA a h2 with z|z
    ·exact absurd (b.oi i j a z h1) n1
    ·exact absurd {(j),h1} z.2.1
   ·exact b.oi j k2 a h1 h2
 ·by_cases aI:i=j
  ·rw[<- aI,os_eq];exact nd
  ·rw[cD aI];exact b.oG j
 ·refine k.out a oa (b.kp.out a oa z n) λq=>?_;subst q;rw[h0 a hc]at z;cases z
 ·by_cases Sv:a=c
  ·rw[Sv,ao];exact λz=>(nomatch z)
  ·rw[aB Sv];exact b.iN a z
def cT.putIn {P:V2}{w:Wm}{U:Addr->Prop}{d d':D}{v:V}{A':List Addr}{c:Addr}{o:HO}(b:cT P w (C.u U) σ H β own)(e:β[i]?=some (some (.own d)))(hσ:σ[i]?=some (some v))(hc:c∈own i)
  (r:Own P w (upd H c o) d' v A') (nd:A'.Nodup) (hA:∀a∈A',a∈own i\/(C.H0 a=none/\¬ Wn own a/\U a)):cT P w C.z σ (upd H c o) (β.set i (some (.own d'))) (bc own i A') :=
 b.KO (U2:=λ_=>False) e hσ hc r nd hA (λ_ z=>z.elim) λ_ _ z=>z
def qD {A':List Addr}{c:Addr}{o:HO}{U:Addr->Prop}(n:Sn Z H (Wn own))(m:∀a,U a->Z.1 a=none)(hc:Wn own c)(Jd:∃oc,H c=some oc/\∀xs,oc≠.tup xs)(hA:∀a∈A',a∈own i\/(C.H0 a=none/\¬ Wn own a/\U a)):Sn Z (upd H c o) (Wn (bc own i A')):=by
 obtain⟨oc,h1,h2⟩:=Jd;have u:=Sn.upd (o':=o) n h1 h2 hc;exact⟨λb BS=>by
  obtain⟨j,hj⟩:=BS
  by_cases aI:i=j
  ·rw[<- aI,os_eq]at hj;rcases hA b hj with z|z
   ·exact n.w b {(i),z}
   ·exact .inr (m b z.2.2)
  ·rw[cD aI]at hj;exact n.w b {(j),hj},u.k,u.d⟩
def cT.tR {P:V2}{w:Wm}{ds:List D}(b:cT P w C σ H β own)(e:β[i]?=some (some (.own (.lst ds)))):∃a vs A',σ[i]?=some (some (.ref a))/\H a=some (.lst vs)/\own i=a::A'/\aL P w H ds vs A':=by
 obtain⟨v,h1,⟨a,vs,A',rfl,h2,h3,h4⟩,_⟩:=b.ow i _ e;exact{(a),vs,A',h1,h2,h3,h4}
variable {px ap cp:Pos}
def fy (he:∀U,PQ X (C.u U) p e φ)(hn:Nm X i x:=by exact Bm)
  (eK:Yb (.Name x px) "append" X.env (eval (.Name x px) X.env)=eval (.Name x px) X.env:=by rfl)
  (ni:((XT cp (Wj [e] X.env)).all (λx=>!x.1)&&(ZX cp (Y9 [] X.env)).all (λx=>x.1.isSome)&&decide ([e].length+([]:List YN).length+(if ([]:List YN).isEmpty then 0 else 1)<30))=true:=by rfl)
  (eJ:(ap.endLine==cp.line)=true:=by rfl) (hs:Wj [e] X.env=(false,eval e X.env)::Wj [] X.env:=by rfl) (eI:(XT cp (Wj [] X.env)).any (·.1)=false:=by rfl)
  (y8:X9 (.Call (.Attribute (.Name x px) "append" ap) [e] [] cp) none pos.line X.env=pure false:=by rfl) :
  PB X C (.Expr (.Call (.Attribute (.Name x px) "append" ap) [e] [] cp) pos) (λE β=>(∃ds,β[i]?=some (some (.own (.lst ds))))/\φ β λd k β'=>Gf k d/\∃ds,β'[i]?=some (some (.own (.lst ds)))/\ds.length<Wi/\E.nx (β'.set i (some (.own (.lst (ds++[d])))))):=by
 refine{λE E' β l BR=>by obtain⟨h1,q⟩:=BR;exact{h1,(he λ_=>False).mono _ _ _ (λd k β' BQ=>by obtain⟨f,ds,h1,h2,q⟩:=BQ;exact{f,ds,h1,h2,l.nx _ q}) q},λpins s σ H D I i7=>?_}
 obtain⟨Z,E,β,⟨own,sq,n⟩,⟨⟨UY,hb⟩,q⟩,ok⟩:=i7;refine lK (pos:=pos) (AY (apos:=ap) (cpos:=cp) PySem.F.plainAttrs_list PySem.F.slot_list_append PySem.F.type_list_append kq (gR (pos:=px) hn) (bN (he λa=>H a=none).pe eF hs) eK ni eJ hs eI) y8 pins s σ H D I ?_;obtain⟨a,vs,A',h1,h2,h3,h4⟩:=sq.tR hb;refine{.ref a,h1,.inl {rfl,vs,eQ.of h2},tQ.of (he λa=>H a=none) (sq.r_ (C:=C.z) (U:=λa=>H a=none) λa z=>z) q λd k β' v H1 aF oJ o r=>?_};obtain⟨f,ds,rV,hl,q⟩:=oJ;obtain⟨a',vs',A1,g1,g2,g3,g4⟩:=o.sq.tR rV;rw[h1]at g1;cases g1;obtain⟨A,r1,r2,r3⟩:=r.fl f;have ha:a∈aF i:=by rw[g3];simp
 have nd:(a::(A1++A)).Nodup:=by
  have q:=o.sq.oG i;rw[g3]at q;refine WB.mpr {λz=>?_,WY.mpr {(WB.mp q).2,r2,λx hx y hy e=>?_}}
  ·rcases V9.mp z with z|z
   ·exact(WB.mp q).1 z
   ·exact(r3 a z).2.1 {(i),ha}
  ·subst e;exact(r3 x hy).2.1 {i,by rw[g3];simp[hx]}
 have hA:∀b∈a::(A1++A),b∈aF i\/(C.H0 b=none/\¬ Wn aF b/\H b=none):=λb hb=>by
  rcases VX.mp hb with rfl|hb
  ·exact .inl ha
  ·rcases V9.mp hb with hb|hb
   ·exact .inl (by rw[g3];simp[hb])
   ·exact .inr {(r3 b hb).2.2,(r3 b hb).2.1,(r3 b hb).1}
 have kt:∀b xs,H1 b=some (.tup xs)->upd H1 a (.lst (vs'++[v])) b=some (.tup xs):=λb xs z=>by
  rw[aB (λz'=>by rw[z',g2]at z;cases z)];exact z
 have ne1:∀c∈A1,c≠a:=λc hc z=>by
  have q:=o.sq.oG i;rw[g3]at q;exact(WB.mp q).1 (by rw[<- z];exact hc)
 have ne2:∀c∈A,c≠a:=λc hc z=>(r3 c hc).2.1 {i,by rw[z];exact ha}
 have r':Own X.prog X.w (upd H1 a (.lst (vs'++[v]))) (.lst (ds++[d])) (.ref a) (a::(A1++A)) :=
  {a,vs'++[v],A1++A,rfl,ao,rfl,(g4.keep kt λc hc oc ec=>by rw[aB (ne1 c hc)];exact ec).append (aL.one (r1.keep kt λc hc oc ec=>by rw[aB (ne2 c hc)];exact ec))}
 exact{a,vs',v,rfl,rfl,g2,by rw[g4.length];exact hl,ok.nx _ _ _ {_,o.sq.putIn rV h1 ha r' nd hA,qD (n.trans o.sn) (λb z=>n.free z) {(i),ha} {_,g2,λxs z=>by cases z} hA} q}
end
abbrev c8:=D->Kd->a9->(a9->Prop)->Prop
abbrev qk:=List D->Kd->a9->(a9->Prop)->Prop
structure wy (X:Cx)(C:Cfg)(tg:Expr)(T:List Nat)(γ:c8):Prop where
 mono:∀d k β R R',(∀r,R r->R' r)->γ d k β R->γ d k β R'
 pg:PG X tg λv σ H Q=>∃own β d k,SQ X C σ H β own/\Rp X (iy C (Wn own) k) H d v/\γ d k β λβ'=>∀σ' aS,SQ X C σ' H β' aS->(∀a,Wn aS a->Wn own a)->(∀j,j∉T->σ'[j]?=σ[j]?)->Q σ' H
structure FH (X:Cx)(C:Cfg)(ye:List Expr)(T:List Nat)(γ:qk):Prop where
 mono:∀d k β R R',(∀r,R r->R' r)->γ d k β R->γ d k β R'
 Rx:GJ X ye λvs σ H Q=>∃own β ds k,SQ X C σ H β own/\uP X (iy C (Wn own) k) H ds vs/\γ ds k β λβ'=>∀σ' aS,SQ X C σ' H β' aS->(∀a,Wn aS a->Wn own a)->(∀j,j∉T->σ'[j]?=σ[j]?)->Q σ' H
section
variable {X:Cx}{C:Cfg}{tg:Expr}{ye:List Expr}{γ:c8}{γs:qk}{T T':List Nat}{pos:Pos}{e:Expr}{φ:aQ}{p:Bool}
def UO (i:Nat):c8:=λd k β R=>Ge d k λb=>R (β.set i (some b))
def au {i:Nat}{x:Str}(hN:X.N.Nodup)(hi:X.N[i]?=some x:=by rfl)(hx:Loc X.env.scope x:=by first|exact .inl rfl|exact .inr rfl)
  (hf:X.fn x=true\/X.env.scope.names.lookup x=some .local:=by first|exact .inl rfl|exact .inr rfl|assumption):wy X C (.Name x pos) [i] (UO i) :=
 ⟨λd k β R R' h q=>Ge.mono (d:=d) (k:=k) (K:=λb=>R (β.set i (some b))) (K':=λb=>R' (β.set i (some b))) (λ_=>h _) q,(DV hN hi hx hf).pre λv σ H Q t9=>by
  obtain⟨own,β,d,k,s,r,q⟩:=t9;have Nh:∀(v:V) (j:Nat),j∉[i]->(σ.set i (some v))[j]?=σ[j]?:=λv j hj=>b4 (YX (by simpa using hj))
  cases k with
  |own=>exact q _ _ (s.kj (y:=true) r) (λa h=>j_ h) (Nh v)
  |gj=>exact q _ _ (s.kj (y:=true) r) (λa h=>j_ h) (Nh v)
  |old=>exact q _ _ (s.kj (y:=false) r) (λa h=>j_ h) (Nh v)
  |bor=>exact q.2 _ _ (s.kj (y:=true) (aD.flat q.1 r)) (λa h=>j_ h) (Nh v)⟩
abbrev sk (k:Kd):D->Kd
 |.int _=>.own
 |.bl _=>.own
 |.ck=>.own
 |.str _=>.own
 |_=>k.wk
def qF {P:V2}{w:Wm}{W:Addr->Prop}{H:Hp}{k:Kd}{d:D}{v:V}(r:aD P w (iy C W k) H d v):aD P w (iy C W (sk k d)) H d v:=by
 cases d with
 |int i=>exact aD.flat rfl r
 |bl i=>exact aD.flat rfl r
 |ck=>exact aD.flat rfl r
 |str i=>exact aD.flat rfl r
 |_=>exact aD.a8 (λa z=>z.imp (CP a) id) r
def Jr:qk:=λds _ β R=>ds=[]/\R β
def B_ (γ:c8)(γs:qk):qk:=λds k β R=>∃d r,ds=d::r/\γ d (sk k d) β λβ'=>γs r k β' R
def eD:FH X C [] [] Jr:=⟨λd k β R R' h q=>{q.1,h _ q.2},DU.pre λvs σ H Q zb=>by
 obtain⟨own,β,ds,k,s,r,e,q⟩:=zb;subst e;exact{r,q σ own s (λ_ z=>z) λ_ _=>rfl}⟩
def ba (h1:wy X C tg T γ)(h2:FH X C ye T' γs)(hs:(X6 (tg::ye) X.env).map (·.2)=assign tg X.env::(X6 ye X.env).map (·.2):=by rfl):FH X C (tg::ye) (T++T') (B_ γ γs) :=
 ⟨λds k β R R' h y_=>by obtain⟨d,r,e,q⟩:=y_;exact{d,r,e,h1.mono _ _ β _ _ (λβ' q=>h2.mono r k β' _ _ h q) q},
  (AS h1.pg h2.Rx hs).pre λvs σ H Q LK=>by
    obtain⟨own,β,ds,k,s,rr,d,r,e,q⟩:=LK;subst e;obtain⟨v,vr,rfl,rv,Tn⟩:=rr;exact{v,vr,rfl,own,β,d,_,s,qF rv,h1.mono _ _ β _ _ (λβ' q σ' aS s' w' t'=>{aS,β',r,k,s',ai.a8 (nT w' k) Tn,h2.mono r k β' _ _ (λβ2 q2 σ2 bh s2 w2 t2=>q2 σ2 bh s2 (λa z=>w' a (w2 a z)) λj hj=>(t2 j λz=>hj (Wx _ z)).trans (t' j λz=>hj (WK _ z))) q}) q}⟩
def UN (n:Nat)(γs:qk):c8:=λd k β R=>∃ds,d=.tup ds/\ds.length=n/\γs ds k β R
def fU {k:Nat}{n:Nat}(hc:X.calm=true)(h:FH X C ye T γs)(hn:(X6 ye X.env).length=n:=by rfl)(LH:(X6 ye X.env).findIdx? (·.1)=none:=by rfl):wy X C (.Tuple ye k pos) T (UN n γs) :=
 ⟨λd k β R R' hh LJ=>by obtain⟨ds,e,l,q⟩:=LJ;exact{ds,e,l,h.mono ds k β _ _ hh q},(HH hc h.Rx hn LH).pre λv σ H Q IU=>by
  obtain⟨own,β,d,k,s,r,ds,e,l,q⟩:=IU;subst e;obtain⟨a,vs,rfl,ha,rs⟩:=r;exact{a,vs,rfl,nW.of ha,by rw[rs.length];exact l,own,β,ds,k,s,rs,q}⟩
def jy {Z:Hp×(Addr->Prop)}{H:Hp}{own aS:Nat->List Addr}(n:Sn Z H (Wn own))(h:∀a,Wn aS a->Wn own a):Sn Z H (Wn aS):={λb z=>n.w b (h b z),n.k,n.d}
def A5 (he:PQ X C.z p e φ)(hg:wy X C.z tg T γ)(hs:swapsWithSole [tg] e pos.line X.env=pure false:=by rfl)(hw:swappedStores [tg] e X.env=pure none:=by rfl)
  (h1:(X6 [tg] X.env).map (·.2)=[assign tg X.env]:=by rfl):PB X C (.Assign [tg] e pos) (λE β=>φ β λd k β'=>γ d k β' E.nx) :=
 ⟨λE E' β l q=>he.mono _ _ _ (λd k β' q=>hg.mono _ _ _ _ _ l.nx q) q,(vx he.pe hg.pg hs hw h1).pre λD σ H ⟨Z,E,β,⟨own,s,n⟩,q,ok⟩=>tQ.of he s q λd k β' v H' aS q o r =>
  {aS,β',d,k,o.sq,aD.a8 (λa z=>z.elim id λz=>z.elim) r.rep,hg.mono _ _ _ _ _ (λβ2 q σ2 bh s2 w2 _=>ok.nx _ _ _ {bh,s2,jy (n.trans o.sn) w2} q) q}⟩
abbrev O7 (ro:Bool)(k:Kd)(d:D):Prop:=match k,ro with
 |.own,_=>True
 |.gj,false=>True
 |_,_=>d.flat=true
def fB {P:V2}{w:Wm}{W:Addr->Prop}{ro:Bool}{H H':Hp}{d:D}{v:V}(f:d.flat=true)(r:aD P w W H' d v):uR P w ro H H' d v:=by
 cases ro with
 |true=>exact{[],eG f r,W9,λc hc=>(nomatch hc)}
 |false=>exact aD.flat f r
def El {P:V2}{w:Wm}{Z:Hp×(Addr->Prop)}{own:Nat->List Addr}{ro:Bool}{H':Hp}{k:Kd}{d:D}{v:V}(f:O7 ro k d)(r:KV P w C Z own H' k d v):uR P w ro C.H0 H' d v:=by
 cases k with
 |own =>
  cases ro with
  |true=>obtain⟨A,h1,h2,h3⟩:=r;exact{A,h1,h2,λc hc=>(h3 c hc).2.2}
  |false=>exact aD.a8 (λa z=>.inr z) r.rep
 |gj =>
  cases ro with
  |true=>exact fB f r.rep
  |false=>exact aD.a8 (λa z=>.inr z) r.rep
 |old=>cases ro <;> exact fB f r.rep
 |bor=>cases ro <;> exact fB f r.rep
def DY (he:PQ X C.z p e φ):PB X C (.Return (some e) pos) (λE β=>φ β λd k β'=>O7 C.ro k d/\E.rt d β') :=
 {λE E' β l q=>he.mono _ _ _ (λd k β' q=>{q.1,l.rt _ _ q.2}) q,(iX he.pe).pre λD σ H EL=>by obtain⟨Z,E,β,⟨own,s,n⟩,q,ok⟩:=EL;exact tQ.of he s q λd k β' v H' aS q o r=>ok.rt _ _ _ _ _ (o.sb n) (El (C:=C.z) q.1 r) q.2}
def a7 {ro:Bool}(he:PQ X C.z p e φ)(Uh:C.ro=ro:=by first|exact(rfl:_=true)|exact(rfl:_=false)):PB X C (.Return (some e) pos) (λE β=>φ β λd k β'=>O7 ro k d/\E.rt d β'):=by
 subst Uh;exact DY he
def h_ {i:Nat}{x:Str}{px:Pos}(hn:Nm X i x:=by exact Bm):
  PB X C (.Return (some (.Name x px)) pos) (λE β=>∃d,β[i]?=some (some (.own d))/\E.rt d β) :=
 ⟨λE E' β l vY=>by obtain⟨d,h1,q⟩:=vY;exact{d,h1,l.rt _ _ q},(iX (gR (pos:=px) hn)).pre λD σ H BV=>by
  obtain⟨Z,E,β,⟨own,s,n⟩,⟨d,h1,q⟩,ok⟩:=BV;obtain⟨v,e1,r,h0⟩:=s.ow i d h1;refine{_,e1,ok.rt _ _ _ _ _ {(own),s,n} ?_ q};cases hr:C.ro with
  |true=>exact{_,r,s.oG i,h0}
  |false=>exact r.rep λc hc z=>z (h0 c hc)⟩
end
abbrev cz:=a9->(List D->Kd->a9->Prop)->Prop
structure zJ (X:Cx)(C:Cfg)(p:Bool)(tg iter:Expr)(ι:cz):Prop where
 mono:∀β R R',(∀d k β,R d k β->R' d k β)->ι β R->ι β R'
 pi:PI X tg iter λσ H R=>∃β own,SQ X C σ H β own/\ι β λds k β'=>∀J H' aS,Out X C σ H own p β' H' aS->zR X (av C (Wn aS) k) J ds H'->R J H'
section
variable {X:Cx}{C:Cfg}{tg e a b:Expr}{φ:aQ}{φs:cF}{p:Bool}{pp pos:Pos}
def Pb (φ:aQ):cz:=λβ R=>φ β λd k β'=>∃ds,d=.lst ds/\R ds k β'
def bx (h:PQ X C p e φ):zJ X C p tg e (Pb φ) :=
 ⟨λβ R R' k q=>h.mono β _ _ (λd kd β' Jb=>by obtain⟨ds,e,q⟩:=Jb;exact{ds,e,k _ _ _ q}) q,(w_ h.pe).pre λσ H R ⟨β,own,s,q⟩=>tQ.of h s q λd k β' v H1 aF BU o1 r1=>by
  obtain⟨ds,e,q1⟩:=BU;subst e;obtain⟨a,vs,rfl,h1,n1,q2⟩:=r1.rep;exact{a,rfl,{vs,eQ.of h1},q1 _ _ aF o1 (tX h1 n1 q2)}⟩
def EF {W:Addr->Prop}{H:Hp}{a:Addr}{vs:List V}{ds:List D}(h1:H a=some (.tup vs))(q2:uP X W H ds vs):zR X W (Q5 X.K a) ds H:=λW' hW i H' k=>by
 have h2:=k.tup a _ h1;replace q2:=ai.grow hW q2;constructor
 ·intro d hd;obtain⟨v,hv,rv⟩:=ai.get q2 hd;refine{{vs,v,nW.of h2,hv},λx H1 y=>?_};obtain⟨rfl,y⟩:=y;have e:=y vs (nW.of h2);rw[hv]at e;cases e;exact{aE.refl _,rv.keep k}
 ·intro hl;exact{vs,nW.of h2,by rw[q2.length];exact hl}
def EK (φs:cF):cz:=λβ R=>φs β λds _ β'=>∃j:Int,ds=[.int j]/\-(2 ^ 62)<=j/\j<2 ^ 62/\R (iU 0 j.toNat) .gj β'
def xw (φs:cF):cz:=λβ R=>φs β λds _ β'=>∃i j:Int,ds=[.int i,.int j]/\(-(2 ^ 62)<=i/\i<2 ^ 62/\-(2 ^ 62)<=j/\j<2 ^ 62)/\R (iU i (j-i).toNat) .gj β'
def aU (hm:X.mg "range" = none) (ha:uQ X C p [a] φs) (hg:Gl X "range" := by rfl) (hs:Wj [a] X.env=[(false,eval a X.env)]:=by rfl):zJ X C p tg (.Call (.Name "range" pp) [a] [] pos) (EK φs) :=
 ⟨λβ R R' k q=>ha.mono β _ _ (λd kd β' I_=>by obtain⟨j,e,h1,h2,q⟩:=I_;exact{j,e,h1,h2,k _ _ _ q}) q,(yF hg hm ha.pa hs).pre λσ H R ⟨β,own,s,q⟩=>ve.of ha s q λds ks β' vs H1 aF IZ o1 r1=>by
  obtain⟨j,e,h1,h2,q1⟩:=IZ;subst e;obtain⟨x,rfl,hx⟩:=qg r1.jA;cases hx;exact{j,rfl,h1,h2,q1 _ _ aF o1 kA}⟩
def mH (hm:X.mg "range" = none) (ha:uQ X C p [a,b] φs) (hg:Gl X "range" := by rfl) (hs:Wj [a,b] X.env=[(false,eval a X.env),(false,eval b X.env)]:=by rfl) (t8:Wj [b] X.env=[(false,eval b X.env)]:=by rfl) :
  zJ X C p tg (.Call (.Name "range" pp) [a,b] [] pos) (xw φs) :=
 ⟨λβ R R' k q=>ha.mono β _ _ (λd kd β' IY=>by obtain⟨i,j,e,h1,q⟩:=IY;exact{i,j,e,h1,k _ _ _ q}) q,(pA hg hm ha.pa hs t8).pre λσ H R ⟨β,own,s,q⟩=>ve.of ha s q λds ks β' vs H1 aF P7 o1 r1=>by
  obtain⟨i,j,e,h1,q1⟩:=P7;subst e;obtain⟨x,y,rfl,hx,hy⟩:=xX r1.jA;cases hx;cases hy;exact{i,j,rfl,h1,q1 _ _ aF o1 kA}⟩
end
def Cf (γ:c8)(ψ:zQ)(E:cH)(ds:List D)(k:Kd)(β:a9):Prop:=∃I:Nat->a9->Prop,I 0 β/\(∀i d β,ds[i]?=some d->I i β->γ d (sk k d) β λβ1=>ψ (E.lp (I (i+1))) β1)/\∀β,I ds.length β->E.nx β
section
variable {X:Cx}{C:Cfg}{tg iter c:Expr}{γ:c8}{T:List Nat}{ψ:zQ}{ι:cz}{τ:aZ}{body:List Stmt}{pos:Pos}{p:Bool}
def Cf.mono {E E':cH}{ds:List D}{k:Kd}{β:a9}(hγ:∀d k β R R',(∀r,R r->R' r)->γ d k β R->γ d k β R')(hψ:∀E E' β,Le E E'->ψ E β->ψ E' β)(l:Le E E'):Cf γ ψ E ds k β->Cf γ ψ E' ds k β:=λ⟨I,h0,h1,h2⟩ =>
 {I,h0,λi d β e q=>hγ d _ β _ _ (λβ1 q=>hψ {nx:=I (i+1),rt:=E.rt,bk:=E.nx,ct:=I (i+1)} {nx:=I (i+1),rt:=E'.rt,bk:=E'.nx,ct:=I (i+1)} β1 {λ_ q=>q,l.rt,l.nx,λ_ q=>q} q) (h1 i d β e q),λβ q=>l.nx _ (h2 β q)}
def Fy {own bh:Nat->List Addr}{H H2:Hp}{k:Kd}(n:Sn (H,Wn own) H2 (Wn bh)):∀b,av C (Wn bh) k b->av C (Wn own) k b\/H b=none:=λb z=>by
 cases k with
 |own=>exact z.elim (λz=>(n.w b z).imp .inl id) λz=>.inl (.inr z)
 |gj=>exact z.elim (λz=>(n.w b z).imp .inl id) λz=>.inl (.inr z)
 |old=>exact n.w b z
 |bor=>exact z.elim
def eE (hp:PassesOwn (model X.prog X.w) X.A X.env X.xe)(hc:X.calm=true)(hi:zJ X C.z p tg iter ι)(hg:wy X C.z tg T γ)(hb:x_ X C body ψ)(hs:∀x,WS iter X.env x=pure x:=by intro _;rfl):
  PB X C (.For tg iter body [] pos) (λE β=>ι β λds k β1=>hold k false/\Cf γ ψ E ds k β1) :=
 ⟨λE E' β l q=>hi.mono _ _ _ (λds k β1 q=>{q.1,q.2.mono hg.mono hb.mono l}) q,(AH hp hc hi.pi hg.pg hb.ps hs).pre λD σ H P5=>by
  obtain⟨Z,E,β,⟨own,s,n⟩,q,ok⟩:=P5;refine{β,own,s,hi.mono _ _ _ (λds k β1 i7 J H1 aF o1 it=>?_) q};obtain⟨hk,I,i0,i1,i2⟩:=i7;have n':=n.trans o1.sn;have ig:∀b,Wn aF b\/H1 b=none->av C.z (Wn aF) k b\/H1 b=none:=λb z=>by
   cases k with
   |own=>exact z.imp .inl id
   |gj=>exact z.imp .inl id
   |old=>exact z
   |bor=>exact hk.elim
  have J1:=it (λb=>av C.z (Wn aF) k b\/H1 b=none) λb z=>z;refine{λi m σ H=>i<=ds.length/\m=ds.length-i/\∃β,SB X C (H1,Wn aF) σ H β/\I i β,{_,V_ _,rfl,β1,{(aF),o1.sq,Sn.refl},i0},?_};rintro i m σ2 H2 ⟨hi,rfl,β2,⟨bh,s2,n2⟩,hl⟩;obtain⟨cB,jg⟩:=J1 i H2 (n2.k.mono ig)
  by_cases ie:i<ds.length
  ·right
   have hd:ds[i]?=some ds[i]:=Wh ie;obtain⟨go,yl⟩:=cB _ hd;refine{go,λσ' H'=>∃β,SB X C (H1,Wn aF) σ' H' β/\I (i+1) β,λσ' H' P2=>by obtain⟨β',vo,pO⟩:=P2;exact{_,by lia,ie,rfl,β',vo,pO},λx H3 y=>?_}
   obtain⟨s3,r3⟩:=yl x H3 y;refine{bh,β2,_,_,s2.same s3,qF (C:=C.z) (aD.a8 (λb z=>Fy (C:=C) n2 b (z.elim id λz=>z.elim)) r3),hg.mono _ _ _ _ _ (λβ4 q σ4 s_ s4 w4 _=>?_) (i1 i _ β2 hd hl)};refine{(H1,Wn aF),_,β4,{s_,s4,jy (n2.same s3) w4},q,{λσ5 H5 β5 yu q5=>{(β5),yu,q5},λσ5 H5 β5 d5 v5 yu r5 q5=>?_,λσ5 H5 β5 yu q5=>?_,λσ5 H5 β5 yu q5=>{(β5),yu,q5}}}
   ·obtain⟨oF,s5,n5⟩:=yu;exact ok.rt _ _ _ _ _ {oF,s5,n'.trans n5} r5 q5
   ·obtain⟨oF,s5,n5⟩:=yu;exact ok.nx _ _ _ {oF,s5,n'.trans n5} q5
  ·left
   have e:i=ds.length:=by lia
   subst e;exact{jg (VR _),ok.nx _ _ _ {bh,s2,n'.trans n2} (i2 β2 hl)}⟩
def z6 (τ:aZ)(ψ:zQ):zQ:=λE β=>∃V:Nat->a9->Prop,(∃m,V m β)/\∀m β,V m β->τ β λt β1=>if t=true then ψ {nx:=λβ'=>∃m',m'<m/\V m' β',rt:=E.rt,bk:=E.nx,ct:=λβ'=>∃m',m'<m/\V m' β'} β1 else E.nx β1
def AZ (hp:PassesOwn (model X.prog X.w) X.A X.env X.xe)(hc:uZ X C.z p c τ)(hb:x_ X C body ψ):PB X C (.While c body [] pos) (z6 τ ψ) :=
 ⟨λE E' β l ⟨V,h0,h⟩=>⟨V,h0,λm β v=>hc.mono _ _ _ (λt β1 q=>by
   cases t
   ·exact l.nx _ q
   ·exact hb.mono {nx:=λβ'=>∃m',m'<m/\V m' β',rt:=E.rt,bk:=E.nx,ct:=λβ'=>∃m',m'<m/\V m' β'} {nx:=λβ'=>∃m',m'<m/\V m' β',rt:=E'.rt,bk:=E'.nx,ct:=λβ'=>∃m',m'<m/\V m' β'} β1 {λ_ q=>q,l.rt,l.nx,λ_ q=>q} q) (h m β v)⟩,(AG hp hc.pt hb.ps).pre λD σ H IW=>by
  obtain⟨Z,E,β,sb,⟨V,⟨m0,v0⟩,h⟩,ok⟩:=IW;refine{λm σ H=>∃β,SB X C Z σ H β/\V m β,{(m0),β,sb,v0},λm σ H oJ=>?_};obtain⟨β,⟨own,s,n⟩,v⟩:=oJ;refine j7.of hc s (h m β v) λt β1 H1 aF q o1=>?_;cases t
  ·exact ok.nx _ _ _ (o1.sb n) q
  ·exact{λσ' H'=>∃β',SB X C Z σ' H' β'/\∃m',m'<m/\V m' β',λσ' H' P0=>by obtain⟨β',vo,m',hm,v'⟩:=P0;exact{(m'),hm,β',vo,v'},Z,_,β1,o1.sb n,q,λσ' H' β' vo q'=>{(β'),vo,q'},ok.rt,ok.nx,λσ' H' β' vo q'=>{(β'),vo,q'}}⟩
end
def startB (N:List Str)(ds:List D):a9:=ds.map (λd=>some (.val false d))++WQ (N.length-ds.length) none
def kg (N:List Str)(ok:List Int->Prop)(ds:List D):a9:=some (.hand ok)::(ds.map (λd=>some (.val false d))++WQ (N.length-(ds.length+1)) none)
section
variable {P:V2}{w:Wm}{K:PySem.W.Frag}{mg:Str->Option VT}{base:Heap}
def gO {i n:Nat}{b:B}(h:(WQ n (none:Option B))[i]?=some (some b)):False:=by
 rw[List.getElem?_replicate]at h
 split at h <;> cases h
def fw {ds:List D}{n i:Nat}{b:B}(h:(ds.map (λd=>some (B.val false d))++WQ n none)[i]?=some (some b)):∃d,ds[i]?=some d/\b=.val false d:=by
 by_cases hi:i<ds.length
 ·rw[Xe (by simpa using hi),Wg]at h
  cases q:ds[i]? with
  |none=>rw[q]at h;cases h
  |some d=>rw[q]at h;cases h;exact{(d),rfl,rfl}
 ·rw[WV (by simpa using hi)]at h
  exact(gO h).elim
def kc {N:List Str}{vs:List V}{i:Nat}{v:V}(h:vs[i]?=some v):(start N vs)[i]?=some (some v):=by
 unfold start;rw[Xe (by simpa using (Ww.mp h).1),Wg,h]
 rfl
def Aj {N:List Str}{vs:List V}{ds:List D}{H:Hp}{ro:Bool}(r:ai P w (λ_=>False) H ds vs):cT P w {H,λ_=>False,ro,λ_=>False} (start N vs) H (startB N ds) (λ_=>[]):=by
 refine{?_,λi y d h=>?_,λi d h=>?_,λi ok h=>?_,λi a h=>(nomatch h),λi j a h=>(nomatch h),λi=>W9,Kp.refl,λ_ z=>z,λi y d h=>by obtain⟨d',e,e'⟩:=fw h;cases e'}
 ·unfold startB start;simp[r.length]
 ·obtain⟨d',e,e'⟩:=fw h;cases e';obtain⟨v,e1,e2⟩:=ai.get r e;exact{v,kc e1,aD.a8 (λa z=>z.elim (λPZ=>by obtain⟨_,q⟩:=PZ;exact(nomatch q)) λz=>z) e2}
 ·obtain⟨d',e,e'⟩:=fw h;cases e'
 ·obtain⟨d',e,e'⟩:=fw h;cases e'
def oe {x qual:Str}{st:Stmt}{f:Addr}{fd:WN}{N ps:List Str}{k:Nat}{F:FD}{ro:Bool}(G:Dl K x qual st f fd)(S:aK N ps (ay st))(len:∀ds R,F ds R->ds.length=ps.length)
  (nj:∀(c7:VT) (A:Xd) (outer:List Env) (s:VY) (H:Hp) (E:XK),da k (A.deeper (Zm qual (ay st) s.heap.objs.size f c7)) ->
   ∃ψ,x_ (oU bu P w K mg base N qual (ay st) f c7 A outer s H E).F2 {H,λ_=>False,ro,λ_=>False} (fk st) ψ/\∀ds R,F ds R->ψ (eN R) (startB N ds)) :
  aG P w K mg base bu (k+1) f fd ps (bZ P w ro F):=by
 refine G.ok S (λvs H Q E h=>?_) (λc7 A outer s H vs Q E hr h=>?_)
 ·obtain⟨ds,r,h⟩:=h;rw[r.length];exact len ds _ h
 ·obtain⟨ds,r,h⟩:=h;obtain⟨ψ,hb,hF⟩:=nj c7 A outer s H E hr;refine{_,hb.ps,(H,Wn λ_=>[]),_,startB N ds,{λ_=>[],Aj r,Sn.refl},hF ds _ h,λσ H' β sb q=>?_,λσ H' β d v sb rr q=>?_,λ_ _ _ _ z=>z.elim,λ_ _ _ _ z=>z.elim}
  ·obtain⟨own,s',n'⟩:=sb;exact q _ H' (λb o e=>s'.kp.out b o e (λz=>z)) (fB (W:=λ_=>False) rfl rfl)
  ·obtain⟨own,s',n'⟩:=sb;exact q _ H' (λb o e=>s'.kp.out b o e (λz=>z)) rr
def ym {N:List Str}{ok:List Int->Prop}{h:Addr}{ns:List Int}{vs:List V}{ds:List D}{H:Hp}{ro:Bool}(hh:H h=some (.lst (ns.map V.int)))(ho:ok ns)(r:ai P w (λa=>a=h) H ds vs):
  cT P w {H,(·=h),ro,λ_=>False} (start N (.ref h::vs)) H (kg N ok ds) (λi=>if i=0 then [h] else []):=by
 have D_:∀{i:Nat} {a:Addr},a∈(if i=0 then [h] else ([]:List Addr))->i=0/\a=h:=λ{i a} q=>by
  by_cases e:i=0
  ·rw[if_pos e]at q;exact{e,by simpa using q}
  ·rw[if_neg e]at q;cases q
 have EV:∀{i:Nat} {b:B},(kg N ok ds)[i]?=some (some b)->(i=0/\b=.hand ok)\/∃j d,i=j+1/\ds[j]?=some d/\b=.val false d:=λ{i b} q=>by
  unfold kg at q;cases i with
  |zero=>simp at q;exact .inl {(rfl),q.symm}
  |succ i =>
   rw[YB]at q;obtain⟨d,e,e'⟩:=fw q;exact .inr {(i),d,rfl,e,e'}
 refine{?_,λi y d q=>?_,λi d q=>?_,λi zM q=>?_,λi a q=>?_,λi j a h1 h2=>?_,λi=>?_,Kp.refl,λ_ z=>z,λi y d q=>(EV q).elim (λEM=>by obtain⟨_,e⟩:=EM;cases e) (λEL=>by obtain⟨j,d',_,_,e'⟩:=EL;cases e')}
 ·unfold kg start;simp[r.length]
 ·rcases EV q with⟨_,e⟩|⟨j,d',rfl,e,e'⟩
  ·cases e
  ·cases e';obtain⟨v,e1,e2⟩:=ai.get r e;exact{v,kc (by simpa using e1),aD.a8 (λa z=>z.elim (λPY=>by obtain⟨j,q⟩:=PY;exact(D_ q).2) λz=>z.elim) e2}
 ·rcases EV q with⟨_,e⟩|⟨j,d',_,_,e'⟩
  ·cases e
  ·cases e'
 ·rcases EV q with⟨e0,e⟩|⟨j,d',_,_,e'⟩
  ·cases e;subst e0;exact{h,ns,kc rfl,hh,ho,rfl,.inr rfl}
  ·cases e'
 ·obtain⟨_,rfl⟩:=D_ q;exact{by rw[hh];exact λz=>(nomatch z),λxs z=>(by rw[hh]at z;cases z),.inr rfl,λz=>z}
 ·rw[(D_ h1).1,(D_ h2).1]
 ·by_cases e:i=0
  ·simp[e]
  ·simp[e]
def OT {x qual:Str}{st:Stmt}{f:Addr}{fd:WN}{N ps:List Str}{k:Nat}{F:FD}{ok:List Int->Prop}{ro:Bool}(G:Dl K x qual st f fd)(S:aK N ps (ay st))(len:∀ds R,F ds R->ds.length+1=ps.length)
  (nj:∀(c7:VT) (A:Xd) (outer:List Env) (s:VY) (H:Hp) (E:XK) (IO:Addr->Prop),da k (A.deeper (Zm qual (ay st) s.heap.objs.size f c7)) ->
   ∃ψ,x_ (oU bu P w K mg base N qual (ay st) f c7 A outer s H E).F2 {H,IO,ro,λ_=>False} (fk st) ψ/\∀ds R,F ds R->ψ (eH ok R) (kg N ok ds)) :
  aG P w K mg base bu (k+1) f fd ps (vh P w ok ro F):=by
 refine G.ok S (λvs H Q E h=>?_) (λc7 A outer s H vs Q E hr h=>?_)
 ·obtain⟨h,vs',ds,ns,rfl,hh,ho,r,q⟩:=h;rw[V7,r.length];exact len ds _ q
 ·obtain⟨h,vs',ds,ns,rfl,hh,ho,r,q⟩:=h;obtain⟨ψ,hb,hF⟩:=nj c7 A outer s H E (·=h) hr;refine{_,hb.ps,(H,_),_,kg N ok ds,{_,ym hh ho r,Sn.refl},hF ds _ q,λσ H' β sb z=>z.elim,λσ H' β d v sb rr y7=>?_,λ_ _ _ _ z=>z.elim,λ_ _ _ _ z=>z.elim};obtain⟨b0,q⟩:=y7;obtain⟨own,s',n'⟩:=sb;obtain⟨a,og,g1,g2,g3,g4,g5⟩:=s'.pN 0 ok b0;have ea:a=h:=g5.elim (λz=>(z h rfl).elim) λz=>z;subst ea;exact q v H' og s'.kp s'.iN g2 g3 rr
end
end L2.Q
namespace L2
open PySem PySem.Spec PySem.SeqAt PyProof.Rows
def uY.pre {X:Cx}{ifs:List Expr}{t t':TT}(h:uY X ifs t)(k:∀σ H Q,t' σ H Q->t σ H Q):uY X ifs t':=λpins s σ H Q I q=>h pins s σ H Q I (k σ H Q q)
section
variable {X:Cx}{e:Expr}{g:Yt}{gs:List Yt}{scope:YA}{N':List Str}{lk:List (Option Nat)}{tg:Addr->TG}{tt:Addr->TT}{wi:TI}
def lx {fo:Sem VT}{o:HO}{after:VT->Env->Sem Fin->Sem Fin}{ta:Addr->lF}(L:Links X scope N' lk)(hc:X.calm=true)(hA:kU X fo o)
  (F:∀acc env,fN e 0 g acc env (after acc env))
  (xx:∀a cl C s H ex,PG (aC X scope N' cl C s H ex) g.target (tg a)/\uY (aC X scope N' cl C s H ex) g.ifs (tt a)/\oX (aC X scope N' cl C s H ex) (after (.ref a) (aC X scope N' cl C s H ex).env) (ta a))
  {cl:List (Str×Addr)} (oN:∀x,(x,WU)∈scope.names->∃c,cl.lookup x=some c) (vZ:∀x c,cl.lookup x=some c->X.env.cells.lookup x=some c)
  {pins:List (Addr×Obj)} {σ:St} {s:VY} {Q:V->Hp->Prop} {Gg:VT} {E:VT->VY->Prop} {RR:VT->Addr->Result->VY->Prop}
  (h:NU X pins σ g.target (λJ H1=>∀a,H1 a=none->gk J (tg a) (tt a) (ta a) (λ_ H'=>Q (.ref a) H') (eT lk σ) (upd H1 a o)) Gg s)
  (hR:∀a H' C s',Inv X pins σ H' s'->je X pins H' C->(∃m,s'.heap.Ns C m)->Q (.ref a) H'->RR (.ref a) C (.ok .next) s') :
  WM (model X.prog X.w) X.A fo (λacc s₃=>WM (model X.prog X.w) X.A (newFunctionEnv scope X.env.globals cl [] X.env.qual none .none (some X.env)) (λMR s₄ =>
   Zn (model X.prog X.w) X.A (.compStart e 0 Gg acc {MR with scope:=relabel scope X.env}) (RR acc MR.locals) s₄) E s₃) E s:=by
 obtain⟨it,fp,tn,J,H2,e1,I2,T,gn,f2,hl⟩:=h;subst e1;refine hA.ok pins s σ H2 _ E I2 λa s3 ha hn hk I3=>?_;refine wpAny_newFunctionEnv L.vH (by intro y hy;simp at hy) (λh₁ Jf IT=>?_) L.kind
 have Qa:∀b∈fp,∃o,s3.heap.get? b=some o:=λb hb=>by
  obtain⟨ob,q,_⟩:=T.obj _ _ gn b hb;exact{ob,hk b ob q}
 have UG:∀b∈fp,b≠a:=λb hb=>by
  obtain⟨ob,q,_⟩:=T.obj _ _ gn b hb;exact WX (WI (Wt q) ha)
 have f3:∀b∈fp,je X pins (upd H2 a o) b:=λb hb=>{by rw[aB (UG b hb)];exact(f2 b hb).1,(f2 b hb).2}
 have ze:∀b ob,s3.heap.get? b=some ob->h₁.get? b=some ob:=λb ob q=>IT.extBut b ob (WX (Wt q)) (V6 _ q);have NA:h₁.Ns s3.heap.objs.size (λ_=>none):=Jf;have I4:=BI (t':=s3.toks+([]:List (Str×VT)).length) I3 L f3 Qa oN vZ NA ze;obtain⟨g1,g2,g3⟩:=xx a cl s3.heap.objs.size s3 (upd H2 a o) fp;have f4:∀b∈fp,je (aC X scope N' cl s3.heap.objs.size s3 (upd H2 a o) fp) [] (upd H2 a o) b:=λb hb =>
  {(f3 b hb).1,(I4.ok.NP b hb).1,I4.ok.Cr b hb,.inl hb,(I4.ok.NP b hb).2,λp hp=>absurd (show p∈([]:List (Addr×Obj)) from hp) (by simp)}
 have Ku:tn 0 h₁:=T.keep 0 _ _ gn λb hb ob q=>ze b ob (hk b ob q);refine YD (nL (X:=aC X scope N' cl s3.heap.objs.size s3 (upd H2 a o) fp) rfl hc (F (.ref a) _) g1 g2 g3 T I4 Ku f4 (hl a hn)) λr s' hr=>?_;obtain⟨rfl,σ',H',J',q⟩:=hr;have I5:Inv X pins σ H' s':=BJ (C:=s3.heap.objs.size) (h'':=s'.heap) I3 f3 J' (.refl ..);refine hR a H' s3.heap.objs.size s' I5 (I3.Ce (VR _) J'.free) ?_ q;obtain⟨m,hm,_⟩:=J'.loc;exact{(m),hm}
def gS {fo:Sem VT}{o:HO}{after:VT->Env->Sem Fin->Sem Fin}{ta:Addr->lF}{pos:Pos}(L:Links X scope N' lk)(hc:X.calm=true)(hA:kU X fo o)
  (Jm:eval e X.env=comprehension e scope X.env pos fo false (eval g.iter X.env)) (Jo:clausesOf e=g::gs)
  (F:∀acc env,fN e 0 g acc env (after acc env)) (hi:PI X g.target g.iter wi)
  (xx:∀a cl C s H ex,PG (aC X scope N' cl C s H ex) g.target (tg a)/\uY (aC X scope N' cl C s H ex) g.ifs (tt a)/\oX (aC X scope N' cl C s H ex) (after (.ref a) (aC X scope N' cl C s H ex).env) (ta a))
  (hs:∀x,WS g.iter X.env x=pure x) :
  PE X e (λσ H Q=>wi σ H λJ H1=>∀a,H1 a=none->gk J (tg a) (tt a) (ta a) (λ_ H'=>Q (.ref a) H') (eT lk σ) (upd H1 a o)):=by
 intro pins s σ H Q I h;rw[Jm];obtain⟨cl,B6,oN,vZ⟩:=iP (env:=X.env) (scope:=scope) λx hx=>I.ok.has x (L.free x hx);refine wpAny_comprehension_free (use:=none) Jo hs B6 L.kind L.names (bG (hi pins s σ H _ I h) λv s1 h1=>bG h1 λGg s2 h2=>?_);refine lx (RR:=λacc C=>compPost (model X.prog X.w) X.A X.xe none (EP X pins σ Q) acc C) L hc hA F xx oN vZ h2 λa H' C s' I' f i7 q=>?_;obtain⟨m,hm⟩:=i7;exact{m,hm,λh' y9=>{.ref a,H',I'.sameBut f y9,rfl,q}}
def AI {fo:Sem VT}{o:HO}{after:VT->Env->Sem Fin->Sem Fin}{ta:Addr->lF}{pos pos' sv:Pos}{y:Str}{i:Nat}(L:Links X scope N' lk)(hc:X.calm=true)(hA:kU X fo o)
  (y8:X9 e (some (.Name y pos')) sv.line X.env=pure true)
  (Jm:evalThenUse e X.env (assign (.Name y pos') X.env)=(do let _ <- comprehension e scope X.env pos fo false (eval g.iter X.env) (some (assign (.Name y pos') X.env));pure ())) (Jo:clausesOf e=g::gs)
  (hN:X.N.Nodup) (hy:X.N[i]?=some y) (hx:Loc X.env.scope y) (hf:X.fn y=true\/X.env.scope.names.lookup y=some .local)
  (F:∀acc env,fN e 0 g acc env (after acc env)) (hi:PI X g.target g.iter wi)
  (xx:∀a cl C s H ex,PG (aC X scope N' cl C s H ex) g.target (tg a)/\uY (aC X scope N' cl C s H ex) g.ifs (tt a)/\oX (aC X scope N' cl C s H ex) (after (.ref a) (aC X scope N' cl C s H ex).env) (ta a))
  (hs:∀x,WS g.iter X.env x=pure x) :
  PS X (.Assign [.Name y pos'] e sv) (λD σ H=>wi σ H λJ H1=>∀a,H1 a=none->gk J (tg a) (tt a) (ta a) (λ_ H'=>D.nx (σ.set i (some (.ref a))) H') (eT lk σ) (upd H1 a o)):=by
 intro pins s σ H D I h;rw[exec_Assign_Name_used _ _ _ _ y8,Jm];refine VV (XZ (VV (VV ?_)));obtain⟨cl,B6,oN,vZ⟩:=iP (env:=X.env) (scope:=scope) λx hx=>I.ok.has x (L.free x hx);refine bG (wpAny_comprehension_free (use:=some (assign (.Name y pos') X.env)) (Q:=λ_ s'=>SP X pins D .next s') Jo hs B6 L.kind L.names (bG (hi pins s σ H _ I h) λv s1 h1=>bG h1 λGg s2 h2=>?_)) λ_ s' q=>Wd (Wd q)
 refine lx (Q:=λv H'=>D.nx (σ.set i (some v)) H') (RR:=λacc C=>compPost (model X.prog X.w) X.A X.xe (some (assign (.Name y pos') X.env)) (λ_ s'=>SP X pins D .next s') acc C) L hc hA F xx oN vZ h2 λa H' C s' I' f oJ q=>?_
 obtain⟨m,hm⟩:=oJ;show WM _ _ (assign (.Name y pos') X.env (.ref a)) _ _ s';have VN:∃o,s'.heap.get? C=some o:=by obtain⟨o,_,_,ho,_⟩:=hm;exact{(o),ho}
 refine wpAny_assign_Name (o_ I' hN hy hx (v:=.ref a) (u:=.ref a) rfl (λs4 I4 k4=>?_) hf);obtain⟨a4,Tj,Sw⟩:=k4;have oM:C≠a4:=by
  rcases Sw with z|z
  ·rw[z];exact f.2.1
  ·exact(f.2.2.2.2.1 y a4 z).symm
 exact{m,hm.at' (λo e=>(Tj.2 C oM).trans e),λh' y9=>{_,H',I4.sameBut f y9,q}}
end
end L2
namespace L2.Q
open PySem PySem.Spec PySem.SeqAt PyProof.Rows
noncomputable def RW:Option B->Option B
 |some (.own d)=>some (.val false d)
 |some (.shl _ d)=>some (.val false d)
 |b=>b
def cu (lk:List (Option Nat))(β:a9):a9:=lk.map λl=>match l with|some j=>(match β[j]? with|some b=>RW b|none=>none)|none=>none
def Nt:Option (Option B)->Bool
 |some (some (.hand _))=>true
 |_=>false
def bB (lk:List (Option Nat))(β:a9)(own:Nat->List Addr)(i:Nat):List Addr:=match lk[i]? with
 |some (some j)=>if Nt β[j]?=true then own j else []
 |_=>[]
def ff:a9->a9->Prop
 |[],_=>True
 |some (.hand ok)::a,c=>c.head?=some (some (.hand ok))/\ff a c.tail
 |_::a,c=>ff a c.tail
theorem ff.get:∀{a c:a9} {i:Nat} {ok:List Int->Prop},ff a c->a[i]?=some (some (.hand ok))->c[i]?=some (some (.hand ok))
 |[],_,_,_,_,e=>by simp at e
 |x::a,c,0,ok,h,e=>by
  simp at e;subst e;rw[<- List.head?_eq_getElem?];exact h.1
 |x::a,c,i+1,ok,h,e=>by
  have h':ff a c.tail:=by
   cases x with
   |none=>exact h
   |some x=>cases x <;> first|exact h|exact h.2
  have:=ff.get (i:=i) h' (by simpa using e)
  rwa [List.getElem?_tail]at this
section
variable {P:V2}{w:Wm}{C:Cfg}{σ σ':St}{H H' H1:Hp}{β βi:a9}{own jG:Nat->List Addr}{lk:List (Option Nat)}{a:Addr}
def cn {i:Nat}{c:Addr}(h:c∈bB lk β own i):∃j,lk[i]?=some (some j)/\Nt β[j]?=true/\c∈own j:=by
 unfold bB at h
 split at h
 ·next j e =>
  by_cases q:Nt β[j]?=true
  ·rw[if_pos q]at h;exact{(j),e,q,h}
  ·rw[if_neg q]at h;cases h
 ·cases h
def bA:∀c,Wn (bB lk β own) c->Wn own c:=λc ⟨i,h⟩=>let ⟨j,_,_,h⟩:=cn h;{(j),h}
def gW {i j:Nat}{v:V}(h:lk[i]?=some (some j))(e:σ[j]?=some (some v)):(eT lk σ)[i]?=some (some v):=by
 unfold eT;rw[Wg,h];simp only[Zy];rw[e]
def ic {i:Nat}{b:B}(h:(cu lk β)[i]?=some (some b)):∃j b',lk[i]?=some (some j)/\β[j]?=some (some b')/\RW (some b')=some b:=by
 unfold cu at h;rw[Wg]at h;cases q:lk[i]? with
 |none=>rw[q]at h;cases h
 |some l =>
  rw[q]at h;cases l with
  |none=>cases h
  |some j =>
   simp only[Zy]at h;cases q2:β[j]? with
   |none=>rw[q2]at h;cases h
   |some b2 =>
    rw[q2]at h;simp only[Z0]at h;cases b2 with
    |none=>cases h
    |some b'=>exact{(j),b',rfl,q2,h}
def cT.enter (s:cT P w C σ H β own)(ha:H a=none)(inj:∀(i i' j:Nat),lk[i]?=some (some j)->lk[i']?=some (some j)->i=i'):
  cT P w (C.u λc=>c=a) (eT lk σ) (upd H a (.lst [])) (cu lk β) (bB lk β own):=by
 have sm:aE H (upd H a (.lst [])):=aE.new ha;have na:∀{i c},c∈own i->c≠a:=λ{i c} hc z=>(s.dm i c hc).1 (by rw[z];exact ha)
 have gr:∀k,∀c,iy (C.u λc=>c=a) (Wn (bB lk β own)) k c->iy C (Wn own) k c\/H c=none:=λk c z=>by
  rcases z with z|z
  ·exact .inl (.inl (l0 bA k c z))
  ·exact .inr (by rw[z];exact ha)
 refine⟨by unfold cu eT;simp,λi y d e=>?_,λi d e=>?_,λi ok e=>?_,λi c h=>?_,λi i' c h1 h2=>?_,λi=>?_,s.kp.trans sm.kp,λc z e=>s.iN c z (sm.free e),λi y d e=>by
  obtain⟨j,b',e1,e2,e3⟩:=ic e;cases b' <;> cases e3⟩
 ·obtain⟨j,b',e1,e2,e3⟩:=ic e;cases b' with
  |val y' d' =>
   cases e3;obtain⟨v,h1,h2⟩:=s.val j y d e2;exact{v,gW e1 h1,(aD.grow (gr _) h2).same sm}
  |own d' =>
   cases e3;obtain⟨v,h1,h2,h3⟩:=s.ow j d e2;refine{v,gW e1 h1,aD.same sm (h2.rep λc hc z=>?_)};rcases z with z|z
   ·obtain⟨i',gX⟩:=z;obtain⟨j',q1,q2,q3⟩:=cn gX;have:=s.oi j j' c hc q3;subst this;rw[e2]at q2;cases q2
   ·exact na hc z
  |hand ok=>cases e3
  |shl y' d' =>
   cases e3;obtain⟨v,h1,h2,h3⟩:=s.shl j y' d e2;refine{v,gW e1 h1,aD.same sm (h2.rep (λc hc z=>?_) λds vs r=>ai.grow (λc z=>?_) r)}
   ·rcases z with z|z
    ·obtain⟨i',gX⟩:=z;obtain⟨j',q1,q2,q3⟩:=cn gX;have:=s.oi j j' c hc q3;subst this;rw[e2]at q2;cases q2
    ·exact na hc z
   ·rcases gr _ c z with z|z
    ·refine .inl ?_;rcases z with z|z
     ·exact .inl (.inl z)
     ·exact .inr z
    ·exact .inr z
 ·obtain⟨j,b',e1,e2,e3⟩:=ic e;cases b' <;> cases e3
 ·obtain⟨j,b',e1,e2,e3⟩:=ic e;cases b' with
  |val y' d'=>cases e3
  |own d'=>cases e3
  |shl y d=>cases e3
  |hand zM =>
   cases e3;obtain⟨h,ns,h1,h2,h3,h4,h5⟩:=s.pN j ok e2;refine{h,ns,gW e1 h1,sm _ _ h2,h3,?_,h5};unfold bB;rw[e1];simp only;rw[e2];exact(if_pos rfl).trans h4
 ·obtain⟨j,q1,q2,q3⟩:=cn h;obtain⟨g1,g2,g3,g4⟩:=s.dm j c q3;rw[aB (na q3)];exact{g1,g2,g3,na q3}
 ·obtain⟨j,q1,q2,q3⟩:=cn h1;obtain⟨j',Rv,Vt,Tx⟩:=cn h2;have:=s.oi j j' c q3 Tx;subst this;exact inj _ _ _ q1 Rv
 ·unfold bB
  split
  ·next j e =>
   split
   ·exact s.oG j
   ·exact W9
  ·exact W9
def cT.Ho {o:HO}(s:cT P w (C.u λc=>c=a) σ H β own){oa:HO}(ha:H a=some oa)(ht:∀xs,oa≠.tup xs)(h0:C.H0 a=none):cT P w (C.u λc=>c=a) σ (upd H a o) β own:=by
 have k:Kp (·=a) H (upd H a o):=m9 ha ht;have na:∀{i c},c∈own i->c≠a:=λ{i c} hc=>(s.dm i c hc).2.2.2;refine⟨s.len,λi y d e=>let ⟨v,h1,h2⟩:=s.val i y d e;{v,h1,h2.keep (k.mono λc z=>.inr z)},λi d e=>let ⟨v,h1,h2,h3⟩:=s.ow i d e;{v,h1,h2.keep k.tup (λc hc oc ec=>k.out c oc ec (na hc)),h3},
  λi ok e=>?_,λi c h=>?_,s.oi,s.oG,{λc oc z n=>k.out c oc (s.kp.out c oc z n) λq=>?_,λc xs z=>k.tup c xs (s.kp.tup c xs z)},λc z=>?_,λi y d e=>let ⟨v,h1,h2,h3⟩:=s.shl i y d e;{v,h1,h2.map (λc hc oc ec=>k.out c oc ec (na hc)) (λ_ _ r=>r.keep (k.mono λc z=>.inr z)),h3}⟩
 ·obtain⟨h,ns,h1,h2,h3,h4,h5⟩:=s.pN i ok e;exact{h,ns,h1,k.out h _ h2 (na (by rw[h4];simp)),h3,h4,h5}
 ·rw[aB (na h)];exact s.dm i c h
 ·rw[q,h0]at z;cases z
 ·by_cases q:c=a
  ·rw[q,ao];exact λz=>(nomatch z)
  ·rw[aB q];exact s.iN c z
def cT.leave (s:cT P w C σ H1 β own)(i:cT P w (C.u λc=>c=a) σ' H' βi jG)(n:Sn (H1,Wn (bB lk β own)) H' (Wn jG))(le:∀c,Wn jG c->Wn (bB lk β own) c)
  (hh:ff (cu lk β) βi) (hσ:∀(j:Nat) (ok:List Int->Prop) (i:Nat),β[j]?=some (some (B.hand ok))->lk[i]?=some (some j)->σ'[i]?=(eT lk σ)[i]?):cT P w C σ H' β own:=by
 have off:∀{j c},c∈own j->¬ Wn (bB lk β own) c->∀o,H1 c=some o->H' c=some o:=λ{j c} hc nw o e=>n.k.out c o e λz=>z.elim nw λz=>(s.dm j c hc).1 z;have LI:∀{j c},c∈own j->Nt β[j]?=false->¬ Wn (bB lk β own) c:=λ{j c} hc q zb=>by
  obtain⟨i',gX⟩:=zb;obtain⟨j',q1,q2,q3⟩:=cn gX;have:=s.oi j j' c hc q3;subst this;rw[q]at q2;cases q2
 have hN:∀(j:Nat) (ok:List Int->Prop),β[j]?=some (some (B.hand ok))->∃a ns,σ[j]?=some (some (V.ref a))/\H' a=some (.lst (ns.map V.int))/\ok ns/\own j=[a]/\((∀b,¬ C.IO b)\/C.IO a):=λj ok e=>by
  obtain⟨h,ns,h1,h2,h3,h4,h5⟩:=s.pN j ok e
  by_cases q:Wn (bB lk β own) h
  ·obtain⟨i',gX⟩:=q;obtain⟨j',q1,q2,q3⟩:=cn gX;have:=s.oi j j' h (by rw[h4];simp) q3
   subst this;have eB:(cu lk β)[i']?=some (some (.hand ok)):=by
    unfold cu;rw[Wg,q1];simp only[Zy];rw[e];rfl
   obtain⟨h',og,g1,g2,g3,g4,g5⟩:=i.pN i' ok (hh.get eB);rw[hσ j ok i' e q1,gW q1 h1]at g1;cases g1;exact{(h),og,h1,g2,g3,h4,h5}
  ·exact{h,ns,h1,off (by rw[h4];simp) q _ h2,h3,h4,h5}
 refine⟨s.len,λj y d e=>?_,λj d e=>?_,hN,λj c hc=>?_,s.oi,s.oG,i.kp,i.iN,λj y d e=>by
  obtain⟨v,h1,h2,h3⟩:=s.shl j y d e;refine{v,h1,h2.map (λc hc o eo=>off hc (LI hc (by rw[e];rfl)) o eo) (λds vs r=>?_),h3}
  have g:ai P w (λc=>iy C (Wn own) (yk true) c\/H1 c=none) H1 ds vs:=ai.grow (λc z=>z) r;refine ai.a8 (λc z=>.inl z) (g.keep (n.k.mono λc z=>z.imp (λz=>?_) id));exact .inl (.inl (bA c z))⟩
 ·obtain⟨v,h1,h2⟩:=s.val j y d e;have g:aD P w (λc=>iy C (Wn own) (yk y) c\/H1 c=none) H1 d v:=aD.grow (λc z=>z) h2;refine{v,h1,aD.a8 (λc z=>.inl z) (g.keep (n.k.mono λc z=>z.imp (λz=>?_) id))};cases y with
  |true=>exact .inl (.inl (bA c z))
  |false=>exact .inl (bA c z)
 ·obtain⟨v,h1,h2,h3⟩:=s.ow j d e;exact{v,h1,h2.keep n.k.tup (λc hc o eo=>off hc (LI hc (by rw[e];rfl)) o eo),h3}
 ·obtain⟨g1,g2,g3,g4⟩:=s.dm j c hc
  by_cases q:Wn (bB lk β own) c
  ·obtain⟨i',gX⟩:=q;obtain⟨j',q1,q2,q3⟩:=cn gX;have:=s.oi j j' c hc q3;subst this;cases e:β[j]? with
   |none=>rw[e]at q2;cases q2
   |some b =>
    rw[e]at q2;cases b with
    |none=>cases q2
    |some b =>
     cases b with
     |val y d=>cases q2
     |own d=>cases q2
     |shl y d=>cases q2
     |hand ok =>
      obtain⟨h,ns,k1,k2,k3,k4,k5⟩:=hN j ok e;rw[k4]at hc;rw[VU.mp hc]at g3 g4 ⊢
      rw[k2];exact{λz=>(nomatch z),λxs z=>(by cases z),g3,g4}
  ·cases e:H1 c with
   |none=>exact absurd e g1
   |some o=>rw[off hc q o e];exact{λz=>(nomatch z),λxs z=>g2 xs (by rw[e];exact z),g3,g4}
end
def Kk:aZ:=λβ R=>R true β
def AL {X:Cx}{C:Cfg}:uY X [] (j7 X C true Kk):=DM.pre λσ H Q ⟨β,own,s,q⟩=>q H own (Out.refl s _)
def AK {X:Cx}{C:Cfg}{p:Bool}{c:Expr}{τ:aZ}(h:uZ X C p c τ):uY X [c] (j7 X C p τ):=DL h.pt
def lg (γ:c8)(τ:aZ)(φ:aQ)(ds:List D)(k:Kd)(β0:a9)(K:List D->Prop):Prop:=∃I:Nat->a9->List D->Prop,I 0 β0 [] /\
 (∀i d β o,ds[i]?=some d->I i β o->γ d (sk k d) β λβ1=>τ β1 λt β2=>if t=true then φ β2 λx kx β3=>Gf kx x/\o.length<Wi/\I (i+1) β3 (o++[x]) else I (i+1) β2 o)/\∀β o,I ds.length β o->ff β0 β/\K o
def lg.mono {γ:c8}{τ:aZ}{φ:aQ}{ds:List D}{k:Kd}{β0:a9}{K K':List D->Prop}(h:∀o,K o->K' o)(q:lg γ τ φ ds k β0 K):lg γ τ φ ds k β0 K':=let ⟨I,h0,h1,h2⟩:=q;{I,h0,h1,λβ o z=>{(h2 β o z).1,h _ (h2 β o z).2}}
section
variable {X:Cx}{C:Cfg}{lk:List (Option Nat)}{γ:c8}{τ:aZ}{φ:aQ}{T:List Nat}{pc pe:Bool}
def p_ {σ:St}{H1:Hp}{β:a9}{own:Nat->List Addr}{a:Addr}{J:It}{ds:List D}{k:Kd}{K:List D->Prop}{End:Hp->Prop}
  (γm:∀d k β R R',(∀r,R r->R' r)->γ d k β R->γ d k β R') (τm:∀β R R',(∀d β,R d β->R' d β)->τ β R->τ β R') (φm:∀β R R',(∀d k β,R d k β->R' d k β)->φ β R->φ β R')
  (inj:∀(i i' j:Nat),lk[i]?=some (some j)->lk[i']?=some (some j)->i=i') (hT:∀i∈T,∀j,lk[i]?≠some (some j))
  (s1:SQ X C σ H1 β own) (ha:H1 a=none) {hp:Bool} (L9:hp=true->(pc&&pe)=true) (hk:hold k hp) (it:zR X (av C (Wn own) k) J ds H1) (q:lg γ τ φ ds k (cu lk β) K)
  (fin:∀o H',K o->Out X C σ H1 own (pc&&pe) β H' own->KV X.prog X.w C (H1,Wn own) own H' .own (.lst o) (.ref a)->End H') :
  gk J (λv σ H Q=>∃own β d k,SQ X (C.u λc=>c=a) σ H β own/\Rp X (iy (C.u λc=>c=a) (Wn own) k) H d v/\γ d k β λβ'=>∀σ' aS,SQ X (C.u λc=>c=a) σ' H β' aS->(∀a,Wn aS a->Wn own a)->(∀j,j∉T->σ'[j]?=σ[j]?)->Q σ' H)
   (j7 X (C.u λc=>c=a) pc τ) (λN σ H=>tQ X (C.u λc=>c=a) pe φ σ H λv H1=>∃xs,H1 a=some (.lst xs)/\xs.length<Wi/\N σ (upd H1 a (.lst (xs++[v]))))
   (λ_ H'=>End H') (eT lk σ) (upd H1 a (.lst [])):=by
 obtain⟨I,i0,i1,i2⟩:=q;have h0:C.H0 a=none:=Wz λz=>s1.iN a z ha;have sm:aE H1 (upd H1 a (.lst [])):=aE.new ha;have RT:∀c,Wn (bB lk β own) c->c≠a:=λc z e=>by
  obtain⟨j,hj⟩:=bA c z;exact(s1.dm j c hj).1 (by rw[e];exact ha)
 let S:Nat->St->Hp->Prop:=λi σ' H'=>∃βi jG vs o A,SQ X (C.u λc=>c=a) σ' H' βi jG/\Sn (H1,Wn (bB lk β own)) H' (Wn jG)/\(∀c,Wn jG c->Wn (bB lk β own) c)/\H' a=some (.lst vs)/\aL X.prog X.w H' o vs A/\A.Nodup/\(∀c∈A,H1 c=none/\c≠a) /\
  ((pc&&pe)=true->aE H1 H')/\(∀j,j∉T->σ'[j]?=(eT lk σ)[j]?)/\I i βi o
 have W':Addr->Prop:=λb=>av C (Wn own) k b\/H1 b=none;have J1:=it (λb=>av C (Wn own) k b\/H1 b=none) λb z=>z;have kI:∀{H':Hp} {jG:Nat->List Addr},Sn (H1,Wn (bB lk β own)) H' (Wn jG)->((pc&&pe)=true->aE H1 H')->Kp (λb=>av C (Wn own) k b\/H1 b=none) H1 H':=λn pu=>by
  cases k with
  |own=>exact n.k.mono λb z=>z.imp (λz=>.inl (bA b z)) id
  |gj=>exact n.k.mono λb z=>z.imp (λz=>.inl (bA b z)) id
  |old=>exact n.k.mono λb z=>z.imp (bA b) id
  |bor =>
   cases hp with
   |false=>exact hk.elim
   |true=>exact(pu (L9 rfl)).kp.mono λb z=>.inr z
 refine{λi m σ' H'=>i<=ds.length/\m=ds.length-i/\S i σ' H',{_,V_ _,rfl,cu lk β,bB lk β own,[],[],[],s1.enter ha inj,{λb z=>.inl z,sm.kp,λb z e=>z (sm.free e)},λ_ z=>z,ao,{(rfl),rfl},W9,λc hc=>(nomatch hc),λ_=>sm,λ_ _=>rfl,i0},?_};rintro i m σ2 H2 ⟨hi,rfl,βi,jG,vs,o,A,sq,sn,le,QC,os,nd,nw,pu,st,hl⟩;obtain⟨cB,jg⟩:=J1 i H2 (kI sn pu)
 by_cases ie:i<ds.length
 ·right
  have hd:ds[i]?=some ds[i]:=Wh ie;obtain⟨go,yl⟩:=cB _ hd;refine{go,λσ' H'=>S (i+1) σ' H',λσ' H' h=>{_,by omega,ie,rfl,h},λx H3 y=>?_}
  obtain⟨s3,r3⟩:=yl x H3 y;have U5:∀{jG:Nat->List Addr},(∀c,Wn jG c->Wn (bB lk β own) c)->∀c,iy (C.u λc=>c=a) (Wn jG) k c->av C (Wn own) k c\/H1 c=none:=λle c z=>z.elim (λz=>.inl (l0 (λc z=>bA c (le c z)) k c z)) λz=>.inr (by rw[z];exact ha)
  refine{jG,βi,_,_,sq.same s3,qF (aD.a8 (U5 le) r3),γm _ _ _ _ _ (λβ4 q σ4 s_ s4 w4 t4=>?_) (i1 i _ βi o hd hl)};have O3:∀c,Wn s_ c->Wn (bB lk β own) c:=λc z=>le c (w4 c z);refine{β4,s_,s4,τm _ _ _ (λt β5 q H5 oF o5=>?_) q};have Np:∀c,Wn oF c->Wn (bB lk β own) c:=λc z=>O3 c (o5.le c z);have BD:∀c,c∈a::A->∀oc,H2 c=some oc->H5 c=some oc:=λc hc oc e=>by
   refine o5.sn.k.out c oc (s3 c oc e) λz=>?_;rcases z with z|z
   ·rcases VX.mp hc with rfl|hc
    ·exact RT _ (O3 _ z) rfl
    ·obtain⟨j,hj⟩:=bA c (O3 c z);exact(s1.dm j c hj).1 (nw c hc).1
   ·exact absurd ((s3 c oc e).symm.trans z) (λz=>(nomatch z))
  have T3:∀b xs,H2 b=some (.tup xs)->H5 b=some (.tup xs):=λb xs e=>o5.sn.k.tup b xs (s3 b _ e);have OS:aL X.prog X.w H5 o vs A:=os.keep T3 λc hc oc e=>BD c (by simp[hc]) oc e
  have Og:Sn (H1,Wn (bB lk β own)) H5 (Wn oF):=(jy (sn.same s3) w4).trans o5.sn;have Rw:(pc&&pe)=true->aE H1 H5:=λz=>((pu z).trans s3).trans (o5.pu (FA z)).1;have Ku:∀j,j∉T->σ4[j]?=(eT lk σ)[j]?:=λj hj=>(t4 j hj).trans (st j hj);cases t with
  |false=>exact{β5,oF,vs,o,A,o5.sq,Og,Np,BD a (by simp) _ QC,OS,nd,nw,Rw,Ku,q}
  |true =>
   refine{β5,oF,o5.sq,φm _ _ _ (λxd kx β6 i7 v H6 Bb o6 r6=>?_) q};obtain⟨f,hz,q⟩:=i7;obtain⟨B',r1,r2,OB⟩:=r6.fl f;have Mv:H5 a=some (.lst vs):=BD a (by simp) _ QC
   have Ga:∀c,c∈a::A->∀oc,H5 c=some oc->H6 c=some oc:=λc hc oc e=>by
    refine o6.sn.k.out c oc e λz=>?_;rcases z with z|z
    ·rcases VX.mp hc with rfl|hc
     ·exact RT _ (Np _ z) rfl
     ·obtain⟨j,hj⟩:=bA c (Np c z);exact(s1.dm j c hj).1 (nw c hc).1
    ·exact absurd (e.symm.trans z) (λz=>(nomatch z))
   have ue:H6 a=some (.lst vs):=Ga a (by simp) _ Mv
   have Rz:aL X.prog X.w H6 o vs A:=OS.keep o6.sn.k.tup λc hc oc e=>Ga c (by simp[hc]) oc e
   have TL:∀c∈A,c≠a:=λc hc=>(nw c hc).2;have K9:∀c∈B',c≠a:=λc hc z=>by rw[z]at hc;exact absurd (Mv.symm.trans (OB a hc).1) (λz=>(nomatch z))
   have kt:∀b xs,H6 b=some (.tup xs)->upd H6 a (.lst (vs++[v])) b=some (.tup xs):=λb xs z=>by rw[aB (λz'=>by rw[z',ue]at z;cases z)];exact z
   refine{vs,ue,by rw[Rz.length];exact hz,β6,Bb,vs++[v],o++[xd],A++B',o6.sq.Ho ue (λxs z=>by cases z) h0,?_,λc z=>Np c (o6.le c z),ao,?_,?_,λc hc=>?_,λz=>?_,Ku,q}
   ·have m:=Og.trans o6.sn;refine{m.w,m.k.trans ((m9 ue (λxs z=>by cases z)).mono λb z=>.inr (by rw[z];exact ha)),λb z e=>?_}
    by_cases hb:b=a
    ·rw[hb,ao]at e;cases e
    ·rw[aB hb]at e;exact m.d b z e
   ·exact(Rz.keep kt λc hc oc e=>by rw[aB (TL c hc)];exact e).append (aL.one (r1.keep kt λc hc oc e=>by rw[aB (K9 c hc)];exact e))
   ·refine WY.mpr {nd,r2,λx hx y hy e=>?_};subst e;have:=(OB x hy).1;exact(OS.oh x hx).1 this
   ·rcases V9.mp hc with hc|hc
    ·exact nw c hc
    ·exact{Og.free (OB c hc).1,K9 c hc}
   ·refine λb ob e=>?_;rw[aB (λz'=>by rw[z',ha]at e;cases e)]
    exact(o6.pu (QW z)).1 b ob (Rw z b ob e)
 ·left
  have e:i=ds.length:=by omega
  subst e;obtain⟨hh,q⟩:=i2 βi o hl;have lv:SQ X C σ H2 β own:=s1.leave sq sn le hh λj ok i' e1 e2=>st i' λz=>hT i' z j e2;refine{jg (VR _),fin o H2 q {lv,{λb z=>.inl z,sn.k.mono λb z=>z.imp (bA b) id,sn.d},λz=>{pu z,rfl},λ_ z=>z} {a::A,{(a),vs,A,rfl,QC,rfl,os},WB.mpr {λz=>(nw a z).2 rfl,nd},λc hc=>?_}};have oN:H1 c=none:=by
   rcases VX.mp hc with rfl|hc
   ·exact ha
   ·exact(nw c hc).1
  exact{oN,λLJ=>by obtain⟨j,hj⟩:=LJ;exact(s1.dm j c hj).1 oN,Wz λz=>s1.iN c z oN}
def bQ {scope:YA}{N':List Str}(L:Links X scope N' lk)(hN:N'.Nodup):∀(i i' j:Nat),lk[i]?=some (some j)->lk[i']?=some (some j)->i=i':=λi i' j h1 h2=>by
 obtain⟨x,a1,a2,_⟩:=L.link i j h1;obtain⟨y,b1,b2,_⟩:=L.link i' j h2;rw[a2]at b2;cases b2;exact(List.getElem?_inj (Ww.mp a1).1 hN).mp (a1.trans b1.symm)
def wV (lk:List (Option Nat))(ι:cz)(γ:c8)(τ:aZ)(φ:aQ):aQ:=λβ R=>ι β λds k β1=>hold k false/\lg γ τ φ ds k (cu lk β1) λo=>R (.lst o) .own β1
variable {scope:YA}{N':List Str}{tg cB elt:Expr}{ifs:List Expr}{ι:cz}{pi:Bool}{pos pos' sv:Pos}{y:Str}{i:Nat}
def KQ (L:Links X scope N' lk)(rm:N'.Nodup)(hT:T.all (λi=>match lk[i]? with|some (some _)=>false|_=>true)=true)(hc:X.calm=true)(hi:zJ X C pi tg cB ι)
  (oK:∀a cl c s H ex,wy (aC X scope N' cl c s H ex) (C.u λc=>c=a) tg T γ) (lq:∀a cl c s H ex,uY (aC X scope N' cl c s H ex) ifs (j7 (aC X scope N' cl c s H ex) (C.u λc=>c=a) pc τ)) (τm:∀β R R',(∀d β,R d β->R' d β)->τ β R->τ β R')
  (lV:∀a cl c s H ex,PQ (aC X scope N' cl c s H ex) (C.u λc=>c=a) pe elt φ) (γm:∀d k β R R',(∀r,R r->R' r)->γ d k β R->γ d k β R') (φm:∀β R R',(∀d k β,R d k β->R' d k β)->φ β R->φ β R')
  (hs:∀x,WS cB X.env x=pure x:=by intro _;rfl):PQ X C (pi&&(pc&&pe)) (.ListComp elt [{tg,cB,ifs,0}] scope pos) (wV lk ι γ τ φ):=by
 have B7:∀i∈T,∀j,lk[i]?≠some (some j):=λi hi j e=>by
  have:=X1.mp hT i hi;rw[e]at this;cases this
 refine{λβ R R' k h=>hi.mono β _ _ (λds kd β1 q=>{q.1,q.2.mono λo z=>k _ _ _ z}) h,?_};refine(gS (g:={tg,cB,ifs,0}) (gs:=[]) (tg:=λa v σ H Q=>∃own β d k,SQ X (C.u λc=>c=a) σ H β own/\Rp X (iy (C.u λc=>c=a) (Wn own) k) H d v/\γ d k β λβ'=>∀σ' aS,SQ X (C.u λc=>c=a) σ' H β' aS->(∀a,Wn aS a->Wn own a)->(∀j,j∉T->σ'[j]?=σ[j]?)->Q σ' H)
  (tt:=λa=>j7 X (C.u λc=>c=a) pc τ) (ta:=λa N σ H=>tQ X (C.u λc=>c=a) pe φ σ H λv H1=>∃xs,H1 a=some (.lst xs)/\xs.length<Wi/\N σ (upd H1 a (.lst (xs++[v]))))
  L hc mW rfl rfl (λ_ _=>GA) hi.pi (λa cl c s H ex=>{(oK a cl c s H ex).pg,lq a cl c s H ex,mM rfl (lV a cl c s H ex).pe}) hs).pre λσ H Q ⟨β,own,s,h⟩=>?_
 refine{β,own,s,hi.mono β _ _ (λds k β1 oJ J H1 aF o1 it a ha=>?_) h};obtain⟨hk,q⟩:=oJ;exact p_ γm τm φm (bQ L rm) B7 o1.sq ha (hp:=false) (λz=>by cases z) hk it q λo H' q o2 r=>q _ _ aF (o1.trans o2) (r.later o1.sn)
def KP {K:D->a9->cH->Prop}(L:Links X scope N' lk)(rm:N'.Nodup)(hT:T.all (λi=>match lk[i]? with|some (some _)=>false|_=>true)=true)(hc:X.calm=true)(hi:∀U,zJ X (C.u U) pi tg cB ι)
  (oK:∀U cl c s H ex,wy (aC X scope N' cl c s H ex) (C.u U) tg T γ) (lq:∀U cl c s H ex,uY (aC X scope N' cl c s H ex) ifs (j7 (aC X scope N' cl c s H ex) (C.u U) pc τ)) (τm:∀β R R',(∀d β,R d β->R' d β)->τ β R->τ β R')
  (lV:∀U cl c s H ex,PQ (aC X scope N' cl c s H ex) (C.u U) pe elt φ) (γm:∀d k β R R',(∀r,R r->R' r)->γ d k β R->γ d k β R') (φm:∀β R R',(∀d k β,R d k β->R' d k β)->φ β R->φ β R') (o:Bool)
  (hN:X.N.Nodup) (hy:X.N[i]?=some y:=by rfl) (hx:Loc X.env.scope y:=by first|exact .inl rfl|exact .inr rfl) (hf:X.fn y=true\/X.env.scope.names.lookup y=some .local:=by first|exact .inl rfl|exact .inr rfl|assumption)
  (y8:X9 (.ListComp elt [{tg,cB,ifs,0}] scope pos) (some (.Name y pos')) sv.line X.env=pure true:=by rfl)
  (Jm:evalThenUse (.ListComp elt [{tg,cB,ifs,0}] scope pos) X.env (assign (.Name y pos') X.env)=(do let _ <- comprehension (.ListComp elt [{tg,cB,ifs,0}] scope pos) scope X.env (firstIterPos [{tg,cB,ifs,0}] pos) (newList []) false (eval cB X.env) (some (assign (.Name y pos') X.env));pure ()):=by first|rfl|exact arm_evalThenUse_ListComp ..)
  (hs:∀x,WS cB X.env x=pure x:=by intro _;rfl) :
  PB X C (.Assign [.Name y pos'] (.ListComp elt [{tg,cB,ifs,0}] scope pos) sv) (λE β=>wV lk ι γ τ φ β λd _ β'=>E.nx (β'.set i (some (match o with|true=>.own d|false=>.val true d)))):=by
 have B7:∀i∈T,∀j,lk[i]?≠some (some j):=λi hi j e=>by
  have:=X1.mp hT i hi;rw[e]at this;cases this
 refine{λE E' β l h=>(hi λ_=>False).mono β _ _ (λds kd β1 q=>{q.1,q.2.mono λo z=>l.nx _ z}) h,λpins s σ H D I0 y7=>?_};obtain⟨Z,E,β,⟨own,sq,n⟩,h,ok⟩:=y7;refine AI (g:={tg,cB,ifs,0}) (gs:=[]) (tg:=λa v σ H Q=>∃own β d k,SQ X (C.u λc=>c=a) σ H β own/\Rp X (iy (C.u λc=>c=a) (Wn own) k) H d v/\γ d k β λβ'=>∀σ' aS,SQ X (C.u λc=>c=a) σ' H β' aS->(∀a,Wn aS a->Wn own a)->(∀j,j∉T->σ'[j]?=σ[j]?)->Q σ' H)
  (tt:=λa=>j7 X (C.u λc=>c=a) pc τ) (ta:=λa N σ H=>tQ X (C.u λc=>c=a) pe φ σ H λv H1=>∃xs,H1 a=some (.lst xs)/\xs.length<Wi/\N σ (upd H1 a (.lst (xs++[v]))))
  L hc mW y8 Jm rfl hN hy hx hf (λ_ _=>GA) (hi λa=>H a=none).pi (λa cl c s H ex=>{(oK _ cl c s H ex).pg,lq _ cl c s H ex,mM rfl (lV _ cl c s H ex).pe}) hs pins s σ H D I0 ?_
 refine{β,own,sq.r_ (C:=C.z) (U:=λa=>H a=none) λa z=>z,(hi λ_=>False).mono β _ _ (λds k β1 Ph J H1 aF o1 it a ha=>?_) h};obtain⟨hk,q⟩:=Ph;refine p_ (C:=C.u λa=>H a=none) γm τm φm (bQ L rm) B7 o1.sq ha (hp:=false) (λz=>by cases z) hk it q λol H' q o2 r=>?_
 have r':=r.later o1.sn;have oo:=o1.trans o2;have m:=n.trans oo.sn;cases o with
 |false=>exact ok.nx _ _ _ {_,(cT.TJ oo.sq).kj (aD.a8 (λa z=>z.elim id λz=>z.elim) (KV.rep r')),An m} q
 |true =>
  obtain⟨A,h1,h2,h3⟩:=r';refine ok.nx _ _ _ {_,oo.sq.As h1 h2 λc hc=>{(h3 c hc).2.2,(h3 c hc).2.1,(h3 c hc).1},?_} q;exact⟨λb vY=>by
   obtain⟨j,hj⟩:=vY
   by_cases aI:i=j
   ·rw[<- aI,os_eq]at hj;exact .inr (n.free (h3 b hj).1)
   ·rw[cD aI]at hj;exact m.w b {(j),hj},m.k,m.d⟩
end
end L2.Q
namespace L2
open PySem PySem.Spec PySem.SeqAt PyProof.Rows
def eh {lo:Int}{n i:Nat}{d:D}(h:(iU lo n)[i]?=some d):i<n/\d=.int (lo+i):=by
 unfold iU at h;rw[Wg]at h;have hi:i<n:=by
  by_cases hi:i<n
  ·exact hi
  ·rw[Xw (by simpa using hi)]at h;cases h
 rw[XN hi]at h;cases h;exact{(hi),rfl}
def fx {lo:Int}{n:Nat}:(iU lo n).length=n:=by unfold iU;simp
structure Df (K:PySem.W.Frag)(mg:Str->Option VT)(x:Str)(st:Stmt)(ps:List Str)(f:Addr)(fd:WN):Prop where
 F:Dl K x x st f fd
 b:Binds K fd ps []
 m:mg x=some (.ref f)
structure Bs (mg:Str->Option VT):Prop where
 max:mg "max" = none
 min:mg "min" = none
 int:mg "int" = none
 range:mg "range" = none
 sorted:mg "sorted" = none
 set:mg "set" = none
 len:mg "len" = none
 list:mg "list" = none
def JG:Xl "set" = some (.type "set"):=by decide +kernel
def da.Dt {k:Nat}{A:Xd}(r:da k A):A.units+64+1<Yo:=by have:=r.un;lia
def da.qq {k:Nat}{A:Xd}(r:da k A):A.units+16<Yo:=by have:=r.un;lia
def mm {ts:List (List Int)}(h:∀k∈ts,k≠[])(l:ts.length<=1000000):(match [D.lst (ts.map kD)]with | [.lst ds]=>rF [.lst ds]|_=>none)=some (.lst ((ly ts).map kD)):=by
 show (match iH (ts.map kD)with|some ks=>if ks.length<=1000000 then some (D.lst ((ly ks).map kD)) else none|none=>none)=_
 rw[pH h];show (if ts.length<=1000000 then some (D.lst ((ly ts).map kD)) else none)=_
 rw[if_pos l]
def fu {a b:D}:[a,b].length<=Wi:=by show 2<=Wi;decide
def Dy {a:D}:[a].length<=Wi:=by show 1<=Wi;decide
def BM {b:Bool}{p q:Prop}(hb:b=true)(h:p):(if b=true then p else q):=by rw[if_pos hb];exact h
def j9 {b:Bool}{p q:Prop}(hb:b=false)(h:q):(if b=true then p else q):=by rw[hb,if_neg (by simp)];exact h
def C_ {c:Prop}[Decidable c]{p q:Prop}(h1:c->p)(h2:¬ c->q):(if decide c=true then p else q):=by
 by_cases h:c
 ·exact BM (by simp[h]) (h1 h)
 ·exact j9 (by simp[h]) (h2 h)
def O_ {c:Prop}[Decidable c]{p q:Prop}(h1:¬ c->p)(h2:c->q):(if (!decide c)=true then p else q):=by
 by_cases h:c
 ·exact j9 (by simp[h]) (h2 h)
 ·exact BM (by simp[h]) (h1 h)
theorem jF {α:Type}(f:α->D):∀l:List α,D.jf (l.map f)=l.map λa=>(f a).pd
 |[]=>rfl
 |a::l=>by
  show (f a).pd::D.jf (l.map f)=_;rw[jF f l];rfl
theorem kR {n:Nat}:∀{xs:List PyData},(∀x∈xs,x.canLay0=true/\x.depth<=n)->Ye xs=true/\XD xs<=n
 |[],_=>{by simp[Ye],by simp[XD]}
 |x::xs,h=>by
  obtain⟨h1,h2⟩:=kR (n:=n) (xs:=xs) λy hy=>h y (by simp[hy])
  obtain⟨g1,g2⟩:=h x (by simp)
  refine{by simp[Ye,h1,g1],?_}
  simp only[XD];lia
def hV {n:Nat}{ds:List D}(h:∀d∈ds,d.pd.canLay0=true/\d.pd.depth<=n):(D.tup ds).pd.canLay0=true/\(D.tup ds).pd.depth<=n+1:=by
 have e:D.jf ds=ds.map λd=>d.pd:=by
  have:=jF (λd:D=>d) ds;simpa using this
 obtain⟨h1,h2⟩:=kR (n:=n) (xs:=D.jf ds) λx hx=>by
  rw[e]at hx;obtain⟨d,hd,rfl⟩:=V4.mp hx;exact h d hd
 refine{by simpa[D.pd,Xx] using h1,?_}
 have:(D.tup ds).pd.depth=XD (D.jf ds)+1:=by simp[D.pd,YE]
 lia
def ki {n:Nat}{ds:List D}(h:∀d∈ds,d.pd.canLay0=true/\d.pd.depth<=n):(D.lst ds).pd.canLay0=true/\(D.lst ds).pd.depth<=n+1:=by
 have e:D.jf ds=ds.map λd=>d.pd:=by
  have:=jF (λd:D=>d) ds;simpa using this
 obtain⟨h1,h2⟩:=kR (n:=n) (xs:=D.jf ds) λx hx=>by
  rw[e]at hx;obtain⟨d,hd,rfl⟩:=V4.mp hx;exact h d hd
 refine{by simpa[D.pd,Xx] using h1,?_}
 have:(D.lst ds).pd.depth=XD (D.jf ds)+1:=by simp[D.pd,YE]
 lia
def aV (i:Int):(D.int i).pd.canLay0=true/\(D.int i).pd.depth<=1:={by simp[D.pd,Xx],by simp[D.pd,YE]}
def Ao (t:List Int):(kD t).pd.canLay0=true/\(kD t).pd.depth<=2:=hV λd hd=>by
 obtain⟨i,_,rfl⟩:=V4.mp hd;exact aV i
def vj (ts:List (List Int)):(D.lst (ts.map kD)).pd.canLay0=true/\(D.lst (ts.map kD)).pd.depth<=3:=ki λd hd=>by
 obtain⟨i,_,rfl⟩:=V4.mp hd;exact Ao i
def fP (ts:List Int):(D.lst (ts.map D.int)).pd.canLay0=true/\(D.lst (ts.map D.int)).pd.depth<=2:=ki λd hd=>by
 obtain⟨i,_,rfl⟩:=V4.mp hd;exact aV i
def dD {d:D}{n:Nat}(h:d.pd.canLay0=true/\d.pd.depth<=n)(hn:n<=64:=by decide):d.vm=true:=by
 show (d.pd.canLay0&&decide (d.pd.depth<=64))=true;rw[h.1,decide_eq_true (by lia)]
 rfl
theorem nF {α:Type}[DecidableEq α]{f:α->PyData}(hf:∀a b,XB (f a) (f b)=decide (a=b)):∀xs ys:List α,Zd (xs.map f) (ys.map f)=decide (xs=ys)
 |[],[]=>by simp[Zd]
 |[],_::_=>by simp[Zd]
 |_::_,[]=>by simp[Zd]
 |x::xs,y::ys=>by
  simp only[Ws,Zd];rw[hf,nF hf xs ys]
  by_cases h1:x=y
  ·by_cases h2:xs=ys <;> simp[h1,h2]
  ·simp[h1]
def lW (i j:Int):XB (D.int i).pd (D.int j).pd=decide (i=j):=by
 simp only[D.pd,XB]
 by_cases h:i=j <;> simp[h]
def Cs (ts us:List Int):XB (D.lst (ts.map D.int)).pd (D.lst (us.map D.int)).pd=decide (ts=us):=by
 show XB (.list (D.jf (ts.map D.int))) (.list (D.jf (us.map D.int)))=_;rw[jF,jF];simp only[XB];exact nF lW ts us
def CF {a b:D}{c:Bool}(h1:a.vm=true)(h2:b.vm=true)(e:XB a.pd b.pd=c):Gz a b=some (.bl c):=by
 unfold Gz;rw[if_pos {(h1),h2},e]
def wm {a b:D}{c:Bool}(h1:a.vm=true)(h2:b.vm=true)(e:XB a.pd b.pd=c):p0 a b=some (.bl (!c)):=by
 unfold p0;rw[if_pos {(h1),h2},e]
def iq (i j:Int):Gz (.int i) (.int j)=some (.bl (decide (i=j))):=CF (dD (aV i)) (dD (aV j)) (lW i j)
def Fc (i j:Int):p0 (.int i) (.int j)=some (.bl (!decide (i=j))):=wm (dD (aV i)) (dD (aV j)) (lW i j)
def CB (ts us:List Int):p0 (.lst (ts.map D.int)) (.lst (us.map D.int))=some (.bl (!decide (ts=us))):=wm (dD (fP ts)) (dD (fP us)) (Cs ts us)
theorem any_map {α:Type}[DecidableEq α]{f:α->D}(hf:∀a b,XB (f a).pd (f b).pd=decide (a=b))(t:α):∀xs:List α,((D.jf (xs.map f)).any λy=>XB y (f t).pd)=decide (t∈xs)
 |[]=>rfl
 |x::xs=>by
  show (XB (f x).pd (f t).pd || (D.jf (xs.map f)).any λy=>XB y (f t).pd)=_
  rw[any_map hf t xs,hf]
  by_cases h:x=t
  ·simp[h]
  ·have h':¬ t=x:=λz=>h z.symm;simp[h,h']
def U6 {α:Type}{ds:List α}{i:Nat}{d:α}(h:ds[i]?=some d):uI ds (i:Int)=some d:=by
 have hl:i<ds.length:=(Ww.mp h).1;unfold uI C8;rw[if_pos (by lia),if_pos (by lia),WO]
 exact h
def Fh {ds:List D}{i:Nat}{d:D}(h:ds[i]?=some d):zO (.lst ds) (.int (i:Int))=some d:=U6 h
end L2
namespace HT
open PySem PySem.Spec PyProof.Rows
theorem nu {α β:Type}{f g:α->Option β}:∀{l:List α},(∀x∈l,f x=g x)->l.filterMap f=l.filterMap g
 |[],_=>rfl
 |x::l,h=>by
  rw[WW,WW,h x (by simp),nu λy hy=>h y (by simp[hy])]
def Ay {α:Type}(xs:List α):((VW xs.length).filterMap λk=>xs[xs.length-1-k]?)=xs.reverse:=by
 have h:=pick_run xs.reverse.toArray 0 xs.length;rw[List.filterMap_map]at h;have e:((VW xs.length).filterMap λk=>xs[xs.length-1-k]?)=(VW xs.length).filterMap ((λx=>xs.reverse.toArray[x]?) ∘ λx=>0+x):=by
  refine nu λk hk=>?_;have Mj:=V3.mp hk;show _=xs.reverse.toArray[0+k]?;rw[List.getElem?_toArray,Xg,List.getElem?_reverse Mj]
 rw[e,h];simp only[List.drop_zero];exact Xh (by simp)
def oz (items:Array VT):slicePick items none none (some (-1))=items.toList.reverse.toArray:=by
 have e:(sliceRange (X3 none none (some (-1)) items.size).1 (X3 none none (some (-1)) items.size).2.1 (X3 none none (some (-1)) items.size).2.2)=(VW items.size).map λk=>items.size-1-k:=by
  show sliceRange ((items.size:Int)-1) (-1) (-1)=_;unfold sliceRange;have c:(if (-1:Int)>0 then (if (items.size:Int)-1 < -1 then ((-1)-((items.size:Int)-1)+-1-1) / -1 else 0) else (if (items.size:Int)-1 > -1 then ((items.size:Int)-1-(-1)-(-1)-1) / (-(-1)) else 0)).toNat=items.size:=by
   rw[if_neg (by lia)]
   split
   ·rw[show (-(-1):Int)=1 by rfl,Int.ediv_one];lia
   ·lia
  simp only[c];refine Wu λk hk=>?_;have:=V3.mp hk;lia
 unfold slicePick;rw[e,List.filterMap_map]
 congr 1
 have:=Ay items.toList;rw[Wa]at this;rw[<- this];refine nu λk hk=>?_;show items[items.size-1-k]?=_;rw[Wo]
end HT
namespace L2
open PySem PySem.Spec PySem.SeqAt PyProof.Rows
theorem ai.rev {P:V2}{w:Wm}{W:Addr->Prop}{H:Hp}:∀{ds:List D} {vs:List V},ai P w W H ds vs->ai P w W H ds.reverse vs.reverse
 |[],_,h=>by rw[show _=[] from h];rfl
 |d::ds,_,⟨v,r,e,h1,h2⟩=>by
  subst e;rw[Za,Za];exact(ai.rev h2).append (.one h1)
theorem Vals.rev:∀{xs:List V} {us:List VT},Vals xs us->Vals xs.reverse us.reverse
 |_,_,.nil=>.nil
 |_,_,.cons r t=>by
  rw[Za,Za];exact(Vals.rev t).append (.cons r .nil)
end L2
namespace L2.Q
open PySem PySem.Spec PySem.SeqAt PyProof.Rows
section
variable {P:V2}{w:Wm}{C:Cfg}{σ:St}{H:Hp}{β:a9}{own:Nat->List Addr}{i:Nat}{ok:List Int->Prop}{ns:List Int}
theorem pC:∀{ns:List Int} {vs:List V} {A:List Addr},aL P w H (ns.map D.int) vs A->vs=ns.map V.int/\A=[]
 |[],_,_,h=>h
 |n::ns,_,_,⟨v,r,A1,A2,e,eA,h1,h2⟩=>by
  obtain⟨rfl,rfl⟩:=pC h2;obtain⟨rfl,rfl⟩:=h1;exact{e,by rw[eA];rfl}
def cT.toHand (s:cT P w C σ H β own)(e:β[i]?=some (some (.own (.lst (ns.map D.int)))))(ho:ok ns)(io:∀b,¬ C.IO b):cT P w C σ H (β.set i (some (.hand ok))) own:=by
 obtain⟨v,h1,⟨a,vs,A',rfl,h2,h3,h4⟩,h5⟩:=s.ow i _ e;obtain⟨rfl,rfl⟩:=pC h4;refine⟨by simp[s.len],λj y d q=>?_,λj d q=>?_,λj zM q=>?_,s.dm,s.oi,s.oG,s.kp,s.iN,λj y d q=>by
  by_cases aI:i=j
  ·subst aI;obtain⟨e',_⟩:=cA q;cases e'
  ·rw[b4 aI]at q;exact s.shl j y d q⟩
 ·by_cases aI:i=j
  ·subst aI;obtain⟨e',_⟩:=cA q;cases e'
  ·rw[b4 aI]at q;exact s.val j y d q
 ·by_cases aI:i=j
  ·subst aI;obtain⟨e',_⟩:=cA q;cases e'
  ·rw[b4 aI]at q;exact s.ow j d q
 ·by_cases aI:i=j
  ·subst aI;obtain⟨e',_⟩:=cA q;cases e';exact{a,ns,h1,h2,ho,h3,.inl io}
  ·rw[b4 aI]at q;exact s.pN j zM q
end
section
variable {X:Cx}{C:Cfg}{e:Expr}{φ:aQ}{p:Bool}{i:Nat}{x:Str}{pos pos' px ap cp:Pos}{ok:List Int->Prop}
def DX (ok:List Int->Prop)(Qq:∀b,¬ C.IO b)(he:∀U,PQ X (C.u U) p e φ)(hN:X.N.Nodup)(hi:X.N[i]?=some x:=by rfl)(hx:Loc X.env.scope x:=by first|exact .inl rfl|exact .inr rfl)
  (hs:X9 e (some (.Name x pos')) pos.line X.env=pure false:=by rfl) (hf:X.fn x=true\/X.env.scope.names.lookup x=some .local:=by first|exact .inl rfl|exact .inr rfl|assumption) :
  PB X C (.Assign [.Name x pos'] e pos) (λE β=>φ β λd k β'=>Gf k d/\i<β'.length/\∃ns:List Int,d=.lst (ns.map D.int)/\ok ns/\E.nx (β'.set i (some (.hand ok)))):=by
 have B:=c3 (C:=C) (i:=i) (pos:=pos) (pos':=pos') he hN hi hx hs hf;refine{λE E' β l q=>(he λ_=>False).mono _ _ _ (λd k β' LK=>by obtain⟨f,h,ns,e,o,q⟩:=LK;exact{f,h,ns,e,o,l.nx _ q}) q,B.ps.pre λDe σ H i7=>?_}
 obtain⟨Z,E,β,sb,q,zM⟩:=i7;refine{Z,{E with nx:=λβ'=>∃(ns:List Int) (β2:a9),i<β2.length/\β'=β2.set i (some (.own (.lst (ns.map D.int))))/\ok ns/\E.nx (β2.set i (some (.hand ok)))},β,sb,(he λ_=>False).mono _ _ _ (λd k β' IU=>by obtain⟨f,h,ns,e,o,q⟩:=IU;exact{f,ns,β',h,by rw[e],o,q}) q,{λσ' H' β' vo oJ=>?_,zM.rt,zM.bk,zM.ct}}
 obtain⟨ns,β2,hl,e,o,q⟩:=oJ;subst e;obtain⟨own,s,n⟩:=vo;have:=s.toHand (i:=i) (ok:=ok) (get_set hl) o Qq;rw[List.set_set]at this;exact zM.nx _ _ _ {(own),this,n} q
def cT.putL {P:V2}{w:Wm}{σ:St}{H:Hp}{β:a9}{own:Nat->List Addr}{U U2:Addr->Prop}{ds ds':List D}{vs':List V}{a:Addr}{vs:List V}{A A':List Addr}(s:cT P w (C.u U) σ H β own)(e:β[i]?=some (some (.own (.lst ds))))(h1:σ[i]?=some (some (.ref a)))(h2:H a=some (.lst vs))(h3:own i=a::A)
  (r:aL P w H ds' vs' A') (nd:A'.Nodup) (hA:∀c∈A',c∈A\/(C.H0 c=none/\¬ Wn own c/\U c)) (hU:∀a,U2 a->U a) (QG:∀c∈A',c∉A->¬ U2 c) :
  cT P w (C.u U2) σ (upd H a (.lst vs')) (β.set i (some (.own (.lst ds')))) (bc own i (a::A'))/\∀c∈a::A',c∈own i\/(C.H0 c=none/\¬ Wn own c/\U c):=by
 have ha:a∈own i:=by rw[h3];simp
 have nA:a∉A:=by have:=s.oG i;rw[h3]at this;exact(WB.mp this).1
 have na:∀c∈A',c≠a:=λc hc z=>by
  subst z;rcases hA c hc with z|z
  ·exact nA z
  ·exact z.2.1 {(i),ha}
 have kt:∀b xs,H b=some (.tup xs)->upd H a (.lst vs') b=some (.tup xs):=λb xs z=>by rw[aB (λz'=>by rw[z',h2]at z;cases z)];exact z
 have NM:∀c∈a::A',c∈own i\/(C.H0 c=none/\¬ Wn own c/\U c):=λc hc=>by
  rcases VX.mp hc with rfl|hc
  ·exact .inl ha
  ·exact(hA c hc).imp (λz=>by rw[h3];simp[z]) id
 refine{s.KO e h1 ha {a,vs',A',rfl,ao,rfl,r.keep kt λc hc oc ec=>by rw[aB (na c hc)];exact ec} (WB.mpr {λz=>na a z rfl,nd}) NM hU (λc hc z=>?_),NM}
 rcases VX.mp hc with rfl|hc
 ·exact(s.dm i c ha).2.2.2 (hU c z)
 ·by_cases q:c∈A
  ·exact(s.dm i c (by rw[h3];simp[q])).2.2.2 (hU c z)
  ·exact QG c hc q z
def A_ {own:Nat->List Addr}{i:Nat}{A':List Addr}(h:∀c∈A',c∈own i):∀c,Wn (bc own i A') c->Wn own c:=λc EM=>by
 obtain⟨j,hj⟩:=EM
 by_cases aI:i=j
 ·rw[<- aI,os_eq]at hj;exact{i,h c hj}
 ·rw[cD aI]at hj;exact{(j),hj}
def HF {P:V2}{w:Wm}{H:Hp}{own:Nat->List Addr}{Z:Hp×(Addr->Prop)}{d:D}{v:V}{A:List Addr}(r:Own P w H d v A)(h:∀c∈A,¬ Wn own c/\C.H0 c=none):KV P w C Z own H (sk .gj d) d v:=by
 have q:aD P w (av C (Wn own) .gj) H d v:=r.rep λc hc z=>z.elim (h c hc).1 λz=>z (h c hc).2;cases d with
 |int i=>exact KV.flat rfl q
 |bl i=>exact KV.flat rfl q
 |ck=>exact KV.flat rfl q
 |str i=>exact KV.flat rfl q
 |_=>exact q
def aL.concat {P:V2}{w:Wm}{H:Hp}{ds:List D}{d:D}{vs:List V}{A:List Addr}(h:aL P w H (ds++[d]) vs A):∃us v A1 A2,vs=us++[v]/\A=A1++A2/\aL P w H ds us A1/\Own P w H d v A2:=by
 obtain⟨v,A1,A2,A3,g1,g2,g3,g4,g5⟩:=h.split (i:=ds.length) (d:=d) (by simp)
 rw[List.take_left]at g3;have e3:aL P w H [] (vs.drop (ds.length+1)) A3:=by simpa using g5
 have hl:=h.length;rw[Wf,XS]at hl;refine{vs.take ds.length,v,A1,A2,?_,by rw[g2,e3.2,WZ],g3,g4}
 have ie:ds.length<vs.length:=by lia
 have e1:vs=vs.take ds.length++vs.drop ds.length:=(XQ _ _).symm;rw[W6 ie,e3.1]at e1;have:vs[ds.length]=v:=by
  have:=Wh ie;rw[g1]at this;exact(WA this).symm
 rw[this]at e1;exact e1
def AO (hn:Nm X i x:=by exact Bm)
  (eK:Yb (.Name x px) "pop" X.env (eval (.Name x px) X.env)=eval (.Name x px) X.env:=by rfl) (eJ:(ap.endLine==cp.line)=true:=by rfl) :
  PQ X C false (.Call (.Attribute (.Name x px) "pop" ap) [] [] cp) (λβ R=>∃ds d,β[i]?=some (some (.own (.lst (ds++[d]))))/\R d (sk .gj d) (β.set i (some (.own (.lst ds))))) :=
 ⟨λβ R R' k EL=>by obtain⟨ds,d,h1,q⟩:=EL;exact{ds,d,h1,k _ _ _ q},(HM (apos:=ap) (cpos:=cp) PySem.F.plainAttrs_list PySem.F.slot_list_pop PySem.F.type_list_pop Im (gR (pos:=px) hn) eK eJ).pre λσ H Q vY=>by
  obtain⟨β,own,s,ds,d,hb,q⟩:=vY;obtain⟨a,vs,A,h1,h2,h3,h4⟩:=s.tR hb;obtain⟨us,v,A1,A2,rfl,rfl,g3,g4⟩:=h4.concat;have nd:=s.oG i;rw[h3]at nd;obtain⟨Er,C7,K_⟩:=WY.mp (WB.mp nd).2;obtain⟨s2,hA⟩:=s.putL (C:=C) (U:=C.U) (U2:=C.U) (ds':=ds) (vs':=us) (A':=A1) hb h1 h2 h3 g3 Er (λc hc=>.inl (by simp[hc])) (λ_ z=>z) (λc hc n=>absurd (by simp[hc]) n)
  have h0:∀c∈own i,C.H0 c=none:=by obtain⟨_,_,_,h⟩:=s.ow i _ hb;exact h
  have kt:∀b xs,H b=some (.tup xs)->upd H a (.lst us) b=some (.tup xs):=λb xs z=>by rw[aB (λz'=>by rw[z',h2]at z;cases z)];exact z
  have na:∀c∈A2,c≠a:=λc hc z=>(WB.mp nd).1 (by rw[<- z];simp[hc])
  have le:∀c,Wn (bc own i (a::A1)) c->Wn own c:=A_ λc hc=>by rw[h3];rcases VX.mp hc with rfl|hc <;> simp[*]
  refine{.ref a,h1,.inl {rfl,_,eQ.of h2},a,_,v,rfl,rfl,h2,by simp,?_}
  rw[List.dropLast_concat];refine q v _ _ {s2,?_,λz=>(nomatch z),le} (HF (C:=C) (g4.keep kt λc hc oc ec=>by rw[aB (na c hc)];exact ec) λc hc=>{λ⟨j,hj⟩=>?_,h0 c (by rw[h3];simp[hc])})
  ·have u:=Sn.upd (Z:=(H,Wn own)) (o':=.lst us) (Sn.refl (H:=H) (W:=Wn own)) h2 (λxs z=>by cases z) {i,by rw[h3];simp}
   exact{λb z=>.inl (le b z),u.k,u.d}
  ·by_cases aI:i=j
   ·rw[<- aI,os_eq]at hj;rcases VX.mp hj with rfl|hj
    ·exact na _ hc rfl
    ·exact K_ _ hj _ hc rfl
   ·rw[cD aI]at hj;exact aI (s.oi i j c (by rw[h3];simp[hc]) hj)⟩
end
section
variable {X:Cx}{C:Cfg}{e k:Expr}{φ:aQ}{p:Bool}{i:Nat}{x:Str}{pos px ap cp:Pos}
def DE {Z:Hp×(Addr->Prop)}{H:Hp}{own:Nat->List Addr}{a:Addr}{o oa:HO}{A':List Addr}{U:Addr->Prop}(n:Sn Z H (Wn own))(m:∀a,U a->Z.1 a=none)(h2:H a=some oa)(ht:∀xs,oa≠.tup xs)(ha:Wn own a)(hA:∀c∈A',c∈own i\/(C.H0 c=none/\¬ Wn own c/\U c)):Sn Z (upd H a o) (Wn (bc own i A')) :=
 qD n m ha {(oa),h2,ht} hA
def yI (he:PQ X C.z p e φ)(hn:Nm X i x:=by exact Bm)
  (eK:Yb (.Name x px) "extend" X.env (eval (.Name x px) X.env)=eval (.Name x px) X.env:=by rfl)
  (ni:((XT cp (Wj [e] X.env)).all (λx=>!x.1)&&(ZX cp (Y9 [] X.env)).all (λx=>x.1.isSome)&&decide ([e].length+([]:List YN).length+(if ([]:List YN).isEmpty then 0 else 1)<30))=true:=by rfl)
  (eJ:(ap.endLine==cp.line)=true:=by rfl) (hs:Wj [e] X.env=(false,eval e X.env)::Wj [] X.env:=by rfl) (eI:(XT cp (Wj [] X.env)).any (·.1)=false:=by rfl)
  (y8:X9 (.Call (.Attribute (.Name x px) "extend" ap) [e] [] cp) none pos.line X.env=pure false:=by rfl) :
  PB X C (.Expr (.Call (.Attribute (.Name x px) "extend" ap) [e] [] cp) pos) (λE β=>(∃ds,β[i]?=some (some (.own (.lst ds))))/\φ β λd _ β'=>∃ds es,d=.lst es/\D.dO es=true/\β'[i]?=some (some (.own (.lst ds)))/\ds.length+es.length<=Wi/\E.nx (β'.set i (some (.own (.lst (ds++es)))))):=by
 refine⟨λE E' β l IU=>by obtain⟨h1,q⟩:=IU;exact{h1,he.mono _ _ _ (λd k β' PJ=>by obtain⟨ds,es,h1,h2,h3,h4,q⟩:=PJ;exact{ds,es,h1,h2,h3,h4,l.nx _ q}) q},
  (lK (pos:=pos) (AY (apos:=ap) (cpos:=cp) PySem.F.plainAttrs_list PySem.F.slot_list_extend PySem.F.type_list_extend yO (gR (pos:=px) hn) (bN he.pe eF hs) eK ni eJ hs eI) y8).pre λD σ H ⟨Z,E,β,⟨own,s0,n⟩,⟨⟨UY,J4⟩,q⟩,ok⟩=>?_⟩
 obtain⟨a0,Vp,A0,z1,z2,z3,z4⟩:=s0.tR J4;refine{.ref a0,z1,.inl {rfl,_,eQ.of z2},tQ.of he s0 q λd kk β' v H1 aF y7 o r=>?_};obtain⟨ds,es,e1,f,hb,hl,q⟩:=y7;subst e1;obtain⟨b,us,rfl,Gp,_,rb⟩:=r.rep;obtain⟨a,vs,A,h1,h2,h3,h4⟩:=o.sq.tR hb;rw[z1]at h1;cases h1;have nd:=o.sq.oG i;rw[h3]at nd;obtain⟨s2,hA⟩:=o.sq.putL (C:=C) (U:=λ_=>False) (U2:=λ_=>False) (ds':=ds++es) (vs':=vs++us) (A':=A) hb z1 h2 h3 (by simpa using h4.append (ia f rb)) (WB.mp nd).2 (λc hc=>.inl hc) (λ_ z=>z) (λc hc n=>absurd hc n)
 exact{a0,b,vs,us,rfl,rfl,h2,Gp,by rw[h4.length,rb.length];exact hl,ok.nx _ _ _ {_,s2,DE (n.trans o.sn) (λ_ z=>z.elim) h2 (λxs z=>by cases z) {i,by rw[h3];simp} hA} q}
end
end L2.Q
namespace L2
open PySem PySem.Spec PySem.SeqAt PyProof.Rows
namespace Q
section
variable {P:V2}{w:Wm}{C:Cfg}{σ:St}{H:Hp}{β:a9}{own:Nat->List Addr}{lk:List (Option Nat)}{a:Addr}
def cT.wd {o:HO}(ho:∀xs,o≠.tup xs)(s:cT P w C σ H β own)(ha:H a=none)(inj:∀(i i' j:Nat),lk[i]?=some (some j)->lk[i']?=some (some j)->i=i'):
  cT P w (C.u λc=>c=a) (eT lk σ) (upd H a o) (cu lk β) (bB lk β own):=by
 have h0:C.H0 a=none:=Wz λz=>s.iN a z ha;have q:=(s.enter ha inj).Ho (o:=o) ao (λxs z=>by cases z) h0
 have e:upd (upd H a (.lst [])) a o=upd H a o:=by
  funext b
  by_cases hb:b=a
  ·rw[hb,ao,ao]
  ·rw[aB hb,aB hb,aB hb]
 rwa [e]at q
end
end Q
end L2
namespace L2.Q
open PySem PySem.Spec PySem.SeqAt PyProof.Rows
abbrev Lm (l:Bool)(ds:List D):D:=match l with|true=>.lst ds|false=>.tup ds
section
variable {P:V2}{w:Wm}{H:Hp}{A:List Addr}{v:V}{ds:List D}{l:Bool}
def sZ {m:Nat}{es:List D}(r:Own P w H (Lm l ds) v A)(nd:A.Nodup)(hm:ds[m]?=some (.lst es)):∃a vs c us B,v=.ref a/\H a=some (match l with|true=>.lst vs|false=>.tup vs)/\vs.length=ds.length/\vs[m]?=some (.ref c)/\H c=some (.lst us)/\c∈A/\aL P w H es us B/\(∀x∈B,x∈A/\x≠c)/\B.Nodup /\
  ∀fO sd B',aL P w H fO sd B'->B'.Nodup->(∀x∈B',x∈B\/x∉A)->(∀x∈B',x≠c)->∃A',Own P w (upd H c (.lst sd)) (Lm l (ds.set m (.lst fO))) v A'/\A'.Nodup/\∀x∈A',x∈A\/x∈B':=by
 have core:∀{vs:List V} {A:List Addr},A.Nodup->aL P w H ds vs A->∃c us B,vs[m]?=some (.ref c)/\H c=some (.lst us)/\c∈A/\aL P w H es us B/\(∀x∈B,x∈A/\x≠c)/\B.Nodup /\
   ∀fO sd B',aL P w H fO sd B'->B'.Nodup->(∀x∈B',x∈B\/x∉A)->(∀x∈B',x≠c)->∃A',aL P w (upd H c (.lst sd)) (ds.set m (.lst fO)) vs A'/\A'.Nodup/\(∀x∈A',x∈A\/x∈B'):=λ{vs A} nd os=>by
  have hl:=os.length;have Us:m<ds.length:=(Ww.mp hm).1;obtain⟨u,A1,A2,A3,g1,rfl,g3,⟨c,us,B,rfl,h2,rfl,h4⟩,g5⟩:=os.split hm;obtain⟨Er,C7,K_⟩:=WY.mp nd;obtain⟨RS,TN,RQ⟩:=WY.mp C7;have TU:=(WB.mp RS).1;refine{c,us,B,g1,h2,by simp,h4,λx hx=>{by simp[hx],λz=>TU (by rw[<- z];exact hx)},(WB.mp RS).2,λfO sd B' o' n' rV pQ=>?_}
  have kt:∀b xs,H b=some (.tup xs)->upd H c (.lst sd) b=some (.tup xs):=λb xs z=>by rw[aB (λz'=>by rw[z',h2]at z;cases z)];exact z
  have n1:∀x∈A1,x≠c:=λx hx z=>K_ x hx c (by simp) z
  have n3:∀x∈A3,x≠c:=λx hx z=>RQ c (by simp) x hx z.symm
  have off:∀x∈B',x∉A1/\x∉A3:=λx hx=>by
   rcases rV x hx with z|z
   ·exact{λq=>K_ x q x (by simp[z]) rfl,λq=>RQ x (by simp[z]) x q rfl}
   ·exact{λq=>z (by simp[q]),λq=>z (by simp[q])}
  have Sd:m<vs.length:=by lia
  have ev:vs=vs.take m++V.ref c::vs.drop (m+1):=by
   have e1:vs=vs.take m++vs.drop m:=(XQ _ _).symm;rw[W6 Sd]at e1;have:vs[m]=V.ref c:=by
    have:=Wh Sd;rw[g1]at this;exact(WA this).symm
   rwa [this]at e1
  refine{A1++((c::B')++A3),?_,WY.mpr {Er,WY.mpr {WB.mpr {λz=>pQ c z rfl,n'},TN,λx hx y hy=>?_},λx hx y hy z=>?_},λx hx=>?_}
  ·rw[List.set_eq_take_append_cons_drop,if_pos Us];have q:aL P w (upd H c (.lst sd)) (ds.take m++.lst fO::ds.drop (m+1)) (vs.take m++.ref c::vs.drop (m+1)) (A1++((c::B')++A3)) :=
    (g3.keep kt λx hx oc ec=>by rw[aB (n1 x hx)];exact ec).append {.ref c,_,c::B',A3,rfl,rfl,{c,sd,B',rfl,ao,rfl,o'.keep kt λx hx oc ec=>by rw[aB (pQ x hx)];exact ec},g5.keep kt λx hx oc ec=>by rw[aB (n3 x hx)];exact ec}
   rw[<- ev]at q;exact q
  ·intro z;subst z;rcases VX.mp hx with rfl|hx
   ·exact n3 _ hy rfl
   ·exact(off x hx).2 hy
  ·subst z;rcases V9.mp hy with hy|hy
   ·rcases VX.mp hy with rfl|hy
    ·exact n1 _ hx rfl
    ·exact(off x hy).1 hx
   ·exact K_ x hx x (by simp[hy]) rfl
  ·rcases V9.mp hx with hx|hx
   ·exact .inl (by simp[hx])
   ·rcases V9.mp hx with hx|hx
    ·rcases VX.mp hx with rfl|hx
     ·exact .inl (by simp)
     ·exact .inr hx
    ·exact .inl (by simp[hx])
 cases l with
 |true =>
  obtain⟨a,vs,A',rfl,h2,rfl,h4⟩:=r;obtain⟨na,TR⟩:=WB.mp nd;obtain⟨c,us,B,q1,q2,q3,q4,q5,q6,q7⟩:=core TR h4;have ca:c≠a:=λz=>na (by rw[<- z];exact q3)
  refine{a,vs,c,us,B,rfl,h2,h4.length,q1,q2,by simp[q3],q4,λx hx=>{by simp[(q5 x hx).1],(q5 x hx).2},q6,λfO sd B' o' n' rV pQ=>?_}
  obtain⟨A2,g1,g2,g3⟩:=q7 fO sd B' o' n' (λx hx=>(rV x hx).imp id λz q=>z (by simp[q])) pQ
  refine{a::A2,{a,vs,A2,rfl,by rw[aB ca.symm];exact h2,rfl,g1},WB.mpr {λz=>?_,g2},λx hx=>?_}
  ·rcases g3 a z with z|z
   ·exact na z
   ·rcases rV a z with z|z
    ·exact na (q5 a z).1
    ·exact z (by simp)
  ·rcases VX.mp hx with rfl|hx
   ·exact .inl (by simp)
   ·exact(g3 x hx).imp (λz=>by simp[z]) id
 |false =>
  obtain⟨a,vs,rfl,h2,h4⟩:=r;obtain⟨c,us,B,q1,q2,q3,q4,q5,q6,q7⟩:=core nd h4;have ca:a≠c:=λz=>by rw[z,q2]at h2;cases h2
  refine{a,vs,c,us,B,rfl,h2,h4.length,q1,q2,q3,q4,q5,q6,λfO sd B' o' n' rV pQ=>?_};obtain⟨A2,g1,g2,g3⟩:=q7 fO sd B' o' n' rV pQ;exact{A2,{a,vs,rfl,by rw[aB ca];exact h2,g1},g2,g3}
end
section
variable {X:Cx}{C:Cfg}{e k:Expr}{φ φk:aQ}{i:Nat}{x:Str}{pos px kp ap cp:Pos}
def gT (l:Bool)(he:∀U,PQ X (C.u U) true e φ)(hk:∀U,PQ X (C.u U) true k φk)(hn:Nm X i x:=by exact Bm)
  (Uv:rR k:=by exact λ_ _=>rfl)
  (eK:Yb (.Subscript (.Name x px) k kp) "append" X.env (eval (.Subscript (.Name x px) k kp) X.env)=eval (.Subscript (.Name x px) k kp) X.env:=by rfl)
  (ni:((XT cp (Wj [e] X.env)).all (λx=>!x.1)&&(ZX cp (Y9 [] X.env)).all (λx=>x.1.isSome)&&decide ([e].length+([]:List YN).length+(if ([]:List YN).isEmpty then 0 else 1)<30))=true:=by rfl)
  (eJ:(ap.endLine==cp.line)=true:=by rfl) (hs:Wj [e] X.env=(false,eval e X.env)::Wj [] X.env:=by rfl) (eI:(XT cp (Wj [] X.env)).any (·.1)=false:=by rfl)
  (y8:X9 (.Call (.Attribute (.Subscript (.Name x px) k kp) "append" ap) [e] [] cp) none pos.line X.env=pure false:=by rfl) :
  PB X C (.Expr (.Call (.Attribute (.Subscript (.Name x px) k kp) "append" ap) [e] [] cp) pos) (λE β=>(∃d0,β[i]?=some (some (.own d0)))/\φk β λjd _ β1=>∃ds j m es,jd=.int j/\β1[i]?=some (some (.own (Lm l ds)))/\C8 ds.length j=some m/\ds[m]?=some (.lst es)/\φ β1 λd kd β2=>Gf kd d/\β2[i]?=some (some (.own (Lm l ds)))/\es.length<Wi/\E.nx (β2.set i (some (.own (Lm l (ds.set m (.lst (es++[d]))))))) ):=by
 refine{λE E' β l t9=>by obtain⟨q0,q⟩:=t9;exact{q0,(hk λ_=>False).mono _ _ _ (λjd _ β1 zb=>by obtain⟨ds,j,m,es,h1,h2,h3,h4,q⟩:=zb;exact{ds,j,m,es,h1,h2,h3,h4,(he λ_=>False).mono _ _ _ (λd kd β2 y_=>by obtain⟨g1,g2,g3,q⟩:=y_;exact{g1,g2,g3,l.nx _ q}) q}) q},λpins s σ H De I i7=>?_}
 obtain⟨Z,E,β,⟨own,sq,n⟩,⟨⟨d0,UB⟩,q⟩,ok⟩:=i7;have ix:GK X (λx y H Q=>KA X.K x y H Q\/Kz X.K x y H Q):=λvalue slice pins s σ H x y v u Q I rx ry h hs=>h.elim (λh=>fZ value slice pins s σ H x y v u Q I rx ry h hs) λh=>BF value slice pins s σ H x y v u Q I rx ry h hs;refine lK (pos:=pos) (AY (apos:=ap) (cpos:=cp) PySem.F.plainAttrs_list PySem.F.slot_list_append PySem.F.type_list_append kq (mK (pos:=kp) ix (gR (pos:=px) hn) (hk λa=>H a=none).pe Uv) (bN (he λa=>H a=none).pe eF hs) eK ni eJ hs eI) y8 pins s σ H De I ?_;have Ta:=sq.r_ (C:=C.z) (U:=λa=>H a=none) λa z=>z;obtain⟨v0,Nu,_,_⟩:=sq.ow i d0 UB;refine{v0,Nu,tQ.of (hk λa=>H a=none) Ta q λjd kk β1 kv H1 aF oJ o r=>?_};obtain⟨ds,j,m,es,e1,hb,hj,hm,q⟩:=oJ;subst e1;cases r.rep;obtain⟨v,RZ,ow,h0⟩:=o.sq.ow i _ hb;rw[Nu]at RZ;cases RZ;obtain⟨a,vs,c,us,B,rfl,q1,q2,q3,q4,q5,q6,q7,q8,q9⟩:=sZ ow (o.sq.oG i) hm;have SI:uI vs j=some (.ref c):=by unfold uI;rw[q2,hj];exact q3
 have RE:Na X.K "list" (.ref c) H1/\FO (tQ X (C.u λa=>H a=none) true φ) He σ H1 λxs H2=>wU (.ref c) xs H2 λ_ H1=>De.nx σ H1:=by
  refine{.inl {rfl,us,eQ.of q4},tQ.of (he λa=>H a=none) o.sq q λd kd β2 v2 H2 bh y7 o2 r2=>?_};obtain⟨f,Su,hl,q⟩:=y7;obtain⟨s2,e2⟩:=o2.pu rfl;obtain⟨v',R4,TB,VO⟩:=o2.sq.ow i _ Su;rw[Nu]at R4;cases R4;obtain⟨a',vs',c',sd,B',ea,p1,p2,p3,p4,p5,p6,p7,p8,p9⟩:=sZ TB (o2.sq.oG i) hm;cases ea;have e3:=s2 _ _ q1;rw[p1]at e3;have ev:vs'=vs:=by cases l <;> (cases e3;rfl)
  subst ev;rw[q3]at p3;cases p3;have e4:=s2 _ _ q4;rw[p4]at e4;cases e4;obtain⟨A,r1,rn,r3⟩:=r2.fl f;have Ib:∀x∈A,x∉bh i:=λx hx z=>(r3 x hx).2.1 {(i),z};obtain⟨A',g1,g2,g3⟩:=p9 (es++[d]) (us++[v2]) (B'++A) (p6.append (aL.one r1)) (WY.mpr {p8,rn,λx hx y hy z=>Ib y hy (by rw[<- z];exact(p7 x hx).1)})
   (λx hx=>(V9.mp hx).imp id (Ib x)) (λx hx z=>by
    rcases V9.mp hx with hx|hx
    ·exact(p7 x hx).2 z
    ·exact Ib x hx (by rw[z];exact p5))
  have hA:∀x∈A',x∈bh i\/(C.H0 x=none/\¬ Wn bh x/\H x=none):=λx hx=>by
   rcases g3 x hx with z|z
   ·exact .inl z
   ·rcases V9.mp z with z|z
    ·exact .inl (p7 x z).1
    ·exact .inr {(r3 x z).2.2,(r3 x z).2.1,o.sn.free (r3 x z).1}
  exact{c,us,v2,rfl,rfl,p4,by rw[p6.length];exact hl,ok.nx _ _ _ {_,o2.sq.putIn (C:=C) (U:=λa=>H a=none) Su Nu p5 g1 g2 hA,qD ((n.trans o.sn).trans o2.sn) (λb z=>n.free z) {(i),p5} {_,p4,λxs z=>by cases z} hA} q}
 cases l with
 |true=>exact .inl {a,vs,j,.ref c,rfl,rfl,eQ.of q1,SI,RE}
 |false=>exact .inr {a,vs,j,.ref c,rfl,rfl,nW.of q1,SI,RE}
end
end L2.Q
namespace L2
open PySem PySem.Spec PySem.SeqAt PyProof.Rows
structure Bs2 (mg:Str->Option VT):Prop extends Bs mg where
 Vw:mg "isinstance" = none
 tuple:mg "tuple" = none
 str:mg "str" = none
 bool:mg "bool" = none
 zip:mg "zip" = none
 enumerate:mg "enumerate" = none
def nJ {d:D}{n:Nat}(h:d.pd.canLay0=true/\d.pd.depth<=n)(hn:n<=64:=by decide):Gz d d=some (.bl true):=CF (dD h hn) (dD h hn) (eqv_refl _ h.1)
def bK {d:D}{n:Nat}(h:d.pd.canLay0=true/\d.pd.depth<=n)(hn:n<=64:=by decide):p0 d d=some (.bl false):=wm (dD h hn) (dD h hn) (eqv_refl _ h.1)
end L2
namespace L2.Q
open PySem PySem.Spec PySem.SeqAt PyProof.Rows
structure oW (X:Cx)(C:Cfg)(p:Bool)(ifs:List Expr)(τ:aZ):Prop where
 mono:∀β R R',(∀d β,R d β->R' d β)->τ β R->τ β R'
 pt:uY X ifs (j7 X C p τ)
def cK {X:Cx}{C:Cfg}:oW X C true [] Kk:={λ_ _ _ k h=>k _ _ h,AL}
def gG {X:Cx}{C:Cfg}{p:Bool}{c:Expr}{τ:aZ}(h:uZ X C p c τ):oW X C p [c] τ:={h.mono,AK h}
section
variable {X:Cx}{C:Cfg}{lk:List (Option Nat)}{γ:c8}{τ:aZ}{φ:aQ}{T:List Nat}{pc pe pi:Bool}{scope:YA}{N':List Str}{tg cB elt:Expr}{ifs:List Expr}{ι:cz}{pos pos' sv:Pos}{y:Str}{i:Nat}
def F9 (N':List Str)(lk:List (Option Nat))(L:gU X.env.scope.names X.N scope N' lk=true)(rm:N'.Nodup)(hc:X.calm=true)(hi:zJ X C pi tg cB ι)
  (oK:∀U cl c s H ex,wy (aC X scope N' cl c s H ex) (C.u U) tg T γ) (lq:∀U cl c s H ex,oW (aC X scope N' cl c s H ex) (C.u U) pc ifs τ) (lV:∀U cl c s H ex,PQ (aC X scope N' cl c s H ex) (C.u U) pe elt φ)
  (hT:T.all (λi=>match lk[i]? with|some (some _)=>false|_=>true)=true:=by rfl) (hs:∀x,WS cB X.env x=pure x:=by intro _;rfl):PQ X C (pi&&(pc&&pe)) (.ListComp elt [{tg,cB,ifs,0}] scope pos) (wV lk ι γ τ φ) :=
 KQ (Links.of L) rm hT hc hi (λa=>oK _) (λa cl c s H ex=>(lq _ cl c s H ex).pt) (lq (λ_=>False) [] 0 X.s₀ X.H₀ []).mono (λa=>lV _) (oK (λ_=>False) [] 0 X.s₀ X.H₀ []).mono (lV (λ_=>False) [] 0 X.s₀ X.H₀ []).mono hs
def qH (o:Bool)(N':List Str)(lk:List (Option Nat))(L:gU X.env.scope.names X.N scope N' lk=true)(rm:N'.Nodup)(hc:X.calm=true)(hi:∀U,zJ X (C.u U) pi tg cB ι)
  (oK:∀U cl c s H ex,wy (aC X scope N' cl c s H ex) (C.u U) tg T γ) (lq:∀U cl c s H ex,oW (aC X scope N' cl c s H ex) (C.u U) pc ifs τ) (lV:∀U cl c s H ex,PQ (aC X scope N' cl c s H ex) (C.u U) pe elt φ)
  (hN:X.N.Nodup) (hT:T.all (λi=>match lk[i]? with|some (some _)=>false|_=>true)=true:=by rfl) (hy:X.N[i]?=some y:=by rfl) (hx:Loc X.env.scope y:=by first|exact .inl rfl|exact .inr rfl) (hf:X.fn y=true\/X.env.scope.names.lookup y=some .local:=by first|exact .inl rfl|exact .inr rfl|assumption)
  (y8:X9 (.ListComp elt [{tg,cB,ifs,0}] scope pos) (some (.Name y pos')) sv.line X.env=pure true:=by rfl)
  (Jm:evalThenUse (.ListComp elt [{tg,cB,ifs,0}] scope pos) X.env (assign (.Name y pos') X.env)=(do let _ <- comprehension (.ListComp elt [{tg,cB,ifs,0}] scope pos) scope X.env (firstIterPos [{tg,cB,ifs,0}] pos) (newList []) false (eval cB X.env) (some (assign (.Name y pos') X.env));pure ()):=by first|rfl|exact arm_evalThenUse_ListComp ..)
  (hs:∀x,WS cB X.env x=pure x:=by intro _;rfl) :
  PB X C (.Assign [.Name y pos'] (.ListComp elt [{tg,cB,ifs,0}] scope pos) sv) (λE β=>wV lk ι γ τ φ β λd _ β'=>E.nx (β'.set i (some (match o with|true=>.own d|false=>.val true d)))) :=
 KP (K:=λ_ _ _=>True) (Links.of L) rm hT hc hi oK (λU cl c s H ex=>(lq U cl c s H ex).pt) (lq (λ_=>False) [] 0 X.s₀ X.H₀ []).mono lV (oK (λ_=>False) [] 0 X.s₀ X.H₀ []).mono (lV (λ_=>False) [] 0 X.s₀ X.H₀ []).mono o hN hy hx hf y8 Jm hs
def bR:GK X (Az X zO NF):=λvalue slice pins s σ H x y v u Q I rx ry ⟨W,d1,d2,d,hd,r1,r2,e,q⟩ hs =>
 IG value slice pins s σ H x y v u Q I rx ry {W,d1,d2,d,hd,r1,r2,e,λv H' s r=>q v H' s r λf=>aD.flat f r} hs
end
section
variable {P:V2}{w:Wm}{K:PySem.W.Frag}{mg:Str->Option VT}{base:Heap}{k:Nat}{f:Addr}{fd:WN}{ps:List Str}
def uo:FD:=λds R=>∃c:Int,ds=[.int c]/\∀ns,tu ns->R (.lst (ns.map D.int))
def uo.mono:dc uo:=λds R R' k ⟨c,e,q⟩=>{c,e,λns o=>k _ (q ns o)}
def Jp (G:aG P w K mg base bu k f fd ps Am):aG P w K mg base bu k f fd ps (bZ P w true uo):=G.imp λvs H Q E h=>by
 obtain⟨ds,r,c,rfl,q⟩:=h;obtain⟨x,rr,rfl,hx,hr⟩:=r;cases (show rr=[] from hr)
 cases (show x=V.int c from hx)
 refine{c,rfl,λp H' hp hd sm=>?_};obtain⟨ns,e,o⟩:=hd.ok;have rep:∀ns:List Int,aL P w H' (ns.map D.int) (ns.map V.int) []:=λns=>by
  induction ns with
  |nil=>exact{(rfl),rfl}
  |cons n ns ih=>exact{_,_,[],[],rfl,rfl,{(rfl),rfl},ih}
 exact q ns o _ H' sm {[p],{p,_,[],rfl,e,rfl,rep ns},by simp,λc hc=>by rw[VU.mp hc];exact hp}
def Aa {ro:Bool}(G:aG P w K mg base bu k f fd ps Ak):aG P w K mg base bu k f fd ps (vh P w tu ro gY):=G.imp λvs H Q E h=>by
 obtain⟨h,vs',ds,ns,rfl,e,o,r,n,rfl,n1,n2,q⟩:=h;obtain⟨x,rr,rfl,hx,hr⟩:=r;cases (show rr=[] from hr)
 cases (show x=V.int n from hx)
 refine{h,n,rfl,o.hand e,n1,n2,λr H' r0 r1 hd fm=>?_};obtain⟨og,e',o'⟩:=hd.ok;refine q r r0 r1 _ H' og {λb u hb nb=>fm b u hb nb,λb xs hb=>fm b _ hb λz=>by rw[z,e]at hb;cases hb} (λc hc z=>?_) e' o' (fB (W:=λ_=>False) rfl rfl)
 by_cases ud:c=h
 ·rw[ud,e']at z;cases z
 ·cases q:H c with
  |none=>exact hc q
  |some u=>rw[fm c u q ud]at z;cases z
end
end L2.Q
namespace qj
open PySem L2 L2.Q
def top (i:Nat):Stmt:=PySem.Challenge.pw_archrow_k13_planted_rows.main.body.getD i (.Pass {0,0,0,0})
abbrev bM:Stmt:=top 4
abbrev de:Stmt:=top 5
abbrev dR:Stmt:=top 6
abbrev cg:Stmt:=top 7
abbrev df:Stmt:=top 8
abbrev cX:Stmt:=top 9
abbrev cY:Stmt:=top 10
abbrev cj:Stmt:=top 11
abbrev hX:Stmt:=top 12
abbrev hZ:Stmt:=top 13
abbrev e_:Stmt:=top 15
abbrev h8:Stmt:=top 16
abbrev fQ:Stmt:=top 17
abbrev dh:Stmt:=top 18
abbrev cI:Stmt:=top 19
abbrev fR:Stmt:=top 20
abbrev dg:Stmt:=top 21
abbrev eg:Stmt:=top 23
abbrev ee:Stmt:=top 24
abbrev fS:Stmt:=top 25
abbrev bT:Stmt:=top 26
abbrev fc:Stmt:=top 27
abbrev bS:Stmt:=top 28
abbrev cf:Stmt:=top 29
abbrev fb:Stmt:=top 30
abbrev mx:Stmt:=top 31
section
variable (K:PySem.W.Frag)(mg:Str->Option VT)(f:Addr)(fd:WN)
abbrev D0:Prop:=Df K mg "stretches_rising" bM ["many"] f fd
abbrev D1:Prop:=Df K mg "partners_of" de ["row"] f fd
abbrev D2:Prop:=Df K mg "number_with" df ["worth","table","i","k","j"] f fd
abbrev D3:Prop:=Df K mg "least_number" cX ["partners","worth","table","i","j"] f fd
abbrev D4:Prop:=Df K mg "greatest_table" cg ["row","worth"] f fd
abbrev D5:Prop:=Df K mg "one_each" fR ["row"] f fd
abbrev D6:Prop:=Df K mg "table_of" fQ ["row"] f fd
abbrev D7:Prop:=Df K mg "parts_left" dR ["i","k","j"] f fd
abbrev D8:Prop:=Df K mg "best_choices" cY ["partners","worth","table","i","j"] f fd
abbrev D9:Prop:=Df K mg "first_greatest" cj ["row","worth","table","i","j"] f fd
abbrev Kh:Prop:=Df K mg "most_of" h8 ["row","i","j"] f fd
abbrev M_:Prop:=Df K mg "most_ties" e_ ["row"] f fd
abbrev JW:Prop:=Df K mg "ways_in" hX ["counts","parts"] f fd
abbrev Kg:Prop:=Df K mg "ways_by" hZ ["counts","choices","i","j"] f fd
abbrev M9:Prop:=Df K mg "how_many_most" cI ["row"] f fd
abbrev Kf:Prop:=Df K mg "choices_met" dg ["row"] f fd
abbrev M8:Prop:=Df K mg "always_tied" dh ["row"] f fd
abbrev Ra:Prop:=Df K mg "_law_fits" fS ["half"] f fd
abbrev Q_:Prop:=Df K mg "_law_pairs" fc ["many"] f fd
abbrev SO:Prop:=Df K mg "_law_every_right" bT ["many"] f fd
abbrev SN:Prop:=Df K mg "_law_known_right" bS ["many"] f fd
abbrev SM:Prop:=Df K mg "_law_star_right" cf ["many","middle"] f fd
abbrev SK:Prop:=Df K mg "_law_shape" fb ["hand","many"] f fd
abbrev SJ:Prop:=Df K mg "_law_take" ee ["hand","many"] f fd
abbrev Vn:Prop:=Df K mg "_law_hand" eg ["cell"] f fd
end
section
variable {P:V2}{w:Wm}{K:PySem.W.Frag}{mg:Str->Option VT}{base:Heap}
def sH:aK ["cell"] ["cell"] (ay eg):=mkS
def Ee {f:Addr} {fd:WN} (F:Dl K "_law_hand" "_law_hand" eg f fd) (B:Vo mg):aG P w K mg base bu 1 f fd ["cell"] Am:=by
 refine F.ok sH (λvs H Q E h=>?_) (λc7 A outer s H vs Q E hr h=>?_)
 ·obtain⟨c,rfl,_⟩:=h;rfl
 ·obtain⟨c,rfl,k⟩:=h;refine⟨_,jC (iX (vA (bN (mL (qa rfl) (by rfl) B.max rM (bN bb (bN (dt Bc (pv 0) (dt qM bb bb)) eF)))
   (bN (dt vC (dt vE (dt mQ (pv 0) bb) bb) (pB kP (by rfl) B.int wt (bN (xa KU (pv 0) (dt qM bb bb) (Bk _)) eF))) eF)))),?_⟩
  refine{_,rfl,_,_,rfl,rfl,AR,_,_,rfl,rfl,_,_,rfl,?_};have m1:=lS (a:=c) (b:=2147483629) (by decide)
  refine{_,rfl,_,_,rfl,rfl,(by show (0:Int)<2147483629;decide),_,_,rfl,rfl,_,rfl,_,_,rfl,rfl,AR,rfl,.inr {_,rfl,_,_,rfl,rfl,.inl {by lia,by lia},?_}}
  refine{(by show 2<=Wi;decide),λp hp=>k p _ hp {_,_,ao,?_,?_} (aE.new hp)}
  ·split <;> lia
  ·split <;> constructor <;> lia
def k6:aK ["hand","many","taken"] ["hand","many"] (ay ee):=mkS
def OQ {y:Int}(h:0<=y)(h':y<2147483647):C4 (y+1) 7:={by decide,by decide,by lia}
def xk {f:Addr} {fd:WN} (F:Dl K "_law_take" "_law_take" ee f fd):aG P w K mg base bu 1 f fd ["hand","many"] Ak:=by
 refine F.ok k6 (λvs H Q E h=>?_) (λc7 A outer s H vs Q E hr h=>?_)
 ·obtain⟨h,n,rfl,_⟩:=h;rfl
 ·obtain⟨h,n,rfl,⟨x,y,hx,x0,y0,y1⟩,n0,n1,k⟩:=h;refine⟨_,eC (FR (wW F1 (mK fZ (pv 0) bb (λ_ _=>rfl)) bb (Bk _))
    (eC (vw (i:=2) k6.nd rfl (Or.inl rfl) (dt mQ (mK fZ (pv 0) bb (λ_ _=>rfl)) (pv 1)))
    (eC (vx (dt mR (mK fZ (pv 0) bb (λ_ _=>rfl)) (pv 1)) (AU (pv 0) bb set_list))
    (jC (iX (pv 2))))) wX)
   (eC (vx (dt mQ (dt vC (mK fZ (pv 0) bb (λ_ _=>rfl)) bb) bb) (AU (pv 0) bb set_list))
   (jC (iX (dt mQ (dt mR (dt qM (dt vE (mK fZ (pv 0) bb (λ_ _=>rfl)) bb) bb) bb) (pv 1))))),?_⟩
  refine{_,rfl,h,_,_,_,rfl,rfl,eQ.of hx,rfl,_,_,rfl,rfl,_,rfl,?_};refine O8 (λhp=>?_) (λhp=>?_)
  ·refine{_,rfl,h,_,_,_,rfl,rfl,eQ.of hx,rfl,_,rfl,_,_,rfl,rfl,n0,?_};refine{_,rfl,h,_,_,_,rfl,rfl,eQ.of hx,rfl,_,rfl,_,_,rfl,rfl,ql.of n0 n1,?_};refine{_,rfl,h,_,_,0,rfl,rfl,hx,rfl,?_};have m:=lS (a:=x) n0;exact{_,rfl,k _ _ m.1 m.2 {_,_,ao,Int.ediv_nonneg x0 (Int.le_of_lt n0),y0,y1} Fm.upd}
  ·have m1:=lS (a:=y*48271) (b:=2147483647) (by decide)
   refine{_,rfl,h,_,_,_,rfl,rfl,eQ.of hx,rfl,_,_,rfl,rfl,.inr {by decide,by decide},_,_,rfl,rfl,(by show (0:Int)<2147483647;decide),?_}
   refine{_,rfl,h,_,_,1,rfl,rfl,hx,rfl,?_};refine{_,rfl,h,_,_,_,rfl,rfl,eQ.of ao,rfl,_,_,rfl,rfl,_,_,rfl,rfl,OQ m1.1 m1.2,_,_,rfl,rfl,ql.of (by decide) (by decide),_,rfl,_,_,rfl,rfl,n0,?_}
   have m:=lS (a:=(y*48271 % 2147483647+1) ^ (7:Int).toNat / 8) n0;exact k _ _ m.1 m.2 {_,_,ao,x0,m1.1,m1.2} Fm.upd
end
end qj
namespace L2.Q
open PySem PySem.Spec PySem.SeqAt PyProof.Rows
def zq (ns:List Int)(lo hi:Option Int):∃ms:List Int,uC (ns.map V.int) lo hi=ms.map V.int/\ms.length<=ns.length:=by
 refine{(ns.drop (HT.my (ns.map V.int).length 0 lo)).take (HT.my (ns.map V.int).length (ns.map V.int).length hi-HT.my (ns.map V.int).length 0 lo),?_,?_}
 ·unfold uC;rw[Ze,List.map_drop]
 ·rw[WH,Zl];lia
section
variable {P:V2}{w:Wm}
theorem bw {W:Addr->Prop}{H:Hp}:∀ns:List Int,ai P w W H (ns.map D.int) (ns.map V.int)
 |[]=>rfl
 |n::ns=>{_,_,rfl,rfl,bw ns}
def DD {N:List Str}{vs:List V}{H H':Hp}{n:Nat}{ro:Bool}{U:Addr->Prop}(hl:(L2.start N vs).length=n)(sm:aE H H'):cT P w {H,λ_=>False,ro,U} (L2.start N vs) H' (WQ n none) (λ_=>[]) :=
 {by rw[hl,List.length_replicate],λi y d h=>(gO h).elim,λi d h=>(gO h).elim,λi ok h=>(gO h).elim,λi a h=>(nomatch h),λi j a h=>(nomatch h),λi=>W9,sm.kp,λa z e=>z (sm.free e),λi y d h=>(gO h).elim}
def Kx {ro:Bool}{H H':Hp}{b:Bool}{v:V}(h:uR P w ro H H' (.bl b) v):v=.bl b:=by
 cases ro with
 |true=>obtain⟨A,h1,_⟩:=h;exact h1.1
 |false=>exact h
end
end L2.Q
namespace L2
open PySem PySem.Spec PySem.SeqAt PyProof.Rows
abbrev Hu (n:Int)(rows:List (List Int)):D:=.tup [.int n,.lst (rows.map kD)]
def yo (n:Int)(rows:List (List Int)):(Hu n rows).pd.canLay0=true/\(Hu n rows).pd.depth<=4:=hV λd hd=>by
 rcases VX.mp hd with rfl|hd
 ·exact{(aV n).1,WG (aV n).2 (by decide)}
 ·rw[VU.mp hd];exact vj rows
section
variable {κ:Type}[DecidableEq κ]
def gy (kvs:List (κ×V))(k:κ):Option V:=(kvs.find? λkv=>decide (kv.1=k)).map (·.2)
def putK (kvs:List (κ×V))(k:κ)(v:V):List (κ×V) :=
 if (kvs.any λkv=>decide (kv.1=k))=true then kvs.map (λkv=>if kv.1=k then (kv.1,v) else kv) else kvs++[(k,v)]
def l5 {p:κ×V}{r:List (κ×V)}{k:κ}(e:p.1=k):gy (p::r) k=some p.2:=by simp[gy,Xa,e]
def l6 {p:κ×V}{r:List (κ×V)}{k:κ}(e:¬ p.1=k):gy (p::r) k=gy r k:=by simp[gy,Xa,e]
theorem l7 (k:κ):∀kvs:List (κ×V),(kvs.any λkv=>decide (kv.1=k))=(gy kvs k).isSome
 |[]=>rfl
 |p::r=>by
  rw[List.any_cons]
  by_cases e:p.1=k
  ·simp only[l5 e,decide_eq_true e,Bool.true_or,Option.isSome_some]
  ·rw[l6 e,decide_eq_false e,Bool.false_or];exact l7 k r
def tU (kvs:List (κ×V))(k:κ)(v:V):(putK kvs k v).length<=kvs.length+1:=by
 unfold putK
 split
 ·rw[VS];lia
 ·rw[Wf,V7,List.length_nil];lia
def AB {kvs:List (κ×V)}{k:κ}(v:V)(h:gy kvs k=none):putK kvs k v=kvs++[(k,v)]:=by
 unfold putK;rw[l7,h];exact if_neg (by decide)
def oV.yY {o:Option V}{u:Option VT}(r:oV o u):o.isSome=u.isSome:=by
 cases o with
 |none=>cases u with
  |none=>rfl
  |some _=>exact(show False from r).elim
 |some _=>cases u with
  |none=>exact(show False from r).elim
  |some _=>rfl
def KV.val {kvs:List (κ×V)}{vs:List (κ×VT)}(r:KV kvs vs)(k:κ):oV (gy kvs k) (ZU vs k):=by
 unfold KV at r
 induction r with
 |nil=>exact True.intro
 | @cons p q ps qs h t ih =>
  obtain⟨h1,h2⟩:=h
  by_cases e:p.1=k
  ·have e':q.1=k:=h1.symm.trans e;have b:ZU (q::qs) k=some q.2:=by simp[ZU,Xa,e']
   rw[l5 e,b];exact h2
  ·have e':¬ q.1=k:=λz=>e (h1.trans z);have b:ZU (q::qs) k=ZU qs k:=by simp[ZU,Xa,e']
   rw[l6 e,b];exact ih
end
def Gb {P:V2}{w:Wm}{k:Key}{u:VT}(r:RelV (kV k) u):(cm P w).is k u=true:=by
 cases k with
 |inl i=>obtain⟨t,e⟩:=(show ∃t,u=Value.int i t from r);subst e;exact tJ P w i t
 |inr x=>obtain⟨t,e⟩:=(show ∃t,u=Value.str x t from r);subst e;exact tH P w x t
theorem pJ {P:V2}{w:Wm}:∀{ks:List Key} {us:List VT},Vals (ks.map kV) us->ItemsAre (cm P w) ks us
 |[],_,r=>by rw[List.map_nil]at r;cases r;exact .nil
 |k::ks,_,r=>by
  rw[Ws]at r;cases r with
  |cons h t=>exact .cons (Gb h) (pJ t)
abbrev KT (H:Hp):List (List Key×V)->List (List Key×Addr×VT)->Prop:=Paired λp q=>p.1=q.1/\H q.2.1=some (.tup (p.1.map kV))/\RelV p.2 q.2.2
def KT.val {H:Hp}{kvs:List (List Key×V)}{xs:List (List Key×Addr×VT)}(r:KT H kvs xs)(k:List Key):oV (gy kvs k) ((atKey xs k).map (·.2)):=by
 induction r with
 |nil=>exact True.intro
 | @cons p q ps qs h t ih =>
  obtain⟨h1,_,h2⟩:=h
  by_cases e:p.1=k
  ·have e':q.1=k:=h1.symm.trans e;have b:atKey (q::qs) k=some q.2:=by simp[atKey,Xa,e']
   rw[l5 e,b];exact h2
  ·have e':¬ q.1=k:=λz=>e (h1.trans z);have b:atKey (q::qs) k=atKey qs k:=by simp[atKey,Xa,e']
   rw[l6 e,b];exact ih
def KT.Ot {H:Hp}{kvs:List (List Key×V)}{xs:List (List Key×Addr×VT)}(r:KT H kvs xs)(k:List Key){y:V}{u:VT}(ry:RelV y u):
  KT H (kvs.map λkv=>if kv.1=k then (kv.1,y) else kv) (xs.map (putAt k u)):=by
 induction r with
 |nil=>exact .nil
 | @cons p q ps qs h t ih =>
  rw[Ws,Ws];refine .cons ?_ ih;obtain⟨h1,h2,h3⟩:=h;unfold putAt
  by_cases e:p.1=k
  ·rw[if_pos e,if_pos (h1.symm.trans e)];exact{(h1),h2,ry}
  ·rw[if_neg e,if_neg (λz=>e (h1.trans z))];exact{(h1),h2,h3}
def KT.put {H:Hp}{kvs:List (List Key×V)}{xs:List (List Key×Addr×VT)}(r:KT H kvs xs)(k:List Key){b:Addr}{y:V}{u:VT}(hb:H b=some (.tup (k.map kV)))(ry:RelV y u):
  KT H (putK kvs k y) (storedH xs k b u):=by
 have e:(kvs.any λkv=>decide (kv.1=k))=(atKey xs k).isSome:=by
  rw[l7,(r.val k).yY,Option.isSome_map]
 unfold putK storedH;rw[e]
 by_cases q:(atKey xs k).isSome=true
 ·rw[if_pos q,if_pos q];exact r.Ot k ry
 ·rw[if_neg q,if_neg q];exact Paired.snoc r {(rfl),hb,ry}
def KT.keeps {H H':Hp}{kvs:List (List Key×V)}{xs:List (List Key×Addr×VT)}(r:KT H kvs xs)(ht:∀b ys,H b=some (.tup ys)->H' b=some (.tup ys)):KT H' kvs xs :=
 Paired.Io r λ_ _ z=>{z.1,ht _ _ z.2.1,z.2.2}
section
variable {P:V2}{w:Wm}{H:Hp}{h:Heap}{a:Addr}
def FQ {u:HO}(ok:jl P w H h)(e:Rd H a u):b9 P w H h a u:=e.ok ok
def Gw {kvs:List (Key×V)}(ok:jl P w H h)(e:Rd H a (.dK kvs)):kvs.length<=Wi/\(a==YJ)=false/\∃vs,KV kvs vs/\h.DictOf (cm P w) a vs :=
 show b9 P w H h a (.dK kvs) from FQ ok e
def vQ {ks:List Key}(ok:jl P w H h)(e:H a=some (.tup (ks.map kV))):(Zj (cm P w)).is h ks a:=by
 obtain⟨_,its,r,o,h1,h2,n,h3⟩:=(show b9 P w H h a (.tup (ks.map kV)) from ok a _ e)
 exact{o,its.toArray,n,h1,h2,h3,by simpa using pJ r}
def Cy {kvs:List (List Key×V)}(ok:jl P w H h)(e:Rd H a (.dT kvs)):kvs.length<=Wi/\(a==YJ)=false /\
  ∃xs,KT H kvs xs/\h.DictOfH (Zj (cm P w)) a xs:=by
 obtain⟨z,y,xs,r,o,es,ep,h1,h2,h3,h4,h5⟩:=(show b9 P w H h a (.dT kvs) from FQ ok e)
 refine{z,y,xs,r,o,es,ep,h1,h2,h3,h4,λx hx=>?_,h5};have all:∀{l:List (List Key×V)} {m:List (List Key×Addr×VT)},KT H l m->∀x∈m,(Zj (cm P w)).is h x.1 x.2.1:=by
  intro l m q
  induction q with
  |nil=>intro x hx;exact nomatch hx
  | @cons p q ps qs hq t ih =>
   intro x hx;rcases VX.mp hx with e|hx
   ·subst e;exact vQ ok (by rw[<- hq.1];exact hq.2.1)
   ·exact ih x hx
 exact all r x hx
def MD {kvs:List (List Key×V)}(ok:jl P w H h)(e:H a=some (.dT kvs)):kvs.length<=Wi/\(a==YJ)=false /\
  ∃xs,KT H kvs xs/\h.DictOfH (Zj (cm P w)) a xs:=Cy ok (.inl e)
end
def zK (H:Hp)(a:Addr)(y:V)(r:Option V):Prop :=
 (∃kvs k,Rd H a (.dK kvs)/\y=kV k/\r=gy kvs k)\/∃kvs k b,Rd H a (.dT kvs)/\y=.ref b/\H b=some (.tup (k.map kV))/\r=gy kvs k
def zK.t {H:Hp}{a b:Addr}{kvs:List (List Key×V)}{k:List Key}(e:H a=some (.dT kvs))(eb:H b=some (.tup (k.map kV))):zK H a (.ref b) (gy kvs k):=.inr {kvs,k,b,.inl e,rfl,eb,rfl}
section
variable {X:Cx}{pins:List (Addr×Obj)}{σ:St}{H:Hp}{s:VY}{a:Addr}{y v:V}{u:VT}{o:Option V}{A:Xd}{E:VT->VY->Prop}
def Inv.big (I:Inv X pins σ H s):YJ<s.heap.objs.size:=by
 have h:XW<s.heap.objs.size:=(I.mod.glob.keeps I.bk).lt;exact Nat.lt_trans (by decide) h
def zk {Q:VT->VY->Prop}(hu:A.units+1<Yo)(I:Inv X pins σ H s)(g:zK H a y (some v))(ry:RelV y u)(h:∀w' s',Inv X pins σ H s'->RelV v w'->Q w' s'):
  WM (model X.prog X.w) A (getItem (.ref a) u) Q E s:=by
 rcases g with⟨kvs,k,e,ey,l⟩|⟨kvs,k,b,e,ey,eb,l⟩
 ·subst ey;obtain⟨z,hd,vs,rel,dd⟩:=Gw I.bY e;obtain⟨w',hw,C5⟩:=oV.some_of (v:=v) (o:=ZU vs k) (by rw[l];exact rel.val k)
  exact wpAny_getItem_of (Gb ry) dd.mapOf hw (h w' _ (I.tok _) C5)
 ·subst ey;cases (show u=Value.ref b from ry)
  obtain⟨z,hd,xs,rel,dd⟩:=Cy I.bY e;obtain⟨w',hw,C5⟩:=oV.some_of (v:=v) (o:=(atKey xs k).map (·.2)) (by rw[l];exact rel.val k)
  obtain⟨p,hp,Nz⟩:=Wk.mp hw;refine wpAny_getItem_heap (tupleKind_room_in1 hu) (vQ I.bY eb) dd hp ?_;rw[Nz];exact h w' _ (I.tok _) C5
def Fb {h':Heap}{t':Nat}{ob:HO}(I:Inv X pins σ H s)(mu:M3 (H a))(hs:X7 a s.heap h')(he:∃q,h'.get? a=some q)(new:b9 X.prog X.w (upd H a ob) h' a ob):
  Inv X pins σ (upd H a ob) {s with heap:=h',toks:=t'} :=
 I.write (x:=a) (e:=a) mu (.inl rfl) (λb q hb z=>(hs.2 b hb).trans z) he new
end
def uu {X:Cx} {pins:List (Addr×Obj)} {σ:St} {H:Hp} {s:VY} {a:Addr} {y:V} {o:Option V} (I:Inv X pins σ H s) (g:zK H a y o):s.TypeIs (.ref a) "dict" := by
 rcases g with⟨kvs,k,e,_,_⟩|⟨kvs,k,b,e,_,_,_⟩
 ·obtain⟨_,_,vs,_,dd⟩:=Gw I.bY e;exact dd.typeIs
 ·obtain⟨_,_,xs,_,dd⟩:=Cy I.bY e;exact dd.typeIs
def Cz {P:V2}{w:Wm}{H:Hp}(h:Heap)(hb:YJ<h.objs.size):b9 P w H (h.push {cls:=.type "dict",data:=.dict #[]}) h.objs.size (.dT []) :=
 {V_ _,beq_eq_false_iff_ne.mpr (YX (WX hb)),[],.nil,_,#[],0,WT _ rfl,{(rfl),rfl,rfl},rfl,rfl,W9}
end L2
namespace L2.Q
open PySem PySem.Spec PySem.SeqAt PyProof.Rows
def _root_.L2.da.z7 {k:Nat}{A:Xd}(r:da k A):A.units+1<Yo:=by have:=r.un;lia
def iK (t:List Int):List Key:=t.map ZM
def IP {t u:List Int}(h:iK t=iK u):t=u:=by
 unfold iK at h
 induction t generalizing u with
 |nil=>cases u with|nil=>rfl|cons _ _=>cases h
 |cons a t ih =>
  cases u with
  |nil=>cases h
  |cons b u =>
   rw[Ws,Ws]at h;injection h with h1 h2
   injection h1 with h1
   rw[h1,ih h2]
def Gh (t:List Int):(iK t).map kV=t.map V.int:=by
 unfold iK;rw[WR];rfl
end L2.Q
namespace L2
open PySem PySem.Spec PySem.SeqAt PyProof.Rows
def JF:Xl "sum" = some (.builtin "sum"):=by decide +kernel
def D.int?:D->Option Int
 |.int i=>some i
 |_=>none
def D.Bx:D->Option (List D)
 |.lst ds=>some ds
 |_=>none
def D.rf {d:D}{i:Int}(h:d.int?=some i):d=.int i:=by
 cases d <;> first|(cases h;rfl)|cases h
def D.xr {d:D}{ds:List D}(h:d.Bx=some ds):d=.lst ds:=by
 cases d <;> first|(cases h;rfl)|cases h
noncomputable def iO:List D->Option (List Int)
 |[]=>some []
 |d::ds=>d.int?.bind λi=>(iO ds).map (i::·)
theorem jX:∀{ds:List D} {ns:List Int},iO ds=some ns->ds=ns.map D.int
 |[],_,h=>by cases h;rfl
 |d::ds,ns,h=>by
  obtain⟨i,h1,h2⟩:=Xb.mp h;obtain⟨ms,h3,rfl⟩:=Wk.mp h2;rw[D.rf h1,jX h3];rfl
theorem ip:∀ns:List Int,iO (ns.map D.int)=some ns
 |[]=>rfl
 |n::ns=>by
  show (some n).bind (λi=>(iO (ns.map D.int)).map (i::·))=_;rw[ip ns];rfl
noncomputable def il (f:List Int->Option Int):List D->Option D
 |[d]=>d.Bx.bind λds=>(iO ds).bind λns=>(f ns).map D.int
 |_=>none
def nI {f:List Int->Option Int}{ds:List D}{d:D}(h:il f ds=some d):∃ns i,ds=[.lst (ns.map D.int)]/\f ns=some i/\d=.int i:=by
 cases ds with
 |nil=>cases h
 |cons x r =>
  cases r with
  |cons _ _=>cases h
  |nil =>
   obtain⟨es,h1,h2⟩:=Xb.mp h;obtain⟨ns,h3,h4⟩:=Xb.mp h2;obtain⟨i,h5,rfl⟩:=Wk.mp h4;exact{ns,i,by rw[D.xr h1,jX h3],h5,rfl}
def nH {f:List Int->Option Int}{ns:List Int}{i:Int}(h:f ns=some i):il f [.lst (ns.map D.int)]=some (.int i):=by
 show (some (ns.map D.int)).bind (λds=>(iO ds).bind λns=>(f ns).map D.int)=_;rw[XE,ip,XE,h];rfl
def oH:List Int->Option Int
 |[]=>none
 |n::ns=>some (ns.foldl max n)
theorem b6:∀(ns:List Int) (n:Int),(ns.foldl max n∈n::ns)/\∀x∈n::ns,x<=ns.foldl max n
 |[],n=>{by simp,λx hx=>by simp at hx;rw[hx];exact Int.le_refl _}
 |m::ns,n=>by
  obtain⟨h1,h2⟩:=b6 ns (max n m);have hm:max n m<=ns.foldl max (max n m):=h2 _ (by simp)
  refine{?_,λx hx=>?_}
  ·rw[XU];rcases VX.mp h1 with h|h
   ·rw[h]
    by_cases q:n<=m
    ·rw[show max n m=m by lia];simp
    ·rw[show max n m=n by lia];simp
   ·simp[h]
  ·rw[XU];rcases VX.mp hx with rfl|hx
   ·lia
   ·rcases VX.mp hx with rfl|hx
    ·lia
    ·exact h2 x (by simp[hx])
section
variable {X:Cx}
theorem iQ:∀{ns:List Int} {us:List VT},Vals (ns.map V.int) us->∃xs:Array (Int×Tok),us.toArray=intItems xs/\xs.toList.map (·.1)=ns
 |[],_,h=>by cases h;exact{#[],by simp[intItems],rfl}
 |n::ns,_,h=>by
  cases h with
  |cons h1 h2 =>
   obtain⟨t,rfl⟩:=h1;obtain⟨xs,e1,e2⟩:=iQ h2;refine{{(n,t)::xs.toList},?_,by simp[e2]}
   have:=congrArg Array.toList e1;simp[intItems]at this ⊢
   exact this
def kn {xs:Array (Int×Tok)}{ns:List Int}(e:xs.toList.map (·.1)=ns)(i:Nat):numAt xs i=ns.getD i 0:=by
 subst e;unfold numAt;rw[Xc,Wg,Wo]
def Fz {xs:Array (Int×Tok)}{ns:List Int}(e:xs.toList.map (·.1)=ns){i:Nat}{v:VT}(h:(intItems xs)[i]?=some v):RelV (.int (ns.getD i 0)) v:=by
 obtain⟨t,rfl⟩:=intItems_at h;exact{t,by rw[kn e]}
def ints_size {xs:Array (Int×Tok)}{ns:List Int}(e:xs.toList.map (·.1)=ns):xs.size=ns.length:=by rw[<- e];simp
def zC (hc:X.calm=true):dB X (.builtin "sum") (il λns=>some ns.sum):=by
 intro pins s σ H xs us Q I r h;obtain⟨W,ds,d,hd,r1,e,q⟩:=h;obtain⟨ns,i,rfl,e1,rfl⟩:=nI e;cases e1;obtain⟨x,rfl,p,vs,rfl,h1,n1,q1⟩:=qg r1;obtain⟨u,rfl,ru⟩:=vals1 r;cases ru;rw[bw q1]at h1;obtain⟨its,r2,ht,hz⟩:=I.list (eQ.of h1);obtain⟨ys,e1,e2⟩:=iQ r2;refine sum_intListG (I.ok.hd hc) (xs:=ys) (by rw[<- e1];exact ht.isList) λh' tk t' k=>{.int ns.sum,H,I.kept k,{t',?_},q _ _ (aE.refl _) rfl}
 rw[preSum_eq,Xh (by simp),e2]
def zD (hc:X.calm=true):dB X (.builtin "max") (il oH):=by
 intro pins s σ H xs us Q I r h;obtain⟨W,ds,d,hd,r1,e,q⟩:=h;obtain⟨ns,i,rfl,e1,rfl⟩:=nI e;obtain⟨x,rfl,p,vs,rfl,h1,n1,q1⟩:=qg r1;obtain⟨u,rfl,ru⟩:=vals1 r;cases ru;rw[bw q1]at h1;obtain⟨its,r2,ht,hz⟩:=I.list (eQ.of h1);obtain⟨ys,UX,e2⟩:=iQ r2;have hs:=ints_size e2;cases ns with
 |nil=>cases e1
 |cons n ns =>
  rw[V7]at hs;refine max_intList (I.ok.hd hc) (xs:=ys) (by rw[<- UX];exact ht.isList) (by lia) λv h' tk hv k=>{.int i,H,I.kept k,?_,q _ _ (aE.refl _) rfl}
  have hr:=Fz e2 hv;obtain⟨g1,g2⟩:=argBest_gt (numAt ys) (ys.size-1);generalize argBest (λi j=>decide (numAt ys i>numAt ys j)) (ys.size-1)=b at *
  have hb:b<(n::ns).length:=by rw[V7];lia
  have:(n::ns).getD b 0=i:=by
   cases e1;obtain⟨f1,f2⟩:=b6 ns n;have hle:∀x∈n::ns,x<=(n::ns).getD b 0:=λx hx=>by
    obtain⟨j,hj,rfl⟩:=List.getElem_of_mem hx;have:=g2 j (by rw[V7]at hj;lia)
    rw[kn e2,kn e2]at this;rw[Xc,Wh hj]at this;exact this
   have i8:(n::ns).getD b 0∈n::ns:=by
    rw[Xc,Wh hb];exact YM hb
   have:=hle _ f1;have:=f2 _ i8;lia
  rw[<- this];exact hr
end
end L2
namespace L2.Q
open PySem PySem.Spec PySem.SeqAt PyProof.Rows
def dA (kvs:List (List Int×D)):D:=.dT (kvs.map λp=>iK p.1) (kvs.map (·.2))
def l8 (kvs:List (List Int×D))(t:List Int):Option D:=(kvs.find? λp=>decide (p.1=t)).map (·.2)
def _root_.L2.D.Lx:D->Option (List (List Key)×List D)
 |.dT ks ds=>some (ks,ds)
 |_=>none
def EI {d:D}{ks:List (List Key)}{ds:List D}(h:d.Lx=some (ks,ds)):d=.dT ks ds:=by
 cases d <;> first|(cases h;rfl)|cases h
def u_ (ks:List (List Key))(ds:List D)(k:List Key):Option D:=((ks.zip ds).find? λp=>decide (p.1=k)).map (·.2)
def EG {d:D}{es:List D}(h:d.II=some es):d=.tup es:=by
 cases d <;> first|(cases h;rfl)|cases h
def Fg (a b:D):Option ((List (List Key)×List D)×List Int):=a.Lx.bind λp=>b.II.bind λes=>(iO es).map λt=>(p,t)
def Ff {a b:D}{ks:List (List Key)}{ds:List D}{t:List Int}(h:Fg a b=some ((ks,ds),t)):a=.dT ks ds/\b=.tup (t.map D.int):=by
 obtain⟨p,h1,h2⟩:=Xb.mp h;obtain⟨es,h3,h4⟩:=Xb.mp h2;obtain⟨t',h5,h6⟩:=Wk.mp h4;cases h6;exact{EI h1,by rw[EG h3,jX h5]}
def Fe {kvs:List (List Int×D)}{t:List Int}:Fg (dA kvs) (.tup (t.map D.int))=some ((kvs.map λp=>iK p.1,kvs.map (·.2)),t):=by
 show (some _).bind (λp=>(some (t.map D.int)).bind λes=>(iO es).map λt=>(p,t))=_;rw[XE,XE,ip];rfl
theorem u9 {t:List Int}:∀{kvs:List (List Int×D)},u_ (kvs.map λp=>iK p.1) (kvs.map (·.2)) (iK t)=l8 kvs t
 |[]=>rfl
 |p::kvs=>by
  have ih:=u9 (t:=t) (kvs:=kvs);unfold u_ l8 at *
  rw[Ws,Ws,Y0,Xa,Xa]
  by_cases h:p.1=t
  ·rw[decide_eq_true (congrArg iK h),decide_eq_true h];rfl
  ·rw[decide_eq_false (λz=>h (IP z)),decide_eq_false h];exact ih
def xR (a b:D):Option D:=(Fg a b).bind λz=>u_ z.1.1 z.1.2 (iK z.2)
def Fj {kvs:List (List Int×D)}{t:List Int}:xR (dA kvs) (.tup (t.map D.int))=l8 kvs t:=by
 unfold xR;rw[Fe,XE];exact u9
section
variable {P:V2}{w:Wm}{W:Addr->Prop}{H:Hp}
theorem qI {k:List Key}:∀{ks:List (List Key)} {ds:List D} {vs:List V},ks.length=vs.length->ai P w W H ds vs->(gy (ks.zip vs) k).isSome=(u_ ks ds k).isSome/\∀d,u_ ks ds k=some d->∃v,gy (ks.zip vs) k=some v/\aD P w W H d v
 |[],ds,vs,_,_=>by
  unfold gy u_;rw[Z3,Z3];exact{rfl,λd h=>by cases h}
 |k'::ks,[],_,l,h=>by rw[show _=([]:List V) from h]at l;cases l
 |k'::ks,d::ds,_,l,⟨v,r,e,h1,h2⟩=>by
  subst e;obtain⟨i1,i2⟩:=qI (k:=k) (ks:=ks) (Zo l) h2;unfold gy u_ at *
  rw[Y0,Y0,Xa,Xa]
  by_cases hk:k'=k
  ·rw[decide_eq_true hk];exact{rfl,λd' e=>by cases e;exact{(v),rfl,h1}}
  ·rw[decide_eq_false hk];exact{(i1),i2}
end
section
variable {X:Cx}
def IF {W:Addr->Prop}{H:Hp}{a b:D}{x y:V}{ks:List (List Key)}{ds:List D}{t:List Int}(h:Fg a b=some ((ks,ds),t))(r1:Rp X W H a x)(r2:Rp X W H b y):∃p vs,x=.ref p/\zK H p y (gy (ks.zip vs) (iK t))/\ks.length=vs.length/\ai X.prog X.w W H ds vs:=by
 obtain⟨rfl,rfl⟩:=Ff h;obtain⟨p,vs,rfl,e1,l,n,rs⟩:=r1;obtain⟨q,us,rfl,e2,rt⟩:=r2;rw[L2.bw rt]at e2;exact{p,vs,rfl,zK.t e1 (by rw[Gh];exact e2),l,rs}
def Ls (hu:X.A.units+1<Yo):GK X (Az X xR NF):=by
 intro value slice pins s σ H x y v u Q I rx ry h hs;obtain⟨W,d1,d2,d,hd,r1,r2,e,q⟩:=h;obtain⟨⟨⟨ks,ds⟩,t⟩,h1,h2⟩:=Xb.mp e;obtain⟨p,vs,rfl,g,l,rs⟩:=IF h1 r1 r2;obtain⟨w',hw,C5⟩:=(qI l rs).2 d h2;rw[hw]at g;cases (show v=Value.ref p from rx)
 exact tail_any (uu I g) PySem.F.slot_dict_getitem.lookup (zk hu I g ry λu' s' I' r'=>{w',H,I',r',q w' H (aE.refl _) C5 λf=>aD.flat f C5}) hs
end
def HP {P:V2}{w:Wm}{H:Hp}{kvs:List (List Int×D)}{a:Addr}{vs:List V}{A:List Addr}(h:H a=some (.dT ((kvs.map λp=>iK p.1).zip vs)))(o:aL P w H (kvs.map (·.2)) vs A):Own P w H (dA kvs) (.ref a) (a::A) :=
 {a,vs,A,rfl,h,by rw[VS,o.length,VS],rfl,o}
def G3 {P:V2}{w:Wm}{H:Hp}{kvs:List (List Int×D)}{vs:List V}{A:List Addr}{t:List Int}(o:aL P w H (kvs.map (·.2)) vs A)(h:l8 kvs t=none):gy ((kvs.map λp=>iK p.1).zip vs) (iK t)=none:=by
 have:=(qI (k:=iK t) (ks:=kvs.map λp=>iK p.1) (W:=λ_=>False) (by rw[VS,o.length,VS]) (o.rep λc _ z=>z)).1
 rw[u9,h]at this;exact Option.isNone_iff_eq_none.mp (by rw[<- Option.not_isSome,this];rfl)
end L2.Q
namespace L2
open PySem PySem.Spec PySem.SeqAt PyProof.Rows
def NX (lo:Int)(n:Nat):It:={λi _=>i<n,λi H x H'=>H'=H/\x=.int (lo-i),λi _=>n<=i}
def se {P:V2}{w:Wm}{K:PySem.W.Frag}{tg:Expr}(it:Addr)(lo:Int)(n:Nat):Turn P w K tg (NX lo n) [it] it (λi h=>IsRangeIter h it (lo+(i:Nat)*(-1)) ((n:Int)-(i:Nat)) (-1)) where
 mem:=by simp
 obj:=λi h st b hb=>by
  have e:b=it:=by simpa using hb
  subst e;exact⟨_,st,λv z=>by
   have z':Data.fields _=Data.cell v:=z;cases z'⟩
 keep:=λi h h' st k=>k it (by simp) _ st
 item:=by
  intro X hP hw hK hc i pins s σ H E I hf st hg;subst hP hw hK;obtain⟨f0,f1,f2,f3,f4,f5⟩:=hf it (by simp)
  have W:=Walks.range (prog:=X.prog) (w:=X.w) (I.ok.hd hc) it lo (-1) n;refine W.item i s _ _ hg st λv h' tk hv aA kk=>?_;obtain⟨t,rfl⟩:=hv;have I1:Inv X pins σ H {s with heap:=h',toks:=tk}:=I.turned (λb o hb e=>kk b o (by simpa using hb) e) f0 f1 f3 f4 f5
  refine{_,rfl,xA (s:={s with heap:=h',toks:=tk}) (n:="range_iterator") aA rfl rfl (by decide) {.int (lo-i),H,I1,{t,?_},{(rfl),rfl},aA,λb hb=>(hf b hb).1}}
  rw[Int.mul_neg,Int.mul_one];rfl
 done:=by
  intro X hP hw hK hc i pins s σ H E I hf st hg;subst hP hw hK;obtain⟨f0,f1,f2,f3,f4,f5⟩:=hf it (by simp)
  exact wpAny_pyNext_range_end (I.ok.hd hc) st (by have:n<=i:=hg;lia) λh' eb=>{rfl,I.turned (t':=s.toks) (λb o hb e=>eb b o hb e) f0 f1 f3 f4 f5}
 self:=λ_ _ _ _ _ st h=>wpAny_pyIter_rangeiter st h
def iB (a b:Int):X2 a b (-1)=if b<a then a-b else 0:=by
 unfold X2;rw[if_neg (by decide)]
 by_cases h:b<a
 ·rw[if_pos h,if_pos h,show -(-1:Int)=1 by decide,Int.ediv_one];lia
 ·rw[if_neg h,if_neg h]
def yp {a b:Int}(ha:-(2 ^ 62)<=a)(NJ:a<2 ^ 62)(hb:-(2 ^ 62)<=b)(rV:b<2 ^ 62):Builtin.Range.small a b (-1)=true:=by
 unfold Builtin.Range.small;rw[iB];simp only[Builtin.Range.rangeFitsLong,WL,Bool.or_eq_true,decide_eq_true_eq,beq_iff_eq,show ¬ ((-1:Int)>0) by decide,if_false]
 split <;> lia
section
variable {X:Cx}{tg:Expr}
def yx {pins:List (Addr×Obj)}{σ:St}{H:Hp}{s:VY}{R:It->Hp->Prop}{E:VT->VY->Prop}{lo hi:Int}{t u v:Tok}{tk:Nat}(I:Inv X pins σ H s)(h1:-(2 ^ 62)<=lo)(h2:lo<2 ^ 62)(h3:-(2 ^ 62)<=hi)(h4:hi<2 ^ 62)
  (q:R (NX lo (lo-hi).toNat) H):WM (model X.prog X.w) X.A (pyIter (.ref s.heap.objs.size)) (NU X pins σ tg R) E {s with heap:=s.heap.push {cls:=.type "range",data:=.fields #[.int lo t,.int hi u,.int (-1) v]},toks:=tk}:=by
 refine wpAny_pyIter_range (IsRange.new ..) (yp h1 h2 h3 h4) ?_;have I1:Inv X pins σ H {s with heap:=s.heap.push {cls:=.type "range",data:=.fields #[.int lo t,.int hi u,.int (-1) v]},toks:=tk}:=I.kept λb o e=>V6 _ e
 refine⟨(s.heap.push {cls:=.type "range",data:=.fields #[.int lo t,.int hi u,.int (-1) v]}).objs.size,[(s.heap.push {cls:=.type "range",data:=.fields #[.int lo t,.int hi u,.int (-1) v]}).objs.size],_,_,H,rfl,
  I1.kept (t':=tk) λb o e=>V6 _ e,se _ lo (lo-hi).toNat,?_,λb hb=>?_,q⟩
 ·have e1:lo+((0:Nat):Int)*(-1)=lo:=by simp
  have e2:(((lo-hi).toNat:Nat):Int)-((0:Nat):Int)=X2 lo hi (-1):=by rw[iB];split <;> lia
  show IsRangeIter _ _ (lo+((0:Nat):Int)*(-1)) ((((lo-hi).toNat:Nat):Int)-((0:Nat):Int)) (-1);rw[e1,e2];exact WT _ rfl
 ·have e:b=(s.heap.push {cls:=.type "range",data:=.fields #[.int lo t,.int hi u,.int (-1) v]}).objs.size:=by simpa using hb
  subst e;exact I1.Ce (VR _) (I1.bY.fresh (VR _))
def Ly (ta:TA):TI:=λσ H R=>ta σ H λvs H1=>∃i j:Int,vs=[.int i,.int j,.int (-1)]/\(-(2 ^ 62)<=i/\i<2 ^ 62/\-(2 ^ 62)<=j/\j<2 ^ 62)/\R (NX i (i-j).toNat) H1
def yE {a b c:Expr} {ta:TA} {p pos:Pos} (hg:Gl X "range") (hm:X.mg "range" = none) (ha:PA X [a,b,c] ta) (hs:Wj [a,b,c] X.env=[(false,eval a X.env),(false,eval b X.env),(false,eval c X.env)]:=by rfl) (t8:Wj [b,c] X.env=[(false,eval b X.env),(false,eval c X.env)]:=by rfl) :
  PI X tg (.Call (.Name "range" p) [a,b,c] [] pos) (Ly ta):=by
 intro pins s σ H R I h;refine Call_ (gV I hg hm boot_range (XA (bG (ha pos pins s σ H _ I h) λus s1 i7=>?_) (by rw[hs,t8]) (by rw[t8];rfl)))
 obtain⟨vs,H1,I1,r1,q1⟩:=i7;obtain⟨i,j,e,⟨q1,q2,q3,q4⟩,q⟩:=q1;subst e;cases r1 with
 |cons r rr =>
  cases rr with
  |cons r' rr =>
   cases rr with
   |cons Ru rr =>
    cases rr;obtain⟨t,rfl⟩:=r;obtain⟨t',rfl⟩:=r';obtain⟨Vs,rfl⟩:=Ru;exact call_range_3 (by decide) (yx I1 q1 q2 q3 q4 q) (.inl (PyProof.noPylong_of_log2 (by decide +kernel)))
def yw (hi:Int)(n:Nat):List D:=(VW n).map λ(k:Nat)=>D.int (hi-(k:Int))
def sN {hi:Int}{n i:Nat}{d:D}(h:(yw hi n)[i]?=some d):i<n/\d=.int (hi-i):=by
 unfold yw at h;rw[Wg]at h
 by_cases hi:i<n
 ·rw[XN hi]at h;cases h;exact{(hi),rfl}
 ·rw[Xw (by simpa using hi)]at h;cases h
def sM {hi:Int}{n:Nat}:(yw hi n).length=n:=by unfold yw;simp
def vT {W:Addr->Prop}{H:Hp}{lo:Int}{n:Nat}:zR X W (NX lo n) (yw lo n) H:=λ_ _ i H' k=>by
 constructor
 ·intro d hd;obtain⟨hi,rfl⟩:=sN hd;refine{hi,λx H1 y=>?_};obtain⟨rfl,rfl⟩:=y;exact{aE.refl _,rfl}
 ·intro hl;rw[sM]at hl;exact hl
end
end L2
namespace L2.Q
open PySem PySem.Spec PySem.SeqAt PyProof.Rows
section
variable {X:Cx}{C:Cfg}{tg a b c:Expr}{φs:cF}{p:Bool}{pp pos:Pos}
def EJ (φs:cF):cz:=λβ R=>φs β λds _ β'=>∃i j:Int,ds=[.int i,.int j,.int (-1)]/\(-(2 ^ 62)<=i/\i<2 ^ 62/\-(2 ^ 62)<=j/\j<2 ^ 62)/\R (yw i (i-j).toNat) .gj β'
def MV {W:Addr->Prop}{H:Hp}{a b c:D}{xs:List V}(h:uP X W H [a,b,c] xs):∃x y z,xs=[x,y,z]/\Rp X W H a x/\Rp X W H b y/\Rp X W H c z:=by
 obtain⟨x,r,rfl,hx,y,r',rfl,hy,z,Ru,rfl,hz,hr⟩:=h;cases hr;exact{(x),y,z,rfl,hx,hy,hz}
def vz (hm:X.mg "range" = none) (ha:uQ X C p [a,b,c] φs) (hg:Gl X "range" := by rfl) (hs:Wj [a,b,c] X.env=[(false,eval a X.env),(false,eval b X.env),(false,eval c X.env)]:=by rfl) (t8:Wj [b,c] X.env=[(false,eval b X.env),(false,eval c X.env)]:=by rfl) :
  zJ X C p tg (.Call (.Name "range" pp) [a,b,c] [] pos) (EJ φs) :=
 ⟨λβ R R' k q=>ha.mono β _ _ (λd kd β' h=>by obtain⟨i,j,e,h1,q⟩:=h;exact{i,j,e,h1,k _ _ _ q}) q,(yE hg hm ha.pa hs t8).pre λσ H R h=>by
  obtain⟨β,own,s,q⟩:=h;refine ve.of ha s q λds ks β' vs H1 aF h o1 r1=>?_;obtain⟨i,j,e,h1,q1⟩:=h;subst e;obtain⟨x,y,z,rfl,hx,hy,hz⟩:=MV r1.jA;cases hx;cases hy;cases hz;exact{i,j,rfl,h1,q1 _ _ aF o1 vT}⟩
end
structure NS (X:Cx)(C:Cfg)(tg iter:Expr)(ι:cz):Prop where
 mono:∀β R R',(∀d k β,R d k β->R' d k β)->ι β R->ι β R'
 pi:PI X tg iter λσ H R=>∃β own,SQ X C σ H β own/\ι β λds k β'=>∀J H',aE H H'->SQ X C σ H' β' own->zR X (iy C (Wn own) k) J ds H'->R J H'
section
variable {X:Cx}{C:Cfg}{tg a b:Expr}{φs:cF}{pp pos:Pos}{i:Nat}{x:Str}
def vy (hm:X.mg "range" = none) (ha:uQ X C true [a,b] φs) (hg:Gl X "range" := by rfl) (hs:Wj [a,b] X.env=[(false,eval a X.env),(false,eval b X.env)]:=by rfl) (t8:Wj [b] X.env=[(false,eval b X.env)]:=by rfl) :
  NS X C tg (.Call (.Name "range" pp) [a,b] [] pos) (xw φs) :=
 ⟨λβ R R' k q=>ha.mono β _ _ (λd kd β' h=>by obtain⟨i,j,e,h1,q⟩:=h;exact{i,j,e,h1,k _ _ _ q}) q,(pA hg hm ha.pa hs t8).pre λσ H R h=>by
  obtain⟨β,own,s,q⟩:=h;refine ve.of ha s q λds ks β' vs H1 aF h o1 r1=>?_;obtain⟨i,j,e,h1,q1⟩:=h;subst e;obtain⟨s1,rfl⟩:=o1.pu rfl;obtain⟨x,y,rfl,hx,hy⟩:=xX r1.jA;cases hx;cases hy;exact{i,j,rfl,h1,q1 _ _ s1 o1.sq kA}⟩
def IM (i:Nat):cz:=λβ R=>∃y ds,β[i]?=some (some (.val y (.tup ds)))/\R ds (yk y) β
def yC (hn:Nm X i x:=by exact Bm):NS X C tg (.Name x pos) (IM i) :=
 ⟨λβ R R' k h=>by obtain⟨y,ds,e,q⟩:=h;exact{y,ds,e,k _ _ _ q},(HG (gR (pos:=pos) hn)).pre λσ H R h=>by
  obtain⟨β,own,s,y,ds,e,q⟩:=h;obtain⟨v,hv,p,vs,rfl,h1,rs⟩:=s.val i y _ e;exact{_,hv,p,rfl,{vs,nW.of h1},q _ _ (aE.refl _) s (EF h1 rs)}⟩
end
structure SC (X:Cx)(C:Cfg)(W0:Addr->Prop)(T:List Nat)(σ0:St)(H1:Hp)(a:Addr)(Hb:Hp)(Wb:Addr->Prop)(Ac:Hp->Prop)(β:a9)(σ':St)(H':Hp)(own:Nat->List Addr):Prop where
 sq:SQ X (C.u λc=>c=a) σ' H' β own
 sn:Sn (H1,W0) H' (Wn own)
 le:∀c,Wn own c->Wb c
 ac:Ac H'
 pu:aE H1 H'
 bs:∀b ob,b≠a->Hb b=some ob->H' b=some ob
 st:∀j,j∉T->σ'[j]?=σ0[j]?
abbrev rQ {α:Type}(X:Cx)(C:Cfg)(W0:Addr->Prop)(T:List Nat)(σ0:St)(H1:Hp)(a:Addr)(Hb:Hp)(Wb:Addr->Prop)(Ac:α->Hp->Prop)(β:a9)(o:α)(σ':St)(H':Hp):Prop:=∃own,SC X C W0 T σ0 H1 a Hb Wb (Ac o) β σ' H' own
structure wz {α:Type}(a:Addr)(Ac:α->Hp->Prop):Prop where
 same:∀o H H',aE H H'->Ac o H->Ac o H'
 K6:∀o H xs,Ac o H->H a≠some (.tup xs)
abbrev Dv (X:Cx)(C:Cfg)(a:Addr)(T:List Nat)(γ:c8):TG:=λv σ H Q=>∃own β d k,SQ X (C.u λc=>c=a) σ H β own/\Rp X (iy (C.u λc=>c=a) (Wn own) k) H d v/\γ d k β λβ'=>∀σ' aS,SQ X (C.u λc=>c=a) σ' H β' aS->(∀a,Wn aS a->Wn own a)->(∀j,j∉T->σ'[j]?=σ[j]?)->Q σ' H
abbrev Rf (X:Cx)(C:Cfg)(a:Addr)(φ:aQ):lF:=λN σ H=>tQ X (C.u λc=>c=a) true φ σ H λv H1=>∃xs,H1 a=some (.lst xs)/\xs.length<Wi/\N σ (upd H1 a (.lst (xs++[v])))
section
variable {α:Type}{X:Cx}{C:Cfg}{W0:Addr->Prop}{T Tg:List Nat}{σ0:St}{H1:Hp}{a:Addr}{Hb:Hp}{Wb:Addr->Prop}{γ:c8}{τ:aZ}{φ:aQ}{Ac:α->Hp->Prop}
def SC.next {o:α}(hA:wz a Ac){β β':a9}{σ σ':St}{H H':Hp}{own aS:Nat->List Addr}(s:SC X C W0 T σ0 H1 a Hb Wb (Ac o) β σ H own)(sq:SQ X (C.u λc=>c=a) σ' H' β' aS)(w:∀c,Wn aS c->Wn own c)(sm:aE H H')(t:∀j,j∉T->σ'[j]?=σ[j]?):
  SC X C W0 T σ0 H1 a Hb Wb (Ac o) β' σ' H' aS :=
 {sq,jy (s.sn.same sm) w,λc z=>s.le c (w c z),hA.same o _ _ sm s.ac,s.pu.trans sm,λb ob n e=>sm _ _ (s.bs b ob n e),λj hj=>(t j hj).trans (s.st j hj)}
def SC.put {A:Hp->Prop}{A':Hp->Prop}(h0:C.H0 a=none)(ha:H1 a=none){β:a9}{σ:St}{H:Hp}{own:Nat->List Addr}{oa ob:HO}(s:SC X C W0 T σ0 H1 a Hb Wb A β σ H own)(e:H a=some oa)(nt:∀xs,oa≠.tup xs)(q:A' (upd H a ob)):
  SC X C W0 T σ0 H1 a Hb Wb A' β σ (upd H a ob) own:=by
 refine{s.sq.Ho e nt h0,{s.sn.w,s.sn.k.trans ((m9 e nt).mono λb z=>.inr (by rw[z];exact ha)),λb z e=>?_},s.le,q,λb o e=>?_,λb o n e=>?_,s.st}
 ·by_cases hb:b=a
  ·rw[hb,ao]at e;cases e
  ·rw[aB hb]at e;exact s.sn.d b z e
 ·rw[aB (λz'=>by rw[z',ha]at e;cases e)]
  exact s.pu b o e
 ·rw[aB n];exact s.bs b o n e
def NZ (P:V2)(w:Wm)(H1:Hp)(a:Addr)(o:List D)(H:Hp):Prop:=∃vs A,H a=some (.lst vs)/\aL P w H o vs A/\A.Nodup/\∀c∈A,H1 c=none/\c≠a
def wu {P:V2}{w:Wm}:wz a (NZ P w H1 a):=⟨λo H H' s h=>by
  obtain⟨vs,A,h1,h2,h3,h4⟩:=h;exact{vs,A,s _ _ h1,h2.keep (λb xs e=>s _ _ e) λc _ oc e=>s _ _ e,h3,h4},λo H xs h z=>by
  obtain⟨vs,A,h1,_⟩:=h;rw[h1]at z;cases z⟩
def Gu (φ:aQ)(o:List D)(β:a9)(N:a9->List D->Prop):Prop:=φ β λx kx β3=>Gf kx x/\o.length<Wi/\N β3 (o++[x])
def DG (h0:C.H0 a=none)(ha:H1 a=none)(φm:∀β R R',(∀d k β,R d k β->R' d k β)->φ β R->φ β R'){β:a9}{o:List D}{σ:St}{H:Hp}{N:a9->List D->Prop}(s:rQ X C W0 T σ0 H1 a Hb Wb (NZ X.prog X.w H1 a) β o σ H)(q:Gu φ o β N):
  Rf X C a φ (λσ' H'=>∃β' o',rQ X C W0 T σ0 H1 a Hb Wb (NZ X.prog X.w H1 a) β' o' σ' H'/\N β' o') σ H:=by
 obtain⟨own,s⟩:=s;refine{β,own,s.sq,φm _ _ _ (λxd kx β6 i7 v H6 Bb o6 r6=>?_) q};obtain⟨f,hz,q⟩:=i7;obtain⟨sm,rfl⟩:=o6.pu rfl;have s6:=s.next wu (o6.sq) (λ_ z=>z) sm (λ_ _=>rfl)
 obtain⟨B',r1,r2,r3⟩:=r6.fl f;obtain⟨vs,A,at',os,nd,nw⟩:=s.ac;have ue:H6 a=some (.lst vs):=sm _ _ at';have K9:∀c∈B',c≠a:=λc hc z=>by rw[z]at hc;exact absurd (at'.symm.trans (r3 a hc).1) (λz=>(nomatch z))
 have kt:∀b xs,H6 b=some (.tup xs)->upd H6 a (.lst (vs++[v])) b=some (.tup xs):=λb xs z=>by rw[aB (λz'=>by rw[z',ue]at z;cases z)];exact z
 refine{vs,ue,by rw[os.length];exact hz,β6,o++[xd],{Bb,s6.put h0 ha ue (λxs z=>by cases z) {vs++[v],A++B',ao,?_,?_,λc hc=>?_}},q}
 ·exact(os.keep (λb xs e=>kt b xs (sm _ _ e)) λc hc oc e=>by rw[aB (nw c hc).2];exact sm _ _ e).append (aL.one (r1.keep kt λc hc oc e=>by rw[aB (K9 c hc)];exact e))
 ·refine WY.mpr {nd,r2,λx hx y hy e=>?_};subst e;exact(os.oh x hx).1 (r3 x hy).1
 ·rcases V9.mp hc with hc|hc
  ·exact nw c hc
  ·exact{s.sn.free (r3 c hc).1,K9 c hc}
def iF {α:Type}(γ:c8)(τ:aZ)(Af:α->a9->(a9->α->Prop)->Prop)(ds:List D)(k:Kd)(β0:a9)(o0:α)(F:a9->α->Prop):Prop:=∃I:Nat->a9->α->Prop,I 0 β0 o0 /\
 (∀i d β o,ds[i]?=some d->I i β o->γ d (sk k d) β λβ1=>τ β1 λt β2=>if t=true then Af o β2 (I (i+1)) else I (i+1) β2 o)/\∀β o,I ds.length β o->F β o
def iF.mono {Af:α->a9->(a9->α->Prop)->Prop}{ds:List D}{k:Kd}{β0:a9}{o0:α}{F F':a9->α->Prop}(h:∀β o,F β o->F' β o)(q:iF γ τ Af ds k β0 o0 F):iF γ τ Af ds k β0 o0 F':=by
 obtain⟨I,h0,h1,h2⟩:=q;exact{I,h0,h1,λβ o z=>h _ _ (h2 β o z)}
def wO (hA:wz a Ac)(hT:∀j∈Tg,j∈T)(γm:∀d k β R R',(∀r,R r->R' r)->γ d k β R->γ d k β R')(τm:∀β R R',(∀d β,R d β->R' d β)->τ β R->τ β R'){J:It}{ds:List D}{k:Kd}{Af:α->a9->(a9->α->Prop)->Prop}{ta:lF}{F:a9->α->Prop}{End:St->Hp->Prop}{β0:a9}{o0:α}{σ1:St}{Hs:Hp}
  (it:∀i β o σ' H',rQ X C W0 T σ0 H1 a Hb Wb Ac β o σ' H'->(∀d,ds[i]?=some d->J.go i H'/\∀x H3,J.Ki i H' x H3->aE H' H3/\∀own,(∀c,Wn own c->Wb c)->aD X.prog X.w (iy (C.u λc=>c=a) (Wn own) k) H3 d x)/\(ds.length<=i->J.stop i H'))
  (LG:∀β o σ' H' N,rQ X C W0 T σ0 H1 a Hb Wb Ac β o σ' H'->Af o β N->ta (λzS C1=>∃β' o',rQ X C W0 T σ0 H1 a Hb Wb Ac β' o' zS C1/\N β' o') σ' H')
  (s0:rQ X C W0 T σ0 H1 a Hb Wb Ac β0 o0 σ1 Hs) (q:iF γ τ Af ds k β0 o0 F) (fin:∀β o σ' H',rQ X C W0 T σ0 H1 a Hb Wb Ac β o σ' H'->F β o->End σ' H') :
  gk J (Dv X C a Tg γ) (j7 X (C.u λc=>c=a) true τ) ta End σ1 Hs:=by
 obtain⟨I,i0,i1,i2⟩:=q;refine{λi m σ' H'=>i<=ds.length/\m=ds.length-i/\∃β o,rQ X C W0 T σ0 H1 a Hb Wb Ac β o σ' H'/\I i β o,{_,V_ _,rfl,β0,o0,s0,i0},?_};rintro i m σ2 H2 ⟨hi,rfl,β,o,sE,hl⟩;obtain⟨cB,jg⟩:=it i β o σ2 H2 sE
 by_cases ie:i<ds.length
 ·right
  have hd:ds[i]?=some ds[i]:=Wh ie;obtain⟨go,yl⟩:=cB _ hd;refine{go,λσ' H'=>∃β' o',rQ X C W0 T σ0 H1 a Hb Wb Ac β' o' σ' H'/\I (i+1) β' o',λσ' H' h=>{_,by omega,ie,rfl,h},λx H3 y=>?_}
  obtain⟨s3,r3⟩:=yl x H3 y;obtain⟨own,s⟩:=sE;refine{own,β,_,_,s.sq.same s3,qF (r3 own s.le),γm _ _ _ _ _ (λβ4 q σ4 s_ s4 w4 t4=>?_) (i1 i _ β o hd hl)};have Ti:=s.next hA s4 w4 s3 λj hj=>t4 j λz=>hj (hT j z)
  refine{β4,s_,s4,τm _ _ _ (λt β5 q H5 oF o5=>?_) q};obtain⟨Oh,rfl⟩:=o5.pu rfl;have Rn:=Ti.next hA o5.sq (λ_ z=>z) Oh λ_ _=>rfl
  cases t with
  |false=>exact{β5,o,{_,Rn},q}
  |true=>exact LG β5 o σ4 H5 _ {_,Rn} q
 ·left
  have e:i=ds.length:=by omega
  subst e;exact{jg (VR _),fin β o σ2 H2 sE (i2 β o hl)}
def Bo {α:Type}(ι:cz)(γ:c8)(τ:aZ)(Af:α->a9->(a9->α->Prop)->Prop)(o:α)(β:a9)(N:a9->α->Prop):Prop:=ι β λds k β1=>iF γ τ Af ds k β1 o N
def wN (hA:wz a Ac){ι:cz}(hT:∀j∈Tg,j∈T)(γm:∀d k β R R',(∀r,R r->R' r)->γ d k β R->γ d k β R')(τm:∀β R R',(∀d β,R d β->R' d β)->τ β R->τ β R'){Af:α->a9->(a9->α->Prop)->Prop}{ta:lF}
  (LG:∀Hb Wb β o σ' H' N,rQ X C W0 T σ0 H1 a Hb Wb Ac β o σ' H'->Af o β N->ta (λzS C1=>∃β' o',rQ X C W0 T σ0 H1 a Hb Wb Ac β' o' zS C1/\N β' o') σ' H')
  (ιm:∀β R R',(∀d k β,R d k β->R' d k β)->ι β R->ι β R') {β:a9} {o:α} {σ:St} {H:Hp} {N:a9->α->Prop} (s:rQ X C W0 T σ0 H1 a Hb Wb Ac β o σ H) (q:Bo ι γ τ Af o β N) :
  ∃β own,SQ X (C.u λc=>c=a) σ H β own/\ι β λds k β'=>∀J H',aE H H'->SQ X (C.u λc=>c=a) σ H' β' own->zR X (iy (C.u λc=>c=a) (Wn own) k) J ds H' ->
   gk J (Dv X C a Tg γ) (j7 X (C.u λc=>c=a) true τ) ta (λσ' H'=>∃β' o',rQ X C W0 T σ0 H1 a Hb Wb Ac β' o' σ' H'/\N β' o') σ H':=by
 obtain⟨own,s⟩:=s;refine{β,own,s.sq,ιm _ _ _ (λds k β1 q J H' sm sq T7=>?_) q};have s1:=s.next hA sq (λ_ z=>z) sm λ_ _=>rfl
 have hu:iy (C.u λc=>c=a) (Wn own) k a:=.inr rfl;refine wO (Hb:=H') (Wb:=Wn own) hA hT γm τm (λi βx ox σx Hx sx=>?_) (λβx ox σx Hx Nx sx qx=>LG _ _ _ _ _ _ _ sx qx) {own,{s1.sq,s1.sn,λ_ z=>z,s1.ac,s1.pu,λ_ _ _ e=>e,s1.st}} q λβx ox σx Hx sx hx=>?_
 ·obtain⟨DZ,sx⟩:=sx;have kp:Kp (λb=>iy (C.u λc=>c=a) (Wn own) k b\/H' b=none) H' Hx:={λb ob e n=>sx.bs b ob (λz=>n (.inl (by rw[z];exact hu))) e,λb xs e=>sx.bs b _ (λz=>hA.K6 _ _ _ s1.ac (by rw[<- z];exact e)) e}
  obtain⟨g1,g2⟩:=T7 (λb=>iy (C.u λc=>c=a) (Wn own) k b\/H' b=none) (λb z=>z) i Hx kp;refine{λd hd=>?_,g2};obtain⟨go,yl⟩:=g1 d hd;refine{go,λx H3 y=>?_};obtain⟨s3,r3⟩:=yl x H3 y;exact{s3,λaS O4=>aD.a8 (λb z=>.inl (nT O4 k b z)) r3}
 ·obtain⟨DZ,sx⟩:=sx;exact{βx,ox,{DZ,{sx.sq,sx.sn,λc z=>s.le c (sx.le c z),sx.ac,sx.pu,λb ob n e=>sx.bs b ob n (s1.bs b ob n e),sx.st}},hx}
def jz {lk:List (Option Nat)}{σ:St}{β:a9}{own:Nat->List Addr}{oa:HO}(hA:wz a Ac){Af:α->a9->(a9->α->Prop)->Prop}{ta:lF}{J:It}{ds:List D}{k:Kd}{o0:α}{K:α->Prop}{End:Hp->Prop}
  (γm:∀d k β R R',(∀r,R r->R' r)->γ d k β R->γ d k β R') (τm:∀β R R',(∀d β,R d β->R' d β)->τ β R->τ β R') (UJ:∀j∈Tg,j∈T)
  (inj:∀(i i' j:Nat),lk[i]?=some (some j)->lk[i']?=some (some j)->i=i') (hT:∀i∈T,∀j,lk[i]?≠some (some j))
  (s1:SQ X C σ H1 β own) (ha:H1 a=none) (hk:hold k false) (it:zR X (av C (Wn own) k) J ds H1) (a0:Ac o0 (upd H1 a oa)) (ent:SQ X (C.u λc=>c=a) (eT lk σ) (upd H1 a oa) (cu lk β) (bB lk β own))
  (LG:∀Hb Wb β' o σ' H' N,C.H0 a=none->rQ X C (Wn (bB lk β own)) T (eT lk σ) H1 a Hb Wb Ac β' o σ' H'->Af o β' N->ta (λzS C1=>∃β' o',rQ X C (Wn (bB lk β own)) T (eT lk σ) H1 a Hb Wb Ac β' o' zS C1/\N β' o') σ' H')
  (q:iF γ τ Af ds k (cu lk β) o0 λβf o=>ff (cu lk β) βf/\K o)
  (fin:∀o H',K o->Out X C σ H1 own true β H' own->Ac o H'->End H') :
  gk J (Dv X C a Tg γ) (j7 X (C.u λc=>c=a) true τ) ta (λ_ H'=>End H') (eT lk σ) (upd H1 a oa):=by
 have h0:C.H0 a=none:=Wz λz=>s1.iN a z ha;have sm:aE H1 (upd H1 a oa):=aE.new ha;refine wO (W0:=Wn (bB lk β own)) (T:=T) (σ0:=eT lk σ) (H1:=H1) (Hb:=H1) (Wb:=Wn (bB lk β own)) hA UJ γm τm (λi βx ox σx Hx sx=>?_) (λβx ox σx Hx Nx sx qx=>LG _ _ _ _ _ _ _ h0 sx qx)
  {bB lk β own,{ent,{λb z=>.inl z,sm.kp,λb z e=>z (sm.free e)},λ_ z=>z,a0,sm,λb ob n e=>sm _ _ e,λ_ _=>rfl}} q λβx ox σx Hx sx hx=>?_
 ·obtain⟨DZ,sx⟩:=sx;have kI:Kp (λb=>av C (Wn own) k b\/H1 b=none) H1 Hx:=sx.pu.kp;obtain⟨g1,g2⟩:=it (λb=>av C (Wn own) k b\/H1 b=none) (λb z=>z) i Hx kI;refine{λd hd=>?_,g2};obtain⟨go,yl⟩:=g1 d hd;refine{go,λx H3 y=>?_};obtain⟨s3,r3⟩:=yl x H3 y;exact{s3,λaS O4=>aD.a8 (λc z=>z.elim (λz=>.inl (l0 (λc z=>bA c (O4 c z)) k c z)) λz=>.inr (by rw[z];exact ha)) r3}
 ·obtain⟨DZ,sx⟩:=sx;obtain⟨hh,hK⟩:=hx;have lv:SQ X C σ Hx β own:=s1.leave sx.sq sx.sn sx.le hh λj ok i' e1 e2=>sx.st i' λz=>hT i' z j e2;exact fin ox Hx hK {lv,{λb z=>.inl z,sx.sn.k.mono λb z=>z.imp (bA b) id,sx.sn.d},λz=>{(sx.pu),rfl},λ_ z=>z} sx.ac
end
def JO {X:Cx}{C:Cfg}{σ:St}{H1 H':Hp}{β:a9}{own:Nat->List Addr}{a:Addr}{o:List D}(s1:SQ X C σ H1 β own)(ha:H1 a=none)(h:NZ X.prog X.w H1 a o H'):KV X.prog X.w C (H1,Wn own) own H' .own (.lst o) (.ref a):=by
 obtain⟨vs,A,at',os,nd,nw⟩:=h;refine{a::A,{(a),vs,A,rfl,at',rfl,os},WB.mpr {λz=>(nw a z).2 rfl,nd},λc hc=>?_};have oN:H1 c=none:=by
  rcases VX.mp hc with rfl|hc
  ·exact ha
  ·exact(nw c hc).1
 exact{oN,λh=>by obtain⟨j,hj⟩:=h;exact(s1.dm j c hj).1 oN,Wz λz=>s1.iN c z oN}
def HA (lk:List (Option Nat))(ι:cz)(γ:c8)(τ:aZ)(ι2:cz)(γ2:c8)(τ2:aZ)(φ:aQ):aQ:=λβ R=>ι β λds k β1=>hold k false/\iF γ τ (Bo ι2 γ2 τ2 (Gu φ)) ds k (cu lk β1) [] λβf o=>ff (cu lk β1) βf/\R (.lst o) .own β1
section
variable {X:Cx}{C:Cfg}{lk:List (Option Nat)}{γ γ2:c8}{τ τ2:aZ}{φ:aQ}{T T2:List Nat}
variable {scope:YA}{tg cB n_ jg elt:Expr}{ifs fF:List Expr}{ι ι2:cz}{pi:Bool}{pos:Pos}{i:Nat}
def T1 (N':List Str)(lk:List (Option Nat))(L:gU X.env.scope.names X.N scope N' lk=true)(rm:N'.Nodup)(hc:X.calm=true)(hi:zJ X C pi tg cB ι)
  (oK:∀a cl c s H ex,wy (aC X scope N' cl c s H ex) (C.u λc=>c=a) tg T γ) (lq:∀a cl c s H ex,oW (aC X scope N' cl c s H ex) (C.u λc=>c=a) true ifs τ)
  (Mm:∀a cl c s H ex,NS (aC X scope N' cl c s H ex) (C.u λc=>c=a) n_ jg ι2)
  (BO:∀a cl c s H ex,wy (aC X scope N' cl c s H ex) (C.u λc=>c=a) n_ T2 γ2) (BN:∀a cl c s H ex,oW (aC X scope N' cl c s H ex) (C.u λc=>c=a) true fF τ2)
  (lV:∀a cl c s H ex,PQ (aC X scope N' cl c s H ex) (C.u λc=>c=a) true elt φ) (hT:(T++T2).all (λi=>match lk[i]? with|some (some _)=>false|_=>true)=true:=by rfl)
  (hs:∀x,WS cB X.env x=pure x:=by intro _;rfl) (t8:∀cl c s H ex x,WS jg (aC X scope N' cl c s H ex).env x=pure x:=by intro _ _ _ _ _ _;rfl):PQ X C pi (.ListComp elt [{tg,cB,ifs,0},{n_,jg,fF,0}] scope pos) (HA lk ι γ τ ι2 γ2 τ2 φ):=by
 have L:=Links.of L;have B7:∀i∈T++T2,∀j,lk[i]?≠some (some j):=λi hi j e=>by
  have:=X1.mp hT i hi;rw[e]at this;cases this
 have ax:Addr:=0;have VP:List (Str×Addr):=[];have γm:=(oK 0 [] 0 X.s₀ X.H₀ []).mono;have τm:=(lq 0 [] 0 X.s₀ X.H₀ []).mono;have GO:=(BO 0 [] 0 X.s₀ X.H₀ []).mono;have GN:=(BN 0 [] 0 X.s₀ X.H₀ []).mono;have φm:=(lV 0 [] 0 X.s₀ X.H₀ []).mono;have ιm:=(Mm 0 [] 0 X.s₀ X.H₀ []).mono;refine{λβ R R' k h=>hi.mono β _ _ (λds kd β1 q=>{q.1,q.2.mono λ_ _ z=>{z.1,k _ _ _ z.2}}) h,?_};refine(gS (g:={tg,cB,ifs,0}) (gs:=[{n_,jg,fF,0}]) (tg:=λa=>Dv X C a T γ) (tt:=λa=>j7 X (C.u λc=>c=a) true τ)
  (ta:=λa N σ H=>∃β own,SQ X (C.u λc=>c=a) σ H β own/\ι2 β λds k β'=>∀J H',aE H H'->SQ X (C.u λc=>c=a) σ H' β' own->zR X (iy (C.u λc=>c=a) (Wn own) k) J ds H' ->
   gk J (Dv X C a T2 γ2) (j7 X (C.u λc=>c=a) true τ2) (Rf X C a φ) N σ H')
  L hc mW rfl rfl (λ_ _=>JD) hi.pi (λa cl c s H ex=>{(oK a cl c s H ex).pg,(lq a cl c s H ex).pt,xf (X:=aC X scope N' cl c s H ex) (g':={n_,jg,fF,0}) rfl hc JC (Mm a cl c s H ex).pi (BO a cl c s H ex).pg (BN a cl c s H ex).pt (mM (X:=aC X scope N' cl c s H ex) rfl (lV a cl c s H ex).pe) (t8 cl c s H ex)}) hs).pre λσ H Q h=>?_
 obtain⟨β,own,s,h⟩:=h;refine{β,own,s,hi.mono β _ _ (λds k β1 h J H1 aF o1 it a ha=>?_) h};obtain⟨hk,q⟩:=h;refine jz (T:=T++T2) (wu (P:=X.prog) (w:=X.w) (H1:=H1)) γm τm (λj hj=>WK _ hj) (bQ L rm) B7 o1.sq ha hk it {[],[],ao,(show aL _ _ _ [] [] [] from {(rfl),rfl}),W9,λc hc=>(nomatch hc)} (o1.sq.enter ha (bQ L rm))
  (λHb Wb βx ox σx Hx Nx h0 sx qx=>wN wu (λj hj=>Wx _ hj) GO GN (λHb Wb βy oy σy Hy Ny sy qy=>DG h0 ha φm sy qy) ιm sx qx) q λo H' q o2 r=>?_
 refine q _ _ aF {o2.sq,o1.sn.trans o2.sn,λz=>{(o1.pu z).1.trans (o2.pu rfl).1,(o1.pu z).2},o1.le} ((JO o1.sq ha r).later o1.sn)
end
end L2.Q
namespace L2
open PySem PySem.Spec PySem.SeqAt PyProof.Rows
section
variable {X:Cx}
def yM:kU X newDict (.dT []) :=
 {λpins s σ H Q E I h=>wpAny_newObj_type (h _ _ (VR _) I.fresh (λb o e=>V6 _ e) (I.laid (t':=s.toks) (λ_ _ q=>V6 _ q) (VR _) (Cz _ I.big)))}
def A8 {k v:Expr}{tk tv:TE}{a:Addr}(hx:X.xe=λ_ _=>False)(hu:X.A.units<Yo)(hk:PE X k tk)(hv:PE X v tv):
  oX X (gI (Cu k v (.ref a) X.env)) (λN σ H=>tk σ H λy H1=>tv σ H1 λv H2=>∃kvs key b,H2 a=some (.dT kvs)/\y=.ref b/\H2 b=some (.tup (key.map kV))/\kvs.length<Wi/\N σ (upd H2 a (.dT (putK kvs key v)))):=by
 intro pins s σ H N kk Q E I h hN;unfold gI Cu;refine VV (VV (bG (dW hx (hk pins s σ H _ I h)) λu s1 i7=>?_));obtain⟨y,H1,I1,r1,q⟩:=i7;refine VV (Xo (bG (dW hx (hv pins s1 σ H1 _ I1 q)) λw' s2 oJ=>?_));obtain⟨v,H2,I2,r2,kvs,key,b,e,ey,eb,l,q2⟩:=oJ;subst ey;cases (show u=Value.ref b from r1)
 refine VV (XZ (Xo ?_));obtain⟨z,hd,xs,rel,dd⟩:=MD I2.bY e;have hz:xs.length<=Wi:=by rw[<- Paired.length rel];exact z
 have hl:(putK kvs key v).length<=Wi:=by have:=tU kvs key v;lia
 refine wpAny_dictSet_heap (hsz:=hz) (knd:=Zj (cm X.prog X.w)) hu (vQ I2.bY eb) dd λh' UZ hs=>hN σ _ _ ?_ q2;obtain⟨q,es,ep,hq,h2,h3,h4,_,h5⟩:=UZ;refine Fb I2 (by rw[e];exact True.intro) hs {(q),hq} {hl,hd,_,(rel.put key eb r2).keeps λc ys ec=>?_,q,es,ep,hq,h2,h3,h4,h5}
 rw[aB (F3 ec e (λz=>nomatch z))];exact ec
end
end L2
namespace L2.Q
open PySem PySem.Spec PySem.SeqAt PyProof.Rows
def Rc (P:V2)(w:Wm)(a:Addr)(o:List (List Int×D))(H:Hp):Prop:=∃vs,H a=some (.dT ((o.map λp=>iK p.1).zip vs))/\aL P w H (o.map (·.2)) vs []
def CY {P:V2}{w:Wm}{a:Addr}:wz a (Rc P w a):=⟨λo H H' s h=>by
  obtain⟨vs,h1,h2⟩:=h;exact{vs,s _ _ h1,h2.keep (λb xs e=>s _ _ e) λc hc=>(nomatch hc)},λo H xs h z=>by
  obtain⟨vs,h1,_⟩:=h;rw[h1]at z;cases z⟩
abbrev Rh (X:Cx)(C:Cfg)(a:Addr)(φk φ:aQ):lF:=λN σ H=>tQ X (C.u λc=>c=a) true φk σ H λy H1=>tQ X (C.u λc=>c=a) true φ σ H1 λv H2=>∃kvs key b,H2 a=some (.dT kvs)/\y=.ref b/\H2 b=some (.tup (key.map kV))/\kvs.length<Wi/\N σ (upd H2 a (.dT (putK kvs key v)))
def Ct (φk φ:aQ)(o:List (List Int×D))(β:a9)(N:a9->List (List Int×D)->Prop):Prop:=φk β λkd _ β2=>φ β2 λx _ β3=>∃t,kd=.tup (t.map D.int)/\x.flat=true/\l8 o t=none/\o.length<Wi/\N β3 (o++[(t,x)])
section
variable {X:Cx}{C:Cfg}{W0:Addr->Prop}{T:List Nat}{σ0:St}{H1:Hp}{a:Addr}{Hb:Hp}{Wb:Addr->Prop}{φ φk:aQ}
def Au (h0:C.H0 a=none)(ha:H1 a=none)(GL:∀β R R',(∀d k β,R d k β->R' d k β)->φk β R->φk β R')(φm:∀β R R',(∀d k β,R d k β->R' d k β)->φ β R->φ β R'){β:a9}{o:List (List Int×D)}{σ:St}{H:Hp}{N:a9->List (List Int×D)->Prop}(s:rQ X C W0 T σ0 H1 a Hb Wb (Rc X.prog X.w a) β o σ H)(q:Ct φk φ o β N):
  Rh X C a φk φ (λσ' H'=>∃β' o',rQ X C W0 T σ0 H1 a Hb Wb (Rc X.prog X.w a) β' o' σ' H'/\N β' o') σ H:=by
 obtain⟨own,s⟩:=s;refine{β,own,s.sq,GL _ _ _ (λkd kk β5 q v5 H5 oF o5 r5=>?_) q};obtain⟨Oh,rfl⟩:=o5.pu rfl;refine{β5,_,o5.sq,φm _ _ _ (λxd kx β6 y7 v H6 Bb o6 r6=>?_) q};obtain⟨t,e1,f,hn,hz,q2⟩:=y7;obtain⟨sm,rfl⟩:=o6.pu rfl;have s6:=s.next CY o6.sq (λ_ z=>z) (Oh.trans sm) (λ_ _=>rfl)
 subst e1;obtain⟨b,us,rfl,hb,rt⟩:=r5.rep;rw[L2.bw rt]at hb;obtain⟨vs,at',os⟩:=s6.ac;have Tq:Own X.prog X.w H6 xd v []:=eG f r6.rep;have l:(o.map λp=>iK p.1).length=vs.length:=by rw[VS,os.length,VS]
 have Jg:putK ((o.map λp=>iK p.1).zip vs) (iK t) v=((o++[(t,xd)]).map λp=>iK p.1).zip (vs++[v]):=by
  rw[AB v (G3 os hn),Wv,List.zip_append l];rfl
 have kt:∀c xs,H6 c=some (.tup xs)->upd H6 a (.dT (putK ((o.map λp=>iK p.1).zip vs) (iK t) v)) c=some (.tup xs):=λc xs z=>by rw[aB (λz'=>by rw[z',at']at z;cases z)];exact z
 refine{_,iK t,b,at',rfl,by rw[Gh];exact sm _ _ hb,by rw[List.length_zip,<- l,Nat.min_self,VS];exact hz,β6,o++[(t,xd)],{_,s6.put h0 ha at' (λxs z=>by cases z) {vs++[v],by rw[ao,Jg],?_}},q2}
 rw[Wv];exact(os.keep kt (A:=[]) λc hc=>by cases hc).append (aL.one (Tq.keep kt (A:=[]) λc hc=>by cases hc))
end
def Hz (lk:List (Option Nat))(ι:cz)(γ:c8)(τ:aZ)(φk φ:aQ):aQ:=λβ R=>ι β λds k β1=>hold k false/\iF γ τ (Ct φk φ) ds k (cu lk β1) [] λβf o=>ff (cu lk β1) βf/\R (dA o) .own β1
section
variable {X:Cx}{C:Cfg}{lk:List (Option Nat)}{γ:c8}{τ:aZ}{φ φk:aQ}{T:List Nat}
variable {scope:YA}{tg cB ke elt:Expr}{ifs:List Expr}{ι:cz}{pi:Bool}{pos:Pos}{i:Nat}
def U0 (hu:X.A.units<Yo)(N':List Str)(lk:List (Option Nat))(L:gU X.env.scope.names X.N scope N' lk=true)(rm:N'.Nodup)(hc:X.calm=true)(hi:zJ X C pi tg cB ι)
  (oK:∀a cl c s H ex,wy (aC X scope N' cl c s H ex) (C.u λc=>c=a) tg T γ) (lq:∀a cl c s H ex,oW (aC X scope N' cl c s H ex) (C.u λc=>c=a) true ifs τ)
  (Sh:∀a cl c s H ex,PQ (aC X scope N' cl c s H ex) (C.u λc=>c=a) true ke φk) (lV:∀a cl c s H ex,PQ (aC X scope N' cl c s H ex) (C.u λc=>c=a) true elt φ) (hT:T.all (λi=>match lk[i]? with|some (some _)=>false|_=>true)=true:=by rfl)
  (hs:∀x,WS cB X.env x=pure x:=by intro _;rfl):PQ X C pi (.DictComp ke elt [{tg,cB,ifs,0}] scope pos) (Hz lk ι γ τ φk φ):=by
 have L:=Links.of L;have B7:∀i∈T,∀j,lk[i]?≠some (some j):=λi hi j e=>by
  have:=X1.mp hT i hi;rw[e]at this;cases this
 have γm:=(oK 0 [] 0 X.s₀ X.H₀ []).mono;have τm:=(lq 0 [] 0 X.s₀ X.H₀ []).mono;have φm:=(lV 0 [] 0 X.s₀ X.H₀ []).mono;have GL:=(Sh 0 [] 0 X.s₀ X.H₀ []).mono;refine{λβ R R' k h=>hi.mono β _ _ (λds kd β1 q=>{q.1,q.2.mono λ_ _ z=>{z.1,k _ _ _ z.2}}) h,?_};refine(gS (g:={tg,cB,ifs,0}) (gs:=[]) (tg:=λa=>Dv X C a T γ) (tt:=λa=>j7 X (C.u λc=>c=a) true τ) (ta:=λa=>Rh X C a φk φ)
  L hc yM rfl rfl (λ_ _=>MQ) hi.pi (λa cl c s H ex=>{(oK a cl c s H ex).pg,(lq a cl c s H ex).pt,A8 (X:=aC X scope N' cl c s H ex) rfl hu (Sh a cl c s H ex).pe (lV a cl c s H ex).pe}) hs).pre λσ H Q h=>?_
 obtain⟨β,own,s,h⟩:=h;refine{β,own,s,hi.mono β _ _ (λds k β1 h J H1 aF o1 it a ha=>?_) h};obtain⟨hk,q⟩:=h;refine jz (T:=T) (CY (P:=X.prog) (w:=X.w)) γm τm (λj hj=>hj) (bQ L rm) B7 o1.sq ha hk it {[],ao,(show aL _ _ _ [] [] [] from {(rfl),rfl})} (o1.sq.wd (λxs z=>by cases z) ha (bQ L rm))
  (λHb Wb βx ox σx Hx Nx h0 sx qx=>Au h0 ha GL φm sx qx) q λo H' q o2 r=>?_
 refine q _ _ aF {o2.sq,o1.sn.trans o2.sn,λz=>{(o1.pu z).1.trans (o2.pu rfl).1,(o1.pu z).2},o1.le} ?_;obtain⟨vs,at',os⟩:=r;refine{[a],HP at' os,by simp,λc hc=>?_}
 rw[VU.mp hc];exact{Wz λz=>o1.sn.d a z ha,λh=>by obtain⟨j,hj⟩:=h;exact(o1.sq.dm j a hj).1 ha,Wz λz=>o1.sq.iN a z ha}
end
section
variable {X:Cx}{C:Cfg}{e a:Expr}{φ:aQ}{p:Bool}{pos p2 p3 p4:Pos}{j:Nat}
def DW {te:TE}(he:PE X e te):PE X (.Subscript e (.Slice none none (some (.UnaryOp .USub (.Constant (.int 1) j p3) p4)) p2) pos) (λσ H Q=>te σ H λx H1=>∃a xs,x=.ref a/\H1 a=some (.lst xs)/\∀p,H1 p=none->Q (.ref p) (upd H1 p (.lst xs.reverse))):=by
 intro pins s σ H Q I h;refine Subscript_ (bG (he pins s σ H _ I h) λv s1 i7=>?_);obtain⟨x,H1,I1,r1,q1⟩:=i7;refine wpAny_Slice ?_;rw[evalPart_none];refine Wd (Wd ?_);rw[evalPart_some];refine bG (FY (X:=X) (pos:=p4) z8 (bb (i:=1) (j:=j) (pos:=p3)) pins s1 σ H1 (λv H'=>v=.int (-1)/\H'=H1) I1 {1,rfl,rfl,rfl}) λu s3 oJ=>?_;obtain⟨y,H3,I3,r3,ey,eH⟩:=oJ;subst ey eH;obtain⟨tk,rfl⟩:=(show ∃t,u=Value.int (-1) t from r3)
 have I4:Inv X pins σ H3 {s3 with heap:=s3.heap.push {cls:=.type "slice",data:=.fields #[.none,.none,.int (-1) tk]}}:=I3.kept (t':=s3.toks) λb ob q=>V6 _ q
 have Nw:(s3.heap.push {cls:=.type "slice",data:=.fields #[.none,.none,.int (-1) tk]}).IsSliceOf s3.heap.objs.size .none .none (.int (-1) tk):=Heap.IsSliceOf.new ..
 generalize Ud:({s3 with heap:=s3.heap.push {cls:=.type "slice",data:=.fields #[.none,.none,.int (-1) tk]}}:VY)=s4 at I4 ⊢
 have Pn:s4.heap.IsSliceOf s3.heap.objs.size .none .none (.int (-1) tk):=by rw[<- Ud];exact Nw
 have main:∃T id,typeLookup (.type T) "__getitem__" = pure (some (.builtin id))/\s4.TypeIs v T/\WM (model X.prog X.w) X.A (getItem v (.ref s3.heap.objs.size)) (EP X pins σ Q) X.xe s4:=by
  obtain⟨a,xs,rfl,hx,q⟩:=q1;cases (show v=Value.ref a from r1)
  obtain⟨its,r,ht,hz⟩:=I4.list (eQ.of hx);have hlen:=r.length;refine{"list",_,ZV.lookup,ht.isList.typeIs,?_};refine wpAny_getItem_list_slice ht.isList Pn .none .none (.int (-1) tk) (by simp) ?_ (by rw[Wq] <;> lia)
  rw[HT.oz];refine{.ref s4.heap.objs.size,_,I4.laid (t':=s4.toks) (o:=.lst xs.reverse) (λb ob q=>V6 _ q) (VR _) ?_,rfl,q _ (I4.bY.fresh (VR _))};exact{by rw[List.length_reverse];lia,_,0,by simpa using Vals.rev r,WT _ rfl}
 obtain⟨T,id,hT,ht,hg⟩:=main;show WM (model X.prog X.w) X.A (subscriptTail e (.Slice none none (some (.UnaryOp .USub (.Constant (.int 1) j p3) p4)) p2) v (.ref s3.heap.objs.size)) (EP X pins σ Q) X.xe s4;exact tail_any (ops:=[v,.ref s3.heap.objs.size]) ht hT hg (by with_unfolding_all rfl)
def MG:D->Option D
 |.lst ds=>some (.lst ds.reverse)
 |_=>none
def KH (φ:aQ):aQ:=λβ R=>φ β λx k β1=>∃d,MG x=some d/\kN NL d k.wk λk'=>R d k' β1
def DS {j:Nat}(ha:PQ X C p a φ):PQ X C p (.Subscript a (.Slice none none (some (.UnaryOp .USub (.Constant (.int 1) j p3) p4)) p2) pos) (KH φ) :=
 ⟨λβ R R' k h=>ha.mono β _ _ (λx kx β1 h=>by obtain⟨d,e,q⟩:=h;exact{d,e,q.mono λ_ z=>k _ _ _ z}) h,
  (DW ha.pe).pre λσ H Q h=>by
    obtain⟨β,own,s,h⟩:=h;refine tQ.of ha s h λd k β1 v H1 aF h o1 r1=>?_;obtain⟨d',e,q⟩:=h;have rr:=aD.a8 CP r1.rep;cases d with
    |lst ds =>
      cases e;obtain⟨c,vs,rfl,h1,n1,rs⟩:=rr;refine{c,vs,rfl,h1,λp hp=>?_};have sm:aE H1 (upd H1 p (.lst vs.reverse)):=aE.new hp;have hw:¬ av C (Wn aF) k.wk p:=λz=>o1.sq.Di _ p z hp;have r2:aD X.prog X.w (av C (Wn aF) k.wk) (upd H1 p (.lst vs.reverse)) (.lst ds.reverse) (.ref p):={p,_,rfl,ao,hw,(ai.rev rs).same sm};obtain⟨k',q,r⟩:=KV.kN (Z:=(H,Wn own)) FL r2 (λn=>jH (H:=H1) o1.sq.xQ o1.sq.iN (λa z e=>o1.sn.d a z e) n {p,_,rfl,ao,λz=>z hp,ai.flat n ((ai.rev rs).same sm)}) q;exact q _ _ aF (o1.same sm) r
    |_=>cases e⟩
end
section
variable {X:Cx}{C:Cfg}{a:Expr}{φ:aQ}{p:Bool}
def OG (φ:aQ):aZ:=λβ R=>φ β λd _ β'=>∃ds,d=.lst ds/\R (!ds.isEmpty) β'
def DP (ha:PQ X C p a φ)(he:∀whole,Z9 a X.env whole=(do let v <- whole;Y8 a.pos;holding [v] (truthy v)):=by intro _;rfl):uZ X C p a (OG φ) :=
 ⟨λβ R R' k h=>ha.mono β _ _ (λd kd β' h=>by obtain⟨b,e,q⟩:=h;exact{b,e,k _ _ q}) h,(AE ha.pe he).pre λσ H Q h=>by
  obtain⟨β,own,s,h⟩:=h;refine tQ.of ha s h λd k β' v H1 aF h o1 r1=>?_;obtain⟨ds,e,q⟩:=h;subst e;obtain⟨c,vs,rfl,h1,n1,rs⟩:=r1.rep;refine{!ds.isEmpty,.inl {vs,eQ.of h1,?_},q H1 aF o1};have:=rs.length;cases ds <;> cases vs <;> first|rfl|cases this⟩
end
section
def EE {i:Int}{n:Nat}{acc:Array VT}(h:ItemsOf (λk v=>∃t,v=Value.int (i+k*1) t) acc n):Vals ((VW n).map λk:Nat=>V.int (i+(k:Int))) acc.toList:=by
 have key:∀(l:List VT) (i:Int),(∀j v,l[j]?=some v->∃t,v=Value.int (i+((j:Nat):Int)) t)->Vals ((VW l.length).map λk:Nat=>V.int (i+(k:Int))) l:=λl=>by
  induction l with
  |nil=>intro i _;exact .nil
  |cons x r ih =>
   intro i h;rw[V7,List.range_succ_eq_map,Ws,WR];obtain⟨t,rfl⟩:=h 0 x rfl;refine .cons {(t),rfl} ?_;have:=ih (i+1) λj v e=>by
    obtain⟨t,e'⟩:=h (j+1) v (by simpa using e)
    exact{t,by rw[e'];congr 1;lia}
   refine(show (λk:Nat=>V.int (i+(k:Int))) ∘ Nat.succ=λk:Nat=>V.int (i+1+(k:Int)) from ?_)▸this
   funext k
   show V.int (i+((k+1:Nat):Int))=_
   congr 1
   lia
 have:=key acc.toList i λj v e=>by
  obtain⟨t,e'⟩:=h.2 j v (by simpa using e)
  exact{t,by rw[e',Int.mul_one]}
 rwa [Wa,h.1]at this
theorem sL {P:V2}{w:Wm}{H:Hp}{i:Int}:∀(l:List Nat),aL P w H (l.map λk:Nat=>D.int (i+(k:Int))) (l.map λk:Nat=>V.int (i+(k:Int))) []
 |[]=>{(rfl),rfl}
 |k::l=>{_,_,[],[],rfl,rfl,{(rfl),rfl},sL l}
end
end L2.Q
namespace Mx
structure Sr (α:Type) where
 zero:α
 one:α
 add:α->α->α
 mul:α->α->α
structure Sr.Ok {α:Type}(S:Sr α):Prop where
 ac:∀a b,S.add a b=S.add b a
 aa:∀a b c,S.add (S.add a b) c=S.add a (S.add b c)
 za:∀a,S.add S.zero a=a
 mc:∀a b,S.mul a b=S.mul b a
 ma:∀a b c,S.mul (S.mul a b) c=S.mul a (S.mul b c)
 om:∀a,S.mul S.one a=a
 zm:∀a,S.mul S.zero a=S.zero
 di:∀a b c,S.mul a (S.add b c)=S.add (S.mul a b) (S.mul a c)
section
variable {α:Type}(S:Sr α)
def bf (n:Nat)(f:Nat->α):α:=match n with
 |0=>S.zero
 |n+1=>S.add (bf n f) (f n)
noncomputable def F (u:α)(w:Nat->Nat->α):Nat->Nat->Nat->α
 |0,_,_=>S.one
 |_+1,0,_=>S.one
 |n+1,len+1,i=>S.add (S.mul u (F u w n len (i+1))) (bf S len λr=>S.mul (w i (i+1+r)) (S.mul (F u w n r (i+1)) (F u w n (len-1-r) (i+r+2))))
noncomputable def G (u:α)(w:Nat->Nat->α):Nat->Nat->Nat->α
 |0,_,_=>S.one
 |_+1,0,_=>S.one
 |n+1,len+1,i=>S.add (S.mul u (G u w n len i)) (bf S len λr=>S.mul (w (i+r) (i+len)) (S.mul (G u w n r i) (G u w n (len-1-r) (i+r+1))))
end
section
variable {α:Type}{S:Sr α}
theorem bo {f g:Nat->α}:∀{n:Nat},(∀r,r<n->f r=g r)->bf S n f=bf S n g
 |0,_=>rfl
 |n+1,h=>by
  unfold bf;rw[bo λr hr=>h r (XC hr),h n (XF n)]
variable (O:S.Ok)
include O
theorem Sr.Ok.a4 (a b c d:α):S.add (S.add a b) (S.add c d)=S.add (S.add a c) (S.add b d):=by
 rw[O.aa,O.aa,<- O.aa b c d,O.ac b c,O.aa c b d]
theorem Sr.Ok.az (a:α):S.add a S.zero=a:=by rw[O.ac,O.za]
theorem Sr.Ok.mz (a:α):S.mul a S.zero=S.zero:=by rw[O.mc,O.zm]
theorem Sr.Ok.mo (a:α):S.mul a S.one=a:=by rw[O.mc,O.om]
theorem Sr.Ok.JZ (a b c:α):S.mul a (S.mul b c)=S.mul b (S.mul a c):=by rw[<- O.ma,O.mc a b,O.ma]
theorem jw {f g:Nat->α}:∀{n:Nat},bf S n (λr=>S.add (f r) (g r))=S.add (bf S n f) (bf S n g)
 |0=>(O.za _).symm
 |n+1=>by unfold bf;rw[jw,O.a4]
theorem gJ {f:Nat->α}{a:α}:∀{n:Nat},bf S n (λr=>S.mul a (f r))=S.mul a (bf S n f)
 |0=>(O.mz _).symm
 |n+1=>by unfold bf;rw[gJ,O.di]
theorem me {f:Nat->α}:∀{n:Nat},bf S (n+1) f=S.add (f 0) (bf S n λr=>f (r+1))
 |0=>by show S.add S.zero (f 0)=S.add (f 0) S.zero;rw[O.ac]
 |n+1=>by
  show S.add (bf S (n+1) f) (f (n+1))=S.add (f 0) (S.add (bf S n λr=>f (r+1)) (f (n+1)));rw[me,O.aa]
theorem sj {A:Nat->Nat->α}:∀{m:Nat},bf S m (λr=>bf S (m-1-r) λs=>A r (r+1+s))=bf S m λt=>bf S t λq=>A q t
 |0=>rfl
 |m+1=>by
  show S.add (bf S m λr=>bf S (m+1-1-r) λs=>A r (r+1+s)) (bf S (m+1-1-m) λs=>A m (m+1+s))=S.add (bf S m λt=>bf S t λq=>A q t) (bf S m λq=>A q m);rw[show m+1-1-m=0 by lia,<- sj (m:=m),show bf S 0 (λs=>A m (m+1+s))=S.zero from rfl,O.az,<- jw O]
  refine bo λr hr=>?_;rw[show m+1-1-r=(m-1-r)+1 by lia]
  show S.add _ (A r (r+1+(m-1-r)))=_;rw[show r+1+(m-1-r)=m by lia]
omit O in
theorem n6 {u:α}{w:Nat->Nat->α}:∀{n m len i:Nat},len<=n->len<=m->F S u w n len i=F S u w m len i
 |0,0,_,_,_,_=>rfl
 |0,m+1,0,_,_,_=>rfl
 |0,m+1,len+1,_,h,_=>by lia
 |n+1,0,0,_,_,_=>rfl
 |n+1,0,len+1,_,_,h=>by lia
 |n+1,m+1,0,_,_,_=>rfl
 |n+1,m+1,len+1,i,h1,h2=>by
  unfold F;rw[n6 (n:=n) (m:=m) (by lia) (by lia)]
  congr 1
  refine bo λr hr=>?_;rw[n6 (n:=n) (m:=m) (len:=r) (by lia) (by lia),n6 (n:=n) (m:=m) (len:=len-1-r) (by lia) (by lia)]
omit O in
theorem nZ {u:α}{w:Nat->Nat->α}:∀{n m len i:Nat},len<=n->len<=m->G S u w n len i=G S u w m len i
 |0,0,_,_,_,_=>rfl
 |0,m+1,0,_,_,_=>rfl
 |0,m+1,len+1,_,h,_=>by lia
 |n+1,0,0,_,_,_=>rfl
 |n+1,0,len+1,_,_,h=>by lia
 |n+1,m+1,0,_,_,_=>rfl
 |n+1,m+1,len+1,i,h1,h2=>by
  unfold G;rw[nZ (n:=n) (m:=m) (by lia) (by lia)]
  congr 1
  refine bo λr hr=>?_;rw[nZ (n:=n) (m:=m) (len:=r) (by lia) (by lia),nZ (n:=n) (m:=m) (len:=len-1-r) (by lia) (by lia)]
end
def fA {α:Type}(S:Sr α)(u:α)(w:Nat->Nat->α)(len i:Nat):α:=F S u w len len i
def gA {α:Type}(S:Sr α)(u:α)(w:Nat->Nat->α)(len i:Nat):α:=G S u w len len i
section
variable {α:Type}{S:Sr α}{u:α}{w:Nat->Nat->α}
def E6 {i:Nat}:fA S u w 0 i=S.one:=rfl
def EW {i:Nat}:gA S u w 0 i=S.one:=rfl
def jV {len i:Nat}:fA S u w (len+1) i=S.add (S.mul u (fA S u w len (i+1))) (bf S len λr=>S.mul (w i (i+1+r)) (S.mul (fA S u w r (i+1)) (fA S u w (len-1-r) (i+r+2)))):=by
 show F S u w (len+1) (len+1) i=_;unfold F
 congr 1
 refine bo λr hr=>?_;rw[n6 (n:=len) (m:=r) (len:=r) (by lia) (by lia),n6 (n:=len) (m:=len-1-r) (len:=len-1-r) (by lia) (by lia)]
 rfl
def rq {len i:Nat}:gA S u w (len+1) i=S.add (S.mul u (gA S u w len i)) (bf S len λr=>S.mul (w (i+r) (i+len)) (S.mul (gA S u w r i) (gA S u w (len-1-r) (i+r+1)))):=by
 show G S u w (len+1) (len+1) i=_;unfold G
 congr 1
 refine bo λr hr=>?_;rw[nZ (n:=len) (m:=r) (len:=r) (by lia) (by lia),nZ (n:=len) (m:=len-1-r) (len:=len-1-r) (by lia) (by lia)]
 rfl
def MC (O:S.Ok):∀(len i:Nat),fA S u w len i=gA S u w len i:=by
 intro len
 induction len using YU with
 |_ len ih =>
 intro i
 match len,ih with
 |0,_=>rfl
 |1,_=>rw[jV,rq];rfl
 |m+2,ih =>
  have h:∀l,l<m+2->∀j,gA S u w l j=fA S u w l j:=λl hl j=>(ih l hl j).symm;have fl:∀l,l+1<m+2->∀j,fA S u w (l+1) j=S.add (S.mul u (fA S u w l j)) (bf S l λr=>S.mul (w (j+r) (j+l)) (S.mul (fA S u w r j) (fA S u w (l-1-r) (j+r+1)))):=λl hl j=>by
   rw[ih (l+1) hl j,rq,h l (by lia)]
   congr 1
   refine bo λr hr=>?_;rw[h r (by lia),h (l-1-r) (by lia)]
  rw[jV,rq,h (m+1) (by lia)]
  have L1:S.mul u (fA S u w (m+1) (i+1))=S.add (S.mul u (S.mul u (fA S u w m (i+1)))) (bf S m λs=>S.mul u (S.mul (w (i+1+s) (i+1+m)) (S.mul (fA S u w s (i+1)) (fA S u w (m-1-s) (i+1+s+1))))):=by
   rw[fl m (by lia),O.di,gJ O]
  have L2:bf S (m+1) (λr=>S.mul (w i (i+1+r)) (S.mul (fA S u w r (i+1)) (fA S u w (m+1-1-r) (i+r+2)))) =
    S.add (S.add (bf S m λr=>S.mul u (S.mul (w i (i+1+r)) (S.mul (fA S u w r (i+1)) (fA S u w (m-1-r) (i+r+2)))))
     (bf S m λr=>bf S (m-1-r) λs=>S.mul (S.mul (w i (i+1+r)) (fA S u w r (i+1))) (S.mul (w (i+(r+1+s)+1) (i+m+1)) (S.mul (fA S u w ((r+1+s)-1-r) (i+r+2)) (fA S u w (m-1-(r+1+s)) (i+(r+1+s)+2))))))
     (S.mul (w i (i+1+m)) (fA S u w m (i+1))):=by
   show S.add (bf S m _) _=_
   congr 1
   ·rw[<- jw O];refine bo λr hr=>?_;rw[show m+1-1-r=(m-1-r)+1 by lia,fl (m-1-r) (by lia),O.di,O.di]
    congr 1
    ·rw[O.JZ (fA S u w r (i+1)) u,O.JZ (w i (i+1+r)) u]
    ·rw[<- O.ma,<- gJ O];refine bo λs hs=>?_
     congr 2
     ·rw[show i+r+2+s=i+(r+1+s)+1 by lia,show i+r+2+(m-1-r)=i+m+1 by lia]
     ·rw[show r+1+s-1-r=s by lia,show m-1-r-1-s=m-1-(r+1+s) by lia,show i+r+2+s+1=i+(r+1+s)+2 by lia]
   ·dsimp only;rw[show m+1-1-m=0 by lia,E6,O.mo]
  have R1:S.mul u (fA S u w (m+1) i)=S.add (S.mul u (S.mul u (fA S u w m (i+1)))) (bf S m λr=>S.mul u (S.mul (w i (i+1+r)) (S.mul (fA S u w r (i+1)) (fA S u w (m-1-r) (i+r+2))))):=by
   rw[jV,O.di,gJ O]
  have R2:bf S (m+1) (λr=>S.mul (w (i+r) (i+(m+1))) (S.mul (gA S u w r i) (gA S u w (m+1-1-r) (i+r+1)))) =
    S.add (S.mul (w i (i+1+m)) (fA S u w m (i+1))) (S.add (bf S m λs=>S.mul u (S.mul (w (i+1+s) (i+1+m)) (S.mul (fA S u w s (i+1)) (fA S u w (m-1-s) (i+1+s+1)))))
     (bf S m λt=>bf S t λq=>S.mul (S.mul (w i (i+1+q)) (fA S u w q (i+1))) (S.mul (w (i+t+1) (i+m+1)) (S.mul (fA S u w (t-1-q) (i+q+2)) (fA S u w (m-1-t) (i+t+2)))))):=by
   rw[me O]
   congr 1
   ·rw[EW,O.om,h _ (by lia),show i+0=i by lia,show m+1-1-0=m by lia,show i+(m+1)=i+1+m by lia]
   ·rw[<- jw O];refine bo λt ht=>?_;rw[h (t+1) (by lia),h _ (by lia),jV,O.mc (S.add _ _),O.di,O.di]
    congr 1
    ·rw[O.mc (fA S u w (m+1-1-(t+1)) (i+(t+1)+1)),O.ma u,O.JZ _ u,show m+1-1-(t+1)=m-1-t by lia,show i+(t+1)=i+1+t by lia,show i+(m+1)=i+1+m by lia]
    ·rw[<- O.ma,<- gJ O];refine bo λq hq=>?_;rw[show m+1-1-(t+1)=m-1-t by lia,show i+(t+1)+1=i+t+2 by lia,show i+(t+1)=i+t+1 by lia,show i+(m+1)=i+m+1 by lia]
     generalize w (i+t+1) (i+m+1)=a;generalize fA S u w (m-1-t) (i+t+2)=b;generalize w i (i+1+q)=c;generalize fA S u w q (i+1)=d;generalize fA S u w (t-1-q) (i+q+2)=e;rw[O.mc (S.mul a b),O.ma c,O.ma c,O.ma d,O.JZ d e]
     congr 1
     rw[O.JZ e d]
     congr 1
     rw[O.JZ e a]
  rw[L1,L2,R1,R2,sj O (A:=λr t=>S.mul (S.mul (w i (i+1+r)) (fA S u w r (i+1))) (S.mul (w (i+t+1) (i+m+1)) (S.mul (fA S u w (t-1-r) (i+r+2)) (fA S u w (m-1-t) (i+t+2)))))];generalize S.mul u (S.mul u (fA S u w m (i+1)))=a;generalize (bf S m λs=>S.mul u (S.mul (w (i+1+s) (i+1+m)) (S.mul (fA S u w s (i+1)) (fA S u w (m-1-s) (i+1+s+1)))))=b;generalize (bf S m λr=>S.mul u (S.mul (w i (i+1+r)) (S.mul (fA S u w r (i+1)) (fA S u w (m-1-r) (i+r+2)))))=c;generalize (bf S m λt=>bf S t λq=>S.mul (S.mul (w i (i+1+q)) (fA S u w q (i+1))) (S.mul (w (i+t+1) (i+m+1)) (S.mul (fA S u w (t-1-q) (i+q+2)) (fA S u w (m-1-t) (i+t+2)))))=d;generalize S.mul (w i (i+1+m)) (fA S u w m (i+1))=e;rw[O.aa,O.aa,O.aa,<- O.aa b,O.ac b c,O.aa c b,O.ac d e,<- O.aa b e,O.ac b e,O.aa e b]
end
end Mx
namespace L2.Q
open PySem PySem.Spec PySem.SeqAt PyProof.Rows
structure oZ (mg:Str->Option VT):Prop extends Bs2 mg where
 sum:mg "sum" = none
def tI (p:Nat×Nat):List Int:=[(p.1:Int),(p.2:Int)]
def qw {p q:Nat×Nat}(h:tI p=tI q):p=q:=by
 unfold tI at h;injection h with h1 h2
 injection h2 with h2 _
 exact Prod.ext (YO h1) (YO h2)
def cU (ps:List (Nat×Nat)):D:=.lst (ps.map λp=>kD (tI p))
def j8 (n:Nat)(ps:List (Nat×Nat)):D:=.tup [.int n,cU ps]
structure qi (n:Nat)(ps:List (Nat×Nat)):Prop where
 lt:∀p∈ps,p.1<p.2/\p.2<n
 nd:ps.Nodup
 le:n<=80
 sm:ps.length<=400
noncomputable def dM (l:List Nat):List D:=l.map λ(k:Nat)=>D.int (k:Int)
def iC (ps:List (Nat×Nat))(i:Nat):List Nat:=(ps.filter λp=>decide (p.1=i)).map (·.2)
def br {ps:List (Nat×Nat)}{i k:Nat}:k∈iC ps i↔(i,k)∈ps:=by
 unfold iC;rw[V4];constructor
 ·rintro⟨p,hp,rfl⟩;obtain⟨h1,h2⟩:=VZ.mp hp;rw[<- of_decide_eq_true h2];exact h1
 ·intro h;exact{(i,k),VZ.mpr {h,by simp},rfl}
def uW (n:Nat)(ps:List (Nat×Nat)):D:=.lst ((VW n).map λi=>.lst (dM (iC ps i)))
def wD (ps:List (Nat×Nat))(w:Nat×Nat->Int):D:=dA (ps.map λp=>(tI p,.int (w p)))
def G2 {ps:List (Nat×Nat)}{w:Nat×Nat->Int}{p:Nat×Nat}(h:p∈ps):l8 (ps.map λp=>(tI p,.int (w p))) (tI p)=some (.int (w p)):=by
 unfold l8
 induction ps with
 |nil=>cases h
 |cons q ps ih =>
  rw[Ws,Xa]
  by_cases e:q=p
  ·rw[e,decide_eq_true rfl];rfl
  ·rw[decide_eq_false λz=>e (qw z)];exact ih ((VX.mp h).resolve_left λz=>e z.symm)
def Ei {ps:List (Nat×Nat)}{w:Nat×Nat->Int}{p:Nat×Nat}(h:p∉ps):l8 (ps.map λp=>(tI p,.int (w p))) (tI p)=none:=by
 unfold l8;rw[Option.map_eq_none_iff,List.find?_eq_none];intro x hx;obtain⟨q,hq,rfl⟩:=V4.mp hx;simp only[decide_eq_true_eq];intro e;exact h (qw e▸hq)
def Jq {ps:List (Nat×Nat)}{w:Nat×Nat->Int}{i k:Nat}(h:(i,k)∈ps):xR (wD ps w) (.tup [.int (i:Int),.int (k:Int)])=some (.int (w (i,k))):=by
 have:=Fj (kvs:=ps.map λp=>(tI p,D.int (w p))) (t:=tI (i,k));rw[G2 h]at this;exact this
def dS {α:Type}{n i:Nat}{f:Nat->α}(h:i<n):((VW n).map f)[i]?=some (f i):=by
 rw[Wg,XN h];rfl
def xv {ds:List D}{x:Int}{i:Nat}{d:D}(hx:x=(i:Int))(h:ds[i]?=some d):zO (.lst ds) (.int x)=some d:=by rw[hx];exact Fh h
def Lu {n:Nat}{ps:List (Nat×Nat)}{x:Int}{i:Nat}(hx:x=(i:Int))(h:i<n):zO (uW n ps) (.int x)=some (.lst (dM (iC ps i))):=xv hx (dS h)
def qv (L:Nat)(T:Nat->Int):List D:=(VW L).map λl=>.int (T l)
def gz (n:Nat)(L:Nat->Nat)(T:Nat->Nat->Int):D:=.lst ((VW (n+1)).map λi=>.lst (qv (L i) λl=>T l i))
def ll {L:Nat}{T:Nat->Int}{x:Int}{l:Nat}(hx:x=(l:Int))(h:l<L):zO (.lst (qv L T)) (.int x)=some (.int (T l)):=xv hx (dS h)
def lj {n:Nat}{L:Nat->Nat}{T:Nat->Nat->Int}{x:Int}{i:Nat}(hx:x=(i:Int))(h:i<=n):zO (gz n L T) (.int x)=some (.lst (qv (L i) λl=>T l i)):=xv hx (dS (by lia))
def i3 (ps:List (Nat×Nat))(w:Nat×Nat->Int)(T:Nat->Nat->Int)(i j:Nat):Int:=(oH ((((iC ps i).filter λk=>decide (k<j)).map λk=>w (i,k)+T (k-i-1) (i+1)+T (j-k-1) (k+1))++[T (j-i-1) (i+1)])).getD 0
def pE {l:List Int}{x:Int}:oH (l++[x])=some ((oH (l++[x])).getD 0):=by
 cases l with
 |nil=>rfl
 |cons a l=>rfl
def m6 {ps:List (Nat×Nat)}{w:Nat×Nat->Int}{T T':Nat->Nat->Int}{i j:Nat}(hp:∀p∈ps,p.1<p.2)(hj:i<j)(h:∀l,l<j-i->∀a,T l a=T' l a):i3 ps w T i j=i3 ps w T' i j:=by
 unfold i3;have e:((iC ps i).filter λk=>decide (k<j)).map (λk=>w (i,k)+T (k-i-1) (i+1)+T (j-k-1) (k+1))=((iC ps i).filter λk=>decide (k<j)).map λk=>w (i,k)+T' (k-i-1) (i+1)+T' (j-k-1) (k+1):=by
  refine Wu λk hk=>?_;obtain⟨h1,h2⟩:=VZ.mp hk;have h3:=hp _ (br.mp h1);have h4:=of_decide_eq_true h2;dsimp only at h3;rw[h _ (by lia),h _ (by lia)]
 rw[e,h (j-i-1) (by lia)]
def Hc (ps:List (Nat×Nat))(w:Nat×Nat->Int):Nat->Nat->Nat->Int
 |0,_,_=>0
 |_+1,0,_=>0
 |n+1,l+1,i=>i3 ps w (Hc ps w n) i (i+l+1)
theorem sg {ps:List (Nat×Nat)}{w:Nat×Nat->Int}(hp:∀p∈ps,p.1<p.2):∀{n m l i:Nat},l<=n->l<=m->Hc ps w n l i=Hc ps w m l i
 |0,0,_,_,_,_=>rfl
 |0,m+1,0,_,_,_=>rfl
 |0,m+1,l+1,_,h,_=>by lia
 |n+1,0,0,_,_,_=>rfl
 |n+1,0,l+1,_,_,h=>by lia
 |n+1,m+1,0,_,_,_=>rfl
 |n+1,m+1,l+1,i,h1,h2=>by
  unfold Hc;exact m6 hp (by lia) λl' hl a=>sg hp (by lia) (by lia)
def tW (ps:List (Nat×Nat))(w:Nat×Nat->Int)(l i:Nat):Int:=Hc ps w l l i
def jv {ps:List (Nat×Nat)}{w:Nat×Nat->Int}(hp:∀p∈ps,p.1<p.2){l i:Nat}:tW ps w (l+1) i=i3 ps w (tW ps w) i (i+l+1):=by
 show Hc ps w (l+1) (l+1) i=_;unfold Hc;exact m6 hp (by lia) λl' hl a=>sg hp (by lia) (by lia)
def eS (n a:Nat):List (Nat×Nat):=(VW (a+1)).map λb=>(n-1-a,n-a+b)
def qz (n:Nat):List (Nat×Nat):=(VW n).flatMap (eS n)
def wY (p:Nat×Nat):D:=.tup [.int (p.1:Int),.int (p.2:Int)]
def fe (n a b:Nat):List (Nat×Nat):=(eS n a).drop b++((VW n).drop (a+1)).flatMap (eS n)
def iV {n a b:Nat}(h:b<=a):fe n a b=(n-1-a,n-a+b)::fe n a (b+1):=by
 unfold fe eS;rw[W6 (by rw[VS,We];lia)]
 simp
def pY {n a:Nat}(h:a<n):((VW n).drop a).flatMap (eS n)=fe n a 0:=by
 unfold fe;rw[W6 (by rw[We];exact h)]
 simp
def pj {n a:Nat}(h:a+1<n):fe n a (a+1)=fe n (a+1) 0:=by
 rw[<- pY h];unfold fe eS;simp
def vp {n a:Nat}(h:n<=a+1):fe n a (a+1)=[]:=by
 unfold fe eS;rw[List.drop_eq_nil_of_le (by simp),List.drop_eq_nil_of_le (by simpa using h)]
 rfl
def yg {n:Nat}(h:0<n):qz n=fe n 0 0:=by rw[<- pY h];rfl
def b5 {α:Type}{γ:c8}{τ:aZ}{φ:aQ}{l:List α}{f:α->D}{k:Kd}{GB:a9}{K:List D->Prop}(t:α->Bool)(g:α->D)(h0:ff GB GB)(hl:l.length<=Wi)
  (h:∀x∈l,∀(x0:Option B) (o:List D) (J:a9->List D->Prop),o.length<Wi->(t x=true->∀x0,J (x0::GB) (o++[g x]))->(t x=false->∀x0,J (x0::GB) o)->γ (f x) (sk k (f x)) (x0::GB) λβ1=>τ β1 λt β2=>if t=true then φ β2 λx kx β3=>Gf kx x/\o.length<Wi/\J β3 (o++[x]) else J β2 o)
  (q:K ((l.filter t).map g)):lg γ τ φ (l.map f) k (none::GB) K:=by
 refine{λi β o=>i<=l.length/\(∃x0,β=x0::GB)/\o=((l.take i).filter t).map g,{V_ _,{_,rfl},rfl},?_,?_}
 ·rintro i d β o hd ⟨hi,⟨x0,rfl⟩,rfl⟩;rw[Wg]at hd;obtain⟨x,hx,rfl⟩:=Wk.mp hd;have ie:i<l.length:=(Ww.mp hx).1;have hle:(((l.take i).filter t).map g).length<Wi:=by
   rw[VS];have:=YG t (l.take i);rw[WH]at this;lia
  have e:l.take (i+1)=l.take i++[x]:=by rw[Xv,hx];rfl
  refine h x (Xz hx) x0 _ (λβ o=>i+1<=l.length/\(∃x0,β=x0::GB)/\o=((l.take (i+1)).filter t).map g) hle (λht x0=>?_) λht x0=>?_
  ·exact{ie,{_,rfl},by rw[e,Xn,Wv,Xj,if_pos ht];rfl}
  ·exact{ie,{_,rfl},by rw[e,Xn,Wv,Xj,if_neg (by rw[ht];simp)];simp}
 ·rintro β o ⟨_,⟨x0,rfl⟩,rfl⟩;rw[VS,XO];exact{(h0),q}
def a6 {α:Type}{l:List α}:l.filter (λ_=>true)=l:=Yp.mpr λ_ _=>rfl
def nK {a b:List D}(h:a.length+b.length<=1000000):Fn (.lst a) (.lst b)=some (.lst (a++b)):=by
 show (if a.length+b.length<=Wi then _ else _)=_
 rw[if_pos (WG h (by decide))]
theorem fH {α:Type}{f:α->Int}:∀{l:List α},D.dO (l.map λx=>D.int (f x))=true
 |[]=>rfl
 |_::l=>fH (l:=l)
theorem pT:∀{a b:List D},D.dO a=true->D.dO b=true->D.dO (a++b)=true
 |[],_,_,h=>h
 |d::a,b,h,h'=>by
  have f':(d.flat&&D.dO a)=true:=h;rw[WL]at f';show (d.flat&&D.dO (a++b))=true;rw[f'.1,pT f'.2 h'];rfl
def Bv {α:Type}{f:α->Int}{l:List α}{x:Int}:il oH [.lst ((l.map λk=>D.int (f k))++[D.int x])]=some (.int ((oH (l.map f++[x])).getD 0)):=by
 have e:(l.map λk=>D.int (f k))++[D.int x]=(l.map f++[x]).map D.int:=by simp
 rw[e];exact nH pE
def Ep {α:Type}{l:List α}{m:Nat}{x:α}(h:l.Nodup)(hx:l[m]?=some x):x∉l.take m:=λz=>by
 obtain⟨i,hi⟩:=List.mem_iff_getElem?.mp z;rw[List.getElem?_take]at hi
 split at hi
 ·next ie =>
  have:=(List.getElem?_inj (Ww.mp hi).1 h).mp (hi.trans hx.symm);lia
 ·cases hi
def v9:FD:=λds R=>∃n:Nat,ds=[.int n]/\n<=80/\R (.lst ((qz n).map wY))
def v9.mono:dc v9:=λds R R' k h=>by obtain⟨n,e,h1,q⟩:=h;exact{n,e,h1,k _ q}
def gZ:FD:=λds R=>∃n ps,ds=[j8 n ps]/\qi n ps/\R (uW n ps)
def gZ.mono:dc gZ:=λds R R' k h=>by obtain⟨n,ps,e,h1,q⟩:=h;exact{n,ps,e,h1,k _ q}
def nB:FD:=λds R=>∃(n:Nat) (ps:List (Nat×Nat)) (w:Nat×Nat->Int) (L:Nat->Nat) (T:Nat->Nat->Int) (i k j:Nat),ds=[wD ps w,gz n L T,.int i,.int k,.int j]/\(i,k)∈ps/\i<k/\k<j/\j<=n/\k-i-1<L (i+1)/\j-k-1<L (k+1) /\
 R (.int (w (i,k)+T (k-i-1) (i+1)+T (j-k-1) (k+1)))
def nB.mono:dc nB:=λds R R' k h=>by obtain⟨n,ps,w,L,T,i,k',j,e,h1,h2,h3,h4,h5,h6,q⟩:=h;exact{n,ps,w,L,T,i,k',j,e,h1,h2,h3,h4,h5,h6,k _ q}
def nC:FD:=λds R=>∃(n:Nat) (ps:List (Nat×Nat)) (w:Nat×Nat->Int) (L:Nat->Nat) (T:Nat->Nat->Int) (i j:Nat),ds=[uW n ps,wD ps w,gz n L T,.int i,.int j]/\qi n ps/\i<j/\j<=n/\(∀a,i<a->a<=n->n+1-a<=L a)/\R (.int (i3 ps w T i j))
def nC.mono:dc nC:=λds R R' k h=>by obtain⟨n,ps,w,L,T,i,j,e,h1,h2,h3,h4,q⟩:=h;exact{n,ps,w,L,T,i,j,e,h1,h2,h3,h4,k _ q}
abbrev dN (n:Nat)(T:Nat->Nat->Int):D:=gz n (λi=>n+1-i) T
def nD:FD:=λds R=>∃(n:Nat) (ps:List (Nat×Nat)) (w:Nat×Nat->Int),ds=[j8 n ps,wD ps w]/\qi n ps/\R (dN n (tW ps w))
def nD.mono:dc nD:=λds R R' k h=>by obtain⟨n,ps,w,e,h1,q⟩:=h;exact{n,ps,w,e,h1,k _ q}
def w1:Nat×Nat->Int:=λ_=>1
def nz:FD:=λds R=>∃(n:Nat) (ps:List (Nat×Nat)),ds=[j8 n ps]/\qi n ps/\R (wD ps w1)
def nz.mono:dc nz:=λds R R' k h=>by obtain⟨n,ps,e,h1,q⟩:=h;exact{n,ps,e,h1,k _ q}
def f_:FD:=λds R=>∃(n:Nat) (ps:List (Nat×Nat)),ds=[j8 n ps]/\qi n ps/\R (dN n (tW ps w1))
def f_.mono:dc f_:=λds R R' k h=>by obtain⟨n,ps,e,h1,q⟩:=h;exact{n,ps,e,h1,k _ q}
def c9 {n:Nat}(h:n<=1000):n<=Wi:=WG h (by decide)
def kY {n:Nat}(h:n<=1000):n<Wi:=Yy h (by decide)
def IH {n i:Nat}{x:Int}(hx:x=(i:Int))(h:i<n):C8 n x=some i:=by
 subst hx;unfold C8;rw[if_pos (by lia),if_pos (by lia)]
 simp
def wL {α:Type}{n i:Nat}{f:Nat->α}{y:α}(h:i<n):((VW n).map f).set i y=(VW n).map λk=>if k=i then y else f k:=by
 refine Zc λk=>?_;rw[Zb]
 by_cases hk:k<n
 ·rw[dS hk,dS hk,VS,We]
  by_cases e:i=k
  ·rw[if_pos e,if_pos (e▸hk),if_pos e.symm]
  ·rw[if_neg e,if_neg (YX e)]
 ·rw[Xw (l:=(VW n).map f) (by simpa using hk),Xw (l:=(VW n).map λk=>if k=i then y else f k) (by simpa using hk),if_neg (by lia)]
def Hn {n i k:Nat}{ps:List (Nat×Nat)}(h:i<n):((VW n).map λj=>D.lst (dM (iC ps j))).set i (.lst (dM (iC ps i)++[D.int k]))=(VW n).map λj=>D.lst (dM (iC (ps++[(i,k)]) j)):=by
 rw[wL h];refine Wu λj _=>?_;unfold iC dM;rw[Xn,Wv,Wv]
 by_cases e:j=i
 ·rw[if_pos e,e];simp
 ·rw[if_neg e,Xj,if_neg (by simpa using YX e)];simp
def jD {ps:List (Nat×Nat)}{i:Nat}:(iC ps i).length<=ps.length:=by
 unfold iC;rw[VS];exact YG _ _
def dG (n a b:Nat)(i:Nat):Nat:=if n-1-a<i then n+1-i else if i=n-1-a then b+1 else 1
def wK {n a b:Nat}{T:Nat->Nat->Int}(ha:a<n)(hb:b<=a):
  ((VW (n+1)).map λi=>D.lst (qv (dG n a b i) λl=>T l i)).set (n-1-a) (.lst (qv (b+1) (λl=>T l (n-1-a))++[D.int (T (b+1) (n-1-a))]))=(VW (n+1)).map λi=>D.lst (qv (dG n a (b+1) i) λl=>T l i):=by
 rw[wL (by lia)]
 refine Wu λi _=>?_;unfold dG
 by_cases e:i=n-1-a
 ·rw[if_pos e,e,if_neg (by lia),if_pos rfl]
  unfold qv;rw[Yv (n:=b+1),Wv];rfl
 ·rw[if_neg e,if_neg e,if_neg e]
def yS {n a:Nat}(h:a+1<n)(i:Nat)(hi:i<=n):dG n a (a+1) i=dG n (a+1) 0 i:=by
 unfold dG
 by_cases h1:n-1-a<i
 ·rw[if_pos h1,if_pos (by omega)]
 ·rw[if_neg h1]
  by_cases h2:i=n-1-a
  ·rw[if_pos h2,if_pos (by omega)];omega
  ·rw[if_neg h2,if_neg (by omega)]
   split <;> rfl
def BA {n a:Nat}(h:n=a+1)(i:Nat)(hi:i<=n):dG n a (a+1) i=n+1-i:=by
 unfold dG
 split
 ·rfl
 ·split <;> lia
def vP {n:Nat}(h:0<n)(i:Nat)(hi:i<=n):dG n 0 0 i=1:=by
 unfold dG
 split
 ·lia
 ·split <;> rfl
def hJ {n:Nat}{L L':Nat->Nat}{T:Nat->Nat->Int}(h:∀i,i<=n->L i=L' i):gz n L T=gz n L' T:=by
 unfold gz
 congr 1
 refine Wu λi hi=>?_;rw[h i (by have:=V3.mp hi;lia)]
def uV (n idx:Nat)(L:Nat->Nat):Prop:=(n=0/\L 0=1)\/∃a b,a<n/\b<=a+1/\(∀i,i<=n->L i=dG n a b i)/\(qz n).drop idx=fe n a b
def lr {n:Nat}:uV n 0 λ_=>1:=by
 rcases Yz n with h|h
 ·exact .inl {(h),rfl}
 ·exact .inr {0,0,h,V_ _,λi hi=>(vP h i hi).symm,yg h}
def pZ {n:Nat}{L:Nat->Nat}(h:uV n (qz n).length L):∀i,i<=n->L i=n+1-i:=by
 rcases h with⟨rfl,h⟩|⟨a,b,h1,h2,h3,h4⟩
 ·intro i hi;rw[show i=0 by lia,h]
 ·intro i hi;rw[List.drop_length]at h4;have hb:b=a+1:=by
   rcases W8 a b with q|q
   ·lia
   ·rw[iV q]at h4;cases h4
  have ha:n=a+1:=by
   rcases W8 (a+1) n with q|q
   ·rw[hb,pj q,iV (V_ _)]at h4;cases h4
   ·lia
  rw[h3 i hi,hb];exact BA ha i hi
def nG {n idx:Nat}{L:Nat->Nat}{p:Nat×Nat}(h:uV n idx L)(hp:(qz n)[idx]?=some p):∃a b,a<n/\b<=a/\p=(n-1-a,n-a+b)/\(∀i,i<=n->L i=dG n a b i)/\(qz n).drop (idx+1)=fe n a (b+1):=by
 have hd:(qz n).drop idx=p::(qz n).drop (idx+1):=by
  obtain⟨h1,h2⟩:=Ww.mp hp;rw[W6 h1,h2]
 rcases h with⟨rfl,h⟩|⟨a,b,h1,h2,h3,h4⟩
 ·cases hp
 ·have key:∃a b,a<n/\b<=a/\(∀i,i<=n->L i=dG n a b i)/\(qz n).drop idx=fe n a b:=by
   rcases W8 a b with q|q
   ·have e:b=a+1:=by lia
    rcases W8 (a+1) n with q2|q2
    ·exact{a+1,0,q2,V_ _,λi hi=>by rw[h3 i hi,e,yS q2 i hi],by rw[h4,e,pj q2]}
    ·rw[h4,e,vp q2]at hd;cases hd
   ·exact{(a),b,h1,q,h3,h4}
  obtain⟨a,b,h1,h2,h3,h4⟩:=key;rw[h4,iV h2]at hd;injection hd with e1 e2
  exact{(a),b,h1,h2,e1.symm,h3,e2.symm}
def sJ {n a:Nat}:(eS n a).length=a+1:=by unfold eS;simp
def yv {n a b:Nat}(h:b<a+1):(eS n a).take (b+1)=(eS n a).take b++[(n-1-a,n-a+b)]:=by
 rw[Xv];unfold eS;rw[dS h];rfl
def Aw {n a:Nat}:(eS n a).take (a+1)=eS n a:=Xh (by rw[sJ];exact VR _)
theorem ug {n:Nat}:∀a:Nat,a<=n->(((VW n).take a).flatMap (eS n)).length<=a*a
 |0,_=>by simp
 |a+1,h=>by
  have:=ug (n:=n) a (by lia)
  rw[Xv,XN (show a<n by lia),X0,Wf]
  have e:((some a).toList.flatMap (eS n)).length=a+1:=by simp[sJ]
  rw[e,Nat.mul_add,Nat.add_mul];lia
def Ag {n a b:Nat}(hn:n<=80)(ha:a<n)(hb:b<a+1):(((VW n).take a).flatMap (eS n)).length+((eS n a).take b).length<Wi:=by
 have h1:=ug (n:=n) a (by lia)
 have h2:((eS n a).take b).length<=b:=by rw[WH];exact Nat.min_le_left _ _
 have h3:a*a<=80*80:=ZI (by lia) (by lia)
 have h4:80*80+80<Wi:=by decide
 lia
open Mx
def tF:Sr Nat:={0,1,(·+·),(· * ·)}
def Et:tF.Ok:={(Nat.add_comm),Nat.add_assoc,Xg,Nat.mul_comm,Nat.mul_assoc,Y_,Z1,Nat.mul_add}
def vc (ps:List (Nat×Nat))(a b:Nat):Nat:=if (a,b)∈ps then 1 else 0
def cW (ps:List (Nat×Nat))(len i:Nat):Nat:=gA tF 0 (vc ps) len i
def Fu {ps:List (Nat×Nat)}{i:Nat}:cW ps 0 i=1:=rfl
theorem sr {f:Nat->Nat}:∀{n:Nat},0<bf tF n f↔∃r,r<n/\0<f r
 |0=>{λh=>absurd h (XG 0),λt9=>by obtain⟨r,h,_⟩:=t9;lia}
 |n+1=>by
  show 0<bf tF n f+f n↔_;have ih:=sr (f:=f) (n:=n);constructor
  ·intro h;rcases Yz (f n)with q|q
   ·obtain⟨r,h1,h2⟩:=ih.mp (by lia)
    exact{r,by lia,h2}
   ·exact{n,by lia,q}
  ·rintro⟨r,h1,h2⟩;rcases W8 r n with q|q
   ·have:=ih.mpr {(r),q,h2};lia
   ·rw[show r=n by lia]at h2;lia
def z_ {ps:List (Nat×Nat)}{a b:Nat}:0<vc ps a b↔(a,b)∈ps:=by
 unfold vc
 split
 ·next h=>exact{λ_=>h,λ_=>by decide}
 ·next h=>exact{λz=>absurd z (by decide),λz=>absurd z h}
def Bu {a b:Nat}:0<a*b↔0<a/\0<b:=by
 constructor
 ·intro h;constructor
  ·rcases Yz a with q|q
   ·rw[q,Z1]at h;lia
   ·exact q
  ·rcases Yz b with q|q
   ·rw[q,Nat.mul_zero]at h;lia
   ·exact q
 ·exact λh=>Nat.mul_pos h.1 h.2
def CL {ps:List (Nat×Nat)}{len i:Nat}:0<cW ps (len+1) i↔∃r,r<len/\(i,i+1+r)∈ps/\0<cW ps r (i+1)/\0<cW ps (len-1-r) (i+r+2):=by
 have e:∀l j,cW ps l j=fA tF 0 (vc ps) l j:=λl j=>(MC Et l j).symm;rw[e,jV];show 0<0*_+bf tF len _↔_;rw[Z1,Xg,sr];refine exists_congr λr=>and_congr_right λ_=>?_;show 0<vc ps i (i+1+r)*(fA tF 0 (vc ps) r (i+1)*fA tF 0 (vc ps) (len-1-r) (i+r+2))↔_;rw[Bu,Bu,z_,e,e]
def yP {l:List Int}{x:Int}:(oH (l++[x])).getD 0∈l++[x]/\∀y∈l++[x],y<=(oH (l++[x])).getD 0:=by
 cases l with
 |nil=>exact b6 [] x
 |cons a l=>exact b6 (l++[x]) a
def kz {ps:List (Nat×Nat)}{w:Nat×Nat->Int}{T:Nat->Nat->Int}{i j:Nat}:
  (i3 ps w T i j=T (j-i-1) (i+1)\/∃k,(i,k)∈ps/\k<j/\i3 ps w T i j=w (i,k)+T (k-i-1) (i+1)+T (j-k-1) (k+1)) /\
  T (j-i-1) (i+1)<=i3 ps w T i j/\∀k,(i,k)∈ps->k<j->w (i,k)+T (k-i-1) (i+1)+T (j-k-1) (k+1)<=i3 ps w T i j:=by
 obtain⟨h1,h2⟩:=yP (l:=((iC ps i).filter λk=>decide (k<j)).map λk=>w (i,k)+T (k-i-1) (i+1)+T (j-k-1) (k+1)) (x:=T (j-i-1) (i+1));refine{?_,h2 _ (by simp),λk hk hj=>h2 _ (WK _ (V4.mpr {k,VZ.mpr {br.mpr hk,decide_eq_true hj},rfl}))}
 rcases V9.mp h1 with h|h
 ·obtain⟨k,hk,e⟩:=V4.mp h;obtain⟨q1,q2⟩:=VZ.mp hk;exact .inr {k,br.mp q1,of_decide_eq_true q2,e.symm}
 ·exact .inl (VU.mp h)
def Dw {ps:List (Nat×Nat)}(hp:∀p∈ps,p.1<p.2):∀len i,0<=tW ps w1 len i/\2*tW ps w1 len i<=len/\(2*tW ps w1 len i=len↔0<cW ps len i):=by
 intro len
 induction len using YU with
 |_ len ih =>
 intro i;cases len with
 |zero=>exact{Int.le_refl 0,Int.le_refl 0,λ_=>(by rw[Fu];decide),λ_=>rfl}
 |succ l =>
  rw[jv hp];obtain⟨h1,h2,h3⟩:=kz (ps:=ps) (w:=w1) (T:=tW ps w1) (i:=i) (j:=i+l+1);rw[show i+l+1-i-1=l by omega]at h1 h2
  obtain⟨b1,b2,b3⟩:=ih l (by omega) (i+1)
  have c6:∀k,(i,k)∈ps->k<i+l+1->∃a b,k=i+1+a/\l=a+1+b:=λk hk hj=>by
   have:=hp _ hk;dsimp only at this;exact{k-i-1,i+l-k,by omega,by omega}
  have ea:∀a,i+1+a-i-1=a:=λa=>by omega
  have eb:∀a b,i+(a+1+b)+1-(i+1+a)-1=b:=λa b=>by omega
  have up:2*i3 ps w1 (tW ps w1) i (i+l+1)<=((l+1:Nat):Int):=by
   clear h2 h3 b1 b3
   rcases h1 with e|⟨k,hk,hj,e⟩
   ·rw[e];omega
   ·obtain⟨a,b,rfl,rfl⟩:=c6 k hk hj;have a1:=(ih a (by omega) (i+1)).2.1
    have a2:=(ih b (by omega) (i+1+a+1)).2.1
    rw[ea,eb]at e;rw[e,show w1 (i,i+1+a)=1 from rfl]
    clear e hj b2 c6 ea eb ih
    omega
  refine{Int.le_trans b1 h2,up,?_};rw[CL];constructor
  ·intro e
   clear up h2 h3 b1 b3
   rcases h1 with e1|⟨k,hk,hj,e1⟩
   ·rw[e1]at e;omega
   ·obtain⟨a,b,rfl,rfl⟩:=c6 k hk hj;have a1:=ih a (by omega) (i+1)
    have a2:=ih b (by omega) (i+1+a+1)
    rw[ea,eb]at e1;rw[e1,show w1 (i,i+1+a)=1 from rfl]at e
    have l1:=a1.2.1;have l2:=a2.2.1
    clear hj e1 b2 c6 ea eb ih
    refine{a,by omega,hk,a1.2.2.mp (by omega),?_}
    rw[show a+1+b-1-a=b by omega,show i+a+2=i+1+a+1 by omega]
    exact a2.2.2.mp (by omega)
  ·rintro⟨r,hr,hm,c1,c2⟩;obtain⟨b,rfl⟩:∃b,l=r+1+b:={l-1-r,by omega}
   rw[show r+1+b-1-r=b by omega,show i+r+2=i+1+r+1 by omega]at c2
   have k1:=(ih r (by omega) (i+1)).2.2.mpr c1
   have k2:=(ih b (by omega) (i+1+r+1)).2.2.mpr c2
   have le:=h3 (i+1+r) hm (by omega)
   rw[ea,eb,show w1 (i,i+1+r)=1 from rfl]at le
   clear h1 h2 h3 b1 b2 b3 c6 ea eb ih c1 c2 hm hr
   omega
def near (ps:List (Nat×Nat))(b:Nat):List Nat:=(ps.filter λp=>decide (p.2=b)).map (·.1)
def bO {ps:List (Nat×Nat)}{a b:Nat}:a∈near ps b↔(a,b)∈ps:=by
 unfold near;rw[V4];constructor
 ·rintro⟨p,hp,rfl⟩;obtain⟨h1,h2⟩:=VZ.mp hp;rw[<- of_decide_eq_true h2];exact h1
 ·intro h;exact{(a,b),VZ.mpr {h,by simp},rfl}
theorem si {α:Type}{f:α->Nat}:∀{l:List α},(l.map λa=>((f a:Nat):Int)).sum=((l.map f).sum:Nat)
 |[]=>rfl
 |a::l=>by rw[Ws,Yc,Ws,Yc,si];lia
def v8:Nat->Nat
 |0=>1
 |n+1=>(n+1)*v8 n
theorem xK (a:Nat):∀b,v8 a*v8 b<=v8 (a+b)
 |0=>by show v8 a*1<=v8 a;lia
 |b+1=>by
  show v8 a*((b+1)*v8 b)<=(a+b+1)*v8 (a+b);rw[Nat.mul_left_comm];exact ZI (by lia) (xK a b)
def Ci {a b:Nat}(h:a<=b):v8 a<=v8 b:=by
 induction b with
 |zero=>rw[show a=0 by lia];exact VR _
 |succ b ih =>
  rcases W8 b a with q|q
  ·rw[show a=b+1 by lia];exact VR _
  ·exact WG (ih q) (Nat.le_mul_of_pos_left _ (by lia))
def g7 {a b:Int}(h:n9 a b):Fd (.int a) (.int b)=some (.int (a*b)):=by
 show (if n9 a b then _ else _)=_
 rw[if_pos h]
def sum_ints {α:Type}{f:α->Int}{l:List α}:il (λns=>some ns.sum) [.lst (l.map λk=>D.int (f k))]=some (.int (l.map f).sum):=by
 have e:(l.map λk=>D.int (f k))=(l.map f).map D.int:=by simp
 rw[e];exact nH rfl
def gM (n:Nat)(ps:List (Nat×Nat)):(j8 n ps).pd.canLay0=true/\(j8 n ps).pd.depth<=4:=by
 have:=yo (n:Int) (ps.map tI);unfold Hu at this;rw[WR]at this;exact this
def oD:Option Nat->D
 |none=>.ck
 |some k=>.int (k:Int)
def parts (i:Nat)(k:Option Nat)(j:Nat):List (Nat×Nat):=match k with
 |none=>[(i+1,j)]
 |some k=>[(i+1,k),(k+1,j)]
def bq (ps:List (Nat×Nat))(w:Nat×Nat->Int)(T:Nat->Nat->Int)(i j:Nat):List (Option Nat) :=
 ((iC ps i).filter λk=>decide (k<j)&&decide (w (i,k)+T (k-i-1) (i+1)+T (j-k-1) (k+1)=T (j-i) i)).map some++(if T (j-i-1) (i+1)=T (j-i) i then [none] else [])
def TF (ps:List (Nat×Nat))(w:Nat×Nat->Int)(T:Nat->Nat->Int)(i j:Nat):Option Nat->Prop
 |none=>T (j-i-1) (i+1)=T (j-i) i
 |some k=>(i,k)∈ps/\k<j/\w (i,k)+T (k-i-1) (i+1)+T (j-k-1) (k+1)=T (j-i) i
def bj {ps:List (Nat×Nat)}{w:Nat×Nat->Int}{T:Nat->Nat->Int}{i j:Nat}{c:Option Nat}(h:c∈bq ps w T i j):TF ps w T i j c:=by
 unfold bq at h;rcases V9.mp h with h|h
 ·obtain⟨k,hk,rfl⟩:=V4.mp h;obtain⟨h1,h2⟩:=VZ.mp hk;rw[WL,decide_eq_true_eq,decide_eq_true_eq]at h2;exact{br.mp h1,h2.1,h2.2}
 ·split at h
  ·next e=>rw[VU.mp h];exact e
  ·cases h
def uG {ps:List (Nat×Nat)}{w:Nat×Nat->Int}(hp:∀p∈ps,p.1<p.2){i j:Nat}(h:i<j):bq ps w (tW ps w) i j≠[]:=by
 have e:tW ps w (j-i) i=i3 ps w (tW ps w) i j:=by rw[show j-i=(j-i-1)+1 by lia,jv hp,show i+(j-i-1)+1=j by lia]
 obtain⟨h1,_,_⟩:=kz (ps:=ps) (w:=w) (T:=tW ps w) (i:=i) (j:=j);rw[<- e]at h1;unfold bq;intro z;obtain⟨z1,z2⟩:=List.append_eq_nil_iff.mp z;rcases h1 with q|⟨k,hk,hj,q⟩
 ·rw[if_pos q.symm]at z2;cases z2
 ·have:k∈(iC ps i).filter λk=>decide (k<j)&&decide (w (i,k)+tW ps w (k-i-1) (i+1)+tW ps w (j-k-1) (k+1)=tW ps w (j-i) i):=VZ.mpr {br.mpr hk,by rw[WL,decide_eq_true_eq,decide_eq_true_eq];exact{(hj),q.symm}}
  rw[List.map_eq_nil_iff.mp z1]at this;cases this
def b7 (ps:List (Nat×Nat))(w:Nat×Nat->Int)(i j:Nat):Option Nat:=(bq ps w (tW ps w) i j).headD none
def cP {ps:List (Nat×Nat)}{w:Nat×Nat->Int}(hp:∀p∈ps,p.1<p.2){i j:Nat}(h:i<j):b7 ps w i j∈bq ps w (tW ps w) i j:=by
 have:=uG (w:=w) hp h;unfold b7;cases q:bq ps w (tW ps w) i j with
 |nil=>exact absurd q this
 |cons a l=>simp
noncomputable def oP (ps:List (Nat×Nat))(w:Nat×Nat->Int):Nat->Nat->Nat->List (Nat×Nat)
 |0,_,_=>[]
 |n+1,i,j=>if i<j then match b7 ps w i j with
   |none=>oP ps w n (i+1) j
   |some k=>(i,k)::(oP ps w n (i+1) k++oP ps w n (k+1) j)
  else []
theorem d9 {ps:List (Nat×Nat)}{w:Nat×Nat->Int}(hp:∀p∈ps,p.1<p.2):∀{n m i j:Nat},j-i<=n->j-i<=m->oP ps w n i j=oP ps w m i j
 |0,0,_,_,_,_=>rfl
 |0,m+1,i,j,h,_=>by unfold oP;rw[if_neg (by omega)]
 |n+1,0,i,j,_,h=>by unfold oP;rw[if_neg (by omega)]
 |n+1,m+1,i,j,h1,h2=>by
  unfold oP
  by_cases h:i<j
  ·rw[if_pos h,if_pos h];have hm:=bj (cP (w:=w) hp h);cases q:b7 ps w i j with
   |none=>exact d9 hp (by omega) (by omega)
   |some k =>
    rw[q]at hm;have:=hp _ hm.1;dsimp only at this;have h3:=hm.2.1;dsimp only;rw[d9 hp (n:=n) (m:=m) (i:=i+1) (j:=k) (by omega) (by omega),d9 hp (n:=n) (m:=m) (i:=k+1) (j:=j) (by omega) (by omega)]
  ·rw[if_neg h,if_neg h]
def cC (ps:List (Nat×Nat))(w:Nat×Nat->Int)(i j:Nat):List (Nat×Nat):=oP ps w (j-i) i j
def dw {ps:List (Nat×Nat)}{w:Nat×Nat->Int}{i j:Nat}(h:¬ i<j):cC ps w i j=[]:=by
 unfold cC;rw[show j-i=0 by lia]
 rfl
theorem fG {ps:List (Nat×Nat)}{w:Nat×Nat->Int}(hp:∀p∈ps,p.1<p.2){i j:Nat}(h:i<j):cC ps w i j=match b7 ps w i j with
  |none=>cC ps w (i+1) j
  |some k=>(i,k)::(cC ps w (i+1) k++cC ps w (k+1) j):=by
 unfold cC;rw[show j-i=(j-i-1)+1 by lia]
 conv=>lhs;unfold oP
 rw[if_pos h];have hm:=bj (cP (w:=w) hp h);cases q:b7 ps w i j with
 |none=>exact d9 hp (by lia) (by lia)
 |some k =>
  rw[q]at hm;have:=hp _ hm.1;dsimp only at this;have h3:=hm.2.1;dsimp only;rw[d9 hp (n:=j-i-1) (m:=k-(i+1)) (i:=i+1) (j:=k) (by lia) (by lia),d9 hp (n:=j-i-1) (m:=j-(k+1)) (i:=k+1) (j:=j) (by lia) (by lia)]
def uc (i:Nat):Option Nat->List (Nat×Nat)
 |none=>[]
 |some k=>[(i,k)]
def v7 {ps:List (Nat×Nat)}{w:Nat×Nat->Int}(hp:∀p∈ps,p.1<p.2){i j:Nat}(h:i<j):cC ps w i j=uc i (b7 ps w i j)++(parts i (b7 ps w i j) j).flatMap λp=>cC ps w p.1 p.2:=by
 rw[fG hp h];cases b7 ps w i j with
 |none=>simp[parts,uc]
 |some k=>simp[parts,uc]
def Cb {ps:List (Nat×Nat)}{w:Nat×Nat->Int}(hp:∀p∈ps,p.1<p.2):∀l i j,j-i<=l->2*(cC ps w i j).length<=j-i:=by
 intro l
 induction l with
 |zero=>intro i j h;rw[dw (by lia)];exact V_ _
 |succ l ih =>
  intro i j h
  by_cases aI:i<j
  ·rw[fG hp aI];have hm:=bj (cP (w:=w) hp aI);cases q:b7 ps w i j with
   |none=>have:=ih (i+1) j (by lia);dsimp only;lia
   |some k =>
    rw[q]at hm;have h1:=hp _ hm.1;dsimp only at h1;have h3:=hm.2.1;have a1:=ih (i+1) k (by lia)
    have a2:=ih (k+1) j (by lia)
    dsimp only;rw[V7,Wf];lia
  ·rw[dw aI];exact V_ _
def gb:FD:=λds R=>∃(i:Nat) (k:Option Nat) (j:Nat),ds=[.int i,oD k,.int j]/\R (.lst ((parts i k j).map wY))
def gb.mono:dc gb:=λds R R' k h=>by obtain⟨i,c,j,e,q⟩:=h;exact{i,c,j,e,k _ q}
def jU:FD:=λds R=>∃(n:Nat) (ps:List (Nat×Nat)) (w:Nat×Nat->Int) (T:Nat->Nat->Int) (i j:Nat),ds=[uW n ps,wD ps w,dN n T,.int i,.int j]/\qi n ps/\i<j/\j<=n/\R (.lst ((bq ps w T i j).map oD))
def jU.mono:dc jU:=λds R R' k h=>by obtain⟨n,ps,w,T,i,j,e,h1,h2,h3,q⟩:=h;exact{n,ps,w,T,i,j,e,h1,h2,h3,k _ q}
def uq:FD:=λds R=>∃(n:Nat) (ps:List (Nat×Nat)) (w:Nat×Nat->Int) (i j:Nat),ds=[j8 n ps,wD ps w,dN n (tW ps w),.int i,.int j]/\qi n ps/\i<=j/\j<=n/\R (cU (cC ps w i j))
def uq.mono:dc uq:=λds R R' k h=>by obtain⟨n,ps,w,i,j,e,h1,h2,h3,q⟩:=h;exact{n,ps,w,i,j,e,h1,h2,h3,k _ q}
def fC (ps:List (Nat×Nat))(i j:Nat):D:=.tup [.int (tW ps w1 (j-i) i),cU (cC ps w1 i j)]
def jT:FD:=λds R=>∃(n:Nat) (ps:List (Nat×Nat)) (i j:Nat),ds=[j8 n ps,.int i,.int j]/\qi n ps/\i<=j/\j<=n/\R (fC ps i j)
def jT.mono:dc jT:=λds R R' k h=>by obtain⟨n,ps,i,j,e,h1,h2,h3,q⟩:=h;exact{n,ps,i,j,e,h1,h2,h3,k _ q}
def fJ:FD:=λds R=>∃(n:Nat) (ps:List (Nat×Nat)),ds=[j8 n ps]/\qi n ps/\R (fC ps 0 n)
def fJ.mono:dc fJ:=λds R R' k h=>by obtain⟨n,ps,e,h1,q⟩:=h;exact{n,ps,e,h1,k _ q}
def wA (ws:List (Nat×Nat)):Nat:=(ws.map λp=>2*(p.2-p.1)+1).sum
def qp {a b:List (Nat×Nat)}:wA (a++b)=wA a+wA b:=by unfold wA;rw[Wv,List.sum_append]
def Dr {a:List (Nat×Nat)}:wA a.reverse=wA a:=by
 unfold wA;rw[List.map_reverse];exact(List.reverse_perm _).sum_nat
abbrev iE (l:List Nat):List D:=l.map λp:Nat=>D.int (p:Int)
section
variable {ps:List (Nat×Nat)}
def mX (ps:List (Nat×Nat))(i j:Nat):Int:=tW ps w1 (j-i) i
def bF {i j:Nat}(h:j<=i):mX ps i j=0:=by unfold mX;rw[show j-i=0 by lia];rfl
def qY {l:List Int}{m:Int}(h:oH l=some m):m∈l/\∀x∈l,x<=m:=by
 cases l with
 |nil=>cases h
 |cons a l=>cases h;exact b6 l a
def q_ (hp:∀p∈ps,p.1<p.2){i j:Nat}(h:i<j):oH ((((iC ps i).filter λk=>decide (k<j)).map λk=>1+mX ps (i+1) k+mX ps (k+1) j)++[mX ps (i+1) j])=some (mX ps i j):=by
 have e:mX ps i j=i3 ps w1 (tW ps w1) i j:=by
  unfold mX;rw[show j-i=(j-i-1)+1 by lia,jv hp,show i+(j-i-1)+1=j by lia]
 rw[e];unfold i3;rw[<- pE];have e2:(((iC ps i).filter λk=>decide (k<j)).map λk=>1+mX ps (i+1) k+mX ps (k+1) j)=((iC ps i).filter λk=>decide (k<j)).map λk=>w1 (i,k)+tW ps w1 (k-i-1) (i+1)+tW ps w1 (j-k-1) (k+1):=by
  refine Wu λk _=>?_;unfold mX;rw[show k-(i+1)=k-i-1 by lia,show j-(k+1)=j-k-1 by lia]
  rfl
 rw[e2];unfold mX;rw[show j-(i+1)=j-i-1 by lia]
def lU (hp:∀p∈ps,p.1<p.2){i j:Nat}(h:i<j):mX ps (i+1) j<=mX ps i j:=(qY (q_ hp h)).2 _ (by simp)
def iZ (hp:∀p∈ps,p.1<p.2){i j k:Nat}(h:(i,k)∈ps)(hk:k<j):1+mX ps (i+1) k+mX ps (k+1) j<=mX ps i j:=by
 have EO:=hp _ h;dsimp only at EO;refine(qY (q_ hp (show i<j by lia))).2 _ (WK _ (V4.mpr {k,VZ.mpr {br.mpr h,decide_eq_true hk},rfl}))
def tP (hp:∀p∈ps,p.1<p.2){i j:Nat}(h:i<j):mX ps i j=mX ps (i+1) j\/∃k,(i,k)∈ps/\k<j/\mX ps i j=1+mX ps (i+1) k+mX ps (k+1) j:=by
 rcases V9.mp (qY (q_ hp h)).1 with z|z
 ·obtain⟨k,hk,e⟩:=V4.mp z;obtain⟨h1,h2⟩:=VZ.mp hk;exact .inr {k,br.mp h1,of_decide_eq_true h2,e.symm}
 ·exact .inl (VU.mp z)
theorem FN (hp:∀p∈ps,p.1<p.2):∀len i,0<=tW ps w1 len i
 |0,_=>Int.le_refl 0
 |l+1,i=>by
  rw[jv hp];have h:=(kz (ps:=ps) (w:=w1) (T:=tW ps w1) (i:=i) (j:=i+l+1)).2.1;rw[show i+l+1-i-1=l by lia]at h
  exact Int.le_trans (FN hp l (i+1)) h
def pF (hp:∀p∈ps,p.1<p.2){i j:Nat}:0<=mX ps i j:=FN hp (j-i) i
theorem m5 (hp:∀p∈ps,p.1<p.2):∀(n i j:Nat),j-i<=n->i<j->mX ps i (j-1)<=mX ps i j
 |0,i,j,h,aI=>by lia
 |n+1,i,j,h,aI=>by
  by_cases e:i=j-1
  ·rw[bF (by lia)];exact pF hp
  ·have s:=lU hp aI;rcases tP hp (show i<j-1 by lia)with z|⟨k,h1,h2,z⟩
   ·have:=m5 hp n (i+1) j (by lia) (by lia)
    lia
   ·have EO:=hp _ h1;dsimp only at EO;have:=m5 hp n (k+1) j (by lia) (by lia)
    have:=iZ hp h1 (show k<j by lia)
    lia
theorem qZ (hp:∀p∈ps,p.1<p.2){a j:Nat}(ha:(a,j-1)∈ps)(hj:0<j):∀(n i:Nat),j-i<=n->i<=a->mX ps i a+1+mX ps (a+1) (j-1)<=mX ps i j
 |0,i,h,hi=>by have:=hp _ ha;dsimp only at this;lia
 |n+1,i,h,hi=>by
  have UH:=hp _ ha;dsimp only at UH
  by_cases e:i=a
  ·subst e;have t:=iZ hp ha (show j-1<j by lia)
   rw[bF (VR i)];rw[bF (i:=j-1+1) (by lia)]at t
   lia
  ·have s:=lU hp (show i<j by lia)
   rcases tP hp (show i<a by lia)with z|⟨k,h1,h2,z⟩
   ·have:=qZ hp ha hj n (i+1) (by lia) (by lia)
    lia
   ·have EO:=hp _ h1;dsimp only at EO;have:=qZ hp ha hj n (k+1) (by lia) (by lia)
    have:=iZ hp h1 (show k<j by lia)
    lia
end
section
variable {X:Cx}{C:Cfg}{a b:Expr}{p p' pos pos':Pos}
def oE {ta:TA} (hc:X.calm=true) (Mn:Gl X "list") (Qg:X.mg "list" = none) (hg:Gl X "range") (hm:X.mg "range" = none) (ha:PA X [a] ta) (hs:Wj [a] X.env=[(false,eval a X.env)]:=by rfl)
  (hl:Wj [.Call (.Name "range" p) [a] [] pos] X.env=[(false,eval (.Call (.Name "range" p) [a] [] pos) X.env)]:=by rfl) :
  PE X (.Call (.Name "list" p') [.Call (.Name "range" p) [a] [] pos] [] pos') (λσ H Q=>ta σ H λvs H1=>∃j:Int,vs=[.int j]/\(-(2 ^ 62)<=j/\j<2 ^ 62)/\j.toNat<=2 ^ 24/\∀p,H1 p=none->Q (.ref p) (upd H1 p (.lst ((VW j.toNat).map λk:Nat=>V.int (0+(k:Int)))))):=by
 intro pins s σ H Q I h;refine X4 (gV I Mn Qg Fw ?_ (by decide) (by decide))
 refine XA ?_ hl rfl;rw[hl];show WM _ _ (spliced ((false,eval (.Call (.Name "range" p) [a] [] pos) X.env)::[])) _ _ s;refine Calls.spliced_cons ?_;refine X4 (gV I hg hm boot_range ?_ (by decide) (by decide))
 refine XA (bG (ha pos pins s σ H _ I h) λus s1 h1=>?_) (by rw[hs];rfl) rfl
 obtain⟨vs,H1,I1,r1,j,rfl,⟨q3,q4⟩,hz,q⟩:=h1;obtain⟨u1,rfl,⟨t2,rfl⟩⟩:=vals1 r1;refine call_range_1 (Calls.spliced_nil ?_);have up:∀b o,s1.heap.get? b=some o->(s1.heap.push {cls:=.type "range",data:=.fields #[.int 0 s1.toks,.int j t2,.int 1 (s1.toks+1)]}).get? b=some o:=λb o e=>V6 _ e;have e2:X2 0 j 1=((j.toNat:Nat):Int):=by rw[rangeSize_one];split <;> lia
 refine call_list_range (n:=j.toNat) (I.ok.hd hc) (IsRange.new ..) (small_one (by decide) (by decide) q3 q4) e2 hz λh' tk acc c kp hS ha=>?_
 have I2:Inv X pins σ H1 {s1 with heap:=s1.heap.push {cls:=.type "range",data:=.fields #[.int 0 s1.toks,.int j t2,.int 1 (s1.toks+1)]},toks:=s1.toks+1+1}:=I1.kept up
 have fr:H1 (s1.heap.push {cls:=.type "range",data:=.fields #[.int 0 s1.toks,.int j t2,.int 1 (s1.toks+1)]}).objs.size=none:=I2.bY.fresh (VR _);refine{.ref (s1.heap.push {cls:=.type "range",data:=.fields #[.int 0 s1.toks,.int j t2,.int 1 (s1.toks+1)]}).objs.size,_,I2.laid (o:=.lst _) kp (VR _) {?_,acc.toList,c,EE ha,?_},rfl,q _ fr}
 ·rw[VS,We];exact hz
 ·simpa using hS
def yy (φs:cF):aQ:=λβ R=>φs β λds _ β1=>∃j:Int,ds=[.int j]/\(-(2 ^ 62)<=j/\j<2 ^ 62)/\j.toNat<=2 ^ 24/\R (.lst (iU 0 j.toNat)) .own β1
def iD {φs:cF} {q:Bool} (hc:X.calm=true) (Qg:X.mg "list" = none) (hm:X.mg "range" = none) (ha:uQ X C q [a] φs) (Mn:Gl X "list" := by rfl) (hg:Gl X "range" := by rfl) (hs:Wj [a] X.env=[(false,eval a X.env)]:=by rfl)
  (hl:Wj [.Call (.Name "range" p) [a] [] pos] X.env=[(false,eval (.Call (.Name "range" p) [a] [] pos) X.env)]:=by rfl):PQ X C q (.Call (.Name "list" p') [.Call (.Name "range" p) [a] [] pos] [] pos') (yy φs) :=
 ⟨λβ R R' k h=>ha.mono β _ _ (λds ks β1 h=>by obtain⟨j,e,h1,h2,q⟩:=h;exact{j,e,h1,h2,k _ _ _ q}) h,(oE hc Mn Qg hg hm ha.pa hs hl).pre λσ H Q h=>by
  obtain⟨β,own,s,h⟩:=h;refine ve.of ha s h λds ks β1 vs H1 aF h o1 r1=>?_;obtain⟨j,rfl,h1,h2,q⟩:=h;obtain⟨x,r,rfl,rx,rr⟩:=r1.jA;cases (show x=V.int j from rx)
  cases (show r=[] from rr)
  refine{j,rfl,h1,h2,λp hp=>q _ _ aF (o1.same (aE.new hp)) {[p],{p,_,[],rfl,ao,rfl,sL _},by simp,λc hc=>?_}}
  rw[VU.mp hc];exact{Wz λz=>o1.sn.d p z hp,λz=>o1.sq.xQ p z hp,Wz λz=>o1.sq.iN p z hp}⟩
end
section
variable {P:V2}{w:Wm}{H:Hp}
theorem s9 {H:Hp}:∀ns:List Int,aL P w H (ns.map D.int) (ns.map V.int) []
 |[]=>{(rfl),rfl}
 |n::ns=>{_,_,[],[],rfl,rfl,{(rfl),rfl},s9 ns}
end
theorem ints_of:∀{ns:List Int} {its:List VT},Vals (ns.map V.int) its->Yw its ns
 |[],_,.nil=>.nil
 |n::ns,_,.cons r t=>by
  obtain⟨tk,rfl⟩:=r;exact .cons _ _ (ints_of t)
theorem l4:∀{ns:List Int} {its:List VT},Yw its ns->Vals (ns.map V.int) its
 |[],_,.nil=>.nil
 |n::ns,_,.cons _ _ t=>.cons {_,rfl} (l4 t)
section
variable {X:Cx}
def yn {x:VT}{vs:List VT}{ns:List Int}{s:VY}{A:Xd}{E:VT->VY->Prop}{P:V2}{w:Wm}{Q:VT->VY->Prop}(hI:Yw vs ns)(hz:vs.length<64)
  (col:∀(R:List VT->VY->Prop),(∀(h':Heap) (tk:Nat),(∀b o,s.heap.get? b=some o->h'.get? b=some o)->R vs {s with heap:=h',toks:=tk})->WM (model P w) A.in1 (collect x) R E s)
  (h:∀(out:Array VT) (og:List Int) (h1 h':Heap) (tk:Nat) (n:Nat),Yw out.toList og->og.Perm ns->og.Pairwise (·<=·)->(∀b o,s.heap.get? b=some o->h1.get? b=some o)->(∀b o,h1.get? b=some o->h'.get? b=some o)->h'.get? h1.objs.size=some (X5 "list" out n)->Q (.ref h1.objs.size) {s with heap:=h',toks:=tk}) :
  WM (model P w) A (call (.builtin "sorted") [x]) Q E s:=by
 refine Calls.call_function_entry kind_sorted plain_sorted entry_sorted (args_sorted1 _) ?_;unfold ZN.«sorted»
 refine VV (m:=checkCount "sorted" 1 1 _) (Wd ?_);refine VV (col _ λh' tk kp=>?_);have nl:vs.length<=Wi:=by rw[XI];lia
 refine VV (wpAny_newList ?_ nl);have hl:(h'.push (X5 "list" vs.toArray 0)).get? h'.objs.size=some (X5 "list" vs.toArray 0):=WT _ rfl;refine VV (Xo (Zi slot_list_sort {_,hl,rfl} entry_list_sort (list_sort_tree (s:={s with heap:=h'.push (X5 "list" vs.toArray 0),toks:=tk}) hl hI hz λout og a1 a2 a3=>{_,rfl,?_}) (args_list_sort _)))
 obtain⟨n,hn⟩:=sortedHeap_at (out:=out) hl;refine Wd {_,rfl,h out og h' _ tk n a1 a2 a3 kp (λb o e=>?_) hn};have hb:=Wt e;rw[sortedHeap_old (WX hb) (by rw[size_push'];exact XC hb)]
 exact V6 _ e
def wo:fM X (.builtin "sorted") (λxs H Q=>∃p ns,xs=[V.ref p]/\eQ X.K H p (ns.map V.int)/\ns.length<60/\∀ms:List Int,ms.Pairwise (·<=·)->ms.Perm ns->∀a,H a=none->Q (.ref a) (upd H a (.lst (ms.map V.int)))):=by
 intro pins s σ H xs us Q I r h;obtain⟨p,ns,rfl,hp,hl,q⟩:=h;obtain⟨u,rfl,rx⟩:=vals1 r;cases rx;obtain⟨its,r',pl,hz⟩:=I.list hp;have hI:Yw its ns:=ints_of r';have hlen:its.length=ns.length:=by have:=r'.length;rw[VS]at this;exact this.symm
 refine yn hI (by lia) (λR hR=>collect_list pl.isList (hR _ s.toks λb o e=>?_)) λout og h1 h' tk n a1 a2 a3 k1 k2 hn=>?_
 ·have hb:=Wt e;rw[ZO _ _ _ _ (WX hb)];exact V6 _ e
 have I1:Inv X pins σ H {s with heap:=h1,toks:=s.toks}:=I.kept k1
 have Ux:H h1.objs.size=none:=I1.bY.fresh (VR _);refine{.ref h1.objs.size,_,I1.laid (t':=tk) (o:=.lst (og.map V.int)) k2 (VR _) ?_,rfl,q og a3 a2 _ Ux};refine{?_,out.toList,n,l4 a1,by simpa using hn}
 rw[VS,a2.length_eq,XI];lia
end
section
variable {X:Cx}{C:Cfg}{e:Expr}{φ:aQ}{p:Bool}{pos p1:Pos}
def Hv (φ:aQ):aQ:=λβ R=>φ β λd _ β1=>∃ns:List Int,d=.lst (ns.map D.int)/\ns.length<60/\∀ms:List Int,ms.Pairwise (·<=·)->ms.Perm ns->R (.lst (ms.map D.int)) .own β1
def AM (he:PQ X C p e φ) (hm:X.mg "sorted" = none) (hg:Gl X "sorted" := by rfl) (hs:Wj [e] X.env=(false,eval e X.env)::Wj [] X.env:=by rfl) (hpl:(XT pos (Wj [] X.env)).any (·.1)=false:=by rfl) :
  PQ X C p (.Call (.Name "sorted" p1) [e] [] pos) (Hv φ) :=
 ⟨λβ R R' k h=>he.mono β _ _ (λd kd β1 zb=>by obtain⟨ns,h1,h2,q⟩:=zb;exact{ns,h1,h2,λms a b=>k _ _ _ (q ms a b)}) h,
  (mL wo hg hm kQ (bN he.pe eF hs) (by decide) (by decide) (he:=hs) (hpl:=hpl)).pre λσ H Q ⟨β,own,s,h⟩=>tQ.of he s h λd k β1 v H1 aF LK o1 r1=>by
  obtain⟨ns,e1,hl,q⟩:=LK;subst e1;obtain⟨b,us,rfl,Gp,_,rb⟩:=r1.rep;cases _root_.L2.bw rb;refine{b,ns,rfl,eQ.of Gp,hl,λms a1 a2 l pO=>q ms a1 a2 _ _ aF (o1.same (aE.new pO)) {[l],{l,_,[],rfl,ao,rfl,s9 ms},by simp,λc hc=>?_}}
  rw[VU.mp hc];exact{Wz λz=>o1.sn.d l z pO,λz=>o1.sq.xQ l z pO,Wz λz=>o1.sq.iN l z pO}⟩
end
def FP {ds:List D}{x:Int}{h:Nat}(hx:x=(h:Int)):MF (.lst ds) none (some x)=some (.lst (ds.take h)):=by
 subst hx;show some (D.lst (cutD _ _ _))=_;unfold cutD;rw[HT.Av,HT.DH,List.drop_zero]
 congr 2
 rcases Nat.le_total h ds.length with q|q
 ·rw[Nat.min_eq_left q,Nat.sub_zero]
 ·rw[Nat.min_eq_right q,Nat.sub_zero,Xh (VR _),Xh q]
theorem f9 {α:Type}{f g:α->Nat}:∀{l:List α} {b:Nat},(∀p∈l,f p=g p)->l.foldl (λa p=>a*f p) b=l.foldl (λa p=>a*g p) b
 |[],_,_=>rfl
 |x::l,b,h=>by
  rw[XU,XU,h x (by simp)]
  exact f9 λp hp=>h p (by simp[hp])
def NC (ps:List (Nat×Nat)):Nat->Nat->Nat->Nat
 |0,_,_=>1
 |_+1,0,_=>1
 |n+1,l+1,i=>((bq ps w1 (tW ps w1) i (i+l+1)).map λc=>(parts i c (i+l+1)).foldl (λa p=>a*NC ps n (p.2-p.1) p.1) 1).sum
def hm (ps:List (Nat×Nat))(l i:Nat):Nat:=NC ps l l i
def qK {ps:List (Nat×Nat)}(hp:∀p∈ps,p.1<p.2){i l:Nat}{c:Option Nat}(hc:c∈bq ps w1 (tW ps w1) i (i+l+1)){p:Nat×Nat}(h:p∈parts i c (i+l+1)):i<p.1/\p.1<=p.2/\p.2<=i+l+1:=by
 have o:=bj hc;cases c with
 |none =>
  rw[VU.mp h];exact{XF _,by show i+1<=i+l+1;lia,VR _}
 |some k =>
  obtain⟨o1,o2,_⟩:=o;have:=hp _ o1;dsimp only at this;rcases VX.mp h with rfl|h
  ·exact{XF _,by show i+1<=k;lia,by show k<=_;lia}
  ·rw[VU.mp h];exact{by show i<k+1;lia,by show k+1<=_;lia,VR _}
theorem ua {ps:List (Nat×Nat)}(hp:∀p∈ps,p.1<p.2):∀{n m l i:Nat},l<=n->l<=m->NC ps n l i=NC ps m l i
 |0,m,l,i,h1,h2=>by
  rw[show l=0 by lia]
  cases m <;> rfl
 |n+1,m,0,i,h1,h2=>by cases m <;> rfl
 |n+1,0,l+1,i,h1,h2=>by lia
 |n+1,m+1,l+1,i,h1,h2=>by
  show ((bq ps w1 (tW ps w1) i (i+l+1)).map _).sum=((bq ps w1 (tW ps w1) i (i+l+1)).map _).sum
  congr 1
  refine Wu λc hc=>f9 λp h=>?_;obtain⟨a,b,d⟩:=qK hp hc h;exact ua hp (by lia) (by lia)
def rj {ps:List (Nat×Nat)}(hp:∀p∈ps,p.1<p.2){l i:Nat}:hm ps (l+1) i=((bq ps w1 (tW ps w1) i (i+l+1)).map λc=>(parts i c (i+l+1)).foldl (λa p=>a*hm ps (p.2-p.1) p.1) 1).sum:=by
 show ((bq ps w1 (tW ps w1) i (i+l+1)).map _).sum=_
 congr 1
 refine Wu λc hc=>f9 λp h=>?_;obtain⟨a,b,d⟩:=qK hp hc h;exact ua hp (by lia) (VR _)
def AJ {ps:List (Nat×Nat)}{i:Nat}(h:ps.Nodup):(iC ps i).Nodup:=by
 unfold iC;refine WJ.mpr (List.Pairwise.imp_of_mem ?_ (List.Pairwise.filter _ h));intro a b ha hb QD e;have h1:=(VZ.mp ha).2;have h2:=(VZ.mp hb).2;simp only[decide_eq_true_eq]at h1 h2;exact QD (Prod.ext (by rw[h1,h2]) e)
theorem Bp:∀{n i:Nat} {l:List Nat},l.Nodup->(∀x∈l,i<=x/\x<i+n)->l.length<=n
 |0,i,l,_,h=>by
  cases l with
  |nil=>exact VR _
  |cons x l=>have:=h x (by simp);lia
 |n+1,i,l,nd,h=>by
  have q:=Bp (n:=n) (i:=i) (nd.erase (i+n)) λx hx=>by
   have:=nd.mem_erase_iff.mp hx;have:=h x this.2;lia
  have:=List.length_erase (a:=i+n) (l:=l)
  split at this <;> lia
theorem wG {α:Type}{f:α->Nat}{c:Nat}:∀{l:List α},(∀x∈l,f x<=c)->(l.map f).sum<=l.length*c
 |[],_=>V_ _
 |x::l,h=>by
  have h1:=h x (by simp)
  have h2:=wG (l:=l) λy hy=>h y (by simp[hy])
  rw[Ws,Yc,V7,Nat.add_mul,Y_];lia
def j5 {ps:List (Nat×Nat)}(hp:∀p∈ps,p.1<p.2)(nd:ps.Nodup){l i:Nat}:(bq ps w1 (tW ps w1) i (i+l+1)).length<=l+1:=by
 have h:((iC ps i).filter λk=>decide (k<i+l+1)&&decide (w1 (i,k)+tW ps w1 (k-i-1) (i+1)+tW ps w1 (i+l+1-k-1) (k+1)=tW ps w1 (i+l+1-i) i)).length<=l:=by
  have q:=Bp (i:=i+1) (n:=l) ((AJ (i:=i) nd).filter _) (l:=(iC ps i).filter λk=>decide (k<i+l+1)&&decide (w1 (i,k)+tW ps w1 (k-i-1) (i+1)+tW ps w1 (i+l+1-k-1) (k+1)=tW ps w1 (i+l+1-i) i)) λx hx=>by
   obtain⟨h1,h2⟩:=VZ.mp hx;have:=hp _ (br.mp h1);dsimp only at this;rw[WL,decide_eq_true_eq]at h2;lia
  exact q
 unfold bq;rw[Wf,VS]
 split <;> simp <;> lia
def k_ (ps:List (Nat×Nat))(i j:Nat)(c:Option Nat):Nat:=(parts i c j).foldl (λa p=>a*hm ps (p.2-p.1) p.1) 1
def mE {ps:List (Nat×Nat)}{i j:Nat}:k_ ps i j none=hm ps (j-(i+1)) (i+1):=by
 show 1*_=_;rw[Y_]
def mD {ps:List (Nat×Nat)}{i j k:Nat}:k_ ps i j (some k)=hm ps (k-(i+1)) (i+1)*hm ps (j-(k+1)) (k+1):=by
 show 1*_*_=_;rw[Y_]
def Mc {ps:List (Nat×Nat)}(hp:∀p∈ps,p.1<p.2)(nd:ps.Nodup):∀l i,hm ps l i<=v8 (l+1):=by
 intro l
 induction l using YU with
 |_ l ih =>
 intro i;cases l with
 |zero=>exact VR _
 |succ l =>
  rw[rj hp];refine WG (wG (c:=v8 (l+1)) λc hc=>?_) ?_
  ·show k_ ps i (i+l+1) c<=_;have o:=bj hc;cases c with
   |none =>
    rw[mE,show i+l+1-(i+1)=l by lia]
    exact ih l (by lia) _
   |some k =>
    obtain⟨o1,o2,_⟩:=o;have:=hp _ o1;dsimp only at this;rw[mD];have h1:=ih (k-(i+1)) (by lia) (i+1)
    have h2:=ih (i+l+1-(k+1)) (by lia) (k+1)
    have h3:=xK (k-(i+1)+1) (i+l+1-(k+1)+1);rw[show k-(i+1)+1+(i+l+1-(k+1)+1)=l+1 by lia]at h3
    exact WG (ZI h1 h2) h3
  ·show _<=(l+2)*v8 (l+1);exact ZI (WG (j5 hp nd) (by lia)) (VR _)
def t_ {ps:List (Nat×Nat)}(hp:∀p∈ps,p.1<p.2)(nd:ps.Nodup){l i:Nat}(h:l<=19):((hm ps l i:Nat):Int)<2 ^ 64:=by
 have h1:=Mc hp nd l i;have h2:=Ci (show l+1<=20 by lia)
 have h3:v8 20<2 ^ 64:=by decide
 lia
def Jk {ps:List (Nat×Nat)}(hp:∀p∈ps,p.1<p.2)(nd:ps.Nodup){l m i j:Nat}(h:l+m<=39):n9 (hm ps l i:Int) (hm ps m j:Int):=by
 rcases W8 19 l with q|q
 ·exact .inr {by lia,t_ hp nd (by lia)}
 ·exact .inl {by lia,t_ hp nd q}
abbrev hT (ps:List (Nat×Nat)):Nat->Nat->Int:=λl i=>((hm ps l i:Nat):Int)
def Cj:FD:=λds R=>∃(n:Nat) (ps:List (Nat×Nat)) (L:Nat->Nat) (i j:Nat) (c:Option Nat),ds=[gz n L (hT ps),.lst ((parts i c j).map wY)]/\c∈bq ps w1 (tW ps w1) i j/\qi n ps/\n<=40/\i<j/\j<=n/\(∀a,i<a->a<=n->n+1-a<=L a)/\R (.int (k_ ps i j c:Nat))
def Cj.mono:dc Cj:=λds R R' k h=>by obtain⟨n,ps,L,i,j,c,e,h1,h2,h3,h4,h5,h6,q⟩:=h;exact{n,ps,L,i,j,c,e,h1,h2,h3,h4,h5,h6,k _ q}
def Ck:FD:=λds R=>∃(n:Nat) (ps:List (Nat×Nat)) (L:Nat->Nat) (i j:Nat),ds=[gz n L (hT ps),.lst ((bq ps w1 (tW ps w1) i j).map oD),.int i,.int j]/\qi n ps/\n<=40/\i<j/\j<=n/\(∀a,i<a->a<=n->n+1-a<=L a)/\R (.int (hT ps (j-i) i))
def Ck.mono:dc Ck:=λds R R' k h=>by obtain⟨n,ps,L,i,j,e,h2,h3,h4,h5,h6,q⟩:=h;exact{n,ps,L,i,j,e,h2,h3,h4,h5,h6,k _ q}
def kL:FD:=λds R=>∃(n:Nat) (ps:List (Nat×Nat)),ds=[j8 n ps]/\qi n ps/\n<=40/\R (.int (hT ps n 0))
def kL.mono:dc kL:=λds R R' k h=>by obtain⟨n,ps,e,h2,h3,q⟩:=h;exact{n,ps,e,h2,h3,k _ q}
def yf {ps:List (Nat×Nat)}{l:List (Nat×Nat)}{m:Nat}{p:Nat×Nat}(h:l[m]?=some p):(l.take (m+1)).foldl (λa p=>a*hm ps (p.2-p.1) p.1) 1=(l.take m).foldl (λa p=>a*hm ps (p.2-p.1) p.1) 1*hm ps (p.2-p.1) p.1:=by
 rw[Xv,h,Z5];rfl
def A7 {ps:List (Nat×Nat)}(hp:∀p∈ps,p.1<p.2)(nd:ps.Nodup){i j m:Nat}{c:Option Nat}{p:Nat×Nat}(hj:j<=40)(hc:c∈bq ps w1 (tW ps w1) i j)(h:(parts i c j)[m]?=some p):
  n9 ((((parts i c j).take m).foldl (λa p=>a*hm ps (p.2-p.1) p.1) 1:Nat):Int) ((hm ps (p.2-p.1) p.1:Nat):Int):=by
 cases m with
 |zero=>exact .inl {by show -(2 ^ 64)<((1:Nat):Int);decide,by show ((1:Nat):Int)<2 ^ 64;decide}
 |succ m =>
  cases c with
  |none=>cases m <;> cases h
  |some k =>
   cases m with
   |succ m=>cases m <;> cases h
   |zero =>
    cases h;have o:=bj hc;obtain⟨o1,o2,_⟩:=o;have:=hp _ o1;dsimp only at this;show n9 ((1*hm ps (k-(i+1)) (i+1):Nat):Int) _;rw[Y_];exact Jk hp nd (by show k-(i+1)+(j-(k+1))<=39;lia)
def Ax {a:Nat}{lo:Int}{c k:Nat}{d:D}(h:(iU lo c)[k]?=some d)(hl:lo=(a:Int)):∃j:Nat,j=a+k/\d=.int (j:Int):=by
 obtain⟨_,rfl⟩:=eh h;exact{a+k,rfl,congrArg D.int (by lia)}
def dv {γ:c8}{τ:aZ}{φ:aQ}{ds ds':List D}{k:Kd}{β:a9}{K:List D->Prop}(e:ds=ds')(q:lg γ τ φ ds' k β K):lg γ τ φ ds k β K:=by rw[e];exact q
def rC {γ:c8}{ψ:zQ}{E:cH}{ds:List D}{k:Kd}{β:a9}(I:Nat->a9->Prop)(h0:I 0 β)(h1:∀E':cH,(∀d β,E.rt d β->E'.rt d β)->∀i:Nat,(∀β,I (i+1) β->E'.nx β)->∀d β,ds[i]?=some d->I i β->γ d (sk k d) β λβ1=>ψ E' β1)
  (h2:∀β,I ds.length β->E.nx β):Cf γ ψ E ds k β:={I,h0,λi d β e q=>h1 (E.lp (I (i+1))) (λ_ _ q=>q) i (λ_ q=>q) d β e q,h2}
def SY {E:cH}{ψ:zQ}{E':cH}{β:a9}(h:ψ E' β):(E.up (ap ψ E')).nx β:=h
def G1 {τ:aZ}{ψ:zQ}{E:cH}{β:a9}(V:Nat->a9->Prop)(h0:∃m,V m β)
  (h1:∀(E':cH) (Q:a9->Prop),(∀β,E.nx β->Q β)->∀m,(∀m' β,m'<m->V m' β->E'.nx β)->∀β,V m β->τ β λt β1=>if t=true then ψ E' β1 else Q β1):z6 τ ψ E β :=
 {V,h0,λm β v=>h1 {nx:=λβ'=>∃m',m'<m/\V m' β',rt:=E.rt,bk:=E.nx,ct:=λβ'=>∃m',m'<m/\V m' β'} E.nx (λ_ q=>q) m (λm' _ l v=>{(m'),l,v}) β v}
end L2.Q
namespace qj
open PySem L2 L2.Q
section
variable {P:V2}{w:Wm}{K:PySem.W.Frag}{mg:Str->Option VT}{base:Heap}
def iw:aK ["many"] ["many"] (ay bM):=mkS
def xl {dY bV} (fK:D0 K mg dY bV) (B:oZ mg):aG P w K mg base bu 1 dY bV ["many"] (bZ P w true v9):=by
 refine oe fK.F iw (λds R PC=> by obtain⟨n,e,_⟩ := PC;subst e;rfl) λc7 A outer s H E hr=>{_,(ak (a7 (T1 ["i","j","many"] [none,none,some 0] (by rfl) (by decide:(["i","j","many"]:List Str).Nodup) rfl (vz B.range (ab (aH ag (bC.m bD) (ae (i:=0)) aj) (ab (FT wB aj) (ab (FT wB aj) af)))) (λ_ _ _ _ _ _=>(au (i:=0) (by decide:(["i","j","many"]:List Str).Nodup))) (λ_ _ _ _ _ _=>cK) (λ_ _ _ _ _ _=>(vy B.range (ab (aH aX aJ (ae (i:=0)) aj) (ab (aH aX aJ (ae (i:=2)) aj) af)))) (λ_ _ _ _ _ _=>(au (i:=1) (by decide:(["i","j","many"]:List Str).Nodup))) (λ_ _ _ _ _ _=>cK) (λ_ _ _ _ _ _=>(aN (ab (ae (i:=0)) (ab (ae (i:=1)) af))))))),λds R h=>?_}
 obtain⟨n,rfl,hn,q⟩:=h;refine{_,rfl,tv,_,rfl,tv,_,rfl,rfl,tv,_,rfl,rfl,tv,(n:Int)-1,-1,rfl,{by lia,by lia,by lia,by lia},tv,?_}
 have en:((n:Int)-1 - -1).toNat=n:=by lia
 rw[en];refine{λa β o=>a<=n/\(∃x0 x1,β=[x0,x1,some (.val false (.int n))])/\o=(((VW n).take a).flatMap (eS n)).map wY,{V_ _,{_,_,rfl},rfl},?_,?_}
 ·rintro a d β o hd ⟨ha,⟨x0,x1,rfl⟩,rfl⟩;obtain⟨NJ,rfl⟩:=sN hd;have e1:(n:Int)-1-a=((n-1-a:Nat):Int):=by lia
  rw[e1];refine{_,rfl,tv,_,rfl,tv,_,rfl,tv,_,rfl,tv,((n-1-a:Nat):Int)+1,(n:Int)+1,rfl,{by lia,by lia,by lia,by lia},?_}
  have e2:((n:Int)+1-(((n-1-a:Nat):Int)+1)).toNat=a+1:=by lia
  rw[e2];refine{λb β o=>b<=a+1/\(∃x1,β=[some (.val true (.int ((n-1-a:Nat):Int))),x1,some (.val false (.int n))])/\o=(((VW n).take a).flatMap (eS n)++(eS n a).take b).map wY,{V_ _,{_,rfl},by simp},?_,?_}
  ·rintro b d β o hd ⟨hb,⟨x1,rfl⟩,rfl⟩;obtain⟨rV,rfl⟩:=eh hd;refine{_,rfl,tv,_,rfl,tv,fu,tv,?_,rV,{_,rfl},?_}
   ·rw[VS,Wf];exact Ag hn NJ rV
   ·rw[show ((n-1-a:Nat):Int)+1+(b:Int)=((n-a+b:Nat):Int) by lia,yv rV,<- W3,Wv,Wv,Wv]
    rfl
  ·rintro β o ⟨_,⟨x1,rfl⟩,rfl⟩;refine{NJ,{_,_,rfl},?_};rw[fx,Aw,Xv,XN NJ,X0];simp
 ·rintro β o ⟨_,⟨x0,x1,rfl⟩,rfl⟩;rw[sM,Xh (by simp)]
  exact{(tv),tv,q}
def bH:aK ["row","many","ties","partners","a","b"] ["row"] (ay de):=mkS
def lP {dy bL} (dI:D1 K mg dy bL) (B:oZ mg):aG P w K mg base bu 1 dy bL ["row"] (bZ P w true gZ):=by
 refine oe dI.F bH (λds R Pz=> by obtain⟨n,ps,e,_⟩ := Pz;subst e;rfl) λc7 A outer s H E hr=>⟨_,(ah (A5 (ae (i:=0)) (fU (n:=2) rfl (ba (au (i:=1) bH.nd) (ba (au (i:=2) bH.nd) eD))))
    (ah (qH (i:=3) true ["point"] [none] (by rfl) (by decide:(["point"]:List Str).Nodup) rfl (λ_=>(aU B.range (ab (ae (i:=1)) af))) (λ_ _ _ _ _ _=>(au (i:=0) (by decide:(["point"]:List Str).Nodup))) (λ_ _ _ _ _ _=>cK) (λ_ _ _ _ _ _=>(bJ af)) bH.nd)
    (ah (eE Xi rfl (bx (ae (i:=2))) (fU (n:=2) rfl (ba (au (i:=4) bH.nd) (ba (au (i:=5) bH.nd) eD))) (ak (gT (i:=3) true (λ_=>(ae (i:=5))) (λ_=>(ae (i:=4))))))
    (ak (h_ (i:=3)))))),λds R h=>?_⟩
 obtain⟨n,ps,rfl,ok,q⟩:=h;have hn:=ok.le;refine{_,rfl,_,rfl,rfl,_,_,rfl,_,_,rfl,rfl,_,rfl,tv,n,rfl,by lia,by lia,tv,?_}
 rw[WO];refine b5 (λ_=>true) (λ_=>.lst []) tv (by rw[We];exact c9 (by lia)) (λx hx x0 o J ho h1 _=>{V_ _,tv,ho,h1 rfl _}) ?_
 rw[a6];refine{_,rfl,_,rfl,tv,?_};refine{λm β=>∃x4 x5,β=[some (.val false (j8 n ps)),some (.val true (.int n)),some (.val false (cU ps)),some (.own (uW n (ps.take m))),x4,x5],{_,_,rfl},?_,?_}
 ·rintro m d β hd ⟨x4,x5,rfl⟩;rw[Wg]at hd;obtain⟨p,hp,rfl⟩:=Wk.mp hd;obtain⟨h1,h2⟩:=ok.lt p (Xz hp);refine{_,rfl,rfl,_,_,rfl,_,_,rfl,rfl,{_,rfl},_,rfl,_,_,_,_,rfl,rfl,by rw[VS,We];exact IH rfl (show p.1<n by lia),dS (show p.1<n by lia),_,rfl,tv,rfl,?_,?_}
  ·unfold Q.dM;rw[VS];have:=jD (ps:=ps.take m) (i:=p.1);rw[WH]at this;have:=ok.sm;exact kY (by lia)
  ·refine{some (.val true (.int p.1)),some (.val true (.int p.2)),?_};have e:ps.take (m+1)=ps.take m++[(p.1,p.2)]:=by rw[Xv,hp];rfl
   rw[Hn (show p.1<n by lia),e]
   rfl
 ·rintro β ⟨x4,x5,rfl⟩;rw[VS,XO];exact{_,rfl,q}
def mv:aK ["worth","table","i","k","j"] ["worth","table","i","k","j"] (ay df):=mkS
def xm {cS bt} (d4:D2 K mg cS bt):aG P w K mg base bu 1 cS bt ["worth","table","i","k","j"] (bZ P w true nB):=by
 refine oe d4.F mv (λds R Py=> by obtain⟨n,ps,w,L,T,i,k,j,e,_⟩ := Py;subst e;rfl) λc7 A outer s H E hr=>{_,(ak (a7 (aH aX aJ (aH aX aJ (a5 ag (Ls hr.z7) (ae (i:=0)) (aN (ab (ae (i:=2)) (ab (ae (i:=3)) af)))) (a5 ag bR (a5 ag bR (ae (i:=1)) (aH aX aJ (ae (i:=2)) aj)) (aH ag (bC.m bD) (aH ag (bC.m bD) (ae (i:=3)) (ae (i:=2))) aj))) (a5 ag bR (a5 ag bR (ae (i:=1)) (aH aX aJ (ae (i:=3)) aj)) (aH ag (bC.m bD) (aH ag (bC.m bD) (ae (i:=4)) (ae (i:=3))) aj))))),λds R h=>?_}
 obtain⟨n,ps,w,L,T,i,k,j,rfl,hm,h1,h2,h3,h4,h5,q⟩:=h;exact⟨_,rfl,tv,_,rfl,tv,_,rfl,tv,fu,_,Jq hm,tv,_,rfl,tv,_,rfl,tv,_,rfl,_,lj (i:=i+1) (by lia) (by lia),.inr ⟨tv,_,rfl,tv,_,rfl,_,rfl,tv,_,rfl,_,ll (l:=k-i-1) (by lia) h4,_,rfl,tv,
  _,rfl,tv,_,rfl,tv,_,rfl,_,lj (i:=k+1) (by lia) (by lia),.inr {tv,_,rfl,tv,_,rfl,_,rfl,tv,_,rfl,_,ll (l:=j-k-1) (by lia) h5,_,rfl,tv,q}⟩⟩
def gq:aK ["partners","worth","table","i","j","numbers"] ["partners","worth","table","i","j"] (ay cX):=mkS
def Bh {d3 bX} (gC:D3 K mg d3 bX) {cS bt} (d4:D2 K mg cS bt) (B:oZ mg):aG P w K mg base bu 2 d3 bX ["partners","worth","table","i","j"] (bZ P w true nC):=by
 have Q9:aG P w K mg base bu 1 _ _ _ (bZ P w true nB):= xm d4;refine oe gC.F gq (λds R Px=> by obtain⟨n,ps,w,L,T,i,j,e,_⟩ := Px;subst e;rfl) λc7 A outer s H E hr=>⟨_,(ah (qH (i:=5) false ["k","worth","table","i","j"] [none,some 1,some 2,some 3,some 4] (by rfl) (by decide:(["k","worth","table","i","j"]:List Str).Nodup) rfl (λ_=>(bx (a5 ag bR (ae (i:=0)) (ae (i:=3))))) (λ_ _ _ _ _ _=>(au (i:=0) (by decide:(["k","worth","table","i","j"]:List Str).Nodup))) (λ_ _ _ _ _ _=>(gG (aM ag (bC.m qO) (ae (i:=0)) (ae (i:=4))))) (λ_ _ _ _ _ _=>(aw nB.mono Q9 (hr.mono (by decide)) d4.m d4.F.kp d4.b (ab (ae (i:=1)) (ab (ae (i:=2)) (ab (ae (i:=3)) (ab (ae (i:=0)) (ab (ae (i:=4)) af))))))) gq.nd)
    (ak (a7 (c0 ag (dB.m (zD rfl)) B.max rM (ab (aH aX aJ (ae (i:=5)) (bJ (ab (a5 ag bR (a5 ag bR (ae (i:=2)) (aH aX aJ (ae (i:=3)) aj)) (aH ag (bC.m bD) (aH ag (bC.m bD) (ae (i:=4)) (ae (i:=3))) aj)) af))) af))))),λds R h=>?_⟩
 obtain⟨n,ps,w,L,T,i,j,rfl,ok,h1,h2,h3,q⟩:=h;have IS:=ok.sm;have hle:=ok.le;have hl:((iC ps i).filter λk=>decide (k<j)).length<=400:=WG (YG _ _) (WG jD IS);refine{_,rfl,tv,_,rfl,_,Lu rfl (by lia),.inr {_,rfl,tv,?_}}
 refine b5 (λk=>decide (k<j)) (λk=>.int (w (i,k)+T (k-i-1) (i+1)+T (j-k-1) (k+1))) tv (c9 (WG jD (by lia))) (λk hk x0 o J ho j1 j2=>?_) ?_
 ·have hm:=br.mp hk;obtain⟨g1,g2⟩:=ok.lt _ hm;dsimp only at g1 g2;refine{_,rfl,tv,_,rfl,_,rfl,_,rfl,C_ (λQo=>?_) (λQo=>j2 (by simp;lia) _)}
  have BZ:k<j:=by lia
  have a1:=h3 (i+1) (by lia) (by lia)
  have a2:=h3 (k+1) (by lia) (by lia)
  exact{_,rfl,tv,_,rfl,tv,_,rfl,tv,_,rfl,tv,_,rfl,tv,n,ps,w,L,T,i,k,j,rfl,hm,g1,BZ,h2,by lia,by lia,tv,ho,j1 (by simpa using BZ) _}
 ·have a1:=h3 (i+1) (by lia) (by lia)
  refine{_,rfl,tv,_,rfl,tv,_,rfl,tv,_,rfl,_,lj (i:=i+1) (by lia) (by lia),.inr {tv,_,rfl,tv,_,rfl,_,rfl,tv,_,rfl,_,ll (l:=j-i-1) (by lia) (by lia),tv,Dy,_,nK (by rw[VS];show _+1<=_;lia),.inl {pT fH rfl,tv,_,Bv,tv,q}}}
def a_:aK ["row","worth","many","partners","table","i","j"] ["row","worth"] (ay cg):=mkS
def Bi {eV cw} (gD:D4 K mg eV cw) {dy bL} (dI:D1 K mg dy bL) {dY bV} (fK:D0 K mg dY bV) {d3 bX} (gC:D3 K mg d3 bX) {cS bt} (d4:D2 K mg cS bt) (B:oZ mg):aG P w K mg base bu 3 eV cw ["row","worth"] (bZ P w true nD):=by
 have JT:aG P w K mg base bu 1 _ _ _ (bZ P w true gZ):= lP dI B;have Q8:aG P w K mg base bu 1 _ _ _ (bZ P w true v9):= xl fK B;have Vf:aG P w K mg base bu 2 _ _ _ (bZ P w true nC):= Bh gC d4 B;refine oe gD.F a_ (λds R Pw=> by obtain⟨n,ps,w,e,_⟩ := Pw;subst e;rfl) λc7 A outer s H E hr=>⟨_,(ah (aR (i:=2) (a5 ag bR (ae (i:=0)) aj) a_.nd)
    (ah (aR (i:=3) (aw gZ.mono JT (hr.mono (by decide)) dI.m dI.F.kp dI.b (ab (ae (i:=0)) af)) a_.nd)
    (ah (qH (i:=4) true ["i"] [none] (by rfl) (by decide:(["i"]:List Str).Nodup) rfl (λ_=>(aU B.range (ab (aH aX aJ (ae (i:=2)) aj) af))) (λ_ _ _ _ _ _=>(au (i:=0) (by decide:(["i"]:List Str).Nodup))) (λ_ _ _ _ _ _=>cK) (λ_ _ _ _ _ _=>(bJ (ab aj af))) a_.nd)
    (ah (eE Xi rfl (bx (aw v9.mono Q8 (hr.mono (by decide)) fK.m fK.F.kp fK.b (ab (ae (i:=2)) af))) (fU (n:=2) rfl (ba (au (i:=5) a_.nd) (ba (au (i:=6) a_.nd) eD))) (ak (gT (i:=4) true (λ_=>(aw nC.mono Vf (hr.mono (by decide)) gC.m gC.F.kp gC.b (ab (ae (i:=3)) (ab (ae (i:=1)) (ab (ae (i:=4)) (ab (ae (i:=5)) (ab (ae (i:=6)) af))))))) (λ_=>(ae (i:=5))))))
    (ak (h_ (i:=4))))))),λds R h=>?_⟩
 obtain⟨n,ps,w,rfl,ok,q⟩:=h;have hn:=ok.le;have hp:∀p∈ps,p.1<p.2:=λp hp=>(ok.lt p hp).1;refine{_,rfl,tv,_,rfl,_,rfl,tv,n,ps,rfl,ok,_,rfl,tv,_,rfl,tv,(n:Int)+1,rfl,by lia,by lia,tv,?_}
 rw[show ((n:Int)+1).toNat=n+1 by lia]
 refine b5 (λ_=>true) (λ_=>.lst [.int 0]) tv (by rw[We];exact c9 (by lia)) (λx hx x0 o J ho h1 _=>{tv,Dy,tv,ho,h1 rfl _}) ?_
 rw[a6];refine{_,rfl,tv,n,rfl,hn,_,rfl,tv,?_};refine rC (λidx β=>∃L x5 x6,β=[some (.val false (j8 n ps)),some (.val false (wD ps w)),some (.val true (.int n)),some (.val true (uW n ps)),some (.own (gz n L (tW ps w))),x5,x6]/\uV n idx L) {λ_=>1,_,_,rfl,lr} (λE1 r1 idx n1 d β hd h=>?_) ?_
 ·obtain⟨L,x5,x6,rfl,dn⟩:=h;rw[Wg]at hd;obtain⟨p,jh,rfl⟩:=Wk.mp hd;obtain⟨a,b,ha,hb,rfl,hL,BP⟩:=nG dn jh;have eL:gz n L (tW ps w)=gz n (dG n a b) (tW ps w):=hJ hL;have e0:dG n a b (n-1-a)=b+1:=by unfold dG;rw[if_neg (by lia),if_pos rfl]
  rw[eL];refine⟨_,rfl,rfl,_,_,rfl,_,_,rfl,rfl,{_,rfl},_,rfl,_,_,_,_,rfl,rfl,by rw[VS,We];exact IH rfl (show n-1-a<n+1 by lia),dS (show n-1-a<n+1 by lia),
   _,rfl,tv,_,rfl,tv,_,rfl,tv,_,rfl,tv,_,rfl,tv,n,ps,w,dG n a b,tW ps w,n-1-a,n-a+b,rfl,ok,by lia,by lia,λa' h1 h2=>by unfold dG;rw[if_pos h1];exact VR _,tv,rfl,?_,?_⟩
  ·rw[e0];unfold qv;rw[VS,We];exact kY (by lia)
  ·refine n1 _ {dG n a (b+1),some (.val true (.int ((n-1-a:Nat):Int))),some (.val true (.int ((n-a+b:Nat):Int))),?_,.inr {a,b+1,ha,by lia,λ_ _=>rfl,BP}}
   have ev:i3 ps w (tW ps w) (n-1-a) (n-a+b)=tW ps w (b+1) (n-1-a):=by rw[jv hp,show n-1-a+b+1=n-a+b by lia]
   rw[ev,e0,wK ha hb];rfl
 ·rintro β ⟨L,x5,x6,rfl,dn⟩;rw[VS]at dn;have e:gz n L (tW ps w)=dN n (tW ps w):=hJ (pZ dn);rw[e];exact{_,rfl,q}
def sG:aK ["row"] ["row"] (ay fR):=mkS
def qR {eU cv} (eP:D5 K mg eU cv):aG P w K mg base bu 1 eU cv ["row"] (bZ P w true nz):=by
 refine oe eP.F sG (λds R Pu=> by obtain⟨n,ps,e,_⟩ := Pu;subst e;rfl) λc7 A outer s H E hr=>{_,(ak (a7 (U0 (Nat.lt_of_succ_lt hr.z7) ["tie"] [none] (by rfl) (by decide:(["tie"]:List Str).Nodup) rfl (bx (a5 ag bR (ae (i:=0)) aj)) (λ_ _ _ _ _ _=>(au (i:=0) (by decide:(["tie"]:List Str).Nodup))) (λ_ _ _ _ _ _=>cK) (λ_ _ _ _ _ _=>(ae (i:=0))) (λ_ _ _ _ _ _=>aj)))),λds R h=>?_}
 obtain⟨n,ps,rfl,ok,q⟩:=h;have IS:=ok.sm;refine{_,rfl,tv,_,rfl,.inr {_,rfl,tv,?_}};refine{λm β o=>m<=ps.length/\(∃x0,β=[x0])/\o=(ps.take m).map λp=>(tI p,D.int (w1 p)),{V_ _,{_,rfl},rfl},?_,?_}
 ·rintro m d β o hd ⟨hm,⟨x0,rfl⟩,rfl⟩;rw[Wg]at hd;obtain⟨p,hp,rfl⟩:=Wk.mp hd;have ie:=(Ww.mp hp).1;refine{_,rfl,tI p,rfl,rfl,Ei (Ep ok.nd hp),?_,ie,{_,rfl},?_}
  ·rw[VS,WH];exact kY (by lia)
  ·rw[Xv,hp,Wv];rfl
 ·rintro β o ⟨_,⟨x0,rfl⟩,rfl⟩;rw[VS,XO];exact{(tv),tv,q}
def sF:aK ["row"] ["row"] (ay fQ):=mkS
def mU {fI cQ} (gc:D6 K mg fI cQ) {eV cw} (gD:D4 K mg eV cw) {dy bL} (dI:D1 K mg dy bL) {dY bV} (fK:D0 K mg dY bV) {d3 bX} (gC:D3 K mg d3 bX) {cS bt} (d4:D2 K mg cS bt) {eU cv} (eP:D5 K mg eU cv) (B:oZ mg):aG P w K mg base bu 4 fI cQ ["row"] (bZ P w true f_):=by
 have Vh:aG P w K mg base bu 3 _ _ _ (bZ P w true nD):= Bi gD dI fK gC d4 B;have JU:aG P w K mg base bu 1 _ _ _ (bZ P w true nz):= qR eP;refine oe gc.F sF (λds R Pt=> by obtain⟨n,ps,e,_⟩ := Pt;subst e;rfl) λc7 A outer s H E hr=>{_,(ak (a7 (aw nD.mono Vh (hr.mono (by decide)) gD.m gD.F.kp gD.b (ab (ae (i:=0)) (ab (aw nz.mono JU (hr.mono (by decide)) eP.m eP.F.kp eP.b (ab (ae (i:=0)) af)) af))))),λds R h=>?_}
 obtain⟨n,ps,rfl,ok,q⟩:=h;exact{_,rfl,tv,_,rfl,tv,n,ps,rfl,ok,tv,n,ps,w1,rfl,ok,tv,q}
end
section
variable {P:V2}{w:Wm}{K:PySem.W.Frag}{mg:Str->Option VT}{base:Heap}
def oB:aK ["i","k","j"] ["i","k","j"] (ay dR):=mkS
def mV {dZ bW} (ft:D7 K mg dZ bW):aG P w K mg base bu 1 dZ bW ["i","k","j"] (bZ P w true gb):=by
 refine oe ft.F oB (λds R Pr=> by obtain⟨i,k,j,e,_⟩ := Pr;subst e;rfl) λc7 A outer s H E hr=>⟨_,(bU (c4 (aM ag (bC.m xi) (ae (i:=1)) mI) (ak (a7 (bJ (ab (aN (ab (aH aX aJ (ae (i:=0)) aj) (ab (ae (i:=2)) af))) af)))) bg)
    (ak (a7 (bJ (ab (aN (ab (aH aX aJ (ae (i:=0)) aj) (ab (ae (i:=1)) af))) (ab (aN (ab (aH aX aJ (ae (i:=1)) aj) (ab (ae (i:=2)) af))) af)))))),λds R h=>?_⟩
 obtain⟨i,k,j,rfl,q⟩:=h;cases k with
 |none=>exact{λ_=>False,{_,rfl,tv,_,rfl,_,rfl,BM rfl {_,rfl,tv,_,rfl,tv,_,rfl,tv,fu,tv,Dy,tv,q}},λ_ z=>z.elim}
 |some k =>
  refine{λβ=>β=[some (.val false (.int i)),some (.val false (.int k)),some (.val false (.int j))],{_,rfl,tv,_,rfl,_,rfl,j9 rfl rfl},?_};rintro β rfl;exact{_,rfl,tv,_,rfl,tv,_,rfl,tv,fu,tv,_,rfl,tv,_,rfl,tv,_,rfl,tv,fu,tv,fu,tv,q}
def dE:aK ["partners","worth","table","i","j","best","choices"] ["partners","worth","table","i","j"] (ay cY):=mkS
def qT {eW cy} (fL:D8 K mg eW cy) {cS bt} (d4:D2 K mg cS bt) (B:oZ mg):aG P w K mg base bu 2 eW cy ["partners","worth","table","i","j"] (bZ P w true jU):=by
 have Q9:aG P w K mg base bu 1 _ _ _ (bZ P w true nB):= xm d4;refine oe fL.F dE (λds R Pq=> by obtain⟨n,ps,w,T,i,j,e,_⟩ := Pq;subst e;rfl) λc7 A outer s H E hr=>⟨_,(ah (aR (i:=5) (a5 ag bR (a5 ag bR (ae (i:=2)) (ae (i:=3))) (aH ag (bC.m bD) (ae (i:=4)) (ae (i:=3)))) dE.nd)
    (ah (qH (i:=6) true ["k","j","best","worth","table","i"] [none,some 4,some 5,some 1,some 2,some 3] (by rfl) (by decide:(["k","j","best","worth","table","i"]:List Str).Nodup) rfl (λ_=>(bx (a5 ag bR (ae (i:=0)) (ae (i:=3))))) (λ_ _ _ _ _ _=>(au (i:=0) (by decide:(["k","j","best","worth","table","i"]:List Str).Nodup))) (λ_ _ _ _ _ _=>(gG (wx.t (wZ (aM ag (bC.m qO) (ae (i:=0)) (ae (i:=1))) (sR (aM ag (bC.m (fX hr.units)) (aw nB.mono Q9 (hr.mono (by decide)) d4.m d4.F.kp d4.b (ab (ae (i:=3)) (ab (ae (i:=4)) (ab (ae (i:=5)) (ab (ae (i:=0)) (ab (ae (i:=1)) af)))))) (ae (i:=2)))))))) (λ_ _ _ _ _ _=>(ae (i:=0))) dE.nd)
    (bU (c4 (aM ag (bC.m (fX hr.units)) (a5 ag bR (a5 ag bR (ae (i:=2)) (aH aX aJ (ae (i:=3)) aj)) (aH ag (bC.m bD) (aH ag (bC.m bD) (ae (i:=4)) (ae (i:=3))) aj)) (ae (i:=5))) (ak (fy (i:=6) (λ_=>mI))) bg)
    (ak (h_ (i:=6)))))),λds R h=>?_⟩
 obtain⟨n,ps,w,T,i,j,rfl,ok,h1,h2,q⟩:=h;have IS:=ok.sm;have hle:=ok.le;refine{_,rfl,tv,_,rfl,_,lj rfl (by lia),.inr {tv,_,rfl,tv,_,rfl,_,rfl,_,ll (l:=j-i) (by lia) (by lia),?_}}
 refine{_,rfl,tv,_,rfl,_,Lu rfl (by lia),.inr {_,rfl,tv,?_}}
 refine b5 (λk=>decide (k<j)&&decide (w (i,k)+T (k-i-1) (i+1)+T (j-k-1) (k+1)=T (j-i) i)) (λk=>.int (k:Int)) tv (c9 (WG jD (by lia))) (λk hk x0 o J ho j1 j2=>?_) ?_
 ·have hm:=br.mp hk;obtain⟨g1,g2⟩:=ok.lt _ hm;dsimp only at g1 g2;refine{_,rfl,tv,_,rfl,_,rfl,_,rfl,C_ (λQo=>?_) (λQo=>j9 rfl (j2 ?_ _))}
  ·have BZ:k<j:=by lia
   refine{_,rfl,tv,_,rfl,tv,_,rfl,tv,_,rfl,tv,_,rfl,tv,n,ps,w,(λi=>n+1-i),T,i,k,j,rfl,hm,g1,BZ,h2,by show _<n+1-(i+1);lia,by show _<n+1-(k+1);lia,tv,_,rfl,_,iq _ _,_,rfl,C_ (λe=>?_) (λe=>j2 ?_ _)}
   ·exact{_,rfl,tv,ho,j1 (by rw[WL,decide_eq_true_eq,decide_eq_true_eq];exact{(BZ),e}) _}
   ·rw[Bool.and_eq_false_iff];exact .inr (decide_eq_false e)
  ·rw[Bool.and_eq_false_iff];exact .inl (decide_eq_false (by lia))
 ·have eb:bq ps w T i j=((iC ps i).filter λk=>decide (k<j)&&decide (w (i,k)+T (k-i-1) (i+1)+T (j-k-1) (k+1)=T (j-i) i)).map some++(if T (j-i-1) (i+1)=T (j-i) i then [none] else []):=rfl
  have em:(((iC ps i).filter λk=>decide (k<j)&&decide (w (i,k)+T (k-i-1) (i+1)+T (j-k-1) (k+1)=T (j-i) i)).map λ(k:Nat)=>D.int (k:Int))=(((iC ps i).filter λk=>decide (k<j)&&decide (w (i,k)+T (k-i-1) (i+1)+T (j-k-1) (k+1)=T (j-i) i)).map some).map oD:=by rw[WR];rfl
  have hl:(((iC ps i).filter λk=>decide (k<j)&&decide (w (i,k)+T (k-i-1) (i+1)+T (j-k-1) (k+1)=T (j-i) i)).map some).length<=400:=by rw[VS];exact WG (YG _ _) (WG jD IS)
  rw[em];generalize ((iC ps i).filter λk=>decide (k<j)&&decide (w (i,k)+T (k-i-1) (i+1)+T (j-k-1) (k+1)=T (j-i) i)).map some=cs at eb hl ⊢
  refine{λβ=>β[6]?=some (some (.own (.lst ((bq ps w T i j).map oD)))),?_,λβ hβ=>{_,hβ,q}};refine{_,rfl,tv,_,rfl,tv,_,rfl,_,lj (i:=i+1) (by lia) (by lia),.inr {tv,_,rfl,tv,_,rfl,_,rfl,tv,_,rfl,_,ll (l:=j-i-1) (by lia) (by lia),tv,_,rfl,_,iq _ _,_,rfl,C_ (λe=>?_) (λe=>?_)}}
  ·rw[if_pos e]at eb;refine{{_,rfl},tv,_,rfl,by rw[VS];exact kY (by lia),?_}
   rw[eb,Wv];rfl
  ·rw[if_neg e,WZ]at eb;rw[eb];rfl
def aY:aK ["row","worth","table","i","j","partners","found","waiting","low","high","k"] ["row","worth","table","i","j"] (ay cj):=mkS
def Ef {jS fh} (rG:D9 K mg jS fh) {dy bL} (dI:D1 K mg dy bL) {eW cy} (fL:D8 K mg eW cy) {cS bt} (d4:D2 K mg cS bt) {dZ bW} (ft:D7 K mg dZ bW) (B:oZ mg):aG P w K mg base bu 3 jS fh ["row","worth","table","i","j"] (bZ P w true uq):=by
 have JT:aG P w K mg base bu 1 _ _ _ (bZ P w true gZ):= lP dI B;have M7:aG P w K mg base bu 2 _ _ _ (bZ P w true jU):= qT fL d4 B;have M6:aG P w K mg base bu 1 _ _ _ (bZ P w true gb):= mV ft;refine oe rG.F aY (λds R Pp=> by obtain⟨n,ps,w,i,j,e,_⟩ := Pp;subst e;rfl) λc7 A outer s H E hr=>⟨_,(ah (aR (i:=5) (aw gZ.mono JT (hr.mono (by decide)) dI.m dI.F.kp dI.b (ab (ae (i:=0)) af)) aY.nd)
    (ah (c3 (i:=6) (λ_=>(bJ af)) aY.nd)
    (ah (c3 (i:=7) (λ_=>(bJ (ab (aN (ab (ae (i:=3)) (ab (ae (i:=4)) af))) af))) aY.nd)
    (ah (AZ Xi (DP (ae (i:=7))) (ah (A5 (AO (i:=7)) (fU (n:=2) rfl (ba (au (i:=8) aY.nd) (ba (au (i:=9) aY.nd) eD))))
    (ak (c4 (aM ag (bC.m qO) (ae (i:=8)) (ae (i:=9))) (ah (aR (i:=10) (a5 ag bR (aw jU.mono M7 (hr.mono (by decide)) fL.m fL.F.kp fL.b (ab (ae (i:=5)) (ab (ae (i:=1)) (ab (ae (i:=2)) (ab (ae (i:=8)) (ab (ae (i:=9)) af)))))) aj) aY.nd)
    (bU (c4 (aM ag (bC.m tj) (ae (i:=10)) mI) (ak (fy (i:=6) (λ_=>(aN (ab (ae (i:=8)) (ab (ae (i:=10)) af)))))) bg)
    (ak (yI (i:=7) (DS (aw gb.mono M6 (hr.mono (by decide)) ft.m ft.F.kp ft.b (ab (ae (i:=8)) (ab (ae (i:=10)) (ab (ae (i:=9)) af))))))))) bg))))
    (ak (h_ (i:=6))))))),λds R h=>?_⟩
 obtain⟨n,ps,w,i,j,rfl,ok,h1,h2,q⟩:=h;have hn:=ok.le;have hp:∀p∈ps,p.1<p.2:=λp hp=>(ok.lt p hp).1;have VJ:(cC ps w i j).length<=40:=by have:=Cb (w:=w) hp (j-i) i j (VR _);lia
 refine{_,rfl,tv,n,ps,rfl,ok,V_ _,tv,_,rfl,tv,_,rfl,tv,fu,tv,Dy,tv,?_};refine SY (G1 (λm β=>∃(ws:List (Nat×Nat)) (fs:List (Nat×Nat)) (x8 x9 lG:Option Q.B),β=[some (.val false (j8 n ps)),some (.val false (wD ps w)),some (.val false (dN n (tW ps w))),some (.val false (.int i)),some (.val false (.int j)),some (.val true (uW n ps)),some (.own (cU fs)),some (.own (.lst (ws.map wY))),x8,x9,lG]/\(∀p∈ws,p.2<=n)/\wA ws=m/\m<=200/\fs++(ws.reverse.flatMap λp=>cC ps w p.1 p.2)=cC ps w i j) {_,[(i,j)],[],_,_,_,rfl,λp hp=>by rw[VU.mp hp];exact h2,rfl,by show 2*(j-i)+1+0<=200;lia,by simp} λE1 Q1 q1 m n1 β hv=>?_)
 obtain⟨ws,fs,x8,x9,lG,rfl,hw,hm,hl,hf⟩:=hv;rcases List.eq_nil_or_concat ws with rfl|⟨u0,⟨l,h⟩,rfl⟩
 ·refine{_,rfl,_,rfl,j9 rfl ?_};have hf:fs=cC ps w i j:=by simpa using hf
  rw[<- hf]at q;exact q1 _ {_,rfl,q}
 ·rw[List.concat_eq_append]at hw hm hf ⊢
  rw[qp]at hm;have VE:u0.length<=wA u0:=by
   unfold wA
   clear hw hm hf
   induction u0 with
   |nil=>exact VR _
   |cons a l ih=>rw[Ws,Yc,V7];lia
  have hm:wA u0+(2*(h-l)+1)=m:=hm;have hh:h<=n:=hw (l,h) (by simp)
  rw[YW,List.reverse_singleton,List.singleton_append,YF]at hf;refine{_,rfl,_,rfl,BM (by rw[Wv];cases u0 <;> rfl) ?_}
  rw[Wv];refine{u0.map wY,wY (l,h),rfl,_,rfl,rfl,_,_,rfl,_,_,rfl,rfl,?_};refine{_,rfl,tv,_,rfl,_,rfl,_,rfl,C_ (λGk=>?_) (λGk=>?_)}
  ·have Gk:l<h:=by lia
   have oM:=uG (w:=w) hp Gk;have Sm:=v7 (w:=w) hp Gk;have i8:=bj (cP (w:=w) hp Gk);have ER:b7 ps w l h=(bq ps w (tW ps w) l h).headD none:=rfl;cases hb:bq ps w (tW ps w) l h with
   |nil=>exact absurd hb oM
   |cons c cs =>
    rw[hb]at ER;have ER:b7 ps w l h=c:=ER;rw[ER]at Sm i8;rw[Sm]at hf;have fin:∀(NO:List (Nat×Nat)) (lG:Option Q.B),NO=fs++uc l c->E1.nx [some (Q.B.val false (j8 n ps)),some (.val false (wD ps w)),some (.val false (dN n (tW ps w))),some (.val false (.int i)),some (.val false (.int j)),some (.val true (uW n ps)),some (.own (cU NO)),some (.own (.lst (u0.map wY++(parts l c h).reverse.map wY))),some (.val true (.int l)),some (.val true (.int h)),lG]:=λNO lG e=>by
     have Vy:wA (parts l c h).reverse<2*(h-l)+1:=by
      rw[Dr];cases c with
      |none=>show 2*(h-(l+1))+1+0<_;lia
      |some k =>
       have:=hp _ i8.1;dsimp only at this;have h3:=i8.2.1;show 2*(k-(l+1))+1+(2*(h-(k+1))+1+0)<_;lia
     refine n1 (wA (u0++(parts l c h).reverse)) _ (by rw[qp];lia) {u0++(parts l c h).reverse,NO,_,_,_,by rw[Wv],λp jh=>?_,rfl,by rw[qp];lia,?_}
     ·rcases V9.mp jh with z|z
      ·exact hw p (by simp[z])
      ·have z:=List.mem_reverse.mp z;cases c with
       |none=>rw[VU.mp z];exact hh
       |some k =>
        have h3:=i8.2.1;rcases VX.mp z with rfl|z
        ·show k<=n;lia
        ·rw[VU.mp z];exact hh
     ·rw[<- hf,e,YW,List.reverse_reverse,X0];simp only[W3]
    refine{_,rfl,tv,_,rfl,tv,_,rfl,tv,_,rfl,tv,_,rfl,tv,n,ps,w,tW ps w,l,h,rfl,ok,Gk,hh,tv,oD c,xv (i:=0) rfl (by rw[hb];rfl),?_}
    cases c with
    |none =>
     refine{λβ=>β=[some (Q.B.val false (j8 n ps)),some (.val false (wD ps w)),some (.val false (dN n (tW ps w))),some (.val false (.int i)),some (.val false (.int j)),some (.val true (uW n ps)),some (.own (cU fs)),some (.own (.lst (u0.map wY))),some (.val true (.int l)),some (.val true (.int h)),some (.val true .ck)],{_,rfl,tv,_,rfl,_,rfl,j9 rfl rfl},?_};rintro β rfl;exact{{_,rfl},_,rfl,tv,_,rfl,tv,_,rfl,tv,l,none,h,rfl,_,rfl,.inl {rfl,_,_,rfl,rfl,rfl,by rw[VS];exact c9 (show u0.length+1<=1000 by lia),fin fs _ (by simp[uc])}}
    |some k =>
     refine{λβ=>β=[some (Q.B.val false (j8 n ps)),some (.val false (wD ps w)),some (.val false (dN n (tW ps w))),some (.val false (.int i)),some (.val false (.int j)),some (.val true (uW n ps)),some (.own (cU (fs++[(l,k)]))),some (.own (.lst (u0.map wY))),some (.val true (.int l)),some (.val true (.int h)),some (.val true (.int k))],{_,rfl,tv,_,rfl,_,rfl,BM rfl {{_,rfl},_,rfl,tv,_,rfl,tv,fu,tv,_,rfl,?_,?_}},?_}
     ·rw[VS];have:=congrArg List.length hf;rw[Wf]at this;exact kY (by lia)
     ·unfold cU;rw[Wv];rfl
     ·rintro β rfl;exact{{_,rfl},_,rfl,tv,_,rfl,tv,_,rfl,tv,l,some k,h,rfl,_,rfl,.inl {rfl,_,_,rfl,rfl,rfl,by rw[VS];exact c9 (show u0.length+2<=1000 by lia),fin (fs++[(l,k)]) _ rfl}}
  ·have Gk:¬ l<h:=by lia
   rw[dw Gk]at hf;exact n1 (wA u0) _ (by lia) {u0,fs,_,_,_,rfl,λp jh=>hw p (by simp[jh]),rfl,by lia,by simpa using hf}
def mw:aK ["row","i","j","table"] ["row","i","j"] (ay h8):=mkS
def yK {lD gw} (ux:Kh K mg lD gw) {fI cQ} (gc:D6 K mg fI cQ) {eV cw} (gD:D4 K mg eV cw) {dy bL} (dI:D1 K mg dy bL) {dY bV} (fK:D0 K mg dY bV) {d3 bX} (gC:D3 K mg d3 bX) {cS bt} (d4:D2 K mg cS bt) {eU cv} (eP:D5 K mg eU cv) {jS fh} (rG:D9 K mg jS fh) {eW cy} (fL:D8 K mg eW cy) {dZ bW} (ft:D7 K mg dZ bW) (B:oZ mg):aG P w K mg base bu 5 lD gw ["row","i","j"] (bZ P w true jT):=by
 have M5:aG P w K mg base bu 4 _ _ _ (bZ P w true f_):= mU gc gD dI fK gC d4 eP B;have Vj:aG P w K mg base bu 3 _ _ _ (bZ P w true uq):= Ef rG dI fL d4 ft B;have JU:aG P w K mg base bu 1 _ _ _ (bZ P w true nz):= qR eP;refine oe ux.F mw (λds R Po=> by obtain⟨n,ps,i,j,e,_⟩ := Po;subst e;rfl) λc7 A outer s H E hr=>⟨_,(ah (c4 (lL (yB aj (sV vD (ae (i:=1)) (sV vD (ae (i:=2)) (DQ vD (a5 ag bR (ae (i:=0)) aj)))))) yH bg)
    (ah (aR (i:=3) (aw f_.mono M5 (hr.mono (by decide)) gc.m gc.F.kp gc.b (ab (ae (i:=0)) af)) mw.nd)
    (ak (a7 (aN (ab (a5 ag bR (a5 ag bR (ae (i:=3)) (ae (i:=1))) (aH ag (bC.m bD) (ae (i:=2)) (ae (i:=1)))) (ab (aw uq.mono Vj (hr.mono (by decide)) rG.m rG.F.kp rG.b (ab (ae (i:=0)) (ab (aw nz.mono JU (hr.mono (by decide)) eP.m eP.F.kp eP.b (ab (ae (i:=0)) af)) (ab (ae (i:=3)) (ab (ae (i:=1)) (ab (ae (i:=2)) af)))))) af))))))),λds R h=>?_⟩
 obtain⟨n,ps,i,j,rfl,ok,h1,h2,q⟩:=h;have ej:(j:Int)-(i:Int)=((j-i:Nat):Int):=by lia
 refine{_,rfl,_,rfl,BM (decide_eq_true (by lia)) {_,rfl,_,rfl,BM (decide_eq_true (by lia)) {_,rfl,tv,_,rfl,_,rfl,_,rfl,j9 (by show (!decide _)=false;rw[decide_eq_true (show (j:Int)<=(n:Int) by lia)];rfl) ?_}}}
 exact{_,rfl,tv,n,ps,rfl,ok,_,rfl,tv,_,rfl,_,lj rfl (by lia),.inr {tv,_,rfl,tv,_,rfl,_,rfl,_,ll (l:=j-i) ej (by lia),tv,_,rfl,tv,_,rfl,tv,n,ps,rfl,ok,tv,_,rfl,tv,_,rfl,tv,_,rfl,tv,n,ps,w1,i,j,rfl,ok,h1,h2,tv,fu,tv,q}}
def qG:aK ["row"] ["row"] (ay e_):=mkS
def lQ {oR iJ} (ji:M_ K mg oR iJ) {lD gw} (ux:Kh K mg lD gw) {fI cQ} (gc:D6 K mg fI cQ) {eV cw} (gD:D4 K mg eV cw) {dy bL} (dI:D1 K mg dy bL) {dY bV} (fK:D0 K mg dY bV) {d3 bX} (gC:D3 K mg d3 bX) {cS bt} (d4:D2 K mg cS bt) {eU cv} (eP:D5 K mg eU cv) {jS fh} (rG:D9 K mg jS fh) {eW cy} (fL:D8 K mg eW cy) {dZ bW} (ft:D7 K mg dZ bW) (B:oZ mg):aG P w K mg base bu 6 oR iJ ["row"] (bZ P w true fJ):=by
 have Ve:aG P w K mg base bu 5 _ _ _ (bZ P w true jT):= yK ux gc gD dI fK gC d4 eP rG fL ft B;refine oe ji.F qG (λds R L8=> by obtain⟨n,ps,e,_⟩ := L8;subst e;rfl) λc7 A outer s H E hr=>{_,(ak (a7 (aw jT.mono Ve (hr.mono (by decide)) ux.m ux.F.kp ux.b (ab (ae (i:=0)) (ab aj (ab (a5 ag bR (ae (i:=0)) aj) af)))))),λds R h=>?_}
 obtain⟨n,ps,rfl,ok,q⟩:=h;exact{_,rfl,tv,tv,_,rfl,tv,_,rfl,tv,n,ps,0,n,rfl,ok,V_ _,VR _,tv,q}
end
section
variable {P:V2}{w:Wm}{K:PySem.W.Frag}{mg:Str->Option VT}{base:Heap}
def d_:aK ["counts","parts","ways","low","high"] ["counts","parts"] (ay hX):=mkS
def HY {jR fg} (rE:JW K mg jR fg):aG P w K mg base bu 1 jR fg ["counts","parts"] (bZ P w true Cj):=by
 refine oe rE.F d_ (λds R L7=> by obtain⟨n,ps,L,i,j,c,e,_⟩ := L7;subst e;rfl) λc7 A outer s H E hr=>⟨_,(ah (aR (i:=2) aj d_.nd)
    (ah (eE Xi rfl (bx (ae (i:=1))) (fU (n:=2) rfl (ba (au (i:=3) d_.nd) (ba (au (i:=4) d_.nd) eD))) (ak (aR (i:=2) (aH ag (bC.m dU) (ae (i:=2)) (a5 ag bR (a5 ag bR (ae (i:=0)) (ae (i:=3))) (aH ag (bC.m bD) (ae (i:=4)) (ae (i:=3))))) d_.nd)))
    (ak (a7 (ae (i:=2)))))),λds R h=>?_⟩
 obtain⟨n,ps,L,i,j,c,rfl,hc,ok,hn,h1,h2,h3,q⟩:=h;have hp:∀p∈ps,p.1<p.2:=λp hp=>(ok.lt p hp).1;refine{_,rfl,_,rfl,tv,?_};refine{λm β=>∃x3 x4,β=[some (.val false (gz n L (hT ps))),some (.val false (.lst ((parts i c j).map wY))),some (.val true (.int ((((parts i c j).take m).foldl (λa p=>a*hm ps (p.2-p.1) p.1) 1:Nat):Int))),x3,x4],{_,_,rfl},?_,?_}
 ·rintro m d β hd ⟨x3,x4,rfl⟩;rw[Wg]at hd;obtain⟨p,L9,rfl⟩:=Wk.mp hd;obtain⟨l,rfl⟩:∃l,j=i+l+1:={j-i-1,by lia}
  obtain⟨b1,b2,b3⟩:=qK hp hc (Xz L9);have hl:=h3 p.1 b1 (by lia)
  refine{_,rfl,rfl,_,_,rfl,_,_,rfl,rfl,?_};refine{_,rfl,tv,_,rfl,tv,_,rfl,_,lj rfl (by lia),.inr {tv,_,rfl,tv,_,rfl,_,rfl,_,ll (l:=p.2-p.1) (by lia) (by lia),_,g7 (A7 hp ok.nd (by lia) hc L9),_,_,by rw[yf L9,Int.natCast_mul];rfl}}
 ·rintro β ⟨x3,x4,rfl⟩;rw[VS,XO];exact{_,rfl,tv,q}
def vn:aK ["counts","choices","i","j"] ["counts","choices","i","j"] (ay hZ):=mkS
def HZ {lC gv} (uv:Kg K mg lC gv) {jR fg} (rE:JW K mg jR fg) {dZ bW} (ft:D7 K mg dZ bW) (B:oZ mg):aG P w K mg base bu 2 lC gv ["counts","choices","i","j"] (bZ P w true Ck):=by
 have U_:aG P w K mg base bu 1 _ _ _ (bZ P w true Cj):= HY rE;have M6:aG P w K mg base bu 1 _ _ _ (bZ P w true gb):= mV ft;refine oe uv.F vn (λds R L6=> by obtain⟨n,ps,L,i,j,e,_⟩ := L6;subst e;rfl) λc7 A outer s H E hr=>{_,(ak (a7 (c0 ag (dB.m (zC rfl)) B.sum JF (ab (F9 ["k","counts","i","j"] [none,some 0,some 2,some 3] (by rfl) (by decide:(["k","counts","i","j"]:List Str).Nodup) rfl (bx (ae (i:=1))) (λ_ _ _ _ _ _=>(au (i:=0) (by decide:(["k","counts","i","j"]:List Str).Nodup))) (λ_ _ _ _ _ _=>cK) (λ_ _ _ _ _ _=>(aw Cj.mono U_ (hr.mono (by decide)) rE.m rE.F.kp rE.b (ab (ae (i:=1)) (ab (aw gb.mono M6 (hr.mono (by decide)) ft.m ft.F.kp ft.b (ab (ae (i:=2)) (ab (ae (i:=0)) (ab (ae (i:=3)) af)))) af))))) af)))),λds R h=>?_}
 obtain⟨n,ps,L,i,j,rfl,ok,hn,h1,h2,h3,q⟩:=h;have hp:∀p∈ps,p.1<p.2:=λp hp=>(ok.lt p hp).1;have bl:(bq ps w1 (tW ps w1) i j).length<=41:=by
  obtain⟨l,rfl⟩:∃l,j=i+l+1:={j-i-1,by lia}
  exact WG (j5 hp ok.nd) (by lia)
 refine{_,rfl,_,rfl,tv,?_};refine b5 (λ_=>true) (λc=>.int ((k_ ps i j c:Nat):Int)) tv (c9 (by lia)) (λc hc x0 o J ho j1 _=>?_) ?_
 ·cases c with
  |none=>exact{_,rfl,tv,_,rfl,tv,_,rfl,tv,_,rfl,tv,i,none,j,rfl,tv,n,ps,L,i,j,none,rfl,hc,ok,hn,h1,h2,h3,tv,ho,j1 rfl _}
  |some k=>exact{_,rfl,tv,_,rfl,tv,_,rfl,tv,_,rfl,tv,i,some k,j,rfl,tv,n,ps,L,i,j,some k,rfl,hc,ok,hn,h1,h2,h3,tv,ho,j1 rfl _}
 ·rw[a6];refine{tv,_,sum_ints,tv,?_};obtain⟨l,rfl⟩:∃l,j=i+l+1:={j-i-1,by lia}
  have e:((bq ps w1 (tW ps w1) i (i+l+1)).map λc=>((k_ ps i (i+l+1) c:Nat):Int)).sum=hT ps (i+l+1-i) i:=by
   rw[si,show i+l+1-i=l+1 by lia]
   show _=((hm ps (l+1) i:Nat):Int);rw[rj hp];rfl
  rw[e];exact q
def aW:aK ["row","many","partners","worth","table","counts","i","j"] ["row"] (ay cI):=mkS
def qS {oS iL} (jj:M9 K mg oS iL) {fI cQ} (gc:D6 K mg fI cQ) {eV cw} (gD:D4 K mg eV cw) {dy bL} (dI:D1 K mg dy bL) {dY bV} (fK:D0 K mg dY bV) {d3 bX} (gC:D3 K mg d3 bX) {cS bt} (d4:D2 K mg cS bt) {eU cv} (eP:D5 K mg eU cv) {eW cy} (fL:D8 K mg eW cy) {dZ bW} (ft:D7 K mg dZ bW) {lC gv} (uv:Kg K mg lC gv) {jR fg} (rE:JW K mg jR fg) (B:oZ mg):aG P w K mg base bu 5 oS iL ["row"] (bZ P w true kL):=by
 have JT:aG P w K mg base bu 1 _ _ _ (bZ P w true gZ):= lP dI B;have Q8:aG P w K mg base bu 1 _ _ _ (bZ P w true v9):= xl fK B;have Va:aG P w K mg base bu 2 _ _ _ (bZ P w true Ck):= HZ uv rE ft B;have M7:aG P w K mg base bu 2 _ _ _ (bZ P w true jU):= qT fL d4 B;have JU:aG P w K mg base bu 1 _ _ _ (bZ P w true nz):= qR eP;have M5:aG P w K mg base bu 4 _ _ _ (bZ P w true f_):= mU gc gD dI fK gC d4 eP B;refine oe jj.F aW (λds R L5=> by obtain⟨n,ps,e,_⟩ := L5;subst e;rfl) λc7 A outer s H E hr=>⟨_,(ah (aR (i:=1) (a5 ag bR (ae (i:=0)) aj) aW.nd)
    (ah (aR (i:=2) (aw gZ.mono JT (hr.mono (by decide)) dI.m dI.F.kp dI.b (ab (ae (i:=0)) af)) aW.nd)
    (ah (aR (i:=3) (aw nz.mono JU (hr.mono (by decide)) eP.m eP.F.kp eP.b (ab (ae (i:=0)) af)) aW.nd)
    (ah (aR (i:=4) (aw f_.mono M5 (hr.mono (by decide)) gc.m gc.F.kp gc.b (ab (ae (i:=0)) af)) aW.nd)
    (ah (qH (i:=5) true ["i"] [none] (by rfl) (by decide:(["i"]:List Str).Nodup) rfl (λ_=>(aU B.range (ab (aH aX aJ (ae (i:=1)) aj) af))) (λ_ _ _ _ _ _=>(au (i:=0) (by decide:(["i"]:List Str).Nodup))) (λ_ _ _ _ _ _=>cK) (λ_ _ _ _ _ _=>(bJ (ab aj af))) aW.nd)
    (ah (eE Xi rfl (bx (aw v9.mono Q8 (hr.mono (by decide)) fK.m fK.F.kp fK.b (ab (ae (i:=1)) af))) (fU (n:=2) rfl (ba (au (i:=6) aW.nd) (ba (au (i:=7) aW.nd) eD))) (ak (gT (i:=5) true (λ_=>(aw Ck.mono Va (hr.mono (by decide)) uv.m uv.F.kp uv.b (ab (ae (i:=5)) (ab (aw jU.mono M7 (hr.mono (by decide)) fL.m fL.F.kp fL.b (ab (ae (i:=2)) (ab (ae (i:=3)) (ab (ae (i:=4)) (ab (ae (i:=6)) (ab (ae (i:=7)) af)))))) (ab (ae (i:=6)) (ab (ae (i:=7)) af)))))) (λ_=>(ae (i:=6))))))
    (ak (a7 (a5 ag bR (a5 ag bR (ae (i:=5)) aj) (ae (i:=1))))))))))),λds R h=>?_⟩
 obtain⟨n,ps,rfl,ok,Qe,q⟩:=h;have hn:=ok.le;have hp:∀p∈ps,p.1<p.2:=λp hp=>(ok.lt p hp).1;refine{_,rfl,tv,_,rfl,_,rfl,tv,n,ps,rfl,ok,_,rfl,tv,n,ps,rfl,ok,_,rfl,tv,n,ps,rfl,ok,_,rfl,tv,_,rfl,tv,(n:Int)+1,rfl,by lia,by lia,tv,?_}
 rw[show ((n:Int)+1).toNat=n+1 by lia]
 refine b5 (λ_=>true) (λ_=>.lst [.int 1]) tv (by rw[We];exact c9 (by lia)) (λx hx x0 o J ho h1 _=>{tv,Dy,tv,ho,h1 rfl _}) ?_
 rw[a6];refine{_,rfl,tv,n,rfl,hn,_,rfl,tv,?_};refine{λidx β=>∃L x6 x7,β=[some (.val false (j8 n ps)),some (.val true (.int n)),some (.val true (uW n ps)),some (.val true (wD ps w1)),some (.val true (dN n (tW ps w1))),some (.own (gz n L (hT ps))),x6,x7]/\uV n idx L,{λ_=>1,_,_,rfl,lr},?_,?_}
 ·rintro idx d β hd ⟨L,x6,x7,rfl,dn⟩;rw[Wg]at hd;obtain⟨p,jh,rfl⟩:=Wk.mp hd;obtain⟨a,b,ha,hb,rfl,hL,BP⟩:=nG dn jh;have eL:gz n L (hT ps)=gz n (dG n a b) (hT ps):=hJ hL;have e0:dG n a b (n-1-a)=b+1:=by unfold dG;rw[if_neg (by lia),if_pos rfl]
  rw[eL];refine{_,rfl,rfl,_,_,rfl,_,_,rfl,rfl,{_,rfl},_,rfl,_,_,_,_,rfl,rfl,by rw[VS,We];exact IH rfl (show n-1-a<n+1 by lia),dS (show n-1-a<n+1 by lia),?_}
  refine{_,rfl,tv,_,rfl,tv,_,rfl,tv,_,rfl,tv,_,rfl,tv,_,rfl,tv,n,ps,w1,tW ps w1,n-1-a,n-a+b,rfl,ok,by lia,by lia,tv,_,rfl,tv,_,rfl,tv,n,ps,dG n a b,n-1-a,n-a+b,rfl,ok,Qe,by lia,by lia,λa' h1 h2=>by unfold dG;rw[if_pos h1];exact VR _,tv,rfl,?_,?_}
  ·rw[e0];unfold qv;rw[VS,We];exact kY (by lia)
  ·refine{dG n a (b+1),some (.val true (.int ((n-1-a:Nat):Int))),some (.val true (.int ((n-a+b:Nat):Int))),?_,.inr {a,b+1,ha,by lia,λ_ _=>rfl,BP}}
   rw[show n-a+b-(n-1-a)=b+1 by lia,e0,wK ha hb]
   rfl
 ·rintro β ⟨L,x6,x7,rfl,dn⟩;rw[VS]at dn;have e:gz n L (hT ps)=dN n (hT ps):=hJ (pZ dn);rw[e];exact{_,rfl,tv,_,lj (i:=0) rfl (V_ _),.inr {tv,_,rfl,_,ll (l:=n) rfl (by lia),tv,q}}
end
end qj
namespace L2
open PySem PySem.Spec PySem.SeqAt PyProof.Rows
def CA (a b:D):Option D:=a.Bx.bind λds=>b.int?.bind λk=>if 0<=k/\k<2 ^ 62/\ds.length*k.toNat<=Wi then some (.lst (WQ k.toNat ds).flatten) else none
theorem kl {P:V2}{w:Wm}{W:Addr->Prop}{H:Hp}{ds:List D}{vs:List V}(h:ai P w W H ds vs):∀k:Nat,ai P w W H (WQ k ds).flatten (WQ k vs).flatten
 |0=>rfl
 |k+1=>by
  rw[XM,Yg,XM,Yg];exact h.append (kl h k)
def tf {X:Cx}:M0 X (XX .Mult) CA:=by
 intro pins s σ H x y v u Q I rx ry h;obtain⟨W,d1,d2,d,hd,r1,r2,e,q⟩:=h;obtain⟨ds,h1,e⟩:=Xb.mp e;obtain⟨k,h2,e⟩:=Xb.mp e;obtain⟨⟨k0,k1,hl⟩,rfl⟩:=fq e;rw[D.xr h1]at r1;rw[D.rf h2]at r2;obtain⟨p,vs,rfl,g1,n1,q1⟩:=r1;exact HR pins s σ H _ _ v u Q I rx ry {p,k,vs,rfl,r2,g1,by lia,by lia,by rw[q1.length];exact hl,λl pO=>q _ _ (aE.new pO) (Rp.rd hd pO (kl q1 _)) λf=>En pO f (kl q1 _)}
namespace Q
theorem ik {α:Type}{f:α->D}(h:∀x,(f x).flat=true):∀l:List α,D.dO (l.map f)=true
 |[]=>rfl
 |x::l=>by
  show ((f x).flat&&D.dO (l.map f))=true;rw[h x,ik h l];rfl
section
variable {ps:List (Nat×Nat)}
def Dj (ps:List (Nat×Nat)):Nat->Nat->Nat->Nat
 |0,_,_=>1
 |f+1,b,e=>if e<=b then 1 else (if mX ps b (e-1)=mX ps b e then Dj ps f b (e-1) else 0)+(((near ps (e-1)).filter λa=>decide (b<=a)).map λa=>if 1+mX ps b a+mX ps (a+1) (e-1)=mX ps b e then Dj ps f b a*Dj ps f (a+1) (e-1) else 0).sum
theorem g_ (hp:∀p∈ps,p.1<p.2):∀{f g b e:Nat},e-b<=f->e-b<=g->Dj ps f b e=Dj ps g b e
 |0,0,_,_,_,_=>rfl
 |0,g+1,b,e,h,_=>by unfold Dj;rw[if_pos (by lia)]
 |f+1,0,b,e,_,h=>by unfold Dj;rw[if_pos (by lia)]
 |f+1,g+1,b,e,h1,h2=>by
  unfold Dj
  by_cases hb:e<=b
  ·rw[if_pos hb,if_pos hb]
  ·rw[if_neg hb,if_neg hb,g_ hp (f:=f) (g:=g) (b:=b) (e:=e-1) (by lia) (by lia)]
   congr 2
   refine Wu λa ha=>?_;obtain⟨h3,h4⟩:=VZ.mp ha;have h5:=of_decide_eq_true h4;have h6:=hp _ (bO.mp h3);dsimp only at h6;rw[g_ hp (f:=f) (g:=g) (b:=b) (e:=a) (by lia) (by lia),g_ hp (f:=f) (g:=g) (b:=a+1) (e:=e-1) (by lia) (by lia)]
def cL (ps:List (Nat×Nat))(b e:Nat):Nat:=Dj ps (e-b) b e
def gf {b e:Nat}(h:e<=b):cL ps b e=1:=by
 unfold cL;rw[show e-b=0 by lia]
 rfl
def rL (hp:∀p∈ps,p.1<p.2){b e:Nat}(h:b<e):cL ps b e=(if mX ps b (e-1)=mX ps b e then cL ps b (e-1) else 0)+(((near ps (e-1)).filter λa=>decide (b<=a)).map λa=>if 1+mX ps b a+mX ps (a+1) (e-1)=mX ps b e then cL ps b a*cL ps (a+1) (e-1) else 0).sum:=by
 unfold cL;rw[show e-b=(e-1-b)+1 by lia]
 conv=>lhs;unfold Dj
 rw[if_neg (by lia)]
 congr 2
 refine Wu λa ha=>?_;obtain⟨h3,h4⟩:=VZ.mp ha;have h5:=of_decide_eq_true h4;have h6:=hp _ (bO.mp h3);dsimp only at h6;rw[g_ hp (f:=e-1-b) (g:=a-b) (b:=b) (e:=a) (by lia) (by lia),g_ hp (f:=e-1-b) (g:=e-1-(a+1)) (b:=a+1) (e:=e-1) (by lia) (by lia)]
end
end Q
end L2
namespace L2.Q
open PySem
section
variable {ps:List (Nat×Nat)}(hp:∀p∈ps,p.1<p.2)
include hp
theorem ij:∀(l i j:Nat),j-i<=l->((cC ps w1 i j).length:Int)=mX ps i j
 |0,i,j,h=>by rw[dw (by lia),bF (by lia)];rfl
 |l+1,i,j,h=>by
  by_cases aI:i<j
  ·rw[fG hp aI];have hm:=bj (cP (w:=w1) hp aI);cases q:b7 ps w1 i j with
   |none =>
    rw[q]at hm;dsimp only;rw[ij l (i+1) j (by lia)]
    unfold mX;rw[show j-(i+1)=j-i-1 by lia]
    exact hm
   |some k =>
    rw[q]at hm;obtain⟨h1,h2,h3⟩:=hm;have EO:=hp _ h1;dsimp only at EO ⊢
    rw[V7,Wf];have e1:=ij l (i+1) k (by lia)
    have e2:=ij l (k+1) j (by lia)
    unfold mX at e1 e2 ⊢
    rw[show k-(i+1)=k-i-1 by lia]at e1
    rw[show j-(k+1)=j-k-1 by lia]at e2
    rw[<- h3,<- e1,<- e2];show _=(1:Int)+_+_;lia
  ·rw[dw aI,bF (by lia)];rfl
theorem f7 {i j:Nat}:((cC ps w1 i j).length:Int)=mX ps i j:=ij hp (j-i) i j (VR _)
end
def nN (ps:List (Nat×Nat))(i j:Nat)(p:Nat×Nat):List (Nat×Nat):=p::(cC ps w1 (i+1) p.2++cC ps w1 (p.2+1) j)
def md (i j:Nat)(l:List (Nat×Nat)):List (Nat×Nat):=l.filter λp=>decide (p.1=i)&&decide (p.2<j)
def iG (ps:List (Nat×Nat))(i j:Nat)(c:List (Nat×Nat)):Bool:=decide ((c.length:Int)=mX ps i j)
section
variable {ps:List (Nat×Nat)}{i j:Nat}
def mZ {l:List (Nat×Nat)}{p:Nat×Nat}:p∈md i j l↔p∈l/\p.1=i/\p.2<j:=by
 unfold md;rw[VZ,WL,decide_eq_true_eq,decide_eq_true_eq]
variable (hp:∀p∈ps,p.1<p.2)
include hp
theorem rH {p:Nat×Nat}:((nN ps i j p).length:Int)=1+mX ps (i+1) p.2+mX ps (p.2+1) j:=by
 unfold nN;rw[V7,Wf,<- f7 hp,<- f7 hp];lia
theorem zH:((iC ps i).filter λk=>decide (k<j)&&decide (w1 (i,k)+tW ps w1 (k-i-1) (i+1)+tW ps w1 (j-k-1) (k+1)=tW ps w1 (j-i) i))=((md i j ps).filter λp=>iG ps i j (nN ps i j p)).map (·.2):=by
 unfold iC md;rw[List.filter_map,List.filter_filter,List.filter_filter]
 congr 1
 refine Yh λp _=>?_;unfold iG;rw[rH hp];unfold mX;simp only[Function.comp];rw[show p.2-(i+1)=p.2-i-1 by lia,show j-(p.2+1)=j-p.2-1 by lia]
 rw[show w1 (i,p.2)=1 from rfl]
 cases decide (p.1=i) <;> cases decide (p.2<j) <;> simp
theorem ny {p:Nat×Nat}{r:List (Nat×Nat)}(e:(md i j ps).filter (λp=>iG ps i j (nN ps i j p))=p::r):b7 ps w1 i j=some p.2:=by
 unfold b7 bq;rw[zH hp,e];rfl
end
def tq (ps:List (Nat×Nat))(b e:Nat)(p:Nat×Nat):Bool:=decide (b<=p.1)&&decide (p.2<e)&&decide (1+mX ps (p.1+1) p.2+mX ps (p.2+1) e=mX ps b e)
def dj {ps:List (Nat×Nat)}{b e:Nat}{p:Nat×Nat}:tq ps b e p=true↔b<=p.1/\p.2<e/\1+mX ps (p.1+1) p.2+mX ps (p.2+1) e=mX ps b e:=by
 unfold tq;rw[WL,WL,decide_eq_true_eq,decide_eq_true_eq,decide_eq_true_eq,and_assoc]
theorem pU {α:Type}{p q:α->Bool}:∀{l:List α},(∀x∈l,p x=q x)->l.find? p=l.find? q
 |[],_=>rfl
 |x::l,h=>by rw[Xa,Xa,h x (by simp),pU λy hy=>h y (by simp[hy])]
section
variable {ps:List (Nat×Nat)}(hp:∀p∈ps,p.1<p.2)(hs:ps.Pairwise λp q=>p.1<q.1\/(p.1=q.1/\p.2<q.2))
include hp hs
theorem xF {b e k:Nat}(hm:(b,k)∈ps)(hk:tq ps b e (b,k)=true)(hf:∀x,(b,x)∈ps->x<k->tq ps b e (b,x)=false):ps.find? (tq ps b e)=some (b,k):=by
 rw[List.find?_eq_some_iff_append];refine{hk,?_};obtain⟨l,r,e'⟩:=ZR hm;refine{l,r,e',λq hq=>?_};have Uj:q∈ps:=by rw[e'];simp[hq]
 have ie:q.1<b\/(q.1=b/\q.2<k):=by
  rw[e']at hs;exact(Xy.mp hs).2.2 q hq (b,k) (by simp)
 rcases ie with h|⟨h1,h2⟩
 ·have:tq ps b e q=false:=by
   cases z:tq ps b e q with
   |false=>rfl
   |true=>have:=(dj.mp z).1;lia
  simp[this]
 ·have:tq ps b e q=false:=by
   rw[show q=(b,q.2) by rw[<- h1]]
   exact hf q.2 (by rw[show (b,q.2)=q by rw[<- h1]];exact Uj) h2
  simp[this]
theorem nr:∀(l b e:Nat),e-b<=l->b<e->cC ps w1 b e=match ps.find? (tq ps b e)with
  |some p=>p::(cC ps w1 (p.1+1) p.2++cC ps w1 (p.2+1) e)
  |none=>[]
 |0,b,e,h,zg=>by lia
 |l+1,b,e,h,zg=>by
  have Uy:=cP (w:=w1) hp zg;have hm:=bj Uy;rw[fG hp zg];cases q:b7 ps w1 b e with
  |some k =>
   rw[q]at hm;obtain⟨h1,h2,h3⟩:=hm;have UD:=hp _ h1;dsimp only at UD;have hk:tq ps b e (b,k)=true:=dj.mpr ⟨VR _,h2,by
    unfold mX;rw[show k-(b+1)=k-b-1 by lia,show e-(k+1)=e-k-1 by lia]
    exact h3⟩
   rw[xF hp hs h1 hk λx hx Dc=>?_];cases z:tq ps b e (b,x)with
   |false=>rfl
   |true =>
    exfalso
    obtain⟨_,z2,z3⟩:=dj.mp z;dsimp only at z2 z3;have hL:=iG ps b e (nN ps b e (b,x));have zN:iG ps b e (nN ps b e (b,x))=true:=decide_eq_true (by rw[rH hp];exact z3)
    have i8:(b,x)∈(md b e ps).filter λp=>iG ps b e (nN ps b e p):=VZ.mpr {mZ.mpr {(hx),rfl,z2},zN};cases ef:(md b e ps).filter (λp=>iG ps b e (nN ps b e p))with
    |nil=>rw[ef]at i8;cases i8
    |cons p r =>
     have e1:=ny hp ef;rw[q]at e1;have e2:k=p.2:=WA e1;have IQ:(p::r).Sublist ps:=by rw[<- ef];exact(List.filter_sublist).trans List.filter_sublist
     have P8:=hs.sublist IQ;have Jc:p.1=b:=(mZ.mp (VZ.mp (show p∈(md b e ps).filter _ by rw[ef];simp)).1).2.1
     rw[ef]at i8;rcases VX.mp i8 with z|z
     ·rw[<- z]at e2;dsimp only at e2;lia
     ·have:=(WE.mp P8).1 (b,x) z;dsimp only at this;lia
  |none =>
   rw[q]at hm;have em:mX ps (b+1) e=mX ps b e:=by
    unfold mX;rw[show e-(b+1)=e-b-1 by lia]
    exact hm
   have Mb:(md b e ps).filter (λp=>iG ps b e (nN ps b e p))=[]:=by
    cases ef:(md b e ps).filter (λp=>iG ps b e (nN ps b e p))with
    |nil=>rfl
    |cons p r=>rw[ny hp ef]at q;cases q
   have heq:ps.find? (tq ps b e)=ps.find? (tq ps (b+1) e):=by
    refine pU λp Jc=>?_;cases z:tq ps (b+1) e p with
    |true =>
     obtain⟨z1,z2,z3⟩:=dj.mp z;exact dj.mpr {by lia,z2,by rw[z3,em]}
    |false =>
     cases z':tq ps b e p with
     |false=>rfl
     |true =>
      obtain⟨z1,z2,z3⟩:=dj.mp z'
      by_cases hb:p.1=b
      ·have:p∈(md b e ps).filter λp=>iG ps b e (nN ps b e p):=VZ.mpr {mZ.mpr {(Jc),hb,z2},decide_eq_true (by rw[rH hp];rw[hb]at z3;exact z3)}
       rw[Mb]at this;cases this
      ·have:tq ps (b+1) e p=true:=dj.mpr {by lia,z2,by rw[z3,em]}
       rw[this]at z;cases z
   dsimp only;rw[heq]
   by_cases Mu:b+1<e
   ·exact nr l (b+1) e (by lia) Mu
   ·rw[dw Mu];have:ps.find? (tq ps (b+1) e)=none:=by
     rw[List.find?_eq_none];intro p Jc z;obtain⟨z1,z2,_⟩:=dj.mp z;have:=hp p Jc;lia
    rw[this]
end
abbrev NN:=Nat×Nat
def iA (p q:NN):Prop:=p.1<q.1/\(p.2<q.1\/q.2<p.2)
structure i_ (ps:List NN)(i j:Nat)(S:List NN):Prop where
 pw:S.Pairwise iA
 of:∀p∈S,p∈ps/\i<=p.1/\p.2<j
section
variable {ps:List NN}(hp:∀p∈ps,p.1<p.2){i j:Nat}{S A B:List NN}
def i_.nil:i_ ps i j []:={Yi,λ_ z=>nomatch z}
include hp in
theorem fv (h:¬ i<j)(s:i_ ps i j S):S=[]:=by
 cases S with
 |nil=>rfl
 |cons p S=>obtain⟨h1,h2,h3⟩:=s.of p V0;have:=hp p h1;lia
theorem xS {k:Nat}:∀{T:List NN},T.Pairwise iA->(∀q∈T,q.1<q.2/\(q.2<k\/k<q.1))->T=T.filter (λq=>decide (q.2<k))++T.filter (λq=>decide (k<q.1))
 |[],_,_=>rfl
 |q::T,hw,h=>by
  obtain⟨w1,w2⟩:=WE.mp hw;obtain⟨a1,a2⟩:=h q V0;have ih:=xS w2 λx hx=>h x (V8 _ hx);rcases a2 with a2|a2
  ·rw[Xj,Xj,if_pos (decide_eq_true a2),if_neg (by rw[decide_eq_true_eq];lia),List.cons_append,<- ih]
  ·have e1:(q::T).filter (λq=>decide (q.2<k))=[]:=by
    rw[Xs];intro x hx;rw[decide_eq_true_eq];rcases VX.mp hx with rfl|hx
    ·lia
    ·have:=(w1 x hx).1;have:=(h x (V8 _ hx)).1;lia
   have e2:(q::T).filter (λq=>decide (k<q.1))=q::T:=by
    rw[Yp];intro x hx;rw[decide_eq_true_eq];rcases VX.mp hx with rfl|hx
    ·lia
    ·have:=(w1 x hx).1;lia
   rw[e1,e2,ZA]
include hp in
theorem cb (h:i<j):i_ ps i j S↔i_ ps (i+1) j S\/∃k A B,(i,k)∈ps/\k<j/\S=(i,k)::(A++B)/\i_ ps (i+1) k A/\i_ ps (k+1) j B:=by
 constructor
 ·intro s;cases S with
  |nil=>exact .inl .nil
  |cons p T =>
   obtain⟨w1,w2⟩:=WE.mp s.pw;obtain⟨h1,h2,h3⟩:=s.of p V0;have ot:∀q∈T,q∈ps/\i<=q.1/\q.2<j:=λq hq=>s.of q (V8 _ hq)
   by_cases e:p.1=i
   ·right
    obtain⟨a,k⟩:=p;dsimp only at e h2 h3;subst e;refine{k,T.filter (λq=>decide (q.2<k)),T.filter (λq=>decide (k<q.1)),h1,h3,?_,{w2.filter _,λq hq=>?_},{w2.filter _,λq hq=>?_}}
    ·rw[<- xS w2 λq hq=>{hp q (ot q hq).1,(w1 q hq).2.symm}]
    ·obtain⟨g1,g2⟩:=VZ.mp hq;have:=(w1 q g1).1;dsimp only at this;exact{(ot q g1).1,by lia,of_decide_eq_true g2}
    ·obtain⟨g1,g2⟩:=VZ.mp hq;exact{(ot q g1).1,of_decide_eq_true g2,(ot q g1).2.2}
   ·left
    refine{s.pw,λq hq=>?_};rcases VX.mp hq with rfl|hq
    ·exact{h1,by lia,h3}
    ·have:=(w1 q hq).1;exact{(ot q hq).1,by lia,(ot q hq).2.2}
 ·rintro (s|⟨k,A,B,h1,h2,rfl,a,b⟩)
  ·exact{s.pw,λp hp=>let ⟨a,b,c⟩:=s.of p hp;{a,by lia,c}}
  ·have hk:=hp _ h1;dsimp only at hk;refine{WE.mpr {λq hq=>?_,Xy.mpr {a.pw,b.pw,λx hx y hy=>?_}},λq hq=>?_}
   ·rcases V9.mp hq with z|z
    ·obtain⟨g1,g2,g3⟩:=a.of q z;exact{by dsimp only;lia,.inr g3}
    ·obtain⟨g1,g2,g3⟩:=b.of q z;exact{by dsimp only;lia,.inl g2}
   ·obtain⟨g1,g2,g3⟩:=a.of x hx;obtain⟨f1,f2,f3⟩:=b.of y hy;have:=hp x g1;exact{by lia,.inl (by lia)}
   ·rcases VX.mp hq with rfl|hq
    ·exact{h1,VR _,h2}
    ·rcases V9.mp hq with z|z
     ·obtain⟨g1,g2,g3⟩:=a.of q z;exact{g1,by lia,by lia}
     ·obtain⟨g1,g2,g3⟩:=b.of q z;exact{g1,by lia,g3}
include hp in
theorem Ae (h:i<j):i_ ps i j S↔i_ ps i (j-1) S\/∃a A B,(a,j-1)∈ps/\i<=a/\S=A++(a,j-1)::B/\i_ ps i a A/\i_ ps (a+1) (j-1) B:=by
 constructor
 ·intro s
  by_cases hx:∃p∈S,p.2=j-1
  ·right
   obtain⟨⟨a,b⟩,R9,e⟩:=hx;dsimp only at e;subst e;obtain⟨A,B,rfl⟩:=ZR R9;obtain⟨w1,w2,w3⟩:=Xy.mp s.pw;obtain⟨v1,v2⟩:=WE.mp w2;obtain⟨h1,h2,h3⟩:=s.of _ R9;refine{a,A,B,h1,h2,rfl,{w1,λq hq=>?_},{v2,λq hq=>?_}}
   ·obtain⟨g1,g2,g3⟩:=s.of q (WK _ hq);have:=w3 q hq _ V0;obtain⟨f1,f2⟩:=this;dsimp only at f1 f2;exact{g1,g2,by lia}
   ·obtain⟨g1,g2,g3⟩:=s.of q (Wx _ (V8 _ hq));obtain⟨f1,f2⟩:=v1 q hq;dsimp only at f1 f2;have:=hp q g1;exact{g1,by lia,by lia}
  ·left
   refine{s.pw,λp jh=>?_};obtain⟨g1,g2,g3⟩:=s.of p jh;have:p.2≠j-1:=λz=>hx {(p),jh,z};exact{g1,g2,by lia}
 ·rintro (s|⟨a,A,B,h1,h2,rfl,sa,sb⟩)
  ·exact{s.pw,λp hp=>let ⟨a,b,c⟩:=s.of p hp;{a,b,by lia}}
  ·have hk:=hp _ h1;dsimp only at hk;refine{Xy.mpr {sa.pw,WE.mpr {λq hq=>?_,sb.pw},λx hx y hy=>?_},λq hq=>?_}
   ·obtain⟨g1,g2,g3⟩:=sb.of q hq;exact{by dsimp only;lia,.inr g3}
   ·obtain⟨g1,g2,g3⟩:=sa.of x hx;have:=hp x g1;rcases VX.mp hy with rfl|hy
    ·exact{by dsimp only;lia,.inl g3}
    ·obtain⟨f1,f2,f3⟩:=sb.of y hy;exact{by lia,.inl (by lia)}
   ·rcases V9.mp hq with z|z
    ·obtain⟨g1,g2,g3⟩:=sa.of q z;exact{g1,g2,by lia}
    ·rcases VX.mp z with rfl|z
     ·exact{h1,h2,by dsimp only;lia}
     ·obtain⟨g1,g2,g3⟩:=sb.of q z;exact{g1,by lia,by lia}
include hp in
theorem iT:∀(l i j:Nat) (S:List NN),j-i<=l->i_ ps i j S->(S.length:Int)<=mX ps i j:=by
 intro l
 induction l with
 |zero=>intro i j S hl s;rw[fv hp (by lia) s];exact pF hp
 |succ l ih =>
  intro i j S hl s
  by_cases h:i<j
  ·rcases (cb hp h).mp s with s|⟨k,A,B,h1,h2,rfl,a,b⟩
   ·exact Int.le_trans (ih (i+1) j S (by lia) s) (lU hp h)
   ·have hk:=hp _ h1;dsimp only at hk;have g1:=ih (i+1) k A (by lia) a
    have g2:=ih (k+1) j B (by lia) b
    have g3:=iZ hp h1 h2;rw[V7,Wf];lia
  ·rw[fv hp h s];exact pF hp
def Dh (ps:List NN):Nat->Nat->Nat->List (List NN)
 |0,_,_=>[[]]
 |f+1,i,j=>if i<j then (((iC ps i).filter λk=>decide (k<j)).flatMap λk=>(Dh ps f (i+1) k).flatMap λA=>(Dh ps f (k+1) j).map λB=>(i,k)::(A++B))++Dh ps f (i+1) j else [[]]
def zj (ps:List NN):Nat->Nat->Nat->List (List NN)
 |0,_,_=>[[]]
 |f+1,i,j=>if i<j then zj ps f i (j-1)++(((near ps (j-1)).filter λa=>decide (i<=a)).flatMap λa=>(zj ps f i a).flatMap λA=>(zj ps f (a+1) (j-1)).map λB=>A++(a,j-1)::B) else [[]]
include hp in
theorem dX:∀(f i j:Nat) (S:List NN),j-i<=f->(S∈Dh ps f i j↔i_ ps i j S):=by
 intro f
 induction f with
 |zero=>intro i j S h;exact{λz=>by rw[VU.mp z];exact .nil,λs=>by rw[fv hp (by lia) s];exact VU.mpr rfl}
 |succ f ih =>
  intro i j S h;unfold Dh
  by_cases aI:i<j
  ·rw[if_pos aI,cb hp aI,V9,ih (i+1) j S (by lia)]
   refine{λz=>z.elim (λz=>?_) .inl,λz=>z.elim .inr λz=>.inl ?_}
   ·obtain⟨k,hk,z⟩:=WC.mp z;obtain⟨ze,rT⟩:=VZ.mp hk;have rT:=of_decide_eq_true rT;have zd:=hp _ (br.mp ze);dsimp only at zd;obtain⟨A,ha,z⟩:=WC.mp z;obtain⟨B,hb,rfl⟩:=V4.mp z;exact .inr {k,A,B,br.mp ze,rT,rfl,(ih _ _ _ (by lia)).mp ha,(ih _ _ _ (by lia)).mp hb}
   ·obtain⟨k,A,B,h1,h2,rfl,a,b⟩:=z;have zd:=hp _ h1;dsimp only at zd;exact WC.mpr {k,VZ.mpr {br.mpr h1,decide_eq_true h2},WC.mpr {A,(ih _ _ _ (by lia)).mpr a,V4.mpr {B,(ih _ _ _ (by lia)).mpr b,rfl}}}
  ·rw[if_neg aI];exact{λz=>by rw[VU.mp z];exact .nil,λs=>by rw[fv hp aI s];exact VU.mpr rfl}
include hp in
theorem bE:∀(f i j:Nat) (S:List NN),j-i<=f->(S∈zj ps f i j↔i_ ps i j S):=by
 intro f
 induction f with
 |zero=>intro i j S h;exact{λz=>by rw[VU.mp z];exact .nil,λs=>by rw[fv hp (by lia) s];exact VU.mpr rfl}
 |succ f ih =>
  intro i j S h;unfold zj
  by_cases aI:i<j
  ·rw[if_pos aI,Ae hp aI,V9,ih i (j-1) S (by lia)]
   refine{λz=>z.elim .inl λz=>?_,λz=>z.elim .inl λz=>.inr ?_}
   ·obtain⟨a,UI,z⟩:=WC.mp z;obtain⟨ze,rT⟩:=VZ.mp UI;have rT:=of_decide_eq_true rT;have zd:=hp _ (bO.mp ze);dsimp only at zd;obtain⟨A,ha,z⟩:=WC.mp z;obtain⟨B,hb,rfl⟩:=V4.mp z;exact .inr {a,A,B,bO.mp ze,rT,rfl,(ih _ _ _ (by lia)).mp ha,(ih _ _ _ (by lia)).mp hb}
   ·obtain⟨a,A,B,h1,h2,rfl,sa,sb⟩:=z;have zd:=hp _ h1;dsimp only at zd;exact WC.mpr {a,VZ.mpr {bO.mpr h1,decide_eq_true h2},WC.mpr {A,(ih _ _ _ (by lia)).mpr sa,V4.mpr {B,(ih _ _ _ (by lia)).mpr sb,rfl}}}
  ·rw[if_neg aI];exact{λz=>by rw[VU.mp z];exact .nil,λs=>by rw[fv hp aI s];exact VU.mpr rfl}
end
section
variable {ps:List NN}(hp:∀p∈ps,p.1<p.2){i j:Nat}{S A B:List NN}
def rD {α:Type}{q:α->Bool}{l:List α}(h:∀x∈l,q x=true):l.filter q=l:=Yp.mpr h
def kK {α:Type}{q:α->Bool}{l:List α}(h:∀x∈l,q x=false):l.filter q=[]:=Xs.mpr λx hx=>by rw[h x hx];simp
def qV {e:Nat}(h:ps.Nodup):(near ps e).Nodup:=by
 unfold near;rw[Y1,WJ];refine(h.filter _).imp_of_mem λ{x y} hx hy oM e=>oM ?_;have h1:=of_decide_eq_true (VZ.mp hx).2;have h2:=of_decide_eq_true (VZ.mp hy).2;exact Prod.ext e (by lia)
include hp in
theorem Ij (nd:ps.Nodup):∀(f i j:Nat),j-i<=f->(Dh ps f i j).Nodup:=by
 intro f
 induction f with
 |zero=>intro i j _;exact(W5 _ _)
 |succ f ih =>
  intro i j h;unfold Dh
  by_cases aI:i<j
  ·rw[if_pos aI,WY];refine{?_,ih _ _ (by lia),λx hx y hy e=>?_}
   ·rw[Y1,XR];refine{λk hk=>?_,?_}
    ·obtain⟨ze,rT⟩:=VZ.mp hk;have rT:=of_decide_eq_true rT;have zd:=hp _ (br.mp ze);dsimp only at zd;rw[XR];refine{λA ha=>?_,?_}
     ·rw[WJ];refine(ih (k+1) j (by lia)).imp λ{x y} oM e=>oM ?_
      injection e with _ e
      exact List.append_cancel_left e
     ·refine(ih (i+1) k (by lia)).imp_of_mem λ{x y} hx hy oM u hu v hv e=>oM ?_
      obtain⟨b,hb,rfl⟩:=V4.mp hu;obtain⟨c,hc,rfl⟩:=V4.mp hv;injection e with _ e
      have sx:=(dX hp _ _ _ _ (by lia)).mp hx
      have sy:=(dX hp _ _ _ _ (by lia)).mp hy
      have sb:=(dX hp _ _ _ _ (by lia)).mp hb
      have sc:=(dX hp _ _ _ _ (by lia)).mp hc
      have e2:=congrArg (List.filter λq:NN=>decide (q.2<k)) e;have lo:∀{T:List NN} {a:Nat},i_ ps a k T->T.filter (λq:NN=>decide (q.2<k))=T:=λs=>rD λq hq=>decide_eq_true (s.of q hq).2.2;have hi:∀{T:List NN},i_ ps (k+1) j T->T.filter (λq:NN=>decide (q.2<k))=[]:=λs=>kK λq hq=>decide_eq_false (by have:=s.of q hq;have:=hp q this.1;lia)
      rw[Xn,Xn,lo sx,lo sy,hi sb,hi sc,WZ,WZ]at e2;exact e2
    ·refine((AJ nd).filter _).imp λ{a b} oM x hx y hy e=>oM ?_;obtain⟨A,_,hx⟩:=WC.mp hx;obtain⟨A',_,hy⟩:=WC.mp hy;obtain⟨B,_,rfl⟩:=V4.mp hx;obtain⟨B',_,rfl⟩:=V4.mp hy;injection e with e _
     exact(Prod.mk.inj e).2
   ·subst e;have s:=(dX hp _ _ _ _ (by lia)).mp hy
    obtain⟨k,_,hx⟩:=WC.mp hx;obtain⟨A,_,hx⟩:=WC.mp hx;obtain⟨B,_,rfl⟩:=V4.mp hx;have:=(s.of _ V0).2.1;dsimp only at this;lia
  ·rw[if_neg aI];exact(W5 _ _)
include hp in
theorem qW (nd:ps.Nodup):∀(f i j:Nat),j-i<=f->(zj ps f i j).Nodup:=by
 intro f
 induction f with
 |zero=>intro i j _;exact(W5 _ _)
 |succ f ih =>
  intro i j h;unfold zj
  by_cases aI:i<j
  ·rw[if_pos aI,WY];have key:∀{a:Nat} {A B:List NN},a<j-1->i_ ps i a A->i_ ps (a+1) (j-1) B->(A++(a,j-1)::B).filter (λq:NN=>decide (q.2=j-1))=[(a,j-1)]/\(A++(a,j-1)::B).filter (λq:NN=>decide (q.1<a))=A/\(A++(a,j-1)::B).filter (λq:NN=>decide (a<q.1))=B:=λ{a A B} ha sa sb=>by
    refine{?_,?_,?_}
    ·rw[Xn,Xj,if_pos (decide_eq_true rfl),kK λq hq=>decide_eq_false (by have:=(sa.of q hq).2.2;lia),kK λq hq=>decide_eq_false (by have:=(sb.of q hq).2.2;lia),ZA]
    ·rw[Xn,Xj,if_neg (by rw[decide_eq_true_eq];dsimp only;lia),rD λq hq=>decide_eq_true (by have:=sa.of q hq;have:=hp q this.1;lia),kK λq hq=>decide_eq_false (by have:=(sb.of q hq).2.1;lia),WZ]
    ·rw[Xn,Xj,if_neg (by rw[decide_eq_true_eq];dsimp only;lia),kK λq hq=>decide_eq_false (by have:=sa.of q hq;have:=hp q this.1;lia),rD λq hq=>decide_eq_true (by have:=(sb.of q hq).2.1;lia),ZA]
   refine{ih _ _ (by lia),?_,λx hx y hy e=>?_}
   ·rw[Y1,XR];refine{λk hk=>?_,?_}
    ·obtain⟨ze,rT⟩:=VZ.mp hk;have rT:=of_decide_eq_true rT;have zd:=hp _ (bO.mp ze);dsimp only at zd;rw[XR];refine{λA ha=>?_,?_}
     ·rw[WJ];refine(ih (k+1) (j-1) (by lia)).imp λ{x y} oM e=>oM ?_
      have:=List.append_cancel_left e;injection this
     ·refine(ih i k (by lia)).imp_of_mem λ{x y} hx hy oM u hu v hv e=>oM ?_
      obtain⟨b,hb,rfl⟩:=V4.mp hu;obtain⟨c,hc,rfl⟩:=V4.mp hv;have sx:=(bE hp _ _ _ _ (by lia)).mp hx
      have sy:=(bE hp _ _ _ _ (by lia)).mp hy
      have sb:=(bE hp _ _ _ _ (by lia)).mp hb
      have sc:=(bE hp _ _ _ _ (by lia)).mp hc
      have e2:=congrArg (List.filter λq:NN=>decide (q.1<k)) e;rw[(key zd sx sb).2.1,(key zd sy sc).2.1]at e2;exact e2
    ·refine((qV nd).filter _).imp_of_mem λ{a b} ha hb oM x hx y hy e=>oM ?_;have Sz:=hp _ (bO.mp (VZ.mp ha).1);have Ss:=hp _ (bO.mp (VZ.mp hb).1);have Sw:=of_decide_eq_true (VZ.mp ha).2;have VL:=of_decide_eq_true (VZ.mp hb).2;dsimp only at Sz Ss;obtain⟨A,hA,hx⟩:=WC.mp hx;obtain⟨A',NM,hy⟩:=WC.mp hy;obtain⟨B,hB,rfl⟩:=V4.mp hx;obtain⟨B',UL,rfl⟩:=V4.mp hy;have e2:=congrArg (List.filter λq:NN=>decide (q.2=j-1)) e;rw[(key Sz ((bE hp _ _ _ _ (by lia)).mp hA) ((bE hp _ _ _ _ (by lia)).mp hB)).1,(key Ss ((bE hp _ _ _ _ (by lia)).mp NM) ((bE hp _ _ _ _ (by lia)).mp UL)).1]at e2
     injection e2 with e3 _
     exact(Prod.mk.inj e3).1
   ·subst e;have s:=(bE hp _ _ _ _ (by lia)).mp hx
    obtain⟨k,_,hy⟩:=WC.mp hy;obtain⟨A,_,hy⟩:=WC.mp hy;obtain⟨B,_,rfl⟩:=V4.mp hy;have:=(s.of _ (Wx _ V0)).2.2;dsimp only at this;lia
  ·rw[if_neg aI];exact(W5 _ _)
def d6 (m:Int)(L:List (List NN)):Nat:=(L.filter λS=>decide ((S.length:Int)=m)).length
theorem jY {m:Int}{L L':List (List NN)}:d6 m (L++L')=d6 m L+d6 m L':=by unfold d6;rw[Xn,Wf]
theorem ir {m:Int}{L:List (List NN)}(h:∀S∈L,(S.length:Int)≠m):d6 m L=0:=by unfold d6;rw[kK λS hS=>decide_eq_false (h S hS)];rfl
theorem kO {α:Type}{m:Int}{f:α->List (List NN)}:∀{l:List α},d6 m (l.flatMap f)=(l.map λa=>d6 m (f a)).sum
 |[]=>rfl
 |a::l=>by rw[YF,jY,kO,Ws,Yc]
theorem CH {m m':Int}{f:List NN->List NN}{L:List (List NN)}(h:∀S∈L,((f S).length:Int)=m↔(S.length:Int)=m'):d6 m (L.map f)=d6 m' L:=by
 unfold d6;rw[List.filter_map,VS]
 congr 1
 exact Yh λS hS=>by simp only[Function.comp];exact decide_eq_decide.mpr (h S hS)
theorem nM {x y m:Int}{f:List NN->List NN->List NN}(hf:∀A B,(f A B).length=1+A.length+B.length)(hm:1+x+y<=m){Y:List (List NN)}(hy:∀B∈Y,(B.length:Int)<=y):
  ∀{X:List (List NN)},(∀A∈X,(A.length:Int)<=x)->d6 m (X.flatMap λA=>Y.map (f A))=if 1+x+y=m then d6 x X*d6 y Y else 0
 |[],_=>by rw[show d6 x []=0 from rfl,Z1];split <;> rfl
 |A::X,hx=>by
  have ih:=nM hf hm hy (X:=X) λB hB=>hx B (V8 _ hB);have ha:=hx A V0;rw[YF,jY,ih];have e1:d6 x (A::X)=(if (A.length:Int)=x then 1 else 0)+d6 x X:=by
   unfold d6;rw[Xj]
   by_cases q:(A.length:Int)=x
   ·rw[if_pos (decide_eq_true q),if_pos q,V7,Nat.add_comm]
   ·rw[if_neg (by rw[decide_eq_true_eq];exact q),if_neg q,Xg]
  rw[e1]
  by_cases Me:1+x+y=m
  ·rw[if_pos Me,if_pos Me]
   by_cases q:(A.length:Int)=x
   ·rw[if_pos q,Nat.add_mul,Y_,CH (m':=y) λB hB=>by rw[hf];lia]
   ·rw[if_neg q,Xg,ir λS hS=>?_,Xg];obtain⟨B,hB,rfl⟩:=V4.mp hS;have:=hy B hB;rw[hf];lia
  ·rw[if_neg Me,if_neg Me,Z2];refine ir λS hS=>?_;obtain⟨B,hB,rfl⟩:=V4.mp hS;have:=hy B hB;rw[hf];lia
theorem zt {m:Int}{L L':List (List NN)}(h:L.Perm L'):d6 m L=d6 m L':=(h.filter _).length_eq
include hp in
theorem xT (nd:ps.Nodup):∀(f i j:Nat),j-i<=f->d6 (mX ps i j) (zj ps f i j)=cL ps i j:=by
 intro f
 induction f with
 |zero=>intro i j h;rw[gf (by lia),bF (by lia)];rfl
 |succ f ih =>
  intro i j h;unfold zj
  by_cases aI:i<j
  ·rw[if_pos aI,jY,rL hp aI,kO]
   congr 1
   ·by_cases e:mX ps i (j-1)=mX ps i j
    ·rw[if_pos e,<- e,ih i (j-1) (by lia)]
    ·rw[if_neg e];refine ir λS hS=>?_;have:=iT hp _ _ _ _ (VR _) ((bE hp _ _ _ _ (by lia)).mp hS)
     have:=m5 hp _ _ _ (VR _) aI;lia
   ·congr 1
    refine Wu λa ha=>?_;obtain⟨h1,h2⟩:=VZ.mp ha;have h2:=of_decide_eq_true h2;have h3:=hp _ (bO.mp h1);dsimp only at h3;have h4:=qZ hp (bO.mp h1) (by lia) _ i (VR _) h2
    rw[nM (x:=mX ps i a) (y:=mX ps (a+1) (j-1)) (f:=λA B=>A++(a,j-1)::B) (λA B=>by rw[Wf,V7];lia) (by lia) (λB hB=>iT hp _ _ _ _ (VR _) ((bE hp _ _ _ _ (by lia)).mp hB)) (λA hA=>iT hp _ _ _ _ (VR _) ((bE hp _ _ _ _ (by lia)).mp hA)),ih _ _ (by lia),ih _ _ (by lia)]
  ·rw[if_neg aI,gf (by lia),bF (by lia)];rfl
end
section
variable {ps:List NN}(hp:∀p∈ps,p.1<p.2){i j:Nat}{S A B:List NN}
theorem lI {α:Type}{q:α->Bool}{f:α->Nat}:∀{l:List α},((l.filter q).map f).sum=(l.map λx=>if q x=true then f x else 0).sum
 |[]=>rfl
 |a::l=>by
  rw[Xj,Ws,Yc]
  by_cases h:q a=true
  ·rw[if_pos h,if_pos h,Ws,Yc,lI]
  ·rw[if_neg h,if_neg h,lI,Xg]
include hp in
theorem MO (nd:ps.Nodup):∀(f i l:Nat),l<=f->d6 (mX ps i (i+l)) (Dh ps f i (i+l))=hm ps l i:=by
 intro f
 induction f with
 |zero=>intro i l h;rw[show l=0 by lia,bF (by lia)];rfl
 |succ f ih =>
  intro i l h;cases l with
  |zero=>rw[bF (by lia)];unfold Dh;rw[if_neg (by lia)];rfl
  |succ l =>
   have aI:i<i+(l+1):=by lia
   unfold Dh;rw[if_pos aI,rj hp,jY,kO];unfold bq;rw[Wv,List.sum_append,WR];have ej:i+(l+1)=i+l+1:=rfl;rw[ej]at aI ⊢
   have eX:∀a b:Nat,a<=b->tW ps w1 (b-a) a=mX ps a b:=λa b _=>rfl
   congr 1
   ·rw[lI,lI]
    congr 1
    refine Wu λk hk=>?_;have h3:=hp _ (br.mp hk);dsimp only at h3
    by_cases h2:k<i+l+1
    ·have h4:=iZ hp (br.mp hk) h2;rw[if_pos (decide_eq_true h2),nM (x:=mX ps (i+1) k) (y:=mX ps (k+1) (i+l+1)) (f:=λA B=>(i,k)::(A++B)) (λA B=>by rw[V7,Wf];lia) (by lia) (λB hB=>iT hp _ _ _ _ (VR _) ((dX hp _ _ _ _ (by lia)).mp hB)) (λA hA=>iT hp _ _ _ _ (VR _) ((dX hp _ _ _ _ (by lia)).mp hA))]
     have i1:=ih (i+1) (k-(i+1)) (by lia)
     have i2:=ih (k+1) (i+l+1-(k+1)) (by lia)
     rw[show i+1+(k-(i+1))=k by lia]at i1
     rw[show k+1+(i+l+1-(k+1))=i+l+1 by lia]at i2
     rw[i1,i2];have e1:w1 (i,k)+tW ps w1 (k-i-1) (i+1)+tW ps w1 (i+l+1-k-1) (k+1)=1+mX ps (i+1) k+mX ps (k+1) (i+l+1):=by
      unfold mX w1;rw[show k-i-1=k-(i+1) by lia,show i+l+1-k-1=i+l+1-(k+1) by lia]
     have e2:tW ps w1 (i+l+1-i) i=mX ps i (i+l+1):=rfl;rw[e1,e2,decide_eq_true h2,Bool.true_and];simp only[decide_eq_true_eq,Function.comp];have e3:=mD (ps:=ps) (i:=i) (j:=i+l+1) (k:=k);unfold k_ at e3;rw[e3]
    ·rw[if_neg (by rw[decide_eq_true_eq];exact h2),decide_eq_false h2,Bool.false_and,if_neg (by simp)]
   ·have e1:tW ps w1 (i+l+1-i-1) (i+1)=mX ps (i+1) (i+l+1):=by unfold mX;rw[show i+l+1-i-1=i+l+1-(i+1) by lia]
    have e2:tW ps w1 (i+l+1-i) i=mX ps i (i+l+1):=rfl;rw[e1,e2];have i1:=ih (i+1) l (by lia)
    rw[show i+1+l=i+l+1 by lia]at i1
    by_cases e:mX ps (i+1) (i+l+1)=mX ps i (i+l+1)
    ·have e3:=mE (ps:=ps) (i:=i) (j:=i+l+1);unfold k_ at e3;rw[if_pos e,List.map_singleton,List.sum_singleton,e3,<- e,i1,show i+l+1-(i+1)=l by lia]
    ·rw[if_neg e];refine ir λS hS=>?_;have:=iT hp _ _ _ _ (VR _) ((dX hp _ _ _ _ (by lia)).mp hS)
     have:=lU hp aI;lia
include hp in
theorem Md (nd:ps.Nodup){n:Nat}:hm ps n 0=cL ps 0 n:=by
 have h1:=MO hp nd n 0 n (VR _);have h2:=xT hp nd n 0 n (by lia)
 rw[Xg]at h1;rw[<- h1,<- h2];exact zt ((Xm (Ij hp nd _ _ _ (by lia)) (qW hp nd _ _ _ (by lia))).mpr λS=>(dX hp _ _ _ _ (by lia)).trans (bE hp _ _ _ _ (by lia)).symm)
include hp in
theorem xC:∀(l i j:Nat),j-i<=l->i_ ps i j (cC ps w1 i j):=by
 intro l
 induction l with
 |zero=>intro i j h;rw[dw (by lia)];exact .nil
 |succ l ih =>
  intro i j h
  by_cases aI:i<j
  ·rw[fG hp aI];have hm:=bj (cP (w:=w1) hp aI);cases hc:b7 ps w1 i j with
   |none=>exact(cb hp aI).mpr (.inl (ih _ _ (by lia)))
   |some k =>
    rw[hc]at hm;obtain⟨h1,h2,_⟩:=hm;have h3:=hp _ h1;dsimp only at h3;exact(cb hp aI).mpr (.inr {k,_,_,h1,h2,rfl,ih _ _ (by lia),ih _ _ (by lia)})
  ·rw[dw aI];exact .nil
end
abbrev BC (ps:List NN)(i j:Nat):List (Option Nat):=bq ps w1 (tW ps w1) i j
def uS (ps:List NN)(i j:Nat)(S:List NN):Prop:=i_ ps i j S/\(S.length:Int)=mX ps i j
def ou (p:Nat)(S:List NN):Prop:=∃t∈S,t.1=p\/t.2=p
section
variable {ps:List NN}{i j n p k:Nat}{S A B:List NN}
def j6:none∈BC ps i j↔mX ps (i+1) j=mX ps i j:=by
 unfold BC bq mX;rw[V9,Nat.sub_sub];constructor
 ·intro h;rcases h with h|h
  ·obtain⟨k,_,e⟩:=V4.mp h;cases e
  ·by_cases e:tW ps w1 (j-(i+1)) (i+1)=tW ps w1 (j-i) i
   ·exact e
   ·rw[if_neg e]at h;cases h
 ·intro e;rw[if_pos e];exact .inr (VU.mpr rfl)
def iu:some k∈BC ps i j↔(i,k)∈ps/\k<j/\1+mX ps (i+1) k+mX ps (k+1) j=mX ps i j:=by
 have e0:∀k,(w1 (i,k)+tW ps w1 (k-i-1) (i+1)+tW ps w1 (j-k-1) (k+1)=tW ps w1 (j-i) i)↔1+mX ps (i+1) k+mX ps (k+1) j=mX ps i j:=λk=>by
  unfold mX;rw[Nat.sub_sub,Nat.sub_sub];exact Iff.rfl
 unfold BC bq;rw[V9];constructor
 ·intro h;rcases h with h|h
  ·obtain⟨k',hk,e⟩:=V4.mp h;cases e;obtain⟨h1,h2⟩:=VZ.mp hk;obtain⟨h3,h4⟩:=YT.mp h2;exact{br.mp h1,of_decide_eq_true h3,(e0 k).mp (of_decide_eq_true h4)}
  ·split at h
   ·cases VU.mp h
   ·cases h
 ·intro h;obtain⟨h1,h2,h3⟩:=h;exact .inl (V4.mpr {k,VZ.mpr {br.mpr h1,YT.mpr {decide_eq_true h2,decide_eq_true ((e0 k).mpr h3)}},rfl})
variable (hp:∀p∈ps,p.1<p.2)
include hp
theorem dP (s:i_ ps i j S):(S.length:Int)<=mX ps i j:=iT hp (j-i) i j S (VR _) s
theorem c_:∃S,uS ps i j S:={cC ps w1 i j,xC hp _ _ _ (VR _),f7 hp}
theorem d8 (h:i<j):uS ps i j S↔(none∈BC ps i j/\uS ps (i+1) j S)\/∃k A B,some k∈BC ps i j/\S=(i,k)::(A++B)/\uS ps (i+1) k A/\uS ps (k+1) j B:=by
 constructor
 ·intro m;obtain⟨s,e⟩:=m;rcases (cb hp h).mp s with s1|⟨k,A,B,h1,h2,rfl,sA,sB⟩
  ·have l1:=dP hp s1;obtain⟨S0,s0,e0⟩:=c_ (i:=i+1) (j:=j) hp;have l2:=dP hp ((cb hp h).mpr (.inl s0));exact .inl {j6.mpr (by lia),s1,by lia}
  ·have lA:=dP hp sA;have lB:=dP hp sB;obtain⟨A0,a0,ea⟩:=c_ (i:=i+1) (j:=k) hp;obtain⟨B0,b0,eb⟩:=c_ (i:=k+1) (j:=j) hp;have l2:=dP hp ((cb hp h).mpr (.inr {(k),A0,B0,h1,h2,rfl,a0,b0}));simp only[V7,Wf]at e l2;exact .inr {k,A,B,iu.mpr {h1,h2,by lia},rfl,{sA,by lia},{sB,by lia}}
 ·intro m;rcases m with⟨h1,s,e⟩|⟨k,A,B,h1,rfl,⟨sA,eA⟩,sB,eB⟩
  ·exact{(cb hp h).mpr (.inl s),by rw[e];exact j6.mp h1}
  ·obtain⟨h1,h2,h3⟩:=iu.mp h1;refine{(cb hp h).mpr (.inr {(k),A,B,h1,h2,rfl,sA,sB}),?_};simp only[V7,Wf];lia
theorem hG (s:i_ ps i j S)(t:ou p S):i<=p/\p<j:=by
 obtain⟨q,hq,e⟩:=t;obtain⟨h1,h2,h3⟩:=s.of q hq;have:=hp q h1;lia
omit hp
theorem dq:ou p ((i,k)::(A++B))↔p=i\/p=k\/ou p A\/ou p B:=by
 constructor
 ·intro h;obtain⟨q,hq,e⟩:=h;rcases VX.mp hq with rfl|hq
  ·exact e.elim (λe=>.inl e.symm) λe=>.inr (.inl e.symm)
  ·rcases V9.mp hq with hq|hq
   ·exact .inr (.inr (.inl {(q),hq,e}))
   ·exact .inr (.inr (.inr {(q),hq,e}))
 ·intro h;rcases h with h|h|⟨q,hq,e⟩|⟨q,hq,e⟩
  ·exact{_,V0,.inl h.symm}
  ·exact{_,V0,.inr h.symm}
  ·exact{q,V8 _ (WK _ hq),e}
  ·exact{q,V8 _ (Wx _ hq),e}
inductive rW (ps:List NN) (n:Nat):Nat->Nat->Prop
 |start:rW ps n 0 n
 |step {i j a b:Nat} {c:Option Nat} (r:rW ps n i j) (h:i<j) (hc:c∈BC ps i j) (hq:(a,b)∈parts i c j):rW ps n a b
include hp
theorem wQ (r:rW ps n i j):∀S',uS ps i j S'->∃S,uS ps 0 n S/\∀p,i<=p->p<j->(ou p S↔ou p S'):=by
 induction r with
 |start=>exact λS' m=>{S',m,λ_ _ _=>Iff.rfl}
 |step r h hc hq ih =>
  rename_i i j a b c
  intro S' m;cases c with
  |none =>
   have e:(a,b)=(i+1,j):=VU.mp hq;cases e;obtain⟨S,mS,k⟩:=ih S' ((d8 hp h).mpr (.inl {(hc),m}));exact{S,mS,λp h1 h2=>k p (by lia) h2}
  |some c =>
   have hq:(a,b)∈[(i+1,c),(c+1,j)]:=hq;have Mq:=iu.mp hc;have Qr:=hp _ Mq.1;dsimp only at Qr;rcases VX.mp hq with e|hq
   ·cases e;obtain⟨B,mB⟩:=c_ (i:=b+1) (j:=j) hp;obtain⟨S,mS,k⟩:=ih _ ((d8 hp h).mpr (.inr {(b),S',B,hc,rfl,m,mB}));refine{S,mS,λp h1 h2=>(k p (by lia) (by lia)).trans (dq.trans {λz=>?_,λz=>.inr (.inr (.inl z))})}
    rcases z with z|z|z|z
    ·lia
    ·lia
    ·exact z
    ·have:=hG hp mB.1 z;lia
   ·have e:=VU.mp hq;cases e;obtain⟨A,mA⟩:=c_ (i:=i+1) (j:=c) hp;obtain⟨S,mS,k⟩:=ih _ ((d8 hp h).mpr (.inr {(c),A,S',hc,rfl,mA,m}));refine{S,mS,λp h1 h2=>(k p (by lia) (by lia)).trans (dq.trans {λz=>?_,λz=>.inr (.inr (.inr z))})}
    rcases z with z|z|z|z
    ·lia
    ·lia
    ·have:=hG hp mA.1 z;lia
    ·exact z
omit hp
def oY (ps:List NN)(n p:Nat):Prop:=∃j,rW ps n p j/\p<j/\none∈BC ps p j
def uM (ps:List NN)(n p:Nat):Prop:=∃i j k,rW ps n i j/\i<j/\some k∈BC ps i j/\(p=i\/p=k)
include hp
theorem wR:∀(l i j:Nat),j-i<=l->rW ps n i j->∀S,uS ps i j S->∀p,i<=p->p<j->(¬ ou p S->oY ps n p)/\(ou p S->uM ps n p):=by
 intro l
 induction l with
 |zero=>intro i j h r S m p h1 h2;lia
 |succ l ih =>
  intro i j h r S m p h1 h2;have aI:i<j:=by lia
  rcases (d8 hp aI).mp m with⟨hc,m1⟩|⟨k,A,B,hc,rfl,mA,mB⟩
  ·by_cases e:p=i
   ·subst e;exact{λ_=>{(j),r,aI,hc},λz=>by have:=hG hp m1.1 z;lia}
   ·exact ih (i+1) j (by lia) (.step r aI hc (VU.mpr rfl)) S m1 p (by lia) h2
  ·have Mq:=iu.mp hc;have EO:=hp _ Mq.1;dsimp only at EO;have rA:rW ps n (i+1) k:=.step r aI hc V0;have rB:rW ps n (k+1) j:=.step r aI hc (V8 _ V0)
   by_cases e:p=i\/p=k
   ·exact{λz=>absurd (dq.mpr (e.elim .inl λe=>.inr (.inl e))) z,λ_=>{(i),j,k,r,aI,hc,e}}
   ·by_cases e2:p<k
    ·have q:=ih (i+1) k (by lia) rA A mA p (by lia) e2
     refine{λz=>q.1 λz'=>z (dq.mpr (.inr (.inr (.inl z')))),λz=>q.2 ?_};rcases dq.mp z with z|z|z|z
     ·lia
     ·lia
     ·exact z
     ·have:=hG hp mB.1 z;lia
    ·have q:=ih (k+1) j (by lia) rB B mB p (by lia) h2
     refine{λz=>q.1 λz'=>z (dq.mpr (.inr (.inr (.inr z')))),λz=>q.2 ?_};rcases dq.mp z with z|z|z|z
     ·lia
     ·lia
     ·have:=hG hp mA.1 z;lia
     ·exact z
theorem jQ (h:p<n):oY ps n p↔∃S,uS ps 0 n S/\¬ ou p S:=by
 constructor
 ·intro f;obtain⟨j,r,hj,hc⟩:=f;obtain⟨S',m⟩:=c_ (i:=p+1) (j:=j) hp;obtain⟨S,mS,k⟩:=wQ hp r S' ((d8 hp hj).mpr (.inl {(hc),m}));exact{S,mS,λz=>by have:=hG hp m.1 ((k p (VR _) hj).mp z);lia}
 ·intro f;obtain⟨S,m,z⟩:=f;exact(wR hp n 0 n (by lia) .start S m p (V_ _) h).1 z
theorem jr (h:p<n):uM ps n p↔∃S,uS ps 0 n S/\ou p S:=by
 constructor
 ·intro f;obtain⟨i,j,c,r,aI,hc,e⟩:=f;have Mq:=iu.mp hc;have Qr:=hp _ Mq.1;dsimp only at Qr;obtain⟨A,mA⟩:=c_ (i:=i+1) (j:=c) hp;obtain⟨B,mB⟩:=c_ (i:=c+1) (j:=j) hp;obtain⟨S,mS,k⟩:=wQ hp r _ ((d8 hp aI).mpr (.inr {(c),A,B,hc,rfl,mA,mB}));exact{S,mS,(k p (by lia) (by lia)).mpr (dq.mpr (e.elim .inl λe=>.inr (.inl e)))}
 ·intro f;obtain⟨S,m,z⟩:=f;exact(wR hp n 0 n (by lia) .start S m p (V_ _) h).2 z
end
def vt (ps:List NN)(p:Nat):List NN:=ps.filter λt=>!(decide (t.1=p) || decide (t.2=p))
def G7 (p:Nat)(S:List NN):Bool:=S.any λt=>decide (t.1=p) || decide (t.2=p)
section
variable {ps:List NN}{i j n p:Nat}{S:List NN}
def lT {t:NN}:t∈vt ps p↔t∈ps/\¬ (t.1=p\/t.2=p):=by
 unfold vt;rw[VZ];simp
def js:G7 p S=true↔ou p S:=by
 unfold G7 ou;rw[List.any_eq_true];simp
def lJ:i_ (vt ps p) i j S↔i_ ps i j S/\¬ ou p S:=by
 constructor
 ·intro s;refine{{s.pw,λt ht=>?_},λz=>?_}
  ·obtain⟨h1,h2⟩:=s.of t ht;exact{(lT.mp h1).1,h2}
  ·obtain⟨t,ht,e⟩:=z;exact(lT.mp (s.of t ht).1).2 e
 ·intro s;exact{s.1.pw,λt ht=>{lT.mpr {(s.1.of t ht).1,λe=>s.2 {(t),ht,e}},(s.1.of t ht).2}}
variable (hp:∀p∈ps,p.1<p.2)
include hp
theorem kJ:∀t∈vt ps p,t.1<t.2:=λt ht=>hp t (lT.mp ht).1
theorem AF:mX (vt ps p) i j<=mX ps i j:=by
 obtain⟨S,s,e⟩:=c_ (i:=i) (j:=j) (kJ (p:=p) hp);have:=dP hp (lJ.mp s).1;lia
theorem iW (h:p<n):mX (vt ps p) 0 n<mX ps 0 n↔¬ oY ps n p:=by
 rw[jQ hp h];constructor
 ·intro l f;obtain⟨S,⟨s,e⟩,z⟩:=f;have:=dP (kJ (p:=p) hp) (lJ.mpr {(s),z});lia
 ·intro f;refine Int.lt_of_not_ge λl=>f ?_;have le:=AF (p:=p) (i:=0) (j:=n) hp;obtain⟨S,s,e⟩:=c_ (i:=0) (j:=n) (kJ (p:=p) hp);obtain⟨s1,s2⟩:=lJ.mp s;exact{S,{s1,by lia},s2}
theorem wC (h:p<n)(f:¬ oY ps n p):uM ps n p:=by
 rw[jQ hp h]at f;obtain⟨S,m⟩:=c_ (i:=0) (j:=n) hp;exact(jr hp h).mpr {S,m,Xf λz=>f {(S),m,z}}
theorem HE (nd:ps.Nodup)(h:p<n)(f:oY ps n p):cL (vt ps p) 0 n=cL ps 0 n↔¬ uM ps n p:=by
 have em:mX (vt ps p) 0 n=mX ps 0 n:=by
  have:=AF (p:=p) (i:=0) (j:=n) hp;have:=mt (iW hp h).mp (λz=>z f);lia
 have C7:(vt ps p).Nodup:=nd.filter _;rw[<- xT hp nd n 0 n (by lia),<- xT (kJ (p:=p) hp) C7 n 0 n (by lia),em]
 unfold d6;have n1:=(qW hp nd n 0 n (by lia)).filter λS=>decide ((S.length:Int)=mX ps 0 n)
 have n2:=(qW (kJ (p:=p) hp) C7 n 0 n (by lia)).filter λS=>decide ((S.length:Int)=mX ps 0 n)
 have m1:∀S,S∈(zj ps n 0 n).filter (λS=>decide ((S.length:Int)=mX ps 0 n))↔uS ps 0 n S:=λS=>by
  rw[VZ,bE hp _ _ _ _ (by lia)]
  exact{λz=>{z.1,of_decide_eq_true z.2},λz=>{z.1,decide_eq_true z.2}}
 have pm:((zj (vt ps p) n 0 n).filter λS=>decide ((S.length:Int)=mX ps 0 n)).Perm (((zj ps n 0 n).filter λS=>decide ((S.length:Int)=mX ps 0 n)).filter λS=>!G7 p S):=by
  refine(Xm n2 (n1.filter _)).mpr λS=>?_;rw[VZ,bE (kJ (p:=p) hp) _ _ _ _ (by lia),lJ,VZ,m1]
  constructor
  ·intro z;exact{{z.1.1,of_decide_eq_true z.2},by rw[Yj];exact Bool.eq_false_iff.mpr λe=>z.1.2 (js.mp e)}
  ·intro z;exact{{z.1.1,λe=>by have:=z.2;rw[js.mpr e]at this;cases this},decide_eq_true z.1.2}
 rw[pm.length_eq,jr hp h];generalize (zj ps n 0 n).filter (λS=>decide ((S.length:Int)=mX ps 0 n))=L at m1;constructor
 ·intro e z;obtain⟨S,m,t⟩:=z;have:=Z4.mp e S ((m1 S).mpr m);rw[js.mpr t]at this;cases this
 ·intro z;refine Z4.mpr λS hS=>?_;rw[Yj];exact Bool.eq_false_iff.mpr λe=>z {S,(m1 S).mp hS,js.mp e}
end
end L2.Q
namespace ST
open PySem PyProof.Rows
section
variable {prog:V2}{w:Wm}{A:Xd}{E:VT->VY->Prop}{s:VY}
def zA {Q:VT->VY->Prop}(q:Q (.ref s.heap.objs.size) {s with heap:=s.heap.push (vI w)}):WM (model prog w) A (call (.type "set") []) Q E s:=by
 obtain⟨cx,Vr,TX⟩:=F.called_set.mro;have RU:=F.called_set.made;have S8:=F.called_set.sub;refine wpAny_call (codeAny_of_tree ?_);show WM _ _ (callAny (.type "set") _) _ _ _;refine Wd {Code.quiet_builtin _ (by decide +kernel),codeAny_builtin F.entry_type_call ?_}
 rw[Around.under_plain (weight_type_call_type "set" [] []) rfl];have t1:=F.called_set.notType;have t2:=F.called_set.canCreate;have t3:=F.typeCall_set_0
 repeat (any_goals (first|assumption|wp_step))
 refine YD (Bw (w:=w) (E:=E) (xs:=[]) (R:=λob sx=>ob=.ref s.heap.objs.size/\sx={s with heap:=s.heap.push (vI w)}) F.newCall_set_0 (.inl rfl) {(rfl),rfl}) λr sx hr=>?_
 cases r with
 |error e=>exact hr
 |ok fl =>
  cases fl with
  |ret ob =>
   obtain⟨rfl,rfl⟩:=hr;have hT:Shared.TypeIs {s with heap:=s.heap.push (vI w)} (.ref s.heap.objs.size) "set" := {_,WT _ rfl,rfl}
   have i1:=F.called_set.init.lookup;have i2:=F.called_set.init.bind (.ref s.heap.objs.size)
   repeat (any_goals (first|assumption|wp_step))
   refine YD (codeAny_call_builtin (R:=wants (λr s2=>r=.none/\Q (.ref s.heap.objs.size) s2) E) F.called_set.init.plain F.entry_set_init (check_set_init hT ?_)) λr2 s2 rg=>?_
   ·unfold ZN.«set.__init__» noKeywords
    wp_walk
    exact{(rfl),q}
   ·cases r2 with
    |error e=>exact rg
    |ok UP =>
     cases UP with
     |ret r =>
      obtain⟨rfl,hq⟩:=rg
      repeat (any_goals (first|assumption|wp_step))
     |_=>exact rg.elim
  |_=>exact hr.elim
end
end ST
namespace L2
open PySem PySem.Spec PySem.SeqAt PyProof.Rows
def hE (k:List Int)(ts:List (List Int)):List (List Int):=if k∈ts then ts else k::ts
def c5 {k t:List Int}{ts:List (List Int)}:t∈hE k ts↔t=k\/t∈ts:=by
 unfold hE
 split
 ·rename_i h
  exact{.inr,λz=>z.elim (λz=>z▸h) id}
 ·exact VX
def nU {k:List Int}{ts:List (List Int)}(h:ts.Nodup):(hE k ts).Nodup:=by
 unfold hE
 split
 ·exact h
 ·exact WB.mpr {by assumption,h}
def zI {k:List Int}{ts us:List (List Int)}(h:ts.Perm us):(hE k ts).Perm (hE k us):=by
 unfold hE
 by_cases z:k∈ts
 ·rw[if_pos z,if_pos (h.mem_iff.mp z)];exact h
 ·rw[if_neg z,if_neg λz'=>z (h.mem_iff.mpr z')];exact h.cons k
section
variable {X:Cx}{o e:Expr}{es:List Expr}{to:TE}{t:TA}{T id:String}{name:Str}{r:V->List V->Hp->VK->Prop}{apos cpos:Pos}
def HL (pa:PlainAttrs T) (slot:Slot T name id) (LF:typeOf (.builtin id)=pure (.type "method_descriptor")) (hm:NW X id r) (ho:PE X o to) (ha:PA X (e::es) t)
  (eK:Yb o name X.env (eval o X.env)=eval o X.env:=by rfl)
  (ni:((XT cpos (Wj (e::es) X.env)).all (λx=>!x.1)&&(ZX cpos (Y9 [] X.env)).all (λx=>x.1.isSome)&&decide ((e::es).length+([]:List YN).length+(if ([]:List YN).isEmpty then 0 else 1)<30))=true:=by rfl)
  (eJ:(apos.endLine==cpos.line)=true:=by rfl) (hs:Wj (e::es) X.env=(false,eval e X.env)::Wj es X.env:=by rfl) (eI:(XT cpos (Wj es X.env)).any (·.1)=false:=by rfl) :
  PE X (.Call (.Attribute o name apos) (e::es) [] cpos) (λσ H Q=>to σ H λx H1=>(∀pins s v,Inv X pins σ H1 s->RelV x v->s.TypeIs v T/\∀a,v=.ref a->∃ob,s.heap.get? a=some ob/\ob.dict=none)/\t σ H1 λxs H2=>r x xs H2 Q):=by
 intro pins s σ H Q I h;refine wpAny_Call_method_late eK ni eJ rfl (bG (ho pins s σ H _ I h) λv s1 hx=>?_);obtain⟨x,H1,I1,r1,ty,q1⟩:=hx;obtain⟨h1,h2⟩:=ty _ _ _ I1 r1;refine{T,id,pa,slot,LF,h1,h2,?_};have hA:=ha cpos pins s1 σ H1 _ I1 q1;rw[hs]at hA ⊢
 refine Zu (by show (false || (XT cpos (Wj es X.env)).any (·.1))=false;rw[eI] <;> rfl) (Calls.evalArgs_plain (bG hA λus s2 hx=>?_))
 obtain⟨vs,H2,I2,r2,q2⟩:=hx;exact hm pins s2 σ H2 x vs v us Q I2 r1 r2 q2
end
section
variable {X:Cx}
def wq:fM X (.type "set") (λxs H Q=>xs=[]/\∀a,H a=none->Q (.ref a) (upd H a (nY X.prog X.w a []))):=by
 intro pins s σ H xs us Q I r h;obtain⟨rfl,q⟩:=h;cases r;have hS:(s.heap.push (ST.vI X.w)).get? s.heap.objs.size=some (ST.vI X.w):=WT _ rfl;refine ST.zA (w:=X.w) {.ref s.heap.objs.size,_,I.laid (t':=s.toks) (o:=nY X.prog X.w s.heap.objs.size []) (λ_ _ q=>V6 _ q) (VR _) ?_,rfl,q _ (I.bY.fresh (VR _))};exact{{_,_,_,_,hS,ST.Em _ _},{_,hS},λh1 h2 t9 k=>by obtain⟨o1,e1,QQ,t1,g1,g2⟩:=t9;exact{o1,e1,QQ,t1,k _ g1,g2}}
def KG (X:Cx):V->List V->Hp->VK->Prop:=λx xs H Q=>∃a ts t key,x=.ref a/\xs=[.ref t]/\H a=some (nY X.prog X.w a ts)/\H t=some (.tup (key.map V.int))/\(∀x∈ts,H x.1=some (.tup (x.2.map V.int)))/\ts.length<1000 /\
 ∀b_,(∀x∈b_,x∈ts\/x=(t,key))->(b_.map (·.2)).Perm (hE key (ts.map (·.2)))->Q .ck (upd H a (nY X.prog X.w a b_))
def yN (hu:X.A.units+16<Yo):NW X "set.add" (KG X):=by
 intro pins s σ H x xs v us Q I rx rs h;obtain⟨a,ts,t,key,rfl,rfl,hH,ht,lq,hn,q⟩:=h;cases rx;obtain⟨u,rfl,ru⟩:=vals1 rs;cases ru;obtain⟨⟨o,es,ep,tb,ho,S⟩,_,_⟩:=(show b9 X.prog X.w H s.heap a (nY X.prog X.w a ts) from I.bY a _ hH)
 have T:=qt I.bY lq;have Jl:(ST.TK X.prog X.w).is s.heap key t:=(qt (ts:=[(t,key)]) I.bY λx hx=>by rw[VU.mp hx];exact ht) (t,key) (VU.mpr rfl)
 refine Zi PySem.F.slot_set_add (ST.mq ho S) PySem.F.entry_set_add ?_ (PySem.F.args_set_add_2 _ _);unfold ZN.«set.add» Builtin.Frozenset.oneOther;simp only[List.isEmpty_nil,bind_assoc];unfold Builtin.Frozenset.addrOf;refine VV (Wd ?_)
 try dsimp only
 refine VV (Wd ?_)
 try dsimp only
 have Pk:X.A.in1.units<Yo:=by show X.A.units+1<Yo;lia
 refine VV (ST.GZ ho S T Jl Pk hn λh' o' b_ fO wb t' added tk Vz sb zc S' m1 m2=>?_);show WM _ _ (ret Value.none) _ _ _;have I2:Inv X pins σ (upd H a (nY X.prog X.w a b_)) {s with heap:=h',toks:=tk}:=I.write (x:=a) (e:=a) (by rw[hH];exact tv) (.inl rfl) (λb u hb hu=>(sb.2 b hb).trans hu) {_,zc}
  {{(o'),fO,wb,t',zc,S'},{_,zc},λh1 h2 y_ k=>by obtain⟨o1,e1,QQ,t1,g1,g2⟩:=y_;exact{o1,e1,QQ,t1,k _ g1,g2}}
 refine Wd {_,rfl,.ck,_,I2,rfl,?_}
 by_cases xx:∃x∈ts,x.2=key
 ·obtain rfl:=m1 xx;refine q b_ (λx hx=>.inl hx) ?_;unfold hE;obtain⟨y,hy,e⟩:=xx;rw[if_pos (by rw[<- e];exact List.mem_map_of_mem hy)]
 ·have pm:=m2 λx hx e=>xx {(x),hx,e};refine q b_ (λx hx=>(VX.mp (pm.mem_iff.mp hx)).symm) ?_;unfold hE;rw[if_neg (λz=>xx (by obtain⟨y,hy,e⟩:=V4.mp z;exact{(y),hy,e}))]
  exact pm.map _
def MM (b a:D):Option D:=match a with
 |.sT ts=>b.II.bind λes=>(iO es).map λt=>.bl (decide (t∈ts))
 |_=>none
def Fi {t:List Int}{ts:List (List Int)}:MM (.tup (t.map D.int)) (.sT ts)=some (.bl (decide (t∈ts))):=by
 show (iO (t.map D.int)).map _=_;rw[ip];rfl
def Ec (hu:X.A.units+16<Yo):bC X (W_ .In) MM:=by
 intro pins s σ H x y v u Q I rx ry h;obtain⟨W,d1,d2,d,hd,r1,r2,e,q⟩:=h;cases d2 with
 |sT ts =>
  obtain⟨es,h1,h2⟩:=Xb.mp (show d1.II.bind _=some d from e)
  obtain⟨t,h3,rfl⟩:=Wk.mp h2;rw[D.tY h1,jX h3]at r1;obtain⟨p,us,rfl,hp,rp⟩:=r1;rw[bw rp]at hp;obtain⟨a,rfl,⟨b_,hH,lq,pm⟩,_⟩:=r2;cases rx;cases ry;obtain⟨⟨o,eo,ep,tb,ho,S⟩,_,_⟩:=(show b9 X.prog X.w H s.heap a (nY X.prog X.w a b_) from I.bY a _ hH)
  have T:=qt I.bY lq;have Jl:(ST.TK X.prog X.w).is s.heap t p:=(qt (ts:=[(p,t)]) I.bY λx hx=>by rw[VU.mp hx];exact hp) (p,t) (VU.mpr rfl)
  have hT:=ST.mq ho S;have ed:decide (t∈ts)=decide (∃x∈b_,x.2=t):=by
   rw[decide_eq_decide,<- pm.mem_iff,V4]
  show WM _ _ (contains (.ref a) (.ref p) >>= λb=>pure (Value.bool b)) _ _ s;refine VV ?_;unfold contains;refine Xo (VV (wpAny_specialOf hT PySem.F.slot_set_contains.lookup ?_));show WM _ _ (if (some (Value.builtin "set.__contains__")==some Value.none)=true then _ else _) _ _ s
  rw[if_neg (by rw[beq_builtin_none];exact W4)]
  refine VV (wpAny_callSpecialUnlessNone?_slot (name:=Str.ofString "__contains__") hT PySem.F.slot_set_contains (Zi PySem.F.slot_set_contains hT entry_set_contains ?_ (PySem.F.args_set_contains_2 _ _)));unfold ZN.«frozenset.__contains__» Builtin.Frozenset.oneOther;simp only[List.isEmpty_nil,bind_assoc];unfold Builtin.Frozenset.addrOf Builtin.Frozenset.withSetAsKey;refine VV (Wd ?_)
  try dsimp only
  refine VV (Wd ?_)
  try dsimp only
  have Pk:X.A.in1.units<Yo:=by show X.A.units+1<Yo;lia
  refine VV (wpAny_tryCatch (ST.rZ ho S T Jl Pk ?_));refine Wd {_,rfl,XJ (Wd {.bl (decide (t∈ts)),H,I.tok _,?_,q _ _ (aE.refl _) rfl})};rw[ed];rfl
 |_=>cases e
end
end L2
namespace L2.Q
open PySem PySem.Spec PySem.SeqAt PyProof.Rows
section
variable {X:Cx}{C:Cfg}{e:Expr}{φ:aQ}{p:Bool}{i j:Nat}{x y:Str}{pos px py ap cp tp:Pos}
def DR (hm:X.mg "set" = none) (hg:Gl X "set" := by rfl):PQ X C true (.Call (.Name "set" px) [] [] pos) (λβ R=>R (.sT []) .own β) :=
 ⟨λβ R R' k h=>k _ _ _ h,(vB wq hg hm JG).pre λσ H Q h=>by
  obtain⟨β,own,s,q⟩:=h;refine{rfl,λa ha=>q _ _ own ((Out.refl s _).same (aE.new ha)) {[a],{a,rfl,{[],ao,λx hx=>(nomatch hx),.nil},rfl},by simp,λc hc=>?_}}
  rw[VU.mp hc];exact{ha,λz=>s.xQ a z ha,Wz λz=>s.iN a z ha}⟩
def xc (hu:X.A.units+16<Yo)(he:∀U,PQ X (C.u U) p e φ)(hn:Nm X i x:=by exact Bm)
  (eK:Yb (.Name x px) "add" X.env (eval (.Name x px) X.env)=eval (.Name x px) X.env:=by rfl)
  (ni:((XT cp (Wj [e] X.env)).all (λx=>!x.1)&&(ZX cp (Y9 [] X.env)).all (λx=>x.1.isSome)&&decide ([e].length+([]:List YN).length+(if ([]:List YN).isEmpty then 0 else 1)<30))=true:=by rfl)
  (eJ:(ap.endLine==cp.line)=true:=by rfl) (hs:Wj [e] X.env=(false,eval e X.env)::Wj [] X.env:=by rfl) (eI:(XT cp (Wj [] X.env)).any (·.1)=false:=by rfl)
  (y8:X9 (.Call (.Attribute (.Name x px) "add" ap) [e] [] cp) none pos.line X.env=pure false:=by rfl) :
  PB X C (.Expr (.Call (.Attribute (.Name x px) "add" ap) [e] [] cp) pos) (λE β=>(∃ts,β[i]?=some (some (.own (.sT ts))))/\φ β λd _ β'=>∃t ts,d=kD t/\β'[i]?=some (some (.own (.sT ts)))/\ts.length<1000/\E.nx (β'.set i (some (.own (.sT (hE t ts)))))):=by
 refine{λE E' β l h=>by obtain⟨h1,q⟩:=h;exact{h1,(he λ_=>False).mono _ _ _ (λd k β' h=>by obtain⟨t,ts,h1,h2,h3,q⟩:=h;exact{t,ts,h1,h2,h3,l.nx _ q}) q},λpins s σ H D I i7=>?_}
 obtain⟨Z,E,β,⟨own,sq,n⟩,⟨⟨Vq,hb⟩,q⟩,ok⟩:=i7;refine lK (pos:=pos) (HL (apos:=ap) (cpos:=cp) PySem.F.plainAttrs_set PySem.F.slot_set_add PySem.F.type_set_add (yN hu) (gR (pos:=px) hn) (bN (he λa=>H a=none).pe eF hs) eK ni eJ hs eI) y8 pins s σ H D I ?_;obtain⟨v0,h1,⟨a,rfl,⟨b_,hH,lq,pm⟩,h3⟩,_⟩:=sq.ow i _ hb;refine{.ref a,h1,λpins s v I r=>?_,tQ.of (he λa=>H a=none) (sq.r_ (C:=C.z) (U:=λa=>H a=none) λa z=>z) q λd k β' v H1 aF oJ o r=>?_}
 ·cases r;obtain⟨⟨ob,es,ep,tb,ho,S⟩,_,_⟩:=(show b9 X.prog X.w H s.heap a (nY X.prog X.w a b_) from I.bY a _ hH)
  exact{ST.mq ho S,λb e=>by cases e;exact{(ob),ho,S.ex.2.1}}
 obtain⟨t,ts,rfl,rV,hl,q⟩:=oJ;obtain⟨v1,g1,⟨a',rfl,⟨us,gH,QH,gm⟩,g3⟩,_⟩:=o.sq.ow i _ rV;rw[h1]at g1;cases g1;obtain⟨b,vs,rfl,Gp,rb⟩:=r.rep;rw[_root_.L2.bw rb]at Gp;have ha:a∈aF i:=by rw[g3];simp
 have nt:∀{c:Addr} {xs:List V},H1 c=some (.tup xs)->c≠a:=λe z=>by rw[z,gH]at e;cases e
 have hA:∀c∈[a],c∈aF i\/(C.H0 c=none/\¬ Wn aF c/\H c=none):=λc hc=>.inl (by rw[g3];exact hc)
 refine{a,us,b,t,rfl,rfl,gH,Gp,QH,by rw[<- gm.length_eq,VS]at hl;exact hl,λsd m1 m2=>ok.nx _ _ _ {_,o.sq.putIn rV h1 ha (show Own X.prog X.w (upd H1 a (nY X.prog X.w a sd)) (.sT (hE t ts)) (.ref a) [a] from {a,rfl,{sd,ao,λx hx=>?_,m2.trans (zI gm)},rfl}) (by simp) hA,qD (n.trans o.sn) (λb z=>n.free z) {(i),ha} {_,gH,λxs z=>by cases z} hA} q}
 rcases m1 x hx with z|rfl
 ·rw[aB (nt (QH x z))];exact QH x z
 ·rw[aB (nt Gp)];exact Gp
def A4 {k}(aI:i≠j)(hn:Nm X i x:=by exact Bm)(Jh:Nm X j y:=by exact Bm)
  (Ue:Wj [.Name x px,.Name y py] X.env=(false,eval (.Name x px) X.env)::Wj [.Name y py] X.env:=by rfl) (t8:Wj [.Name y py] X.env=(false,eval (.Name y py) X.env)::Wj [] X.env:=by rfl) :
  PB X C (.Return (some (.Tuple [.Name x px,.Name y py] k tp)) pos) (λE β=>∃d0 d,β[i]?=some (some (.own d0))/\β[j]?=some (some (.own d))/\E.rt (.tup [d0,d]) β) :=
 ⟨λE E' β l h=>by obtain⟨d0,d,h1,h2,q⟩:=h;exact{d0,d,h1,h2,l.rt _ _ q},(iX (AX (bN (gR (pos:=px) hn) (bN (gR (pos:=py) Jh) eF t8) Ue))).pre λD σ H hq=>by
  obtain⟨Z,E,β,⟨own,s,n⟩,⟨d0,d,J4,hb,q⟩,ok⟩:=hq;obtain⟨v0,e0,r0,z0⟩:=s.ow i d0 J4;obtain⟨v,e1,r,z1⟩:=s.ow j d hb;have hz:∀c∈own i++own j,C.H0 c=none:=λc hc=>(V9.mp hc).elim (z0 c) (z1 c);refine{v0,e0,v,e1,(by show 2<=Wi;decide),λp hp=>ok.rt _ _ _ _ _ (((Out.refl s true).same (aE.new hp)).sb n) ?_ q}
  have sm:aE H (upd H p (.tup [v0,v])):=aE.new hp;have Tt:Own X.prog X.w (upd H p (.tup [v0,v])) d0 v0 (own i):=r0.keep (λb xs e=>sm _ _ e) (λc _ o e=>sm c o e);have r':Own X.prog X.w (upd H p (.tup [v0,v])) d v (own j):=r.keep (λb xs e=>sm _ _ e) (λc _ o e=>sm c o e);have oo:Own X.prog X.w (upd H p (.tup [v0,v])) (.tup [d0,d]) (.ref p) (own i++own j):={p,_,rfl,ao,v0,[v],own i,own j,rfl,rfl,Tt,v,[],own j,[],rfl,by simp,r',rfl,rfl}
  cases hr:C.ro with
  |true=>exact{_,oo,WY.mpr {s.oG i,s.oG j,λa ha b hb e=>aI (s.oi i j a ha (e▸hb))},hz}
  |false=>exact oo.rep λc hc z=>z (hz c hc)⟩
end
end L2.Q
namespace L2
open PySem PySem.Spec PySem.SeqAt PyProof.Rows
def mem (o:List Int):Int->Bool:=λk=>decide (k∈o)
def iS (S:Int->Bool)(n:Nat):D:=.ob λ_=>.set S n
def IL {S S':Int->Bool}{n n':Nat}(h:iS S n=iS S' n'):S=S':=by
 injection h with h
 have:=congrFun h 0;injection this
section
open Classical
noncomputable def uz (f:Bool->Bool)(b a:D):Option D:=if h:∃S n,a=iS S n then b.int?.map λk=>.bl (f (Classical.choose h k)) else none
def uy {f:Bool->Bool}{k:Int}{S:Int->Bool}{n:Nat}:uz f (.int k) (iS S n)=some (.bl (f (S k))):=by
 have h:∃S' n',iS S n=iS S' n':={(S),n,rfl};unfold uz;rw[dif_pos h];obtain⟨n',e⟩:=Classical.choose_spec h;rw[<- IL e];rfl
def CC {f:Bool->Bool}{a b d:D}(h:uz f b a=some d):∃S n k,a=iS S n/\b=.int k/\d=.bl (f (S k)):=by
 unfold uz at h
 split at h
 ·rename_i z
  obtain⟨n',e⟩:=Classical.choose_spec z;obtain⟨k,e1,rfl⟩:=Wk.mp h;exact{_,n',k,e,D.rf e1,rfl}
 ·cases h
end
section
variable {X:Cx}
def mT:bC X (W_ .NotIn) (uz λb=>!b):=by
 intro pins s σ H x y v u Q I rx ry h;obtain⟨W,d1,d2,d,hd,r1,r2,e,q⟩:=h;obtain⟨S,n,k,rfl,rfl,rfl⟩:=CC e;obtain⟨a,rfl,⟨hH,_⟩,_⟩:=r2;cases (show x=.int k from r1)
 obtain⟨tk,rfl⟩:=rx;cases ry;have hS:s.heap.SetOf (intKind X.prog X.w) a S n:=I.bY a _ hH;exact wpAny_notInSet_of (intKind_is _ _ _ _) rfl hS {.bl (!S k),H,I.tok _,rfl,q _ _ (aE.refl _) rfl}
def tE:kU X (newSet (.type "set")) (.set (mem []) 0) :=
 ⟨λpins s σ H Q E I h=>wpAny_newSet_of (knd:=intKind X.prog X.w) λled hS=>h _ _ (VR _) I.fresh (λb o e=>V6 _ e) (I.laid (t':=s.toks) (λ_ _ q=>V6 _ q) (VR _) (by
  have e:mem []=λ_=>false:=by funext k;rfl
  rw[e];exact hS))⟩
def sY {elt:Expr}{te:TE}{a:Addr}(hx:X.xe=λ_ _=>False)(he:PE X elt te):
  oX X (gI (xM elt (.ref a) X.env)) (λN σ H=>te σ H λv H1=>∃S n t,v=.int t/\H1 a=some (.set S n)/\n+1<Z8/\N σ (upd H1 a (.set (λk=>S k || decide (k=t)) (if S t then n else n+1)))):=by
 intro pins s σ H N k Q E I h hk;unfold gI xM;refine VV (VV (bG (dW hx (he pins s σ H _ I h)) λu s1 i7=>?_));obtain⟨v,H1,I1,r1,S,n,t,rfl,hH,hn,q⟩:=i7;obtain⟨tk,rfl⟩:=r1;have hS:s1.heap.SetOf (intKind X.prog X.w) a S n:=I1.bY a _ hH;refine VV (XZ (VV (call_set_add (intKind_is _ _ _ _) rfl hS hn λh' sb SA=>?_)));refine Wd (hk σ _ _ ?_ q);have zc:∃o,h'.get? a=some o:=by
  obtain⟨o,_,_,_,ho,_⟩:=SA;exact{(o),ho}
 exact I1.write (x:=a) (e:=a) (t':=s1.toks+1) (by rw[hH];exact tv) (.inl rfl) (λb u hb hu=>(sb.2 b hb).trans hu) zc SA
end
end L2
namespace L2.Q
open PySem PySem.Spec PySem.SeqAt PyProof.Rows
def uJ (t:Int)(o:List Int):List Int:=if t∈o then o else t::o
def dz (o:List Int):List Int:=o.foldl (λa t=>uJ t a) []
def E7 {o:List Int}{t:Int}:dz (o++[t])=uJ t (dz o):=by unfold dz;rw[Z5];rfl
theorem Cw:∀(o a:List Int),a.Nodup->(o.foldl (λa t=>uJ t a) a).Nodup/\∀x,x∈o.foldl (λa t=>uJ t a) a↔x∈a\/x∈o
 |[],a,h=>{h,λx=>by simp}
 |t::o,a,h=>by
  have h1:(uJ t a).Nodup/\∀x,x∈uJ t a↔x∈a\/x=t:=by
   unfold uJ
   split
   ·rename_i z
    exact{h,λx=>{.inl,λq=>q.elim id λq=>q▸z}}
   ·rename_i z
    exact{WB.mpr {(z),h},λx=>by rw[VX];exact Or.comm}
  obtain⟨g1,g2⟩:=Cw o _ h1.1;refine{g1,λx=>?_};rw[XU,g2,h1.2,VX,or_assoc]
def vK {o:List Int}{x:Int}:x∈dz o↔x∈o:=((Cw o [] W9).2 x).trans (by simp)
def Rb (a:Addr)(o:List Int)(H:Hp):Prop:=H a=some (.set (mem o) (dz o).length)
def rP {a:Addr}:wz a (Rb a):=⟨λo H H' s h=>s _ _ h,λo H xs h z=>by
  rw[show H a=_ from h]at z;cases z⟩
def Ez {o:List Int}{t:Int}:(λk=>mem o k || decide (k=t))=mem (o++[t]):=by
 funext k
 unfold mem;rw[<- Bool.decide_or];exact decide_eq_decide.mpr (by rw[V9,VU])
abbrev N2 (X:Cx)(C:Cfg)(a:Addr)(φ:aQ):lF:=λN σ H=>tQ X (C.u λc=>c=a) true φ σ H λv H1=>∃S n t,v=.int t/\H1 a=some (.set S n)/\n+1<Z8/\N σ (upd H1 a (.set (λk=>S k || decide (k=t)) (if S t then n else n+1)))
def we (φ:aQ)(o:List Int)(β:a9)(N:a9->List Int->Prop):Prop:=φ β λx _ β3=>∃t,x=.int t/\(dz o).length+1<Z8/\N β3 (o++[t])
section
variable {X:Cx}{C:Cfg}{W0:Addr->Prop}{T:List Nat}{σ0:St}{H1:Hp}{a:Addr}{Hb:Hp}{Wb:Addr->Prop}{φ:aQ}
def sI (h0:C.H0 a=none)(ha:H1 a=none)(φm:∀β R R',(∀d k β,R d k β->R' d k β)->φ β R->φ β R'){β:a9}{o:List Int}{σ:St}{H:Hp}{N:a9->List Int->Prop}(s:rQ X C W0 T σ0 H1 a Hb Wb (Rb a) β o σ H)(q:we φ o β N):
  N2 X C a φ (λσ' H'=>∃β' o',rQ X C W0 T σ0 H1 a Hb Wb (Rb a) β' o' σ' H'/\N β' o') σ H:=by
 obtain⟨own,s⟩:=s;refine{β,own,s.sq,φm _ _ _ (λxd kx β6 i7 v H6 Bb o6 r6=>?_) q};obtain⟨t,e,hz,q⟩:=i7;subst e;obtain⟨sm,rfl⟩:=o6.pu rfl;have s6:=s.next rP o6.sq (λ_ z=>z) sm (λ_ _=>rfl)
 cases (show v=.int t from r6.rep)
 have at':H6 a=some (.set (mem o) (dz o).length):=s6.ac;refine{_,_,t,rfl,at',hz,β6,o++[t],{_,s6.put h0 ha at' (λxs z=>by cases z) ?_},q}
 have e:(if mem o t=true then (dz o).length else (dz o).length+1)=(dz (o++[t])).length:=by
  rw[E7];unfold uJ mem
  by_cases z:t∈o
  ·rw[decide_eq_true z,if_pos rfl,if_pos (vK.mpr z)]
  ·rw[decide_eq_false z,if_neg (λz=>Bool.noConfusion z),if_neg (λq=>z (vK.mp q))];rfl
 show upd H6 a _ a=_;rw[ao,Ez,e]
end
def CW {X:Cx}{C:Cfg}{σ:St}{H1 H':Hp}{β:a9}{own:Nat->List Addr}{a:Addr}{S:Int->Bool}{n:Nat}(s1:SQ X C σ H1 β own)(ha:H1 a=none)(h:H' a=some (.set S n)):KV X.prog X.w C (H1,Wn own) own H' .own (iS S n) (.ref a):=by
 refine{[a],{a,rfl,{h,λxs z=>by cases z},rfl},by simp,λc hc=>?_}
 rw[VU.mp hc];exact{ha,λh=>by obtain⟨j,hj⟩:=h;exact(s1.dm j a hj).1 ha,Wz λz=>s1.iN a z ha}
def Hw (lk:List (Option Nat))(ι:cz)(γ:c8)(τ:aZ)(φ:aQ):aQ:=λβ R=>ι β λds k β1=>hold k false/\iF γ τ (we φ) ds k (cu lk β1) [] λβf o=>ff (cu lk β1) βf/\R (iS (mem o) (dz o).length) .own β1
def DK (lk:List (Option Nat))(ι:cz)(γ:c8)(τ:aZ)(ι2:cz)(γ2:c8)(τ2:aZ)(φ:aQ):aQ:=λβ R=>ι β λds k β1=>hold k false/\iF γ τ (Bo ι2 γ2 τ2 (we φ)) ds k (cu lk β1) [] λβf o=>ff (cu lk β1) βf/\R (iS (mem o) (dz o).length) .own β1
section
variable {X:Cx}{C:Cfg}{lk:List (Option Nat)}{γ γ2:c8}{τ τ2:aZ}{φ:aQ}{T T2:List Nat}
variable {scope:YA}{tg cB n_ jg elt:Expr}{ifs fF:List Expr}{ι ι2:cz}{pi:Bool}{pos:Pos}
def Th (N':List Str)(lk:List (Option Nat))(L:gU X.env.scope.names X.N scope N' lk=true)(rm:N'.Nodup)(hc:X.calm=true)(hi:zJ X C pi tg cB ι)
  (oK:∀a cl c s H ex,wy (aC X scope N' cl c s H ex) (C.u λc=>c=a) tg T γ) (lq:∀a cl c s H ex,oW (aC X scope N' cl c s H ex) (C.u λc=>c=a) true ifs τ)
  (lV:∀a cl c s H ex,PQ (aC X scope N' cl c s H ex) (C.u λc=>c=a) true elt φ) (hT:T.all (λi=>match lk[i]? with|some (some _)=>false|_=>true)=true:=by rfl)
  (hs:∀x,WS cB X.env x=pure x:=by intro _;rfl):PQ X C pi (.SetComp elt [{tg,cB,ifs,0}] scope pos) (Hw lk ι γ τ φ):=by
 have L:=Links.of L;have B7:∀i∈T,∀j,lk[i]?≠some (some j):=λi hi j e=>by
  have:=X1.mp hT i hi;rw[e]at this;cases this
 have γm:=(oK 0 [] 0 X.s₀ X.H₀ []).mono;have τm:=(lq 0 [] 0 X.s₀ X.H₀ []).mono;have φm:=(lV 0 [] 0 X.s₀ X.H₀ []).mono;refine{λβ R R' k h=>hi.mono β _ _ (λds kd β1 q=>{q.1,q.2.mono λ_ _ z=>{z.1,k _ _ _ z.2}}) h,?_};refine(gS (g:={tg,cB,ifs,0}) (gs:=[]) (tg:=λa=>Dv X C a T γ) (tt:=λa=>j7 X (C.u λc=>c=a) true τ) (ta:=λa=>N2 X C a φ)
  L hc tE rfl rfl (λ_ _=>MP) hi.pi (λa cl c s H ex=>{(oK a cl c s H ex).pg,(lq a cl c s H ex).pt,sY (X:=aC X scope N' cl c s H ex) rfl (lV a cl c s H ex).pe}) hs).pre λσ H Q h=>?_
 obtain⟨β,own,s,h⟩:=h;refine{β,own,s,hi.mono β _ _ (λds k β1 h J H1 aF o1 it a ha=>?_) h};obtain⟨hk,q⟩:=h;refine jz (T:=T) rP γm τm (λj hj=>hj) (bQ L rm) B7 o1.sq ha hk it ao (o1.sq.wd (λxs z=>by cases z) ha (bQ L rm))
  (λHb Wb βx ox σx Hx Nx h0 sx qx=>sI h0 ha φm sx qx) q λo H' q o2 r=>?_
 exact q _ _ aF {o2.sq,o1.sn.trans o2.sn,λz=>{(o1.pu z).1.trans (o2.pu rfl).1,(o1.pu z).2},o1.le} ((CW o1.sq ha r).later o1.sn)
def Ol (N':List Str)(lk:List (Option Nat))(L:gU X.env.scope.names X.N scope N' lk=true)(rm:N'.Nodup)(hc:X.calm=true)(hi:zJ X C pi tg cB ι)
  (oK:∀a cl c s H ex,wy (aC X scope N' cl c s H ex) (C.u λc=>c=a) tg T γ) (lq:∀a cl c s H ex,oW (aC X scope N' cl c s H ex) (C.u λc=>c=a) true ifs τ)
  (Mm:∀a cl c s H ex,NS (aC X scope N' cl c s H ex) (C.u λc=>c=a) n_ jg ι2)
  (BO:∀a cl c s H ex,wy (aC X scope N' cl c s H ex) (C.u λc=>c=a) n_ T2 γ2) (BN:∀a cl c s H ex,oW (aC X scope N' cl c s H ex) (C.u λc=>c=a) true fF τ2)
  (lV:∀a cl c s H ex,PQ (aC X scope N' cl c s H ex) (C.u λc=>c=a) true elt φ) (hT:(T++T2).all (λi=>match lk[i]? with|some (some _)=>false|_=>true)=true:=by rfl)
  (hs:∀x,WS cB X.env x=pure x:=by intro _;rfl) (t8:∀cl c s H ex x,WS jg (aC X scope N' cl c s H ex).env x=pure x:=by intro _ _ _ _ _ _;rfl):PQ X C pi (.SetComp elt [{tg,cB,ifs,0},{n_,jg,fF,0}] scope pos) (DK lk ι γ τ ι2 γ2 τ2 φ):=by
 have L:=Links.of L;have B7:∀i∈T++T2,∀j,lk[i]?≠some (some j):=λi hi j e=>by
  have:=X1.mp hT i hi;rw[e]at this;cases this
 have γm:=(oK 0 [] 0 X.s₀ X.H₀ []).mono;have τm:=(lq 0 [] 0 X.s₀ X.H₀ []).mono;have GO:=(BO 0 [] 0 X.s₀ X.H₀ []).mono;have GN:=(BN 0 [] 0 X.s₀ X.H₀ []).mono;have φm:=(lV 0 [] 0 X.s₀ X.H₀ []).mono;have ιm:=(Mm 0 [] 0 X.s₀ X.H₀ []).mono;refine{λβ R R' k h=>hi.mono β _ _ (λds kd β1 q=>{q.1,q.2.mono λ_ _ z=>{z.1,k _ _ _ z.2}}) h,?_};refine(gS (g:={tg,cB,ifs,0}) (gs:=[{n_,jg,fF,0}]) (tg:=λa=>Dv X C a T γ) (tt:=λa=>j7 X (C.u λc=>c=a) true τ)
  (ta:=λa N σ H=>∃β own,SQ X (C.u λc=>c=a) σ H β own/\ι2 β λds k β'=>∀J H',aE H H'->SQ X (C.u λc=>c=a) σ H' β' own->zR X (iy (C.u λc=>c=a) (Wn own) k) J ds H' ->
   gk J (Dv X C a T2 γ2) (j7 X (C.u λc=>c=a) true τ2) (N2 X C a φ) N σ H')
  L hc tE rfl rfl (λ_ _=>JB) hi.pi (λa cl c s H ex=>{(oK a cl c s H ex).pg,(lq a cl c s H ex).pt,xf (X:=aC X scope N' cl c s H ex) (g':={n_,jg,fF,0}) rfl hc JA (Mm a cl c s H ex).pi (BO a cl c s H ex).pg (BN a cl c s H ex).pt (sY (X:=aC X scope N' cl c s H ex) rfl (lV a cl c s H ex).pe) (t8 cl c s H ex)}) hs).pre λσ H Q h=>?_
 obtain⟨β,own,s,h⟩:=h;refine{β,own,s,hi.mono β _ _ (λds k β1 h J H1 aF o1 it a ha=>?_) h};obtain⟨hk,q⟩:=h;refine jz (T:=T++T2) rP γm τm (λj hj=>WK _ hj) (bQ L rm) B7 o1.sq ha hk it ao (o1.sq.wd (λxs z=>by cases z) ha (bQ L rm))
  (λHb Wb βx ox σx Hx Nx h0 sx qx=>wN rP (λj hj=>Wx _ hj) GO GN (λHb Wb βy oy σy Hy Ny sy qy=>sI h0 ha φm sy qy) ιm sx qx) q λo H' q o2 r=>?_
 exact q _ _ aF {o2.sq,o1.sn.trans o2.sn,λz=>{(o1.pu z).1.trans (o2.pu rfl).1,(o1.pu z).2},o1.le} ((CW o1.sq ha r).later o1.sn)
end
theorem len_sub {α:Type}[DecidableEq α]:∀{l m:List α},l.Nodup->(∀x∈l,x∈m)->l.length<=m.length
 |[],m,_,_=>V_ _
 |x::l,m,nd,h=>by
  obtain⟨h1,h2⟩:=WB.mp nd;have q:=len_sub (l:=l) (m:=m.erase x) h2 λy hy=>(List.mem_erase_of_ne λz:y=x=>h1 (by rw[<- z];exact hy)).mpr (h y (V8 _ hy))
  have hx:=h x V0;rw[Zf hx]at q;have:=List.length_pos_of_mem hx;rw[V7];lia
def Cv {o:List Int}{m:Nat}(h:∀x∈o,0<=x/\x<(m:Int)):(dz o).length<=m:=by
 have q:=len_sub (l:=dz o) (m:=(VW m).map λi:Nat=>(i:Int)) (Cw o [] W9).1 λx hx=>by
  have:=h x (vK.mp hx);exact V4.mpr {x.toNat,V3.mpr (by lia),by lia}
 rw[VS,We]at q;exact q
section
variable {ps:List NN}{n:Nat}
def mC (hp:∀t∈ps,t.1<t.2){i j:Nat}(r:rW ps n i j):i<=j/\j<=n:=by
 induction r with
 |start=>exact{V_ _,VR _}
 | @step i j a b c r h hc hq ih =>
  cases c with
  |none =>
   have e:(a,b)=(i+1,j):=VU.mp hq;cases e;exact{(h),ih.2}
  |some k =>
   have hk:=bj hc;have h1:=hp _ hk.1;have h2:k<j:=hk.2.1;dsimp only at h1;have e:(a,b)=(i+1,k)\/(a,b)=(k+1,j):=by
    rcases VX.mp hq with e|e
    ·exact .inl e
    ·exact .inr (VU.mp e)
   rcases e with e|e <;> cases e <;> lia
def A6 (hp:∀t∈ps,t.1<t.2){i j:Nat}{c:Option Nat}(hc:c∈BC ps i j){q:NN}(hq:q∈parts i c j):i<q.1:=by
 cases c with
 |none=>rw[VU.mp hq];exact XF _
 |some k =>
  have h1:=hp _ (bj hc).1;dsimp only at h1;rcases VX.mp hq with e|e
  ·rw[e];exact XF _
  ·rw[VU.mp e];dsimp only;lia
structure Mt (ps:List NN)(n:Nat)(P:Nat->Nat->Prop)(ts:List (List Int))(cs:List (Nat×Option Nat)):Prop where
 s0:tI (0,n)∈ts
 s1:∀t∈ts,∃a b,t=tI (a,b)/\rW ps n a b
 s2:∀a b,P a b->a<b->tI (a,b)∈ts->∀c∈BC ps a b,(a,c)∈cs/\∀q∈parts a c b,tI q∈ts
 c1:∀x∈cs,∃b,rW ps n x.1 b/\x.1<b/\x.2∈BC ps x.1 b
 nd:ts.Nodup
def Mt.start:Mt ps n (λ_ _=>False) (hE (tI (0,n)) []) [] :=
 {c5.mpr (.inl rfl),λt h=>(c5.mp h).elim (λe=>{0,n,e,.start}) λz=>(nomatch z),λ_ _ z=>z.elim,λ_ z=>(nomatch z),nU W9}
variable {P:Nat->Nat->Prop}{ts:List (List Int)}{cs:List (Nat×Option Nat)}
def Mt.reach (m:Mt ps n P ts cs){a b:Nat}(h:tI (a,b)∈ts):rW ps n a b:=by
 obtain⟨a',b',e,r⟩:=m.s1 _ h;cases qw e;exact r
def Mt.app (m:Mt ps n P ts cs){i j:Nat}{c:Option Nat}(hr:rW ps n i j)(h:i<j)(hc:c∈BC ps i j):Mt ps n P ts (cs++[(i,c)]) :=
 {m.s0,m.s1,λa b z l t c hc=>{WK _ (m.s2 a b z l t c hc).1,(m.s2 a b z l t c hc).2},λx hx=>(V9.mp hx).elim (m.c1 x) λz=>by rw[VU.mp z];exact{(j),hr,h,hc},m.nd}
def Mt.add (m:Mt ps n P ts cs){q:NN}(hP:∀a b,P a b->a<q.1)(hr:rW ps n q.1 q.2):Mt ps n P (hE (tI q) ts) cs :=
 ⟨c5.mpr (.inr m.s0),λt h=>(c5.mp h).elim (λe=>{(q.1),q.2,e,hr}) (m.s1 t),λa b z l t c hc=>by
  have ht:=(c5.mp t).resolve_left λe=>XG a (by have:=hP a b z;rw[<- congrArg Prod.fst (qw e)]at this;exact this)
  exact{(m.s2 a b z l ht c hc).1,λq' hq=>c5.mpr (.inr ((m.s2 a b z l ht c hc).2 q' hq))},m.c1,nU m.nd⟩
def Mt.done (m:Mt ps n P ts cs){P':Nat->Nat->Prop}{i j:Nat}(hP:∀a b,P' a b->a<b->P a b\/(a=i/\b=j))(h:tI (i,j)∈ts->∀c∈BC ps i j,(i,c)∈cs/\∀q∈parts i c j,tI q∈ts):Mt ps n P' ts cs :=
 ⟨m.s0,m.s1,λa b z l t=>by
  rcases hP a b z l with z|⟨rfl,rfl⟩
  ·exact m.s2 a b z l t
  ·exact h t,m.c1,m.nd⟩
def Mt.weak (m:Mt ps n P ts cs){P':Nat->Nat->Prop}(hP:∀a b,P' a b->P a b):Mt ps n P' ts cs:={m.s0,m.s1,λa b z=>m.s2 a b (hP a b z),m.c1,m.nd}
def QX:List (List Int):=(VW 41).flatMap λb=>(VW (b+1)).map λa=>tI (a,b)
def Mt.len (m:Mt ps n P ts cs)(hp:∀t∈ps,t.1<t.2)(hn:n<=40):ts.length<1000:=by
 have q:=len_sub (m:=QX) m.nd λt ht=>by
  obtain⟨a,b,rfl,r⟩:=m.s1 t ht;have:=mC hp r;exact WC.mpr {b,V3.mpr (by lia),V4.mpr {a,V3.mpr (by lia),rfl}}
 exact Yy q (by decide)
def Met (ps:List NN)(n:Nat)(cs:List (Nat×Option Nat)):Prop:=∀i c,(i,c)∈cs↔∃j,rW ps n i j/\i<j/\c∈BC ps i j
def Mt.met (m:Mt ps n P ts cs)(hp:∀t∈ps,t.1<t.2)(hP:∀a b,a<b->b<=n->P a b):Met ps n cs:=by
 have all:∀{a b},rW ps n a b->tI (a,b)∈ts:=λr=>by
  induction r with
  |start=>exact m.s0
  | @step i j a b c r h hc hq ih=>exact(m.s2 i j (hP i j h (mC hp r).2) h ih c hc).2 _ hq
 exact λi c=>{λh=>m.c1 _ h,λL4=> by obtain⟨j,r,h,hc⟩ := L4;exact(m.s2 i j (hP i j h (mC hp r).2) h (all r) c hc).1}
def Met.free (m:Met ps n cs){p:Nat}:oY ps n p↔(p,none)∈cs:=(m p none).symm
def Met.N1 (m:Met ps n cs){p:Nat}:uM ps n p↔∃i k,(i,some k)∈cs/\(p=i\/p=k):=by
 constructor
 ·rintro⟨i,j,k,r,h,hc,e⟩;exact{i,k,(m i (some k)).mpr {(j),r,h,hc},e}
 ·rintro⟨i,k,h,e⟩;obtain⟨j,r,hj,hc⟩:=(m i (some k)).mp h;exact{(i),j,k,r,hj,hc,e}
def Met.lt (m:Met ps n cs){i:Nat}{c:Option Nat}(hp:∀t∈ps,t.1<t.2)(h:(i,c)∈cs):i<n/\∀k,c=some k->k<n:=by
 obtain⟨j,r,hj,hc⟩:=(m i c).mp h;have:=mC hp r;refine{by lia,λk e=>?_}
 subst e;have:=(bj hc).2.1;lia
def zP (x:Nat×Option Nat):D:=.tup [.int (x.1:Int),oD x.2]
def xE (cs:List (Nat×Option Nat)):List Int:=(cs.filter λx=>decide (x.2=none)).map λx=>(x.1:Int)
def sf (x:Nat×Option Nat):List Int:=match x.2 with
 |none=>[]
 |some k=>[(x.1:Int),(k:Int)]
def Ey {p:Nat}:(p:Int)∈xE cs↔(p,none)∈cs:=by
 unfold xE;rw[V4];constructor
 ·rintro⟨⟨i,c⟩,h,e⟩;obtain⟨h1,h2⟩:=VZ.mp h;have e1:i=p:=YO e;have e2:c=none:=of_decide_eq_true h2;subst e1 e2;exact h1
 ·exact λh=>{(p,none),VZ.mpr {(h),rfl},rfl}
def Ex {p:Nat}:(p:Int)∈cs.flatMap sf↔∃i k,(i,some k)∈cs/\(p=i\/p=k):=by
 rw[WC];constructor
 ·rintro⟨⟨i,c⟩,h,e⟩;cases c with
  |none=>cases e
  |some k =>
   refine{i,k,h,?_};rcases VX.mp e with e|e
   ·exact .inl (YO e)
   ·exact .inr (YO (VU.mp e))
 ·rintro⟨i,k,h,e⟩;refine{_,h,?_};rcases e with rfl|rfl
  ·exact V0
  ·exact V8 _ V0
def Cd {x:Nat×Option Nat}:xE (cs++[x])=xE cs++if x.2=none then [(x.1:Int)] else []:=by
 unfold xE;rw[Xn,Wv]
 by_cases h:x.2=none
 ·rw[if_pos h,Xj,if_pos (decide_eq_true h)];rfl
 ·rw[if_neg h,Xj,if_neg (by rw[decide_eq_false h];simp)];rfl
def Jt (m:Met ps n cs)(hp:∀t∈ps,t.1<t.2)(hn:n<=40){cs':List (Nat×Option Nat)}(h:∀x∈cs',x∈cs):(dz (xE cs')).length+1<Z8:=by
 have q:=Cv (o:=xE cs') (m:=40) λx hx=>by
  obtain⟨y,hy,rfl⟩:=V4.mp hx;have:=(m.lt hp (h y (VZ.mp hy).1)).1;lia
 exact Yy (Nat.succ_le_succ q) (by decide)
def G9 (m:Met ps n cs)(hp:∀t∈ps,t.1<t.2)(hn:n<=40){o:List Int}(h:∀x∈o,x∈cs.flatMap sf):(dz o).length+1<Z8:=by
 have q:=Cv (o:=o) (m:=40) λx hx=>by
  obtain⟨⟨i,c⟩,hy,hx⟩:=WC.mp (h x hx);obtain⟨h1,h2⟩:=m.lt hp hy;cases c with
  |none=>cases hx
  |some k =>
   have:=h2 k rfl;rcases VX.mp hx with rfl|hx
   ·lia
   ·rw[VU.mp hx];lia
 exact Yy (Nat.succ_le_succ q) (by decide)
def JK (ps:List NN)(n:Nat):List Nat:=(VW n).filter λp=>decide (mX (vt ps p) 0 n<mX ps 0 n)
def JY (ps:List NN)(n:Nat):List Nat:=(VW n).filter λp=>!decide (mX (vt ps p) 0 n<mX ps 0 n)&&decide (cL (vt ps p) 0 n=cL ps 0 n)
def yd (ps:List NN)(n:Nat):D:=.tup [.lst (iE (JK ps n)),.lst (iE (JY ps n))]
def JJ (hp:∀t∈ps,t.1<t.2)(m:Met ps n cs):JK ps n=(VW n).filter λp:Nat=>!mem (xE cs) (p:Int):=by
 refine Yh λp h=>?_;have h:=V3.mp h;unfold mem;rw[<- decide_not];exact decide_eq_decide.mpr ((iW hp h).trans (not_congr (m.free.trans Ey.symm)))
def jI (hp:∀t∈ps,t.1<t.2)(nd:ps.Nodup){p:Nat}(h:p<n):(¬ mX (vt ps p) 0 n<mX ps 0 n/\cL (vt ps p) 0 n=cL ps 0 n)↔¬ uM ps n p:=by
 rw[iW hp h]
 by_cases f:oY ps n p
 ·rw[HE hp nd h f];exact{λz=>z.2,λz=>{λq=>q f,z}}
 ·exact{λz=>absurd f z.1,λz=>absurd (wC hp h f) z}
def Ig (hp:∀t∈ps,t.1<t.2)(nd:ps.Nodup)(m:Met ps n cs):JY ps n=(VW n).filter λp:Nat=>!mem (cs.flatMap sf) (p:Int):=by
 refine Yh λp h=>?_;unfold mem;rw[<- decide_not,<- decide_not,<- YV];exact decide_eq_decide.mpr ((jI hp nd (V3.mp h)).trans (not_congr (m.N1.trans Ex.symm)))
end
def oC {n:Nat}:iU 0 n=(VW n).map λp:Nat=>D.int (p:Int):=by
 unfold iU;exact Wu λp _=>by rw[Zt]
def Cp:FD:=λds R=>∃n ps,ds=[j8 n ps]/\qi n ps/\n<=40/\∀cs:List (Nat×Option Nat),Met ps n cs->cs.length<100000->R (.lst (cs.map zP))
def Cp.mono:dc Cp:=λds R R' k h=>by obtain⟨n,ps,e,h1,h2,q⟩:=h;exact{n,ps,e,h1,h2,λcs a b=>k _ (q cs a b)}
def Cm:FD:=λds R=>∃n ps,ds=[j8 n ps]/\qi n ps/\n<=40/\R (yd ps n)
def Cm.mono:dc Cm:=λds R R' k h=>by obtain⟨n,ps,e,h1,h2,q⟩:=h;exact{n,ps,e,h1,h2,k _ q}
end L2.Q
namespace qj
open PySem L2 L2.Q
section
variable {P:V2}{w:Wm}{K:PySem.W.Frag}{mg:Str->Option VT}{base:Heap}
def aP:aK ["row","many","partners","worth","table","choices","reached","i","j","k","part"] ["row"] (ay dg):=mkS
def H_ {lE gx} (uA:Kf K mg lE gx) {fI cQ} (gc:D6 K mg fI cQ) {eV cw} (gD:D4 K mg eV cw) {dy bL} (dI:D1 K mg dy bL) {dY bV} (fK:D0 K mg dY bV) {d3 bX} (gC:D3 K mg d3 bX) {cS bt} (d4:D2 K mg cS bt) {eU cv} (eP:D5 K mg eU cv) {eW cy} (fL:D8 K mg eW cy) {dZ bW} (ft:D7 K mg dZ bW) (B:oZ mg):aG P w K mg base bu 5 lE gx ["row"] (bZ P w true Cp):=by
 have M5:aG P w K mg base bu 4 _ _ _ (bZ P w true f_):=mU gc gD dI fK gC d4 eP B;have JT:aG P w K mg base bu 1 _ _ _ (bZ P w true gZ):=lP dI B;have JU:aG P w K mg base bu 1 _ _ _ (bZ P w true nz):=qR eP;have M7:aG P w K mg base bu 2 _ _ _ (bZ P w true jU):=qT fL d4 B;have M6:aG P w K mg base bu 1 _ _ _ (bZ P w true gb):=mV ft;refine oe uA.F aP (λds R L3=> by obtain⟨n,ps,e,_⟩ := L3;subst e;rfl) λc7 A outer s H E hr=>⟨_,(ah (aR (i:=1) (a5 ag bR (ae (i:=0)) aj) aP.nd)
    (ah (aR (i:=2) (aw gZ.mono JT (hr.mono (by decide)) dI.m dI.F.kp dI.b (ab (ae (i:=0)) af)) aP.nd)
    (ah (aR (i:=3) (aw nz.mono JU (hr.mono (by decide)) eP.m eP.F.kp eP.b (ab (ae (i:=0)) af)) aP.nd)
    (ah (aR (i:=4) (aw f_.mono M5 (hr.mono (by decide)) gc.m gc.F.kp gc.b (ab (ae (i:=0)) af)) aP.nd)
    (ah (c3 (i:=5) (λ_=>(bJ af)) aP.nd)
    (ah (c3 (i:=6) (λ_=>(DR B.set)) aP.nd)
    (ah (xc (i:=6) hr.qq (λ_=>(aN (ab aj (ab (ae (i:=1)) af)))))
    (ah (eE Xi rfl (aU B.range (ab (ae (i:=1)) af)) (au (i:=7) aP.nd) (ak (eE Xi rfl (mH B.range (ab (aH aX aJ (ae (i:=7)) aj) (ab (aH aX aJ (ae (i:=1)) aj) af))) (au (i:=8) aP.nd) (ak (c4 (aM ag (bC.m (Ec hr.qq)) (aN (ab (ae (i:=7)) (ab (ae (i:=8)) af))) (ae (i:=6))) (ak (eE Xi rfl (bx (aw jU.mono M7 (hr.mono (by decide)) fL.m fL.F.kp fL.b (ab (ae (i:=2)) (ab (ae (i:=3)) (ab (ae (i:=4)) (ab (ae (i:=7)) (ab (ae (i:=8)) af))))))) (au (i:=9) aP.nd) (ah (fy (i:=5) (λ_=>(aN (ab (ae (i:=7)) (ab (ae (i:=9)) af)))))
    (ak (eE Xi rfl (bx (aw gb.mono M6 (hr.mono (by decide)) ft.m ft.F.kp ft.b (ab (ae (i:=7)) (ab (ae (i:=9)) (ab (ae (i:=8)) af))))) (au (i:=10) aP.nd) (ak (xc (i:=6) hr.qq (λ_=>(ae (i:=10)))))))))) bg)))))
    (ak (h_ (i:=5))))))))))),λds R h=>?_⟩
 obtain⟨n,ps,rfl,ok,hn,q⟩:=h;have hp:∀p∈ps,p.1<p.2:=λp hp=>(ok.lt p hp).1;refine{_,rfl,tv,_,rfl,_,rfl,tv,n,ps,rfl,ok,_,rfl,tv,n,ps,rfl,ok,_,rfl,tv,n,ps,rfl,ok,?_};refine{V_ _,tv,tv,{_,rfl},tv,_,rfl,tv,fu,tI (0,n),[],rfl,rfl,(by decide),?_}
 refine{_,rfl,tv,n,rfl,by lia,by lia,tv,?_}
 rw[WO];refine rC (λi β=>∃(ts:List (List Int)) (cs:List (Nat×Option Nat)) (x7 x8 x9 lG:Option Q.B),β=[some (.val false (j8 n ps)),some (.val true (.int n)),some (.val true (uW n ps)),some (.val true (wD ps w1)),some (.val true (dN n (tW ps w1))),some (.own (.lst (cs.map zP))),some (.own (.sT ts)),x7,x8,x9,lG]/\Mt ps n (λa _=>a<i) ts cs/\cs.length<=1700*i) {_,[],_,_,_,_,rfl,Mt.start.weak λa b z=>absurd z (Nat.not_lt_zero _),V_ _} (λE1 r1 i n1 d β hd h=>?_) ?_
 ·obtain⟨ts,cs,x7,x8,x9,lG,rfl,m,hc⟩:=h;obtain⟨hi,rfl⟩:=eh hd;rw[Zt];refine{_,rfl,tv,_,rfl,tv,_,rfl,tv,_,rfl,tv,(i:Int)+1,(n:Int)+1,rfl,{by lia,by lia,by lia,by lia},tv,?_}
  rw[show ((n:Int)+1-((i:Int)+1)).toNat=n-i by lia]
  refine rC (λk β=>∃(ts:List (List Int)) (cs:List (Nat×Option Nat)) (x8 x9 lG:Option Q.B),β=[some (.val false (j8 n ps)),some (.val true (.int n)),some (.val true (uW n ps)),some (.val true (wD ps w1)),some (.val true (dN n (tW ps w1))),some (.own (.lst (cs.map zP))),some (.own (.sT ts)),some (.val true (.int (i:Int))),x8,x9,lG]/\Mt ps n (λa b=>a<i\/(a=i/\b<i+1+k)) ts cs/\cs.length<=1700*i+42*k) {_,cs,_,_,_,rfl,{m.s0,m.s1,λa b z l ht=>m.s2 a b (by lia) l ht,m.c1,m.nd},by lia} (λE2 r2 k n2 d β hd h=>?_) ?_
  ·obtain⟨ts,cs,x8,x9,lG,rfl,m,hc⟩:=h;have hk:=(eh hd).1;obtain⟨j,hj,rfl⟩:=Ax (a:=i+1) hd (by lia)
   refine{_,rfl,tv,_,rfl,tv,fu,tv,_,rfl,_,Fi (t:=tI (i,j)),_,rfl,C_ (λxx=>?_) (λxx=>n2 _ {ts,cs,_,_,_,rfl,m.done (i:=i) (j:=j) (λa b z l=>?_) (λh=>absurd h xx),by lia})}
   ·have hr:=m.reach xx;have aI:i<j:=by lia
    refine{_,rfl,tv,_,rfl,tv,_,rfl,tv,_,rfl,tv,_,rfl,tv,n,ps,w1,tW ps w1,i,j,rfl,ok,aI,by lia,_,rfl,tv,?_}
    refine rC (λl β=>∃(ts:List (List Int)) (cs:List (Nat×Option Nat)) (x9 lG:Option Q.B),β=[some (.val false (j8 n ps)),some (.val true (.int n)),some (.val true (uW n ps)),some (.val true (wD ps w1)),some (.val true (dN n (tW ps w1))),some (.own (.lst (cs.map zP))),some (.own (.sT ts)),some (.val true (.int (i:Int))),some (.val true (.int (j:Int))),x9,lG]/\Mt ps n (λa b=>a<i\/(a=i/\b<i+1+k)) ts cs/\(∀c∈(BC ps i j).take l,(i,c)∈cs/\∀q∈parts i c j,tI q∈ts)/\cs.length<=1700*i+42*k+l) {ts,cs,_,_,rfl,m,λc h=>by (rw[List.take_zero]at h;cases h),hc} (λE3 r3 l n3 d β hd h=>?_) ?_
    ·obtain⟨ts,cs,x9,lG,rfl,m,Mp,hc⟩:=h;rw[Wg]at hd;obtain⟨c,Jo,rfl⟩:=Wk.mp hd;have Qz:c∈BC ps i j:=Xz Jo;have hl:l<(BC ps i j).length:=(Ww.mp Jo).1;have hb:=j5 hp ok.nd (l:=j-i-1) (i:=i);rw[show i+(j-i-1)+1=j by lia]at hb
     have rV:(BC ps i j).length<=40:=by show (bq ps w1 (tW ps w1) i j).length<=40;lia
     have et:(BC ps i j).take (l+1)=(BC ps i j).take l++[c]:=by rw[Xv,Jo];rfl
     have m':=m.app hr aI Qz;have hsz:(cs.map zP).length<Wi:=by rw[VS,XI];lia
     have em:cs.map zP++[zP (i,c)]=(cs++[(i,c)]).map zP:=by rw[Wv];rfl
     let J:Nat->Q.a9->Prop:=λu β=>∃(b_:List (List Int)) (lG:Option Q.B),β=[some (.val false (j8 n ps)),some (.val true (.int n)),some (.val true (uW n ps)),some (.val true (wD ps w1)),some (.val true (dN n (tW ps w1))),some (.own (.lst (cs.map zP++[zP (i,c)]))),some (.own (.sT b_)),some (.val true (.int (i:Int))),some (.val true (.int (j:Int))),some (.val true (oD c)),lG]/\Mt ps n (λa b=>a<i\/(a=i/\b<i+1+k)) b_ (cs++[(i,c)])/\(∀t∈ts,t∈b_)/\∀q∈(parts i c j).take u,tI q∈b_
     have rest:∀β,J ((parts i c j).map wY).length β->E3.nx β:=by
      rintro β ⟨b_,lG,rfl,m2,h1,h2⟩;rw[VS,XO]at h2;rw[em];refine n3 _ {b_,cs++[(i,c)],_,_,rfl,m2,λc' pQ=>?_,by rw[Wf,XS];lia}
      rw[et]at pQ;rcases V9.mp pQ with z|z
      ·exact{WK _ (Mp c' z).1,λq hq=>h1 _ ((Mp c' z).2 q hq)}
      ·rw[VU.mp z];exact{Wx _ (VU.mpr rfl),h2}
     have Rj:J 0 [some (.val false (j8 n ps)),some (.val true (.int n)),some (.val true (uW n ps)),some (.val true (wD ps w1)),some (.val true (dN n (tW ps w1))),some (.own (.lst (cs.map zP++[zP (i,c)]))),some (.own (.sT ts)),some (.val true (.int (i:Int))),some (.val true (.int (j:Int))),some (.val true (oD c)),lG]:={ts,lG,rfl,m',λ_ z=>z,λq z=>by (rw[List.take_zero]at z;cases z)}
     have add:∀{b_:List (List Int)} {u:Nat} {q:NN},(parts i c j)[u]?=some q->Mt ps n (λa b=>a<i\/(a=i/\b<i+1+k)) b_ (cs++[(i,c)])->(∀t∈ts,t∈b_)->(∀q∈(parts i c j).take u,tI q∈b_)->Mt ps n (λa b=>a<i\/(a=i/\b<i+1+k)) (hE (tI q) b_) (cs++[(i,c)])/\(∀t∈ts,t∈hE (tI q) b_)/\∀q'∈(parts i c j).take (u+1),tI q'∈hE (tI q) b_:=by
      intro b_ u q hq m2 h1 h2;have R6:=Xz hq;refine{m2.add (λa b z=>?_) (.step hr aI Qz R6),λt ht=>c5.mpr (.inr (h1 t ht)),λq' R7=>?_}
      ·have:=A6 hp Qz R6;lia
      ·rw[Xv,hq]at R7;rcases V9.mp R7 with z|z
       ·exact c5.mpr (.inr (h2 q' z))
       ·rw[VU.mp z];exact c5.mpr (.inl rfl)
     cases c with
     |none =>
      refine{{_,rfl},_,rfl,tv,_,rfl,tv,fu,tv,_,rfl,hsz,?_};refine{_,rfl,tv,_,rfl,tv,_,rfl,tv,i,none,j,rfl,_,rfl,tv,?_};refine rC J Rj (λE4 r4 u n4 d β hd h=>?_) rest;obtain⟨b_,lG,rfl,m2,h1,h2⟩:=h;rw[Wg]at hd;obtain⟨q,hq,rfl⟩:=Wk.mp hd;obtain⟨a1,a2,a3⟩:=add hq m2 h1 h2;exact{{_,rfl},_,rfl,tI q,b_,rfl,rfl,m2.len hp hn,n4 _ {_,_,rfl,a1,a2,a3}}
     |some kk =>
      refine{{_,rfl},_,rfl,tv,_,rfl,tv,fu,tv,_,rfl,hsz,?_};refine{_,rfl,tv,_,rfl,tv,_,rfl,tv,i,some kk,j,rfl,_,rfl,tv,?_};refine rC J Rj (λE4 r4 u n4 d β hd h=>?_) rest;obtain⟨b_,lG,rfl,m2,h1,h2⟩:=h;rw[Wg]at hd;obtain⟨q,hq,rfl⟩:=Wk.mp hd;obtain⟨a1,a2,a3⟩:=add hq m2 h1 h2;exact{{_,rfl},_,rfl,tI q,b_,rfl,rfl,m2.len hp hn,n4 _ {_,_,rfl,a1,a2,a3}}
    ·rintro β ⟨ts,cs,x9,lG,rfl,m,Mp,hc⟩;rw[VS,XO]at Mp;rw[VS]at hc;have hb:=j5 hp ok.nd (l:=j-i-1) (i:=i);rw[show i+(j-i-1)+1=j by lia]at hb
     exact n2 _ {ts,cs,_,_,_,rfl,m.done (i:=i) (j:=j) (λa b z l=>by lia) (λ_=>Mp),by lia}
   ·lia
  ·rintro β ⟨ts,cs,x8,x9,lG,rfl,m,hc⟩;rw[fx]at m hc;exact n1 _ {ts,cs,_,_,_,_,rfl,{m.s0,m.s1,λa b z l ht=>m.s2 a b (by have:=(mC hp (m.reach ht)).2;lia) l ht,m.c1,m.nd},by lia}
 ·rintro β ⟨ts,cs,x7,x8,x9,lG,rfl,m,hc⟩;rw[fx]at m hc;exact{_,rfl,q cs (m.met hp λa b l hb=>by lia) (by lia)}
def bI:aK ["row","choices","free","tied","always","never"] ["row"] (ay dh):=mkS
def lO {oT iM} (lY:M8 K mg oT iM) {lE gx} (uA:Kf K mg lE gx) {fI cQ} (gc:D6 K mg fI cQ) {eV cw} (gD:D4 K mg eV cw) {dy bL} (dI:D1 K mg dy bL) {dY bV} (fK:D0 K mg dY bV) {d3 bX} (gC:D3 K mg d3 bX) {cS bt} (d4:D2 K mg cS bt) {eU cv} (eP:D5 K mg eU cv) {eW cy} (fL:D8 K mg eW cy) {dZ bW} (ft:D7 K mg dZ bW) (B:oZ mg):aG P w K mg base bu 6 oT iM ["row"] (bZ P w true Cm):=by
 have Vl:aG P w K mg base bu 5 _ _ _ (bZ P w true Cp):=H_ uA gc gD dI fK gC d4 eP fL ft B;refine oe lY.F bI (λds R L0=> by obtain⟨n,ps,e,_⟩ := L0;subst e;rfl) λc7 A outer s H E hr=>⟨_,(ah (aR (i:=1) (aw Cp.mono Vl (hr.mono (by decide)) uA.m uA.F.kp uA.b (ab (ae (i:=0)) af)) bI.nd)
    (ah (c3 (i:=2) (λ_=>(Th ["i","k"] [none,none] (by rfl) (by decide:(["i","k"]:List Str).Nodup) rfl (bx (ae (i:=1))) (λ_ _ _ _ _ _=>(fU (n:=2) rfl (ba (au (i:=0) (by decide:(["i","k"]:List Str).Nodup)) (ba (au (i:=1) (by decide:(["i","k"]:List Str).Nodup)) eD)))) (λ_ _ _ _ _ _=>(gG (aM ag (bC.m xi) (ae (i:=1)) mI))) (λ_ _ _ _ _ _=>(ae (i:=0))))) bI.nd)
    (ah (c3 (i:=3) (λ_=>(Ol ["choice","point"] [none,none] (by rfl) (by decide:(["choice","point"]:List Str).Nodup) rfl (bx (ae (i:=1))) (λ_ _ _ _ _ _=>(au (i:=0) (by decide:(["choice","point"]:List Str).Nodup))) (λ_ _ _ _ _ _=>(gG (aM ag (bC.m tj) (a5 ag bR (ae (i:=0)) aj) mI))) (λ_ _ _ _ _ _=>(yC (i:=0))) (λ_ _ _ _ _ _=>(au (i:=1) (by decide:(["choice","point"]:List Str).Nodup))) (λ_ _ _ _ _ _=>cK) (λ_ _ _ _ _ _=>(ae (i:=1))))) bI.nd)
    (ah (qH (i:=4) true ["point","free"] [none,some 2] (by rfl) (by decide:(["point","free"]:List Str).Nodup) rfl (λ_=>(aU B.range (ab (a5 ag bR (ae (i:=0)) aj) af))) (λ_ _ _ _ _ _=>(au (i:=0) (by decide:(["point","free"]:List Str).Nodup))) (λ_ _ _ _ _ _=>(gG (aM ag (bC.m mT) (ae (i:=0)) (ae (i:=1))))) (λ_ _ _ _ _ _=>(ae (i:=0))) bI.nd)
    (ah (qH (i:=5) true ["point","tied"] [none,some 3] (by rfl) (by decide:(["point","tied"]:List Str).Nodup) rfl (λ_=>(aU B.range (ab (a5 ag bR (ae (i:=0)) aj) af))) (λ_ _ _ _ _ _=>(au (i:=0) (by decide:(["point","tied"]:List Str).Nodup))) (λ_ _ _ _ _ _=>(gG (aM ag (bC.m mT) (ae (i:=0)) (ae (i:=1))))) (λ_ _ _ _ _ _=>(ae (i:=0))) bI.nd)
    (ak (A4 (i:=4) (j:=5) (by decide)))))))),λds R h=>?_⟩
 obtain⟨n,ps,rfl,ok,hn,q⟩:=h;have hp:∀p∈ps,p.1<p.2:=λp hp=>(ok.lt p hp).1;refine{_,rfl,tv,n,ps,rfl,ok,hn,λcs mt hl=>?_};have q':R (.tup [.lst (((VW n).filter λp:Nat=>!mem (xE cs) (p:Int)).map λp:Nat=>.int (p:Int)),.lst (((VW n).filter λp:Nat=>!mem (cs.flatMap sf) (p:Int)).map λp:Nat=>.int (p:Int))]):=by
  rw[<- JJ hp mt,<- Ig hp ok.nd mt];exact q
 have tk:∀{i:Nat} {x:Nat×Option Nat},cs[i]?=some x->cs.take (i+1)=cs.take i++[x]:=λh=>by rw[Xv,h];rfl
 refine{_,rfl,_,rfl,tv,?_};refine{λi β o=>o=xE (cs.take i)/\∃x0 x1:Option Q.B,β=[x0,x1],{rfl,_,_,rfl},?_,?_}
 ·rintro i d β o hd ⟨rfl,x0,x1,rfl⟩;rw[Wg]at hd;obtain⟨⟨a,c⟩,hx,rfl⟩:=Wk.mp hd;have es:xE (cs.take (i+1))=xE (cs.take i)++if c=none then [(a:Int)] else []:=by rw[tk hx,Cd]
  have hz:=Jt mt hp hn (cs':=cs.take i) λx hx=>ZJ hx;cases c with
  |none=>exact{_,rfl,rfl,_,_,rfl,_,_,rfl,rfl,_,rfl,tv,_,rfl,_,rfl,BM rfl {_,rfl,a,rfl,hz,by rw[es];rfl,_,_,rfl}}
  |some k=>exact{_,rfl,rfl,_,_,rfl,_,_,rfl,rfl,_,rfl,tv,_,rfl,_,rfl,j9 rfl {by rw[es];simp,_,_,rfl}}
 ·rintro β o ⟨rfl,x0,x1,rfl⟩;rw[VS,XO];refine{tv,tv,_,rfl,_,rfl,tv,?_};refine{λi β o=>o=(cs.take i).flatMap sf/\∃x0 x1:Option Q.B,β=[x0,x1],{rfl,_,_,rfl},?_,?_}
  ·rintro i d β o hd ⟨rfl,x0,x1,rfl⟩;rw[Wg]at hd;obtain⟨⟨a,c⟩,hx,rfl⟩:=Wk.mp hd;have es:(cs.take (i+1)).flatMap sf=(cs.take i).flatMap sf++sf (a,c):=by rw[tk hx,X0,YF,List.flatMap_nil,WZ]
   have IQ:∀x∈(cs.take i).flatMap sf++sf (a,c),x∈cs.flatMap sf:=λx zN=>by
    rw[<- es]at zN;obtain⟨y,hy,h⟩:=WC.mp zN;exact WC.mpr {y,ZJ hy,h}
   cases c with
   |none=>exact{_,rfl,tv,_,rfl,tv,_,rfl,_,rfl,j9 rfl {by rw[es];exact(WZ _).symm,_,_,rfl}}
   |some k =>
    refine{_,rfl,tv,_,rfl,tv,_,rfl,_,rfl,BM rfl {_,_,rfl,?_}};refine{λu β o=>o=(cs.take i).flatMap sf++(sf (a,some k)).take u/\∃x0 x1:Option Q.B,β=[x0,x1],{(WZ _).symm,_,_,rfl},?_,?_}
    ·rintro u d β o hd ⟨rfl,x0,x1,rfl⟩;have hz:=G9 mt hp hn (o:=(cs.take i).flatMap sf++(sf (a,some k)).take u) λx hx=>IQ x ((V9.mp hx).elim (λz=>WK _ z) λz=>Wx _ (ZJ z))
     match u,hd with
     |0,rfl=>exact{_,rfl,a,rfl,hz,by rw[W3];rfl,_,_,rfl}
     |1,rfl=>exact{_,rfl,k,rfl,hz,by rw[W3];rfl,_,_,rfl}
    ·rintro β o ⟨rfl,x0,x1,rfl⟩;exact{es.symm,_,_,rfl}
  ·rintro β o ⟨rfl,x0,x1,rfl⟩;rw[VS,XO];refine{tv,tv,_,rfl,tv,_,rfl,tv,n,rfl,by lia,by lia,tv,?_}
   rw[WO];refine dv oC (b5 (λp:Nat=>!mem (xE cs) (p:Int)) (λp=>.int (p:Int)) tv (by rw[We];exact c9 (by lia)) (λp jh y0 o J ho j1 j2=>{_,rfl,tv,_,rfl,_,uy,_,rfl,?_}) ?_)
   ·by_cases hb:(!mem (xE cs) (p:Int))=true
    ·exact BM hb {_,rfl,tv,ho,j1 hb _}
    ·exact j9 (by simpa using hb) (j2 (by simpa using hb) _)
   refine{_,rfl,tv,_,rfl,tv,n,rfl,by lia,by lia,tv,?_}
   rw[WO];refine dv oC (b5 (λp:Nat=>!mem (cs.flatMap sf) (p:Int)) (λp=>.int (p:Int)) tv (by rw[We];exact c9 (by lia)) (λp jh y0 o J ho j1 j2=>{_,rfl,tv,_,rfl,_,uy,_,rfl,?_}) ?_)
   ·by_cases hb:(!mem (cs.flatMap sf) (p:Int))=true
    ·exact BM hb {_,rfl,tv,ho,j1 hb _}
    ·exact j9 (by simpa using hb) (j2 (by simpa using hb) _)
   exact{_,_,rfl,rfl,q'}
end
end qj
namespace L2.Q
open PySem
abbrev nV (ps:List NN):Prop:=ps.Pairwise λp q=>p.1<q.1\/(p.1=q.1/\p.2<q.2)
section
variable {ps:List NN}{n:Nat}
def F6 (hp:∀p∈ps,p.1<p.2){S:List NN}(s:i_ ps 0 n S)(h:∀T,i_ ps 0 n T->T.length<=S.length):mX ps 0 n=(S.length:Int):=by
 obtain⟨T,t,e⟩:=c_ (i:=0) (j:=n) hp;have h1:=dP hp s;have h2:=h T t;lia
def xD (hp:∀p∈ps,p.1<p.2):uS ps 0 n (cC ps w1 0 n):={xC hp _ _ _ (VR _),f7 hp}
def GC (hp:∀p∈ps,p.1<p.2)(nd:ps.Nodup){L:List (List NN)}(TM:L.Nodup)(h:∀S,S∈L↔uS ps 0 n S):cL ps 0 n=L.length:=by
 rw[<- xT hp nd n 0 n (by lia)]
 unfold d6;refine((Xm ((qW hp nd n 0 n (by lia)).filter _) TM).mpr λS=>?_).length_eq
 rw[h S,VZ,bE hp n 0 n S (by lia),decide_eq_true_eq]
 exact Iff.rfl
def CQ (hp:∀p∈ps,p.1<p.2){f:Nat->Bool}(h:∀p,p<n->(f p=true↔∀S,uS ps 0 n S->ou p S)):JK ps n=(VW n).filter f:=by
 refine Yh λp jh=>?_;have hn:=V3.mp jh;rw[Yx,decide_eq_true_eq,h p hn,iW hp hn,jQ hp hn];exact{λz S hS=>Xf λq=>z {(S),hS,q},λz LZ=> by obtain⟨S,hS,q⟩ := LZ;exact q (z S hS)}
def Bn (hp:∀p∈ps,p.1<p.2)(nd:ps.Nodup){f:Nat->Bool}(h:∀p,p<n->(f p=true↔∀S,uS ps 0 n S->¬ ou p S)):JY ps n=(VW n).filter f:=by
 refine Yh λp jh=>?_;have hn:=V3.mp jh;rw[Yx,<- decide_not,<- YV,decide_eq_true_eq,h p hn,jI hp nd hn,jr hp hn];exact{λz S hS q=>z {(S),hS,q},λz LY=> by obtain⟨S,hS,q⟩ := LY;exact z S hS q}
theorem iR:∀{ps S:List NN},ps.Pairwise (λp q=>p.1<q.1)->S.Pairwise (λp q=>p.1<q.1)->(∀x∈S,x∈ps)->S.Sublist ps
 |[],S,_,_,h=>by
  cases S with
  |nil=>exact List.Sublist.slnil
  |cons s S=>exact absurd (h s V0) (by simp)
 |p::ps,[],_,_,_=>List.nil_sublist _
 |p::ps,s::S,h1,h2,h=>by
  obtain⟨a1,a2⟩:=WE.mp h1;obtain⟨b1,b2⟩:=WE.mp h2
  by_cases e:s=p
  ·subst e;refine(iR a2 b2 λx hx=>?_).cons₂ s;rcases VX.mp (h x (V8 _ hx))with rfl|z
   ·exact absurd (b1 x hx) (XG _)
   ·exact z
  ·have hs:=(VX.mp (h s V0)).resolve_left e;refine(iR a2 h2 λx hx=>?_).cons p;have ie:p.1<x.1:=by
    rcases VX.mp hx with rfl|z
    ·exact a1 x hs
    ·exact Nat.lt_trans (a1 s hs) (b1 x z)
   rcases VX.mp (h x hx)with rfl|z
   ·exact absurd ie (XG _)
   ·exact z
def fV (hp:∀p∈ps,p.1<p.2/\p.2<n)(h:ps.Pairwise iA){S:List NN}:uS ps 0 n S↔S=ps:=by
 have jh:∀p∈ps,p.1<p.2:=λp z=>(hp p z).1;have s0:i_ ps 0 n ps:={h,λp z=>{z,V_ _,(hp p z).2}};have sub:∀T,i_ ps 0 n T->T.Sublist ps:=λT t=>iR (h.imp λz=>z.1) (t.pw.imp λz=>z.1) λx hx=>(t.of x hx).1;have e:=F6 jh s0 λT t=>(sub T t).length_le;constructor
 ·rintro⟨s,l⟩;exact(sub S s).eq_of_length (by lia)
 ·rintro rfl;exact{(s0),e.symm}
def A9 (hp:∀p∈ps,p.1<p.2/\p.2<n)(h:ps.Pairwise iA):mX ps 0 n=(ps.length:Int):=((fV hp h).mpr rfl).2.symm
def xg (hp:∀p∈ps,p.1<p.2/\p.2<n)(h:ps.Pairwise iA):cC ps w1 0 n=ps:=(fV hp h).mp (xD λp z=>(hp p z).1)
def Ba (hp:∀p∈ps,p.1<p.2/\p.2<n)(nd:ps.Nodup)(h:ps.Pairwise iA):cL ps 0 n=1 :=
 GC (λp z=>(hp p z).1) nd (L:=[ps]) (by simp) λS=>by rw[VU,fV hp h]
def qL (h:ps.Pairwise iA):ps.Nodup:=h.imp λz e=>by rw[e]at z;exact absurd z.1 (XG _)
def xh (hp:∀p∈ps,p.1<p.2/\p.2<n)(h:ps.Pairwise iA){f:Nat->Bool}(hf:∀p,p<n->(f p=true↔ou p ps)):JK ps n=(VW n).filter f/\JY ps n=(VW n).filter λp=>!f p:=by
 refine{CQ (λp z=>(hp p z).1) λp z=>(hf p z).trans {λq S hS=>by rw[(fV hp h).mp hS];exact q,λq=>q ps ((fV hp h).mpr rfl)},Bn (λp z=>(hp p z).1) (qL h) λp z=>?_}
 have e:(!f p)=true↔¬ ou p ps:=by rw[<- hf p z];cases f p <;> simp
 exact e.trans {λq S hS=>by rw[(fV hp h).mp hS];exact q,λq=>q ps ((fV hp h).mpr rfl)}
def lM (hp:∀p∈ps,p.1<p.2/\p.2<n)(hc:∀p∈ps,∀q∈ps,¬ iA p q)(h0:ps≠[]){S:List NN}:uS ps 0 n S↔∃t∈ps,S=[t]:=by
 have jh:∀p∈ps,p.1<p.2:=λp z=>(hp p z).1;have s1:∀t∈ps,i_ ps 0 n [t]:=λt ht=>{W5 _ _,λp z=>by rw[VU.mp z];exact{ht,V_ _,(hp t ht).2}}
 have le:∀T,i_ ps 0 n T->T.length<=1:=λT t=>by
  match T,t with
  |[],_=>exact V_ _
  |[x],_=>exact VR _
  |x::y::T,t=>exact absurd ((WE.mp t.pw).1 y V0) (hc x (t.of x V0).1 y (t.of y (V8 _ V0)).1)
 obtain⟨t0,r,rfl⟩:=List.exists_cons_of_ne_nil h0;have e:=F6 jh (s1 t0 V0) λT t=>le T t;constructor
 ·rintro⟨s,l⟩;rw[e]at l
  match S,s,l with
  |[x],s,_=>exact{x,(s.of x V0).1,rfl}
  |[],_,l=>exact absurd l (by simp)
  |x::y::S,s,_=>exact absurd (le _ s) (by simp)
 ·rintro⟨t,ht,rfl⟩;exact{s1 t ht,e.symm}
def Bg (hp:∀p∈ps,p.1<p.2/\p.2<n)(hc:∀p∈ps,∀q∈ps,¬ iA p q)(h0:ps≠[]):mX ps 0 n=1:=by
 obtain⟨t0,r,rfl⟩:=List.exists_cons_of_ne_nil h0;exact((lM hp hc h0).mpr {(t0),V0,rfl}).2.symm
def HX (hp:∀p∈ps,p.1<p.2/\p.2<n)(nd:ps.Nodup)(hc:∀p∈ps,∀q∈ps,¬ iA p q)(h0:ps≠[]):cL ps 0 n=ps.length:=by
 rw[GC (λp z=>(hp p z).1) nd (L:=ps.map λt=>[t]) (WJ.mpr (nd.imp λz e=>z (by injection e))) λS=>by rw[V4,lM hp hc h0];exact{λLX=> by obtain⟨t,ht,e⟩ := LX;exact{(t),ht,e.symm},λLW=> by obtain⟨t,ht,e⟩ := LW;exact{(t),ht,e.symm}},VS]
def Ed {t0:NN}{r:List NN}(hp:∀p∈t0::r,p.1<p.2/\p.2<n)(hs:nV (t0::r))(hc:∀p∈t0::r,∀q∈t0::r,¬ iA p q):cC (t0::r) w1 0 n=[t0]:=by
 have jh:∀p∈t0::r,p.1<p.2:=λp z=>(hp p z).1;obtain⟨t,ht,e⟩:=(lM hp hc (by simp)).mp (xD jh)
 have e1:=Bg hp hc (by simp)
 have h0:=hp t0 V0;have k1:=iZ jh (show (t0.1,t0.2)∈t0::r from V0) (j:=n) h0.2
 have k2:=pF jh (i:=t0.1+1) (j:=t0.2);have k3:=pF jh (i:=t0.2+1) (j:=n);have k4:mX (t0::r) t0.1 n<=mX (t0::r) 0 n:=by
  obtain⟨S,s,l⟩:=c_ (i:=t0.1) (j:=n) jh;rw[<- l];exact dP jh {s.pw,λp hp=>{(s.of p hp).1,V_ _,(s.of p hp).2.2}}
 have hf:=nr jh hs n 0 n (by lia) (by lia)
 rw[Xa,dj.mpr {V_ _,h0.2,by lia}]at hf
 dsimp only at hf;rw[e]at hf ⊢
 injection hf with hf _
 rw[hf]
theorem jJ (hp:∀p∈ps,p.1<p.2)(hb:∀k,k+1<n->(k,k+1)∈ps):∀(l i j:Nat),j-i<=l->j<=n->mX ps i j=(((j-i) / 2:Nat):Int)
 |0,i,j,h,_=>by rw[bF (by lia),show j-i=0 by lia];rfl
 |l+1,i,j,h,hn=>by
  have hu:=(Dw hp (j-i) i).2.1;have Nv:2*mX ps i j<=((j-i:Nat):Int):=hu
  by_cases h2:i+1<j
  ·have ih:=jJ hp hb l (i+2) j (by lia) hn
   have k:=iZ hp (hb i (by lia)) h2
   rw[bF (VR _),ih]at k;lia
  ·have:=pF hp (i:=i) (j:=j);rw[show (j-i) / 2=0 by lia]
   have:((j-i:Nat):Int)<=1:=by lia
   show mX ps i j=0;lia
def Es (i h:Nat):List NN:=(VW h).map λk=>(i+2*k,i+2*k+1)
def Bq {i h:Nat}:Es i (h+1)=(i,i+1)::Es (i+2) h:=by
 unfold Es;rw[List.range_succ_eq_map,Ws,WR];refine congrArg _ (Wu λk _=>?_);show (i+2*(k+1),i+2*(k+1)+1)=(i+2+2*k,i+2+2*k+1);rw[show i+2*(k+1)=i+2+2*k by lia]
theorem Br (hp:∀p∈ps,p.1<p.2)(hs:nV ps)(hb:∀k,k+1<n->(k,k+1)∈ps):∀(l i j:Nat),j-i<=l->j<=n->cC ps w1 i j=Es i ((j-i) / 2)
 |0,i,j,h,hn=>by
  have:=f7 hp (i:=i) (j:=j);rw[bF (by lia)]at this
  rw[show (j-i) / 2=0 by lia]
  exact YS (by lia)
 |l+1,i,j,h,hn=>by
  by_cases h2:i+1<j
  ·have m:=λi j h=>jJ hp hb n i j h;have ef:=xF hp hs (hb i (by lia)) (dj.mpr {VR _,h2,by rw[bF (VR _),m _ _ (by lia) hn,m _ _ (by lia) hn];lia}) λx hx ie=>by
    have:=hp _ hx;dsimp only at this;lia
   rw[nr hp hs (l+1) i j h (by lia),ef]
   dsimp only;rw[Br hp hs hb l (i+1+1) j (by lia) hn,show (j-i) / 2=(j-(i+1+1)) / 2+1 by lia,Bq]
   have e0:cC ps w1 (i+1) (i+1)=[]:=by
    have:=f7 hp (i:=i+1) (j:=i+1);rw[bF (VR _)]at this;exact YS (by lia)
   rw[e0];rfl
  ·have:=f7 hp (i:=i) (j:=j);rw[jJ hp hb n i j (by lia) hn,show (j-i) / 2=0 by lia]at this
   rw[show (j-i) / 2=0 by lia]
   exact YS (by lia)
end
section
variable {ps:List NN}{n:Nat}
def dC (hs:nV ps):ps.Nodup:=hs.imp λ{p q} z e=>by subst e;lia
def xU:Nat->List Nat
 |0=>[1]
 |l+1=>xU l++[(if l / 2=(l+1) / 2 then (xU l).getD l 0 else 0)+((VW l).map λx=>if 1+x / 2+(l-1-x) / 2=(l+1) / 2 then (xU l).getD x 0*(xU l).getD (l-1-x) 0 else 0).sum]
def cc (l:Nat):Nat:=(xU l).getD l 0
theorem lZ:∀l,(xU l).length=l+1
 |0=>rfl
 |l+1=>by unfold xU;rw[Wf,lZ l];rfl
theorem rJ:∀{l x:Nat},x<=l->(xU l).getD x 0=cc x
 |0,x,h=>by rw[show x=0 by lia];rfl
 |l+1,x,h=>by
  by_cases e:x=l+1
  ·rw[e];rfl
  ·have h':x<(xU l).length:=by rw[lZ];lia
   rw[<- rJ (l:=l) (x:=x) (by lia)]
   show (xU l++_).getD x 0=_;rw[Xc,Xe h',Xc]
def Ft (l:Nat):cc (l+1)=(if l / 2=(l+1) / 2 then cc l else 0)+((VW l).map λx=>if 1+x / 2+(l-1-x) / 2=(l+1) / 2 then cc x*cc (l-1-x) else 0).sum:=by
 have e:cc (l+1)=(if l / 2=(l+1) / 2 then (xU l).getD l 0 else 0)+((VW l).map λx=>if 1+x / 2+(l-1-x) / 2=(l+1) / 2 then (xU l).getD x 0*(xU l).getD (l-1-x) 0 else 0).sum:=by
  show (xU l++[_]).getD (l+1) 0=_;rw[Xc,WV (by rw[lZ];exact VR _),lZ,YY]
  rfl
 rw[e,rJ (VR _)];refine congrArg _ (congrArg List.sum (Wu λx hx=>?_));have:=V3.mp hx;rw[rJ (by lia),rJ (by lia)]
theorem CT (hp:∀p∈ps,p.1<p.2)(nd:ps.Nodup)(ha:∀a b,a<b->b<n->(a,b)∈ps):∀(l b e:Nat),e-b<=l->e<=n->cL ps b e=cc (e-b)
 |0,b,e,h,_=>by rw[gf (by lia),show e-b=0 by lia];rfl
 |l+1,b,e,h,hn=>by
  by_cases zg:b<e
  ·have ih:=λb e h h'=>CT hp nd ha l b e h h';have m:∀i j,j<=n->mX ps i j=(((j-i) / 2:Nat):Int):=λi j h=>jJ hp (λk hk=>ha k (k+1) (by lia) hk) (j-i) i j (VR _) h
   obtain⟨k,hk⟩:∃k,k=e-1-b:={_,rfl};have pm:((near ps (e-1)).filter λa=>decide (b<=a)).Perm ((VW k).map λx=>b+x):=by
    refine(Xm ((qV nd).filter _) (WJ.mpr (YL.imp λz e=>z (by lia)))).mpr λa=>?_
    rw[VZ,bO,decide_eq_true_eq,V4];constructor
    ·rintro⟨h1,h2⟩;have:=hp _ h1;dsimp only at this;exact{a-b,V3.mpr (by lia),by lia}
    ·rintro⟨x,hx,rfl⟩;have:=V3.mp hx;exact{ha _ _ (by lia) (by lia),by lia}
   rw[rL hp zg,(pm.map _).sum_nat,WR,show e-b=k+1 by lia,Ft,m b (e-1) (by lia),m b e hn,ih b (e-1) (by lia) (by lia),<- hk,show e-b=k+1 by lia]
   have e1:((((k / 2:Nat):Int)=(((k+1) / 2:Nat):Int)))=(k / 2=(k+1) / 2):=by rw[Int.ofNat_inj]
   refine congr (congrArg _ ?_) (congrArg List.sum (Wu λx hx=>?_))
   ·by_cases z:k / 2=(k+1) / 2
    ·rw[if_pos z,if_pos (by rw[z])]
    ·rw[if_neg z,if_neg (by lia)]
   ·have hx:=V3.mp hx;show (if 1+mX ps b (b+x)+mX ps (b+x+1) (e-1)=_ then cL ps b (b+x)*cL ps (b+x+1) (e-1) else 0)=_
    rw[m b (b+x) (by lia),m (b+x+1) (e-1) (by lia),ih b (b+x) (by lia) (by lia),ih (b+x+1) (e-1) (by lia) (by lia),show b+x-b=x by lia,show e-1-(b+x+1)=k-1-x by lia]
    by_cases z:1+x / 2+(k-1-x) / 2=(k+1) / 2
    ·rw[if_pos z,if_pos (by lia)]
    ·rw[if_neg z,if_neg (by lia)]
  ·rw[gf (by lia),show e-b=0 by lia];rfl
def nv (h:Nat):Nat:=(VW h).foldl (λf k=>f*2*(2*k+1) / (k+2)) 1
def JE:∀l,l<25->cc l=nv (l / 2)*if l % 2=0 then 1 else l:=by decide +kernel
theorem vJ (hp:∀p∈ps,p.1<p.2)(nd:ps.Nodup)(ha:∀a b,(a,b)∈ps↔b=a+1/\b<n):∀(l e:Nat),e<=l->e<=n->cL ps 0 e=if e % 2=0 then 1 else e / 2+1
 |0,e,h,_=>by rw[gf (by lia),show e=0 by lia];rfl
 |l+1,e,h,hn=>by
  by_cases h0:0<e
  ·have m:∀i j,j<=n->mX ps i j=(((j-i) / 2:Nat):Int):=λi j h=>jJ hp (λk hk=>(ha _ _).mpr {(rfl),hk}) (j-i) i j (VR _) h;have pm:((near ps (e-1)).filter λa=>decide (0<=a)).Perm (if 2<=e then [e-2] else []):=by
    refine(Xm ((qV nd).filter _) (by split <;> simp)).mpr λa=>?_
    rw[VZ,bO,decide_eq_true_eq,ha]
    by_cases z:2<=e
    ·rw[if_pos z,VU];lia
    ·rw[if_neg z];simp;lia
   rw[rL hp h0,(pm.map _).sum_nat,m 0 (e-1) (by lia),m 0 e hn,vJ hp nd ha l (e-1) (by lia) (by lia)]
   by_cases z:2<=e
   ·rw[if_pos z];show _+((if 1+mX ps 0 (e-2)+mX ps (e-2+1) (e-1)=_ then cL ps 0 (e-2)*cL ps (e-2+1) (e-1) else 0)+0)=_
    rw[m 0 (e-2) (by lia),bF (by lia),gf (b:=e-2+1) (by lia),vJ hp nd ha l (e-2) (by lia) (by lia),if_pos (c:=1+(((e-2-0) / 2:Nat):Int)+0=_) (by lia)]
    by_cases y:e % 2=0
    ·rw[if_neg (by lia),if_pos (by lia),if_pos y]
    ·rw[if_pos (by lia),if_pos (by lia),if_neg (by lia),if_neg y]
     lia
   ·rw[if_neg z,show e=1 by lia]
    rfl
  ·rw[gf (by lia),show e=0 by lia];rfl
def DO {S:List NN}(s:i_ ps 0 n S)(hp:∀p∈ps,p.1<p.2)(hl:2*S.length=n){p:Nat}(h:p<n):ou p S:=by
 refine Xf λz=>?_;have nd:∀{T:List NN},T.Pairwise iA->(∀t∈T,t.1<t.2)->(T.flatMap λt=>[t.1,t.2]).Nodup:=λ{T} h l=>by
  refine XR.mpr {λt ht=>by have:=l t ht;simp;lia,(YH.mp h).imp λ{a b} z x hx y hy=>?_}
  have h1:=l a z.1;have h2:=l b z.2.1;have h3:a.1<b.1/\(a.2<b.1\/b.2<a.2):=z.2.2;simp at hx hy;lia
 have q:=len_sub (l:=S.flatMap λt=>[t.1,t.2]) (m:=(VW n).erase p) (nd s.pw λt ht=>hp t (s.of t ht).1) λx hx=>by
  obtain⟨t,ht,hx⟩:=WC.mp hx;have h1:=s.of t ht;have h2:=hp t h1.1;have zN:x=t.1\/x=t.2:=by simpa using hx
  refine(List.mem_erase_of_ne λe=>z {t,ht,by lia}).mpr (V3.mpr (by lia))
 rw[Zf (V3.mpr h),We,List.length_flatMap]at q;have e:(S.map λt=>[t.1,t.2].length).sum=2*S.length:=by
  clear q hl z s
  induction S with
  |nil=>rfl
  |cons t S ih=>rw[Ws,Yc,ih,V7];simp;lia
 rw[e]at q;lia
def CS (hp:∀p∈ps,p.1<p.2)(ha:∀a b,a<b->b<n->(a,b)∈ps){h:Nat}(hn:n=2*h+1)(h1:1<=h){p:Nat}(J2:p<n):oY ps n p/\uM ps n p:=by
 have m:∀i j,j<=n->mX ps i j=(((j-i) / 2:Nat):Int):=λi j h=>jJ hp (λk hk=>ha k (k+1) (by lia) hk) (j-i) i j (VR _) h
 have bs:∀i j k,i<k->k<j->j<=n->1+(k-(i+1)) / 2+(j-(k+1)) / 2=(j-i) / 2->some k∈BC ps i j:=λi j k h1 h2 h3 h4=>iu.mpr {ha i k h1 (by lia),h2,by rw[m _ _ (by lia),m _ _ h3,m _ _ h3];lia}
 have r:∀i,2*i<=n->rW ps n (2*i) n:=λi=>by
  induction i with
  |zero=>exact λ_=>.start
  |succ i ih=>exact λhi=>.step (ih (by lia)) (by lia) (bs (2*i) n (2*i+1) (by lia) (by lia) (VR _) (by lia)) (by show (2*i+2,n)∈[(2*i+1,2*i+1),(2*i+1+1,n)];simp)
 obtain⟨i,hi⟩:∃i,i=p / 2:={_,rfl};constructor
 ·by_cases e:p=2*i
  ·rw[e];exact{n,r i (by lia),by lia,j6.mpr (by rw[m _ _ (VR _),m _ _ (VR _)];lia)}
  ·have ep:p=2*i+1:=by lia
   rw[ep];refine{2*i+2,.step (r i (by lia)) (by lia) (bs (2*i) n (2*i+2) (by lia) (by lia) (VR _) (by lia)) (by show (2*i+1,2*i+2)∈[(2*i+1,2*i+2),(2*i+2+1,n)];simp),by lia,j6.mpr (by rw[m _ _ (by lia),m _ _ (by lia)];lia)}
 ·by_cases e:p+1<n\/p=2*i+1
  ·exact{2*i,n,2*i+1,r i (by lia),by lia,bs (2*i) n (2*i+1) (by lia) (by lia) (VR _) (by lia),by lia}
  ·exact{2*(h-1),n,2*h,r (h-1) (by lia),by lia,bs (2*(h-1)) n (2*h) (by lia) (by lia) (VR _) (by lia),by lia}
def FC (hp:∀p∈ps,p.1<p.2)(nd:ps.Nodup)(ha:∀a b,a<b->b<n->(a,b)∈ps):JK ps n=(if n % 2=0 then VW n else [])/\JY ps n=if n=1 then [0] else []:=by
 have m:mX ps 0 n=((n / 2:Nat):Int):=jJ hp (λk hk=>ha k (k+1) (by lia) hk) n 0 n (by lia) (VR _)
 by_cases e:n % 2=0
 ·rw[if_pos e,if_neg (by lia)]
  have f:∀p,p<n->¬ oY ps n p:=λp h z=>by
   obtain⟨S,s,q⟩:=(jQ hp h).mp z;exact q (DO s.1 hp (by have:=s.2;lia) h)
  refine{Yp.mpr λp h=>decide_eq_true ((iW hp (V3.mp h)).mpr (f p (V3.mp h))),Xs.mpr λp h=>?_};rw[<- decide_not,<- YV,decide_eq_true_eq,jI hp nd (V3.mp h)];exact λz=>z (wC hp (V3.mp h) (f p (V3.mp h)))
 ·rw[if_neg e]
  by_cases e1:n=1
  ·subst e1;rw[if_pos rfl];have e0:ps=[]\/ps≠[]:=by cases ps <;> simp
   have f:oY ps 1 0:={1,.start,by decide,j6.mpr (by rw[bF (by decide),m];rfl)}
   have t:¬ uM ps 1 0:=λz=>by
    obtain⟨S,s,q⟩:=(jr hp (by decide)).mp z
    obtain⟨t,ht,_⟩:=q;have:=s.1.of t ht;have:=hp t this.1;lia
   refine{Xs.mpr λp h=>?_,Yp.mpr λp h=>?_}
   ·have:p=0:=by have:=V3.mp h;lia
    subst this;rw[decide_eq_true_eq,iW hp (by decide)]
    exact λz=>z f
   ·have:p=0:=by have:=V3.mp h;lia
    subst this;rw[<- decide_not,<- YV,decide_eq_true_eq,jI hp nd (by decide)]
    exact t
  ·rw[if_neg e1];have f:=λ{p} h=>CS hp ha (h:=n / 2) (by lia) (by lia) (p:=p) h
   refine{Xs.mpr λp h=>?_,Xs.mpr λp h=>?_}
   ·rw[decide_eq_true_eq,iW hp (V3.mp h)];exact λz=>z (f (V3.mp h)).1
   ·rw[<- decide_not,<- YV,decide_eq_true_eq,jI hp nd (V3.mp h)];exact λz=>z (f (V3.mp h)).2
end
def g9 (n a:Nat):List NN:=(VW (n-(a+1))).map λk=>(a,a+1+k)
def eY (n:Nat):List NN:=(VW n).flatMap (g9 n)
def ib {n a:Nat}{p:NN}:p∈g9 n a↔p.1=a/\a<p.2/\p.2<n:=by
 unfold g9;rw[V4];constructor
 ·rintro⟨k,hk,rfl⟩;have:=V3.mp hk;exact{rfl,by dsimp only;lia,by dsimp only;lia}
 ·rintro⟨rfl,h1,h2⟩;exact{p.2-(p.1+1),V3.mpr (by lia),Prod.ext rfl (by dsimp only;lia)}
def du {n:Nat}{p:NN}:p∈eY n↔p.1<p.2/\p.2<n:=by
 unfold eY;rw[WC];constructor
 ·rintro⟨a,_,h⟩;have:=ib.mp h;lia
 ·exact λh=>{p.1,V3.mpr (by lia),ib.mpr {(rfl),h.1,h.2}}
def g8 {n:Nat}:nV (eY n):=by
 refine XR.mpr {λa _=>WJ.mpr (Xq.imp λz=>.inr {rfl,by dsimp only;lia}),Xq.imp λz x hx y hy=>.inl ?_}
 have:=ib.mp hx;have:=ib.mp hy;lia
def uD:∀n,n<25->(eY n).length<=400:=by decide +kernel
def Fp {n:Nat}(h:n<25):qi n (eY n):={λp hp=>du.mp hp,dC g8,by lia,uD n h}
def zv {n:Nat}:fC (eY n) 0 n=.tup [.int ((n / 2:Nat):Int),cU (Es 0 (n / 2))]:=by
 have hp:∀p∈eY n,p.1<p.2:=λp h=>(du.mp h).1;have hb:∀k,k+1<n->(k,k+1)∈eY n:=λk h=>du.mpr {XF _,h};unfold fC;show D.tup [.int (mX (eY n) 0 n),cU (cC (eY n) w1 0 n)]=_;rw[jJ hp hb n 0 n (by lia) (VR _),Br hp g8 hb n 0 n (by lia) (VR _)]
 rfl
def rh {ps:List NN}(hp:∀p∈ps,p.1<p.2)(nd:ps.Nodup){n:Nat}:hT ps n 0=(cL ps 0 n:Int):=congrArg Nat.cast (Md hp nd)
def CI {n:Nat}(h:n<25):hT (eY n) n 0=((nv (n / 2)*if n % 2=0 then 1 else n:Nat):Int):=by
 rw[rh (λp h=>(du.mp h).1) (dC g8),CT (λp h=>(du.mp h).1) (dC g8) (λa b h1 h2=>du.mpr {(h1),h2}) n 0 n (by lia) (VR _),Nat.sub_zero,JE n h]
def Fo {n:Nat}:yd (eY n) n=.tup [.lst (iE (if n % 2=0 then VW n else [])),.lst (iE (if n=1 then [0] else []))]:=by
 obtain⟨e1,e2⟩:=FC (λp h=>(du.mp h).1) (dC g8) (n:=n) λa b h1 h2=>du.mpr {(h1),h2};unfold yd;rw[e1,e2]
def xn (n:Nat):List NN:=(VW (n / 2)).map λk=>(k,n-1-k)
def vG {n:Nat}:∀p∈xn n,p.1<p.2/\p.2<n:=λp h=>by
 obtain⟨k,hk,rfl⟩:=V4.mp h;have:=V3.mp hk;dsimp only;lia
def vF {n:Nat}:(xn n).Pairwise iA:=WJ.mpr ((YH.mp Xq).imp λ{a b} z=>by
 have h1:=V3.mp z.1;have h2:=V3.mp z.2.1;have h3:=z.2.2;show a<b/\(n-1-a<b\/n-1-b<n-1-a);lia)
def Ar {n:Nat}{ps:List NN}(hp:∀p∈ps,p.1<p.2/\p.2<n)(h:ps.Pairwise iA)(hn:n<=80)(hl:ps.length<=400):qi n ps:={hp,qL h,hn,hl}
def sD {n:Nat}{ps:List NN}(hp:∀p∈ps,p.1<p.2/\p.2<n)(h:ps.Pairwise iA):fC ps 0 n=.tup [.int (ps.length:Int),cU ps]:=by
 unfold fC;show D.tup [.int (mX ps 0 n),cU (cC ps w1 0 n)]=_;rw[A9 hp h,xg hp h]
def wM {n:Nat}{ps:List NN}(hp:∀p∈ps,p.1<p.2/\p.2<n)(h:ps.Pairwise iA):hT ps n 0=1:=by
 rw[rh (λp z=>(hp p z).1) (qL h),Ba hp (qL h) h];rfl
def xp (n:Nat):List NN:=(VW (n-1)).map λk=>(k,k+1)
def jM {n a b:Nat}:(a,b)∈xp n↔b=a+1/\b<n:=by
 unfold xp;rw[V4];constructor
 ·rintro⟨k,hk,e⟩;have:=V3.mp hk;cases e;lia
 ·rintro⟨rfl,h⟩;exact{a,V3.mpr (by lia),rfl}
def qU {n:Nat}:nV (xp n):=WJ.mpr (Xq.imp λz=>.inl z)
def Ih {n:Nat}(h:n<=40):qi n (xp n):={λp hp=>by have:=(jM (a:=p.1) (b:=p.2)).mp hp;lia,dC qU,by lia,by unfold xp;rw[VS,We];lia}
def Ii {n:Nat}:mX (xp n) 0 n=((n / 2:Nat):Int):=jJ (λp hp=>by have:=(jM (a:=p.1) (b:=p.2)).mp hp;lia) (λk hk=>jM.mpr {(rfl),hk}) n 0 n (by lia) (VR _)
def Eo {n:Nat}:hT (xp n) n 0=((if n % 2=0 then 1 else n / 2+1:Nat):Int):=by
 have hp:∀p∈xp n,p.1<p.2:=λp hp=>by have:=(jM (a:=p.1) (b:=p.2)).mp hp;lia
 rw[rh hp (dC qU),vJ hp (dC qU) (λa b=>jM) n n (VR _) (VR _)]
def l3 (h:Nat):List NN:=(VW h).map λk=>(k,k+h)
def rO {h:Nat}:∀p∈l3 h,p.1<p.2/\p.2<2*h:=λp z=>by
 obtain⟨k,hk,rfl⟩:=V4.mp z;have:=V3.mp hk;dsimp only;lia
def rN {h:Nat}:nV (l3 h):=WJ.mpr (Xq.imp λz=>.inl z)
def JN {h:Nat}(hh:h<=20):qi (2*h) (l3 h):={rO,dC rN,by lia,by unfold l3;rw[VS,We];lia}
def CV {h:Nat}:∀p∈l3 h,∀q∈l3 h,¬ iA p q:=λp hp q hq z=>by
 obtain⟨k,hk,rfl⟩:=V4.mp hp;obtain⟨l,hl,rfl⟩:=V4.mp hq;have:=V3.mp hk;have:=V3.mp hl;have z1:k<l/\(k+h<l\/l+h<k+h):=z;lia
def tm {n:Nat}{ps:List NN}(hp:∀p∈ps,p.1<p.2/\p.2<n)(hs:nV ps)(hc:∀p∈ps,∀q∈ps,¬ iA p q):fC ps 0 n=.tup [.int ((min 1 ps.length:Nat):Int),cU (ps.take 1)]:=by
 unfold fC;show D.tup [.int (mX ps 0 n),cU (cC ps w1 0 n)]=_;cases ps with
 |nil=>rw[A9 hp Yi,xg hp Yi];rfl
 |cons t r =>
  rw[Bg hp hc (by simp),Ed hp hs hc,V7,show min 1 (r.length+1)=1 by lia]
  rfl
def xj {n:Nat}{ps:List NN}(hp:∀p∈ps,p.1<p.2/\p.2<n)(hs:nV ps)(hc:∀p∈ps,∀q∈ps,¬ iA p q):hT ps n 0=((max 1 ps.length:Nat):Int):=by
 rw[rh (λp z=>(hp p z).1) (dC hs)];cases ps with
 |nil=>rw[Ba hp W9 Yi];rfl
 |cons t r=>rw[HX hp (dC hs) hc (by simp),V7,show max 1 (r.length+1)=r.length+1 by lia]
def star (n m:Nat):List NN:=((VW n).filter λk=>!decide (k=m)).map λk=>(min m k,max m k)
def fE {n m:Nat}{p:NN}:p∈star n m↔∃k,k<n/\k≠m/\p=(min m k,max m k):=by
 unfold star;rw[V4];constructor
 ·rintro⟨k,hk,rfl⟩;obtain⟨h1,h2⟩:=VZ.mp hk;exact{k,V3.mp h1,by simpa using h2,rfl}
 ·rintro⟨k,h1,h2,rfl⟩;exact{k,VZ.mpr {V3.mpr h1,by simpa using h2},rfl}
def gK {n m:Nat}:nV (star n m):=WJ.mpr ((YH.mp (Xq.filter _)).imp λ{a b} z=>by
 have h1:a≠m:=by simpa using (VZ.mp z.1).2
 have h2:b≠m:=by simpa using (VZ.mp z.2.1).2
 have h3:=z.2.2;dsimp only;lia)
def jx {n m:Nat}(h:m<n):∀p∈star n m,p.1<p.2/\p.2<n:=λp z=>by
 obtain⟨k,h1,h2,rfl⟩:=fE.mp z;dsimp only;lia
def gL {n m:Nat}(h:m<n):(star n m).length=n-1:=by
 unfold star;rw[VS];have pm:((VW n).filter λk=>!decide (k=m)).Perm ((VW n).erase m):=(Xm (YL.filter _) (YL.erase _)).mpr λa=>by
  rw[VZ,YL.mem_erase_iff];simp;exact And.comm
 rw[pm.length_eq,Zf (V3.mpr h),We]
def DA {n m:Nat}(h:m<n)(hn:n<=40):qi n (star n m):={jx h,dC gK,by lia,by rw[gL h];lia}
def qA {n m:Nat}:∀p∈star n m,∀q∈star n m,¬ iA p q:=λp hp q hq z=>by
 obtain⟨k,hk,rT,rfl⟩:=fE.mp hp;obtain⟨l,hl,Sg,rfl⟩:=fE.mp hq;have z1:min m k<min m l/\(max m k<min m l\/max m l<max m k):=z;lia
def Dz {n m:Nat}(h:m<n)(h3:3<=n):yd (star n m) n=.tup [.lst (iE [m]),.lst (iE [])]:=by
 have oM:star n m≠[]:=λe=>by have:=gL h;rw[e]at this;simp at this;lia
 have hx:=λS=>lM (S:=S) (jx h) qA oM;have hp:∀p∈star n m,p.1<p.2:=λp z=>(jx h p z).1;have td:∀p k,p<n->(ou p [(min m k,max m k)]↔p=m\/p=k):=λp k _=>by
  constructor
  ·rintro⟨t,ht,e⟩;rw[VU.mp ht]at e;dsimp only at e;lia
  ·exact λe=>{_,VU.mpr rfl,by dsimp only;lia}
 have e1:JK (star n m) n=(VW n).filter λp=>decide (p=m):=CQ hp λp J2=>by
  rw[decide_eq_true_eq];constructor
  ·rintro rfl S hS;obtain⟨t,ht,rfl⟩:=(hx S).mp hS;obtain⟨k,_,_,rfl⟩:=fE.mp ht;exact(td p k J2).mpr (.inl rfl)
  ·intro z;refine Xf λq=>?_;obtain⟨k,hk,h1,h2⟩:∃k,k<n/\k≠m/\k≠p:=by
    by_cases a0:0≠m/\0≠p
    ·exact{0,by lia,a0.1,a0.2}
    ·by_cases a1:1≠m/\1≠p
     ·exact{1,by lia,a1.1,a1.2}
     ·exact{2,by lia,by lia,by lia}
   have:=(td p k J2).mp (z _ ((hx _).mpr {_,fE.mpr {(k),hk,h1,rfl},rfl}));lia
 have e2:JY (star n m) n=(VW n).filter λ_=>false:=Bn hp (dC gK) λp J2=>by
  refine{λz=>Bool.noConfusion z,λz=>absurd ?_ id};obtain⟨k,hk,h1,h2⟩:∃k,k<n/\k≠m/\(p=m\/p=k):=by
   by_cases e:p=m
   ·by_cases a0:0≠m
    ·exact{0,by lia,a0,.inl e}
    ·exact{1,by lia,by lia,.inl e}
   ·exact{p,J2,e,.inr rfl}
  exact z _ ((hx _).mpr {_,fE.mpr {(k),hk,h1,rfl},rfl}) ((td p k J2).mpr h2)
 unfold yd;rw[e1,e2];have e3:((VW n).filter λp=>decide (p=m))=[m]:=by
  have pm:((VW n).filter λk=>decide (k=m)).Perm [m]:=(Xm (YL.filter _) (by simp)).mpr λa=>by
   rw[VZ,V3,decide_eq_true_eq,VU];exact{λz=>z.2,λz=>{by lia,z}}
  exact List.perm_singleton.mp pm
 rw[e3,Xs.mpr (λ_ _=>by simp)]
def Cg (i:Nat):nv (i+1)=nv i*2*(2*i+1) / (i+2):=by
 unfold nv;rw[Yv,Z5];rfl
def CG {a b:Int}(h:0<b)(h2:b<2 ^ 200):Jx (.int a) (.int b)=some (.int (a / b)):=by
 show (if 0<b/\b<2 ^ 200 then _ else _)=_
 rw[if_pos {(h),h2}]
def ME (n:Nat):Jx (.int (n:Int)) (.int 2)=some (.int ((n / 2:Nat):Int)):=CG (by decide) (by decide)
def mod2 (n:Nat):MI (.int (n:Int)) (.int 2)=some (.int ((n % 2:Nat):Int)):=rfl
def FX (n:Nat)(a b:D):zO (.lst [a,b]) (.int ((n % 2:Nat):Int))=some (if n % 2=0 then a else b):=by
 rcases Nat.mod_two_eq_zero_or_one n with h|h
 ·rw[h];rfl
 ·rw[h];rfl
def CJ {n i:Nat}(h:i<n):((VW i).flatMap (g9 n))++g9 n i=(VW (i+1)).flatMap (g9 n):=by
 rw[Yv,X0,YF,List.flatMap_nil,WZ]
def zu {n i:Nat}(hn:n<25)(h:i<=n):((VW i).flatMap (g9 n)).length<=400:=by
 refine WG (List.Sublist.length_le ?_) (uD n hn);have e:VW n=VW i++(VW (n-i)).map (i+·):=by rw[<- List.range_add,Nat.add_sub_cancel' h]
 unfold eY;rw[e,X0];exact List.sublist_append_left _ _
def Lb {h:Nat}:D.lst ((VW h).map λk:Nat=>D.tup [.int (2*(k:Int)),.int (2*(k:Int)+1)])=cU (Es 0 h):=by
 unfold cU Es;rw[WR];refine congrArg D.lst (Wu λk _=>?_);show _=D.tup [.int ((0+2*k:Nat):Int),.int ((0+2*k+1:Nat):Int)];rw[Xg];rfl
def mn (l:List Nat):(D.lst (iE l)).pd.canLay0=true/\(D.lst (iE l)).pd.depth<=2:=ki λd hd=>by
 obtain⟨i,_,rfl⟩:=V4.mp hd;exact aV _
def kh (a b:List Nat):(D.tup [.lst (iE a),.lst (iE b)]).pd.canLay0=true/\(D.tup [.lst (iE a),.lst (iE b)]).pd.depth<=3:=hV λd hd=>by
 rcases VX.mp hd with rfl|hd
 ·exact mn _
 ·rw[VU.mp hd];exact mn _
def JM {h:Nat}(h1:h<=1):yd (l3 h) (2*h)=.tup [.lst (iE (VW (2*h))),.lst (iE [])]:=by
 have pw:(l3 h).Pairwise iA:=by
  match h,h1 with
  |0,_=>exact Yi
  |1,_=>exact W5 _ _
 have hf:∀p,p<2*h->((λ_=>true:Nat->Bool) p=true↔ou p (l3 h)):=λp hp=>{λ_=>{(0,0+h),V4.mpr {0,V3.mpr (by lia),rfl},by dsimp only;lia},λ_=>rfl}
 obtain⟨e1,e2⟩:=xh rO pw hf;unfold yd;rw[e1,e2,a6,Xs.mpr (λ_ _=>by simp)]
def DB {ps:List NN}(h:nV ps):uN (ps.map tI):=WJ.mpr (h.imp λ{p q} z=>by
 show (if (q.1:Int)=p.1 then (if (q.2:Int)=p.2 then HT.lexLt [] [] else decide ((q.2:Int)<p.2)) else decide ((q.1:Int)<p.1))=false
 rcases z with z|⟨z1,z2⟩
 ·rw[if_neg (by lia)]
  exact decide_eq_false (by lia)
 ·rw[if_pos (by lia),if_neg (by lia)]
  exact decide_eq_false (by lia))
def Hg {n m:Nat}:D.lst (((VW n).filter λk=>!decide (k=m)).map λk:Nat=>D.tup [.int (if (k:Int)<(m:Int) then (k:Int) else (m:Int)),.int (if (k:Int)>(m:Int) then (k:Int) else (m:Int))])=.lst (((star n m).map tI).map kD):=by
 unfold star;rw[WR,WR];refine congrArg D.lst (Wu λk _=>?_);show _=D.tup [.int ((min m k:Nat):Int),.int ((max m k:Nat):Int)];rw[show (if (k:Int)<(m:Int) then (k:Int) else (m:Int))=((min m k:Nat):Int) by split <;> lia,show (if (k:Int)>(m:Int) then (k:Int) else (m:Int))=((max m k:Nat):Int) by split <;> lia]
def yi {n m:Nat}(h:m<n)(hn:n<=40):(match [D.lst (((star n m).map tI).map kD)]with | [.lst ds]=>rF [.lst ds]|_=>none)=some (cU (star n m)):=by
 have e:=Ai (List.Perm.refl _) (DB (ps:=star n m) gK);refine(mm (ts:=(star n m).map tI) (λk hk=>by obtain⟨p,_,rfl⟩:=V4.mp hk;simp[tI]) (by rw[VS,gL h];lia)).trans ?_
 rw[<- e];unfold cU;rw[WR];rfl
structure uO (i:Nat)(fs:List NN)(st:List Nat):Prop where
 up:st.Pairwise (· < ·)
 lt:∀q∈st,q<i
 ar:∀t∈fs,t.1<t.2/\t.2<i
 out:∀q∈st,∀t∈fs,q<t.1\/t.2<q
 pw:fs.Pairwise λa b=>iA a b\/iA b a
 sz:2*fs.length+st.length<=i
section
variable {i:Nat}{fs:List NN}{st:List Nat}
def uO.start:uO 0 [] []:={.nil,λ_ z=>(nomatch z),λ_ z=>(nomatch z),λ_ z=>(nomatch z),.nil,VR _}
def uO.skip (s:uO i fs st):uO (i+1) fs st:={s.up,λq h=>XC (s.lt q h),λt h=>{(s.ar t h).1,XC (s.ar t h).2},s.out,s.pw,Nat.le_succ_of_le s.sz}
def uO.push (s:uO i fs st):uO (i+1) fs (st++[i]):=by
 refine{Xy.mpr {s.up,W5 _ _,λa ha b hb=>by rw[VU.mp hb];exact s.lt a ha},λq h=>?_,λt h=>{(s.ar t h).1,XC (s.ar t h).2},λq h t ht=>?_,s.pw,by have:=s.sz;rw[Wf,XS];lia}
 ·rcases V9.mp h with h|h
  ·exact XC (s.lt q h)
  ·rw[VU.mp h];exact XF _
 ·rcases V9.mp h with h|h
  ·exact s.out q h t ht
  ·rw[VU.mp h];exact .inr (s.ar t ht).2
def uO.pop {p:Nat}(s:uO i fs (st++[p])):uO (i+1) (fs++[(p,i)]) st:=by
 obtain⟨u1,_,u3⟩:=Xy.mp s.up;have hp:=s.lt p (by simp)
 refine{u1,λq h=>XC (s.lt q (WK _ h)),λt h=>?_,λq h t ht=>?_,Xy.mpr {s.pw,W5 _ _,λa ha b hb=>?_},by have:=s.sz;rw[Wf,XS]at *;lia}
 ·rcases V9.mp h with h|h
  ·exact{(s.ar t h).1,XC (s.ar t h).2}
  ·rw[VU.mp h];exact{hp,XF _}
 ·rcases V9.mp ht with ht|ht
  ·exact s.out q (WK _ h) t ht
  ·rw[VU.mp ht];exact .inl (u3 q h p (by simp))
 ·rw[VU.mp hb];have h1:=s.ar a ha;rcases s.out p (by simp) a ha with z|z
  ·exact .inr {z,.inr h1.2}
  ·exact .inl {by dsimp only;lia,.inl z}
def DC {ps:List NN}(h:uN (ps.map tI))(nd:ps.Nodup):nV ps:=by
 refine((WJ.mp h).and nd).imp λ{p q} hh=>?_;obtain⟨z,ne⟩:=hh;have z:(if (q.1:Int)=p.1 then (if (q.2:Int)=p.2 then HT.lexLt [] [] else decide ((q.2:Int)<p.2)) else decide ((q.1:Int)<p.1))=false:=z
 by_cases e1:(q.1:Int)=p.1
 ·rw[if_pos e1]at z
  by_cases e2:(q.2:Int)=p.2
  ·exact absurd (Prod.ext (by lia) (by lia)) ne
  ·rw[if_neg e2]at z;have:=of_decide_eq_false z;lia
 ·rw[if_neg e1]at z;have:=of_decide_eq_false z;lia
def uO.done (s:uO i fs st):∃ps:List NN,ly (fs.map tI)=ps.map tI/\(∀p∈ps,p.1<p.2/\p.2<i)/\ps.Pairwise iA/\ps.length=fs.length:=by
 obtain⟨ps,pm,e⟩:=ST.sW (ml (fs.map tI));have hs:=mh (fs.map tI);rw[e]at hs;have pw:ps.Pairwise λa b=>iA a b\/iA b a:=(pm.pairwise_iff λ{a b} z=>z.symm).mpr s.pw;have nd:ps.Nodup:=pw.imp λ{a b} z e=>by subst e;unfold iA at z;lia
 refine{ps,e,λp h=>s.ar p (pm.mem_iff.mp h),((DC hs nd).and pw).imp λ{a b} z=>z.2.resolve_right λq=>?_,pm.length_eq};have:=q.1;have:=z.1;lia
end
theorem BL:∀{a b:List Int},a.Pairwise (· < ·)->b.Pairwise (· < ·)->(∀x,x∈a↔x∈b)->a=b
 |[],[],_,_,_=>rfl
 |[],y::b,_,_,h=>absurd ((h y).mpr V0) (by simp)
 |x::a,[],_,_,h=>absurd ((h x).mp V0) (by simp)
 |x::a,y::b,h1,h2,h=>by
  obtain⟨a1,a2⟩:=WE.mp h1;obtain⟨b1,b2⟩:=WE.mp h2;have e:x=y:=by
   rcases VX.mp ((h x).mp V0)with z|z
   ·exact z
   ·rcases VX.mp ((h y).mpr V0)with w|w
    ·exact w.symm
    ·have:=b1 x z;have:=a1 y w;lia
  subst e;refine congrArg _ (BL a2 b2 λz=>{λhz=>?_,λhz=>?_})
  ·rcases VX.mp ((h z).mp (V8 _ hz))with w|w
   ·have:=a1 z hz;lia
   ·exact w
  ·rcases VX.mp ((h z).mpr (V8 _ hz))with w|w
   ·have:=b1 z hz;lia
   ·exact w
theorem pw_any:∀{ps:List NN},ps.Pairwise iA->∀t∈ps,∀u∈ps,t=u\/iA t u\/iA u t
 |[],_,t,ht,_,_=>(nomatch ht)
 |x::ps,h,t,ht,u,hu=>by
  obtain⟨h1,h2⟩:=WE.mp h;rcases VX.mp ht with et|Pl
  ·rcases VX.mp hu with eu|Nv
   ·exact .inl (et.trans eu.symm)
   ·exact .inr (.inl (et▸h1 u Nv))
  ·rcases VX.mp hu with eu|Nv
   ·exact .inr (.inr (eu▸h1 t Pl))
   ·exact pw_any h2 t Pl u Nv
def Aq {ps:List NN}{n:Nat}{ms:List Int}(hp:∀p∈ps,p.1<p.2/\p.2<n)(h:ps.Pairwise iA)(s:ms.Pairwise (·<=·))(pm:ms.Perm ((ps.map λt=>(t.1:Int))++ps.map λt=>(t.2:Int))):yd ps n=.tup [.lst (ms.map D.int),.lst (iE ((VW n).filter λp=>!decide ((p:Int)∈ms)))]:=by
 have mem:∀x,x∈ms↔∃t∈ps,x=(t.1:Int)\/x=(t.2:Int):=λx=>by
  rw[pm.mem_iff,V9,V4,V4];constructor
  ·rintro (⟨t,ht,rfl⟩|⟨t,ht,rfl⟩)
   ·exact{t,ht,.inl rfl}
   ·exact{t,ht,.inr rfl}
  ·rintro⟨t,ht,e|e⟩
   ·exact .inl {(t),ht,e.symm}
   ·exact .inr {(t),ht,e.symm}
 have nd:ms.Nodup:=pm.nodup_iff.mpr (WY.mpr ⟨WJ.mpr (h.imp λ{a b} z e=>by have:=z.1;lia),WJ.mpr ((YH.mp h).imp λ{a b} z e=>by
   have h1:=hp a z.1;have h2:=hp b z.2.1;have h3:a.1<b.1/\(a.2<b.1\/b.2<a.2):=z.2.2;lia),λx hx y hy e=>by
   obtain⟨t,ht,rfl⟩:=V4.mp hx;obtain⟨u,hu,rfl⟩:=V4.mp hy;have h1:=hp t ht;have h2:=hp u hu;rcases pw_any h t ht u hu with z|z|z
   ·subst z;lia
   ·have h3:t.1<u.1/\(t.2<u.1\/u.2<t.2):=z;lia
   ·have h3:u.1<t.1/\(u.2<t.1\/t.2<u.2):=z;lia⟩)
 have inc:ms.Pairwise (· < ·):=(s.and nd).imp λ⟨x,y⟩=>by lia
 have hf:∀p,p<n->((λp:Nat=>decide ((p:Int)∈ms)) p=true↔ou p ps):=λp _=>by
  rw[decide_eq_true_eq,mem];exact{λLV=> by obtain⟨t,ht,e⟩ := LV;exact{t,ht,by lia},λLU=> by obtain⟨t,ht,e⟩ := LU;exact{t,ht,by lia}}
 obtain⟨e1,e2⟩:=xh hp h hf;have e3:ms=((VW n).filter λp:Nat=>decide ((p:Int)∈ms)).map λp:Nat=>(p:Int):=by
  refine BL inc (WJ.mpr ((Xq.filter _).imp λz=>by lia)) λx=>?_
  rw[V4];constructor
  ·intro hx;obtain⟨t,ht,e⟩:=(mem x).mp hx;have:=hp t ht;refine{x.toNat,VZ.mpr {V3.mpr (by lia),decide_eq_true ?_},by lia}
   rw[show ((x.toNat:Nat):Int)=x by lia]
   exact hx
  ·rintro⟨p,jh,rfl⟩;exact of_decide_eq_true (VZ.mp jh).2
 have e4:D.lst (ms.map D.int)=.lst (iE (JK ps n)):=by
  rw[e1]
  conv=>lhs;rw[e3]
  rw[WR];rfl
 unfold yd;rw[e2,e4]
def uw (i:Int)(t:List Int):wj (.int i) (.lst (t.map D.int))=some (.bl (!decide (i∈t))):=by
 have e:MN (.int i) (.lst (t.map D.int))=some (decide (i∈t)):=by
  show (if (D.int i).vm=true/\(D.lst (t.map D.int)).vm=true then some _ else none)=_
  rw[if_pos {dD (aV i),dD (fP t)},any_map lW]
 unfold wj;rw[e];rfl
def Cq:FD:=λds R=>∃h:Nat,ds=[.int (h:Int)]/\h<=12/\R (.int (nv h:Int))
def Cq.mono:dc Cq:=λds R R' k z=>by obtain⟨h,e,h1,q⟩:=z;exact{h,e,h1,k _ q}
def Co:FD:=λds R=>∃n:Nat,ds=[.int (n:Int)]/\n<25/\R (cU (eY n))
def Co.mono:dc Co:=λds R R' k z=>by obtain⟨h,e,h1,q⟩:=z;exact{h,e,h1,k _ q}
def MB:FD:=λds R=>∃n:Nat,ds=[.int (n:Int)]/\n<25/\R (.bl true)
def MB.mono:dc MB:=λds R R' k z=>by obtain⟨h,e,h1,q⟩:=z;exact{h,e,h1,k _ q}
def MA:FD:=λds R=>∃n:Nat,ds=[.int (n:Int)]/\n<=40/\R (.bl true)
def MA.mono:dc MA:=λds R R' k z=>by obtain⟨h,e,h1,q⟩:=z;exact{h,e,h1,k _ q}
def um:FD:=λds R=>∃n m:Nat,ds=[.int (n:Int),.int (m:Int)]/\2<=n/\n<=40/\m<n/\R (.bl true)
def um.mono:dc um:=λds R R' k z=>by obtain⟨n,m,e,h1,h2,h3,q⟩:=z;exact{n,m,e,h1,h2,h3,k _ q}
def Cn:FD:=λds R=>∃n:Nat,ds=[.int (n:Int)]/\n<=40/\∀ps:List NN,(∀p∈ps,p.1<p.2/\p.2<n)->ps.Pairwise iA->ps.length<=20->R (cU ps)
def Cn.mono:dc Cn:=λds R R' k z=>by obtain⟨n,e,h1,q⟩:=z;exact{n,e,h1,λps a b c=>k _ (q ps a b c)}
end L2.Q
namespace qj
open PySem L2 L2.Q
section
variable {P:V2}{w:Wm}{K:PySem.W.Frag}{mg:Str->Option VT}{base:Heap}
def e9:aK ["half","found","k"] ["half"] (ay fS):=mkS
def Eg {zi pW} (Gy:Ra K mg zi pW) (B:oZ mg):aG P w K mg base bu 1 zi pW ["half"] (bZ P w true Cq):=by
 refine oe Gy.F e9 (λds R LS=> by obtain⟨h,e,_⟩ := LS;subst e;rfl) λc7 A outer s H E hr=>⟨_,(ah (aR (i:=1) aj e9.nd)
    (ah (eE Xi rfl (aU B.range (ab (ae (i:=0)) af)) (au (i:=2) e9.nd) (ak (aR (i:=1) (aH ag (bC.m qP) (aH ag (bC.m dU) (aH ag (bC.m dU) (ae (i:=1)) aj) (aH aX aJ (aH ag (bC.m dU) aj (ae (i:=2))) aj)) (aH aX aJ (ae (i:=2)) aj)) e9.nd)))
    (ak (a7 (ae (i:=1)))))),λds R h=>?_⟩
 obtain⟨h,rfl,hh,q⟩:=h;refine{_,rfl,tv,h,rfl,by lia,by lia,tv,?_}
 rw[WO];refine rC (λi β=>∃x2:Option Q.B,β=[some (.val false (.int (h:Int))),some (.val true (.int (nv i:Int))),x2]) {_,rfl} (λE1 r1 i n1 d β hd h'=>?_) ?_
 ·obtain⟨x2,rfl⟩:=h';obtain⟨hi,rfl⟩:=eh hd;rw[Zt];have ef:(nv i:Int)*2*(2*(i:Int)+1) / ((i:Int)+2)=(nv (i+1):Int):=by rw[Cg];push_cast;rfl
  refine{_,rfl,tv,_,g7 (.inr {by decide,by decide}),tv,tv,_,rfl,_,g7 (.inl {by decide,by decide}),tv,_,rfl,_,g7 (.inr {by lia,by lia}),tv,_,rfl,tv,_,rfl,_,CG (by lia) (Int.lt_trans (show (i:Int)+2<100 by lia) (by decide)),?_}
  rw[ef];exact n1 _ {_,rfl}
 ·rintro β ⟨x2,rfl⟩;rw[fx];exact{_,rfl,tv,q}
def dQ:aK ["many","found","one"] ["many"] (ay fc):=mkS
def H9 {zh pV} (Gx:Q_ K mg zh pV) (B:oZ mg):aG P w K mg base bu 1 zh pV ["many"] (bZ P w true Co):=by
 refine oe Gx.F dQ (λds R LR=> by obtain⟨n,e,_⟩ := LR;subst e;rfl) λc7 A outer s H E hr=>⟨_,(ah (c3 (i:=1) (λ_=>(bJ af)) dQ.nd)
    (ah (eE Xi rfl (aU B.range (ab (ae (i:=0)) af)) (au (i:=2) dQ.nd) (ak (c3 (i:=1) (λ_=>(aH aX aJ (ae (i:=1)) (F9 ["other","one"] [none,some 2] (by rfl) (by decide:(["other","one"]:List Str).Nodup) rfl (mH B.range (ab (aH aX aJ (ae (i:=2)) aj) (ab (ae (i:=0)) af))) (λ_ _ _ _ _ _=>(au (i:=0) (by decide:(["other","one"]:List Str).Nodup))) (λ_ _ _ _ _ _=>cK) (λ_ _ _ _ _ _=>(aN (ab (ae (i:=1)) (ab (ae (i:=0)) af))))))) dQ.nd)))
    (ak (h_ (i:=1))))),λds R h=>?_⟩
 obtain⟨n,rfl,hn,q⟩:=h;refine{V_ _,tv,_,rfl,tv,n,rfl,by lia,by lia,tv,?_}
 rw[WO];refine rC (λi β=>∃x2:Option Q.B,β=[some (.val false (.int (n:Int))),some (.own (cU ((VW i).flatMap (g9 n)))),x2]) {_,rfl} (λE1 r1 i n1 d β hd h'=>?_) ?_
 ·obtain⟨x2,rfl⟩:=h';obtain⟨hi,rfl⟩:=eh hd;rw[Zt];refine{_,rfl,tv,_,rfl,tv,_,rfl,tv,_,rfl,tv,(i:Int)+1,n,rfl,{by lia,by lia,by lia,by lia},tv,?_}
  rw[show ((n:Int)-((i:Int)+1)).toNat=n-(i+1) by lia]
  refine b5 (λ_=>true) (λk:Nat=>kD (tI (i,i+1+k))) tv (by rw[We];exact c9 (by lia)) (λk hk x0 o J ho h1 _=>{_,rfl,tv,_,rfl,tv,fu,tv,ho,h1 rfl _}) ?_
  rw[a6];have ea:Fn (cU ((VW i).flatMap (g9 n))) (.lst ((VW (n-(i+1))).map λk:Nat=>kD (tI (i,i+1+k))))=some (cU ((VW (i+1)).flatMap (g9 n))):=by
   have h1:=zu hn (Zr hi);unfold cU;rw[nK (by rw[VS,VS,We];lia),<- CJ hi,Wv]
   unfold g9;rw[WR];rfl
  exact{_,ea,.inl {ik (f:=λp:NN=>kD (tI p)) (λ_=>rfl) _,tv,n1 _ {_,rfl}}}
 ·rintro β ⟨x2,rfl⟩;rw[fx];exact{_,rfl,q}
def aT:aK ["many","ties","half","ways","row","first","due"] ["many"] (ay bT):=mkS
def K3 {E5 xJ} (Ka:SO K mg E5 xJ) {zi pW} (Gy:Ra K mg zi pW) {zh pV} (Gx:Q_ K mg zh pV) {oR iJ} (ji:M_ K mg oR iJ) {lD gw} (ux:Kh K mg lD gw) {oS iL} (jj:M9 K mg oS iL) {lC gv} (uv:Kg K mg lC gv) {jR fg} (rE:JW K mg jR fg) {oT iM} (lY:M8 K mg oT iM) {lE gx} (uA:Kf K mg lE gx) {fI cQ} (gc:D6 K mg fI cQ) {eV cw} (gD:D4 K mg eV cw) {dy bL} (dI:D1 K mg dy bL) {dY bV} (fK:D0 K mg dY bV) {d3 bX} (gC:D3 K mg d3 bX) {cS bt} (d4:D2 K mg cS bt) {eU cv} (eP:D5 K mg eU cv) {jS fh} (rG:D9 K mg jS fh) {eW cy} (fL:D8 K mg eW cy) {dZ bW} (ft:D7 K mg dZ bW) (B:oZ mg):aG P w K mg base bu 7 E5 xJ ["many"] (bZ P w true MB):=by
 have FI:aG P w K mg base bu 6 _ _ _ (bZ P w true fJ):=lQ ji ux gc gD dI fK gC d4 eP rG fL ft B;have FJ:aG P w K mg base bu 5 _ _ _ (bZ P w true kL):=qS jj gc gD dI fK gC d4 eP fL ft uv rE B;have JV:aG P w K mg base bu 6 _ _ _ (bZ P w true Cm):=lO lY uA gc gD dI fK gC d4 eP fL ft B;have Vi:aG P w K mg base bu 1 _ _ _ (bZ P w true Cq):=Eg Gy B;have Vd:aG P w K mg base bu 1 _ _ _ (bZ P w true Co):=H9 Gx B;refine oe Ka.F aT (λds R LQ=> by obtain⟨n,e,_⟩ := LQ;subst e;rfl) λc7 A outer s H E hr=>⟨_,(ah (aR (i:=1) (aw Co.mono Vd (hr.mono (by decide)) Gx.m Gx.F.kp Gx.b (ab (ae (i:=0)) af)) aT.nd)
    (ah (aR (i:=2) (aH ag (bC.m qP) (ae (i:=0)) aj) aT.nd)
    (ah (aR (i:=3) (aH ag (bC.m dU) (aw Cq.mono Vi (hr.mono (by decide)) Gy.m Gy.F.kp Gy.b (ab (ae (i:=2)) af)) (a5 ag bR (bJ (ab aj (ab (ae (i:=0)) af))) (aH ag (bC.m qN) (ae (i:=0)) aj))) aT.nd)
    (ah (aR (i:=4) (aN (ab (ae (i:=0)) (ab (ae (i:=1)) af))) aT.nd)
    (ah (qH (i:=5) false ["k"] [none] (by rfl) (by decide:(["k"]:List Str).Nodup) rfl (λ_=>(aU B.range (ab (ae (i:=2)) af))) (λ_ _ _ _ _ _=>(au (i:=0) (by decide:(["k"]:List Str).Nodup))) (λ_ _ _ _ _ _=>cK) (λ_ _ _ _ _ _=>(aN (ab (aH ag (bC.m dU) aj (ae (i:=0))) (ab (aH aX aJ (aH ag (bC.m dU) aj (ae (i:=0))) aj) af)))) aT.nd)
    (bU (c4 (wx.t (mG (aM ag (bC.m (cN hr.units)) (aw fJ.mono FI (hr.mono (by decide)) ji.m ji.F.kp ji.b (ab (ae (i:=4)) af)) (aN (ab (ae (i:=2)) (ab (ae (i:=5)) af)))) (jE (aM ag (bC.m (cN hr.units)) (aw kL.mono FJ (hr.mono (by decide)) jj.m jj.F.kp jj.b (ab (ae (i:=4)) af)) (ae (i:=3)))))) (ak (a7 gQ)) bg)
    (ah (aR (i:=6) (bJ (ab (aH aX tf (iD rfl B.list B.range (ab (ae (i:=0)) af)) (pz ag (dB.m qb) B.int wt (ab (iY ag (bC.m (fX hr.units)) (aH ag (bC.m qN) (ae (i:=0)) aj) aj) af))) (ab (aH aX tf (bJ (ab aj af)) (pz ag (dB.m qb) B.int wt (ab (iY ag (bC.m (fX hr.units)) (ae (i:=0)) aj) af))) af))) aT.nd)
    (ak (a7 (iY ag (bC.m (fX hr.units)) (aw Cm.mono JV (hr.mono (by decide)) lY.m lY.F.kp lY.b (ab (ae (i:=4)) af)) (aN (ab (a5 ag bR (ae (i:=6)) aj) (ab (a5 ag bR (ae (i:=6)) aj) af))))))))))))),λds R h=>?_⟩
 obtain⟨n,rfl,hn,q⟩:=h;have ok:=Fp hn;obtain⟨W,hW⟩:∃W:Nat,W=nv (n / 2)*if n % 2=0 then 1 else n:={_,rfl}
 have ep:zO (.lst [.int 1,.int (n:Int)]) (.int ((n % 2:Nat):Int))=some (.int ((if n % 2=0 then 1 else n:Nat):Int)):=by rw[FX];split <;> rfl
 have em:Fd (.int (nv (n / 2):Int)) (.int ((if n % 2=0 then 1 else n:Nat):Int))=some (.int (W:Int)):=by
  rw[g7 (.inr {by split <;> lia,by split <;> lia}),hW,Int.natCast_mul]
 refine{_,rfl,tv,n,rfl,hn,_,rfl,tv,_,ME n,_,rfl,tv,n / 2,rfl,by lia,tv,tv,_,rfl,tv,fu,tv,_,rfl,tv,_,mod2 n,_,ep,_,em,?_}
 refine{_,rfl,tv,_,rfl,tv,fu,.inr ?_};refine{_,rfl,tv,((n / 2:Nat):Int),rfl,by lia,by lia,tv,?_}
 rw[WO];refine dv oC (b5 (λ_=>true) (λk:Nat=>D.tup [.int (2*(k:Int)),.int (2*(k:Int)+1)]) tv (by rw[We];exact c9 (by lia)) (λk hk y0 o J ho h1 _=>{tv,_,rfl,_,g7 (.inl {by decide,by decide}),tv,tv,_,rfl,_,g7 (.inl {by decide,by decide}),tv,_,rfl,tv,fu,tv,ho,h1 rfl _}) ?_)
 rw[a6,Lb];have oM:p0 (fC (eY n) 0 n) (.tup [.int ((n / 2:Nat):Int),cU (Es 0 (n / 2))])=some (.bl false):=by rw[zv];exact bK (gM _ _)
 have Qd:p0 (.int (hT (eY n) n 0)) (.int (W:Int))=some (.bl false):=by rw[CI hn,<- hW];exact bK (aV _)
 refine{λβ=>∃x6:Option Q.B,β=[some (.val false (.int (n:Int))),some (.val true (cU (eY n))),some (.val true (.int ((n / 2:Nat):Int))),some (.val true (.int (W:Int))),some (.val true (j8 n (eY n))),some (.val true (cU (Es 0 (n / 2)))),x6],?_,?_}
 ·exact{_,rfl,tv,n,eY n,rfl,ok,tv,_,rfl,tv,_,rfl,tv,fu,.inr {_,oM,_,rfl,j9 rfl {_,rfl,tv,n,eY n,rfl,ok,by lia,tv,_,rfl,_,Qd,_,rfl,j9 rfl {_,rfl}}}}
 ·rintro β ⟨x6,rfl⟩;have UU:CA (.lst (iU 0 (n:Int).toNat)) (.int (if decide (((n % 2:Nat):Int)=0)=true then 1 else 0))=some (.lst (iE (if n % 2=0 then VW n else []))):=by
   rw[WO,oC];unfold CA D.Bx D.int?;rw[XE,XE]
   by_cases e:n % 2=0
   ·rw[decide_eq_true (show ((n % 2:Nat):Int)=0 by lia),if_pos rfl,if_pos e,if_pos {by decide,by decide,by rw[VS,We];exact c9 (by show n*1<=1000;lia)}]
    show some (D.lst (_++[]))=_;rw[WZ]
   ·rw[decide_eq_false (show ¬ ((n % 2:Nat):Int)=0 by lia),if_neg W4,if_neg e,if_pos {by decide,by decide,by show _*0<=_;rw[Nat.mul_zero];exact V_ _}]
    rfl
  have UT:CA (.lst [.int 0]) (.int (if decide ((n:Int)=1)=true then 1 else 0))=some (.lst (iE (if n=1 then [0] else []))):=by
   unfold CA D.Bx D.int?;rw[XE,XE]
   by_cases e:n=1
   ·rw[decide_eq_true (show (n:Int)=1 by lia),if_pos rfl,if_pos e,if_pos {by decide,by decide,by decide}]
    rfl
   ·rw[decide_eq_false (show ¬ (n:Int)=1 by lia),if_neg W4,if_neg e,if_pos {by decide,by decide,by decide}]
    rfl
  refine{_,rfl,tv,n,rfl,{by lia,by lia},by rw[WO];exact WG (Zr hn) (by decide),tv,_,rfl,tv,_,mod2 n,tv,_,iq _ _,tv,_,rfl,_,UU,.inl {fH,tv,tv,Dy,tv,_,rfl,tv,_,iq _ _,tv,_,rfl,_,UT,.inl {fH,tv,fu,?_}}}
  have heq:Gz (yd (eY n) n) (.tup [.lst (iE (if n % 2=0 then VW n else [])),.lst (iE (if n=1 then [0] else []))])=some (.bl true):=by rw[Fo];exact nJ (kh _ _)
  exact{_,rfl,tv,n,eY n,rfl,ok,by lia,tv,_,rfl,tv,_,rfl,.inr {tv,_,rfl,tv,_,rfl,.inr {tv,fu,.inr {_,heq,tv,q}}}}
def bp:aK ["many","half","nested","beside","across"] ["many"] (ay bS):=mkS
def K2 {EZ xI} (J_:SN K mg EZ xI) {oR iJ} (ji:M_ K mg oR iJ) {lD gw} (ux:Kh K mg lD gw) {oS iL} (jj:M9 K mg oS iL) {lC gv} (uv:Kg K mg lC gv) {jR fg} (rE:JW K mg jR fg) {oT iM} (lY:M8 K mg oT iM) {lE gx} (uA:Kf K mg lE gx) {fI cQ} (gc:D6 K mg fI cQ) {eV cw} (gD:D4 K mg eV cw) {dy bL} (dI:D1 K mg dy bL) {dY bV} (fK:D0 K mg dY bV) {d3 bX} (gC:D3 K mg d3 bX) {cS bt} (d4:D2 K mg cS bt) {eU cv} (eP:D5 K mg eU cv) {jS fh} (rG:D9 K mg jS fh) {eW cy} (fL:D8 K mg eW cy) {dZ bW} (ft:D7 K mg dZ bW) (B:oZ mg):aG P w K mg base bu 7 EZ xI ["many"] (bZ P w true MA):=by
 have FI:aG P w K mg base bu 6 _ _ _ (bZ P w true fJ):=lQ ji ux gc gD dI fK gC d4 eP rG fL ft B;have FJ:aG P w K mg base bu 5 _ _ _ (bZ P w true kL):=qS jj gc gD dI fK gC d4 eP fL ft uv rE B;have JV:aG P w K mg base bu 6 _ _ _ (bZ P w true Cm):=lO lY uA gc gD dI fK gC d4 eP fL ft B;refine oe J_.F bp (λds R LP=> by obtain⟨n,e,_⟩ := LP;subst e;rfl) λc7 A outer s H E hr=>⟨_,(ah (aR (i:=1) (aH ag (bC.m qP) (ae (i:=0)) aj) bp.nd)
    (ah (aR (i:=2) (aN (ab (ae (i:=0)) (ab (F9 ["k","many"] [none,some 0] (by rfl) (by decide:(["k","many"]:List Str).Nodup) rfl (aU B.range (ab (ae (i:=1)) af)) (λ_ _ _ _ _ _=>(au (i:=0) (by decide:(["k","many"]:List Str).Nodup))) (λ_ _ _ _ _ _=>cK) (λ_ _ _ _ _ _=>(aN (ab (ae (i:=0)) (ab (aH ag (bC.m bD) (aH ag (bC.m bD) (ae (i:=1)) aj) (ae (i:=0))) af))))) af))) bp.nd)
    (bU (c4 (wx.t (mG (aM ag (bC.m (cN hr.units)) (aw fJ.mono FI (hr.mono (by decide)) ji.m ji.F.kp ji.b (ab (ae (i:=2)) af)) (aN (ab (ae (i:=1)) (ab (a5 ag bR (ae (i:=2)) aj) af)))) (jE (aM ag (bC.m (cN hr.units)) (aw kL.mono FJ (hr.mono (by decide)) jj.m jj.F.kp jj.b (ab (ae (i:=2)) af)) aj)))) (ak (a7 gQ)) bg)
    (ah (aR (i:=3) (aN (ab (ae (i:=0)) (ab (F9 ["k"] [none] (by rfl) (by decide:(["k"]:List Str).Nodup) rfl (aU B.range (ab (aH ag (bC.m bD) (ae (i:=0)) aj) af)) (λ_ _ _ _ _ _=>(au (i:=0) (by decide:(["k"]:List Str).Nodup))) (λ_ _ _ _ _ _=>cK) (λ_ _ _ _ _ _=>(aN (ab (ae (i:=0)) (ab (aH aX aJ (ae (i:=0)) aj) af))))) af))) bp.nd)
    (bU (c4 (wx.t (mG (aM ag (bC.m (cN hr.units)) (a5 ag bR (aw fJ.mono FI (hr.mono (by decide)) ji.m ji.F.kp ji.b (ab (ae (i:=3)) af)) aj) (ae (i:=1))) (jE (aM ag (bC.m (cN hr.units)) (aw kL.mono FJ (hr.mono (by decide)) jj.m jj.F.kp jj.b (ab (ae (i:=3)) af)) (a5 ag bR (bJ (ab aj (ab (aH aX aJ (ae (i:=1)) aj) af))) (aH ag (bC.m qN) (ae (i:=0)) aj)))))) (ak (a7 gQ)) bg)
    (ah (aR (i:=4) (aN (ab (aH ag (bC.m dU) aj (ae (i:=1))) (ab (F9 ["k","half"] [none,some 1] (by rfl) (by decide:(["k","half"]:List Str).Nodup) rfl (aU B.range (ab (ae (i:=1)) af)) (λ_ _ _ _ _ _=>(au (i:=0) (by decide:(["k","half"]:List Str).Nodup))) (λ_ _ _ _ _ _=>cK) (λ_ _ _ _ _ _=>(aN (ab (ae (i:=0)) (ab (aH aX aJ (ae (i:=0)) (ae (i:=1))) af))))) af))) bp.nd)
    (bU (c4 (aM ag (bC.m (cN hr.units)) (aw fJ.mono FI (hr.mono (by decide)) ji.m ji.F.kp ji.b (ab (ae (i:=4)) af)) (aN (ab (c0 ag (dB.m (nP rfl)) B.min CN (ab aj (ab (ae (i:=1)) af))) (ab (FU (a5 ag bR (ae (i:=4)) aj) sU (sS aj)) af)))) (ak (a7 gQ)) bg)
    (bU (c4 (aM ag (bC.m (cN hr.units)) (aw kL.mono FJ (hr.mono (by decide)) jj.m jj.F.kp jj.b (ab (ae (i:=4)) af)) (c0 ag (dB.m (nQ rfl)) B.max rM (ab aj (ab (ae (i:=1)) af)))) (ak (a7 gQ)) bg)
    (ak (a7 (FV (iY ag (bC.m HU) (ae (i:=1)) aj) (AQ (iY ag (bC.m (fX hr.units)) (aw Cm.mono JV (hr.mono (by decide)) lY.m lY.F.kp lY.b (ab (ae (i:=4)) af)) (aN (ab (iD rfl B.list B.range (ab (aH ag (bC.m dU) aj (ae (i:=1))) af)) (ab (bJ af) af)))))))))))))))),λds R h=>?_⟩
 obtain⟨n,rfl,hn,q⟩:=h;obtain⟨h,hh⟩:∃h,h=n / 2:={_,rfl};have UM:h<=20:=by lia
 have R5:(VW h).length<=Wi:=by rw[We];exact c9 (by lia)
 have ed:=ME n;rw[<- hh]at ed;have okN:qi n (xn n):=Ar vG vF (by lia) (by unfold xn;rw[VS,We];lia)
 have lN:(xn n).length=h:=by unfold xn;rw[VS,We,hh]
 have eN:D.lst ((VW h).map λk:Nat=>D.tup [.int (k:Int),.int ((n:Int)-1-(k:Int))])=cU (xn n):=by
  unfold cU xn;rw[WR,hh];refine congrArg D.lst (Wu λk hk=>?_);have:=V3.mp hk;show _=D.tup [.int ((k:Nat):Int),.int ((n-1-k:Nat):Int)];rw[show ((n-1-k:Nat):Int)=(n:Int)-1-(k:Int) by lia]
 have e1:p0 (fC (xn n) 0 n) (.tup [.int (h:Int),cU (xn n)])=some (.bl false):=by rw[sD vG vF,lN];exact bK (gM _ _)
 have e2:p0 (.int (hT (xn n) n 0)) (.int 1)=some (.bl false):=by rw[wM vG vF];exact bK (aV _)
 refine{_,rfl,tv,_,ed,_,rfl,tv,_,rfl,tv,(h:Int),rfl,by lia,by lia,tv,?_}
 rw[WO];refine dv oC (b5 (λ_=>true) (λk:Nat=>D.tup [.int (k:Int),.int ((n:Int)-1-(k:Int))]) tv R5 (λk hk y0 o J ho h1 _=>{_,rfl,tv,_,rfl,tv,_,rfl,tv,_,rfl,_,rfl,tv,fu,tv,ho,h1 rfl _}) ?_);rw[a6,eN];refine{tv,fu,?_};refine{λβ=>∃x3 x4:Option Q.B,β=[some (.val false (.int (n:Int))),some (.val true (.int (h:Int))),some (.val true (j8 n (xn n))),x3,x4],?_,?_}
 ·exact{_,rfl,tv,n,xn n,rfl,okN,tv,_,rfl,tv,_,rfl,tv,_,rfl,.inr {tv,fu,.inr {_,e1,_,rfl,j9 rfl {_,rfl,tv,n,xn n,rfl,okN,hn,tv,_,e2,_,rfl,j9 rfl {_,_,rfl}}}}}
 ·rintro β ⟨x3,x4,rfl⟩;have RC:=Ih hn;have eB:D.lst ((VW (n-1)).map λk:Nat=>D.tup [.int (k:Int),.int ((k:Int)+1)])=cU (xp n):=by
   unfold cU xp;rw[WR];rfl
  have e3:p0 (.int (mX (xp n) 0 n)) (.int (h:Int))=some (.bl false):=by rw[Ii,<- hh];exact bK (aV _)
  have ep:zO (.lst [.int 1,.int ((h:Int)+1)]) (.int ((n % 2:Nat):Int))=some (.int ((if n % 2=0 then 1 else n / 2+1:Nat):Int)):=by
   rw[FX,<- hh]
   split <;> rfl
  have e4:p0 (.int (hT (xp n) n 0)) (.int ((if n % 2=0 then 1 else n / 2+1:Nat):Int))=some (.bl false):=by rw[Eo];exact bK (aV _)
  refine{_,rfl,tv,_,rfl,tv,_,rfl,tv,(n:Int)-1,rfl,by lia,by lia,tv,?_}
  rw[show ((n:Int)-1).toNat=n-1 by lia]
  refine dv oC (b5 (λ_=>true) (λk:Nat=>D.tup [.int (k:Int),.int ((k:Int)+1)]) tv (by rw[We];exact c9 (by lia)) (λk hk y0 o J ho h1 _=>{_,rfl,tv,_,rfl,tv,_,rfl,tv,fu,tv,ho,h1 rfl _}) ?_)
  rw[a6,eB];refine{tv,fu,?_};refine{λβ=>∃x2 x3 x4:Option Q.B,β=[some (.val false (.int (n:Int))),some (.val true (.int (h:Int))),x2,x3,x4],?_,?_}
  ·exact{_,rfl,tv,n,xp n,rfl,RC,tv,_,rfl,tv,_,rfl,_,e3,_,rfl,j9 rfl {_,rfl,tv,n,xp n,rfl,RC,hn,tv,tv,_,rfl,tv,_,rfl,tv,fu,tv,_,rfl,tv,_,mod2 n,_,ep,_,e4,_,rfl,j9 rfl {_,_,_,rfl}}}
  ·rintro β ⟨x2,x3,x4,rfl⟩;have OU:=JN UM;have lA:(l3 h).length=h:=by unfold l3;rw[VS,We]
   have eA:D.lst ((VW h).map λk:Nat=>D.tup [.int (k:Int),.int ((k:Int)+(h:Int))])=cU (l3 h):=by
    unfold cU l3;rw[WR];rfl
   have em:Fd (.int 2) (.int (h:Int))=some (.int ((2*h:Nat):Int)):=by rw[g7 (.inl {by decide,by decide})];rfl
   have QP:MF (cU (l3 h)) none (some 1)=some (cU ((l3 h).take 1)):=by
    unfold cU;rw[FP (x:=1) (h:=1) rfl,Ze]
   have e5:p0 (fC (l3 h) 0 (2*h)) (.tup [.int (if (h:Int)<1 then (h:Int) else 1),cU ((l3 h).take 1)])=some (.bl false):=by
    rw[tm rO rN CV,lA,show (if (h:Int)<1 then (h:Int) else 1)=((min 1 h:Nat):Int) by split <;> lia]
    exact bK (gM _ _)
   have e6:p0 (.int (hT (l3 h) (2*h) 0)) (.int (if (h:Int)>1 then (h:Int) else 1))=some (.bl false):=by
    rw[xj rO rN CV,lA,show (if (h:Int)>1 then (h:Int) else 1)=((max 1 h:Nat):Int) by split <;> lia]
    exact bK (aV _)
   refine{tv,_,rfl,_,em,tv,_,rfl,tv,(h:Int),rfl,by lia,by lia,tv,?_}
   rw[WO];refine dv oC (b5 (λ_=>true) (λk:Nat=>D.tup [.int (k:Int),.int ((k:Int)+(h:Int))]) tv R5 (λk hk y0 o J ho h1 _=>{_,rfl,tv,_,rfl,tv,_,rfl,_,rfl,tv,fu,tv,ho,h1 rfl _}) ?_);rw[a6,eA];refine{tv,fu,?_};refine{λβ=>∃x2 x3:Option Q.B,β=[some (.val false (.int (n:Int))),some (.val true (.int (h:Int))),x2,x3,some (.val true (j8 (2*h) (l3 h)))],?_,?_}
   ·refine{_,rfl,tv,2*h,l3 h,rfl,OU,tv,tv,_,rfl,tv,_,rfl,tv,_,rfl,tv,_,rfl,.inr {1,rfl,_,QP,.inr {tv,fu,.inr {_,e5,_,rfl,j9 rfl {_,_,rfl}}}}}
   ·rintro β ⟨x2,x3,rfl⟩;refine{λβ=>∃x2 x3:Option Q.B,β=[some (.val false (.int (n:Int))),some (.val true (.int (h:Int))),x2,x3,some (.val true (j8 (2*h) (l3 h)))],?_,?_}
    ·exact{_,rfl,tv,2*h,l3 h,rfl,OU,by lia,tv,tv,_,rfl,tv,_,rfl,_,e6,_,rfl,j9 rfl {_,_,rfl}}
    ·rintro β ⟨x2,x3,rfl⟩;refine{_,rfl,tv,_,rfl,_,rfl,C_ (λz=>{(tv),q}) (λz=>?_)};have e7:Gz (yd (l3 h) (2*h)) (.tup [.lst (iU 0 ((2*h:Nat):Int).toNat),.lst []])=some (.bl true):=by
      rw[JM (by lia),WO,oC]
      exact nJ (kh (VW (2*h)) [])
     exact{_,rfl,tv,2*h,l3 h,rfl,OU,by lia,tv,tv,_,rfl,_,em,tv,((2*h:Nat):Int),rfl,{by lia,by lia},by rw[WO];exact WG (show 2*h<=40 by lia) (by decide),tv,V_ _,tv,fu,_,e7,tv,q}
def eZ:aK ["many","middle","ties"] ["many","middle"] (ay cf):=mkS
def K1 {EX xG} (J8:SM K mg EX xG) {oR iJ} (ji:M_ K mg oR iJ) {lD gw} (ux:Kh K mg lD gw) {oS iL} (jj:M9 K mg oS iL) {lC gv} (uv:Kg K mg lC gv) {jR fg} (rE:JW K mg jR fg) {oT iM} (lY:M8 K mg oT iM) {lE gx} (uA:Kf K mg lE gx) {fI cQ} (gc:D6 K mg fI cQ) {eV cw} (gD:D4 K mg eV cw) {dy bL} (dI:D1 K mg dy bL) {dY bV} (fK:D0 K mg dY bV) {d3 bX} (gC:D3 K mg d3 bX) {cS bt} (d4:D2 K mg cS bt) {eU cv} (eP:D5 K mg eU cv) {jS fh} (rG:D9 K mg jS fh) {eW cy} (fL:D8 K mg eW cy) {dZ bW} (ft:D7 K mg dZ bW) (B:oZ mg):aG P w K mg base bu 7 EX xG ["many","middle"] (bZ P w true um):=by
 have FI:aG P w K mg base bu 6 _ _ _ (bZ P w true fJ):=lQ ji ux gc gD dI fK gC d4 eP rG fL ft B;have FJ:aG P w K mg base bu 5 _ _ _ (bZ P w true kL):=qS jj gc gD dI fK gC d4 eP fL ft uv rE B;have JV:aG P w K mg base bu 6 _ _ _ (bZ P w true Cm):=lO lY uA gc gD dI fK gC d4 eP fL ft B;refine oe J8.F eZ (λds R LO=> by obtain⟨n,m,e,_⟩ := LO;subst e;rfl) λc7 A outer s H E hr=>⟨_,(ah (aR (i:=2) (c0 aX j4 B.sorted kQ (ab (F9 ["k","middle"] [none,some 1] (by rfl) (by decide:(["k","middle"]:List Str).Nodup) rfl (aU B.range (ab (ae (i:=0)) af)) (λ_ _ _ _ _ _=>(au (i:=0) (by decide:(["k","middle"]:List Str).Nodup))) (λ_ _ _ _ _ _=>(gG (aM ag (bC.m (cN hr.units)) (ae (i:=0)) (ae (i:=1))))) (λ_ _ _ _ _ _=>(aN (ab (c0 ag (dB.m (nP rfl)) B.min CN (ab (ae (i:=1)) (ab (ae (i:=0)) af))) (ab (c0 ag (dB.m (nQ rfl)) B.max rM (ab (ae (i:=1)) (ab (ae (i:=0)) af))) af))))) af)) eZ.nd)
    (bU (c4 (wx.t (mG (aM ag (bC.m (cN hr.units)) (aw fJ.mono FI (hr.mono (by decide)) ji.m ji.F.kp ji.b (ab (aN (ab (ae (i:=0)) (ab (ae (i:=2)) af))) af)) (aN (ab aj (ab (FU (ae (i:=2)) sU (sS aj)) af)))) (jE (aM ag (bC.m (cN hr.units)) (aw kL.mono FJ (hr.mono (by decide)) jj.m jj.F.kp jj.b (ab (aN (ab (ae (i:=0)) (ab (ae (i:=2)) af))) af)) (aH ag (bC.m bD) (ae (i:=0)) aj))))) (ak (a7 gQ)) bg)
    (ak (a7 (FV (iY ag (bC.m qO) (ae (i:=0)) aj) (AQ (iY ag (bC.m (fX hr.units)) (aw Cm.mono JV (hr.mono (by decide)) lY.m lY.F.kp lY.b (ab (aN (ab (ae (i:=0)) (ab (ae (i:=2)) af))) af)) (aN (ab (bJ (ab (ae (i:=1)) af)) (ab (bJ af) af)))))))))),λds R h=>?_⟩
 obtain⟨n,m,rfl,Jh,hn,hm,q⟩:=h;have ok:=DA hm hn;refine{_,rfl,tv,n,rfl,by lia,by lia,tv,?_}
 rw[WO];refine dv oC (b5 (λk=>!decide (k=m)) (λk:Nat=>D.tup [.int (if (k:Int)<(m:Int) then (k:Int) else (m:Int)),.int (if (k:Int)>(m:Int) then (k:Int) else (m:Int))]) tv (by rw[We];exact c9 (by lia)) (λk hk y0 o J ho j1 j2=>{_,rfl,tv,_,rfl,_,Fc _ _,_,rfl,O_ (λz=>{_,rfl,tv,_,rfl,tv,_,rfl,tv,_,rfl,tv,_,rfl,tv,_,rfl,tv,fu,tv,ho,j1 (by rw[decide_eq_false (λe=>z (congrArg Nat.cast e))];rfl) _}) (λz=>j2 (by rw[decide_eq_true (YO z)];rfl) _)}) ?_)
 rw[Hg];refine{tv,_,yi hm hn,.inl {ik (f:=λp:NN=>kD (tI p)) (λ_=>rfl) _,?_}};have QP:MF (cU (star n m)) none (some 1)=some (cU ((star n m).take 1)):=by
  unfold cU;rw[FP (x:=1) (h:=1) rfl,Ze]
 have e1:p0 (fC (star n m) 0 n) (.tup [.int 1,cU ((star n m).take 1)])=some (.bl false):=by
  rw[tm (jx hm) gK qA,gL hm,show min 1 (n-1)=1 by lia]
  exact bK (gM 1 _)
 have e2:p0 (.int (hT (star n m) n 0)) (.int ((n:Int)-1))=some (.bl false):=by
  rw[xj (jx hm) gK qA,gL hm,show ((max 1 (n-1):Nat):Int)=(n:Int)-1 by lia]
  exact bK (aV _)
 refine{λβ=>β=[some (.val false (.int (n:Int))),some (.val false (.int (m:Int))),some (.val true (cU (star n m)))],?_,?_}
 ·exact{_,rfl,tv,_,rfl,tv,fu,.inr {tv,n,star n m,rfl,ok,tv,tv,_,rfl,1,rfl,_,QP,.inr {tv,fu,.inr {_,e1,_,rfl,j9 rfl {_,rfl,tv,_,rfl,tv,fu,.inr {tv,n,star n m,rfl,ok,hn,tv,_,rfl,tv,_,rfl,_,e2,_,rfl,j9 rfl rfl}}}}}}
 ·rintro β rfl;refine{_,rfl,tv,_,rfl,_,rfl,C_ (λz=>{(tv),q}) (λz=>?_)};have e3:Gz (yd (star n m) n) (.tup [.lst [.int (m:Int)],.lst []])=some (.bl true):=by
   rw[Dz hm (by lia)]
   exact nJ (kh [m] [])
  exact{_,rfl,tv,_,rfl,tv,fu,.inr {tv,n,star n m,rfl,ok,hn,tv,_,rfl,tv,Dy,tv,V_ _,tv,fu,_,e3,tv,q}}
def cV:aK ["hand","many","found","piled","point","way"] ["hand","many"] (ay fb):=mkS
def H4 {EY xH} (J9:SK K mg EY xH) {QN Ju} (dT:SJ K mg QN Ju) (B:oZ mg):aG P w K mg base bu 2 EY xH ["hand","many"] (vh P w tu true Cn):=by
 have GT:aG P w K mg base bu 1 _ _ _ (vh P w tu true gY):=Aa (xk dT.F);refine OT J9.F cV (λds R LN=> by obtain⟨n,e,_⟩ := LN;subst e;rfl) λc7 A outer s H E IO hr=>⟨_,(ah (c3 (i:=2) (λ_=>(bJ af)) cV.nd)
    (ah (c3 (i:=3) (λ_=>(bJ af)) cV.nd)
    (ah (eE Xi rfl (aU B.range (ab (ae (i:=1)) af)) (au (i:=4) cV.nd) (ah (aR (i:=5) (fT (ih:=0) gY.mono GT (hr.mono (by decide)) dT.m dT.F.kp dT.b (ab aj af)) cV.nd)
    (bU (c4 (aM ag (bC.m (fX hr.units)) (ae (i:=5)) aj) (ak (fy (i:=3) (λ_=>(ae (i:=4))))) bg)
    (ak (c4 (wx.t (wZ (aM ag (bC.m (fX hr.units)) (ae (i:=5)) aj) (sR (aM ag (bC.m (cN hr.units)) (ae (i:=3)) (bJ af))))) (ak (fy (i:=2) (λ_=>(aN (ab (AO (i:=3)) (ab (ae (i:=4)) af)))))) bg)))))
    (ak (a7 (c0 aX j4 B.sorted kQ (ab (ae (i:=2)) af))))))),λds R h=>?_⟩
 obtain⟨n,rfl,hn,q⟩:=h;refine{V_ _,tv,V_ _,tv,_,rfl,tv,n,rfl,by lia,by lia,tv,?_}
 rw[WO];refine rC (λi β=>∃(fs:List NN) (st:List Nat) (x4 x5:Option Q.B),β=[some (.hand tu),some (.val false (.int (n:Int))),some (.own (cU fs)),some (.own (.lst (iE st))),x4,x5]/\uO i fs st) {[],[],_,_,rfl,uO.start} (λE1 r1 i n1 d β hd h=>?_) ?_
 ·obtain⟨fs,st,x4,x5,rfl,sh⟩:=h;obtain⟨hi,rfl⟩:=eh hd;rw[Zt];have hsz:=sh.sz;refine{rfl,tv,rfl,tv,3,rfl,by lia,by lia,λr r0 r3=>?_}
  refine{λβ=>∃aA:List Nat,β=[some (.hand tu),some (.val false (.int (n:Int))),some (.own (cU fs)),some (.own (.lst (iE aA))),some (.val true (.int (i:Int))),some (.val true (.int r))]/\((r=0/\uO (i+1) fs aA)\/(r≠0/\aA=st)),?_,?_}
  ·refine{_,rfl,tv,_,iq _ _,_,rfl,C_ (λe=>?_) (λe=>{st,rfl,.inr {(e),rfl}})};exact{{_,rfl},_,rfl,tv,_,rfl,by (rw[VS];exact kY (by lia)),st++[i],by rw[show iE (st++[i])=iE st++[D.int (i:Int)] from Wv];rfl,.inl {(e),sh.push}}
  ·rintro β ⟨aA,rfl,h⟩;have fin:(r≠1\/aA=[])->E1.nx [some (.hand tu),some (.val false (.int (n:Int))),some (.own (cU fs)),some (.own (.lst (iE aA))),some (.val true (.int (i:Int))),some (.val true (.int r))]:=λ_=>by
    rcases h with⟨_,z⟩|⟨_,rfl⟩
    ·exact n1 _ {fs,aA,_,_,rfl,z}
    ·exact n1 _ {fs,aA,_,_,rfl,sh.skip}
   refine{_,rfl,tv,_,iq _ _,_,rfl,C_ (λe=>?_) (λe=>j9 rfl (fin (.inl e)))};have UW:p0 (.lst (iE aA)) (.lst [])=some (.bl (!decide (aA=[]))):=by
    have z:=CB (aA.map λp:Nat=>(p:Int)) [];rw[WR]at z;refine z.trans (congrArg (λb=>some (D.bl (!b))) (decide_eq_decide.mpr ?_));rw[List.map_eq_nil_iff]
   refine{_,rfl,tv,V_ _,_,UW,_,rfl,O_ (λhp=>?_) (λhp=>fin (.inr hp))};obtain⟨qs,p,rfl⟩:∃qs p,aA=qs++[p]:={aA.dropLast,aA.getLast hp,(List.dropLast_concat_getLast hp).symm};have Tf:uO i fs (qs++[p]):=by
    rcases h with⟨z,_⟩|⟨_,z⟩
    ·lia
    ·rw[z];exact sh
   have e1:iE (qs++[p])=iE qs++[D.int (p:Int)]:=Wv;have e2:cU (fs++[(p,i)])=.lst ((fs.map λp=>kD (tI p))++[kD (tI (p,i))]):=by unfold cU;rw[Wv];rfl
   exact{{_,rfl},iE qs,.int (p:Int),by rw[e1];rfl,tv,_,rfl,tv,fu,tv,fs.map λp=>kD (tI p),rfl,by (rw[VS];exact kY (by lia)),n1 _ {fs++[(p,i)],qs,_,_,by rw[e2];rfl,Tf.pop}}
 ·rintro β ⟨fs,st,x4,x5,rfl,sh⟩;rw[fx]at sh;obtain⟨ps,e,h1,h2,h3⟩:=sh.done;have hsz:=sh.sz;have es:(match [cU fs]with | [.lst ds]=>rF [.lst ds]|_=>none)=some (cU ps):=by
   have et:cU fs=.lst ((fs.map tI).map kD):=by unfold cU;rw[WR];rfl
   rw[et];refine(mm (ts:=fs.map tI) (λk hk=>by obtain⟨p,_,rfl⟩:=V4.mp hk;simp[tI]) (by rw[VS];lia)).trans ?_
   rw[e];unfold cU;rw[WR];rfl
  exact{_,rfl,tv,_,es,.inl {ik (f:=λp:NN=>kD (tI p)) (λ_=>rfl) _,tv,rfl,q ps h1 h2 (by lia)}}
end
section
variable {P:V2}{w:Wm}{K:PySem.W.Frag}{mg:Str->Option VT}{base:Heap}
def gN:aK ["script","cell","hand","many","ties","points","left"] ["script"] (ay mx):=mkS
def Al (K:PySem.W.Frag):Sp:=λvs H Q _=>∃(a:Addr) (ns:List Int),vs=[.ref a]/\eQ K H a (ns.map V.int)/\ns.length<=63/\∀H',Q (.bl true) H'
def JL (β:Q.a9):Prop:=∃y0 y1 y2 y3 y4 y5 y6:Option Q.B,β=[y0,y1,y2,y3,y4,y5,y6]
def Ia {f:Addr} {fd:WN} (F:Dl K "law" "law" mx f fd) (B:oZ mg) {oR iJ} (ji:M_ K mg oR iJ) {lD gw} (ux:Kh K mg lD gw) {oS iL} (jj:M9 K mg oS iL) {lC gv} (uv:Kg K mg lC gv) {jR fg} (rE:JW K mg jR fg) {oT iM} (lY:M8 K mg oT iM) {lE gx} (uA:Kf K mg lE gx) {fI cQ} (gc:D6 K mg fI cQ) {eV cw} (gD:D4 K mg eV cw) {dy bL} (dI:D1 K mg dy bL) {dY bV} (fK:D0 K mg dY bV) {d3 bX} (gC:D3 K mg d3 bX) {cS bt} (d4:D2 K mg cS bt) {eU cv} (eP:D5 K mg eU cv) {jS fh} (rG:D9 K mg jS fh) {eW cy} (fL:D8 K mg eW cy) {dZ bW} (ft:D7 K mg dZ bW) {UQ QM} (dH:Vn K mg UQ QM) {QN Ju} (dT:SJ K mg QN Ju) {zi pW} (Gy:Ra K mg zi pW) {zh pV} (Gx:Q_ K mg zh pV) {E5 xJ} (Ka:SO K mg E5 xJ) {EZ xI} (J_:SN K mg EZ xI) {EX xG} (J8:SM K mg EX xG) {EY xH} (J9:SK K mg EY xH):aG P w K mg base bu 45 f fd ["script"] (Al K):=by
 have GH:aG P w K mg base bu 1 _ _ _ (bZ P w true uo):=Jp (Ee dH.F {(B.max),B.min,B.int});have GT:aG P w K mg base bu 1 _ _ _ (vh P w tu true gY):=Aa (xk dT.F);have FI:aG P w K mg base bu 6 _ _ _ (bZ P w true fJ):=lQ ji ux gc gD dI fK gC d4 eP rG fL ft B;have FJ:aG P w K mg base bu 5 _ _ _ (bZ P w true kL):=qS jj gc gD dI fK gC d4 eP fL ft uv rE B;have JV:aG P w K mg base bu 6 _ _ _ (bZ P w true Cm):=lO lY uA gc gD dI fK gC d4 eP fL ft B;have Vk:aG P w K mg base bu 7 _ _ _ (bZ P w true MB):=K3 Ka Gy Gx ji ux jj uv rE lY uA gc gD dI fK gC d4 eP rG fL ft B;have Vg:aG P w K mg base bu 7 _ _ _ (bZ P w true MA):=K2 J_ ji ux jj uv rE lY uA gc gD dI fK gC d4 eP rG fL ft B;have Vb:aG P w K mg base bu 7 _ _ _ (bZ P w true um):=K1 J8 ji ux jj uv rE lY uA gc gD dI fK gC d4 eP rG fL ft B;have Vc:aG P w K mg base bu 2 _ _ _ (vh P w tu true Cn):=H4 J9 dT B;refine F.ok gN (λvs H Q E h=>?_) (λc7 A outer s H vs Qk E hr h=>?_)
 ·obtain⟨a,ns,rfl,_⟩:=h;rfl
 ·obtain⟨a,ns,rfl,hS,hlen,k⟩:=h;have Qq:∀b:Addr,¬ (λ_=>False) b:=λb z=>z;obtain⟨ψ,hb,hψ⟩:∃ψ,Q.x_ (oU bu P w K mg base _ "law" (ay mx) f c7 A outer s H E).F2 {H,λ_=>False,true,λ_=>False} (match (fk mx)with | .For _ _ b _ _::_=>b|_=>[]) ψ /\
    ∀(c:Int) (x0 x2 x3 x4 x5 x6:Option Q.B),ψ {nx:=JL,rt:=λd _=>d=.bl true,bk:=JL,ct:=JL} [x0,some (.val true (.int c)),x2,x3,x4,x5,x6]:=by
   refine⟨_,(ah (DX (i:=2) tu Qq (λ_=>(aw uo.mono GH (hr.mono (by decide)) dH.m dH.F.kp dH.b (ab (ae (i:=1)) af))) gN.nd)
    (bU (c4 (wx.t (mG (lL (qJ (aw MB.mono Vk (hr.mono (by decide)) Ka.m Ka.F.kp Ka.b (ab (fT (ih:=2) gY.mono GT (hr.mono (by decide)) dT.m dT.F.kp dT.b (ab aj af)) af)))) (jE (lL (qJ (aw MA.mono Vg (hr.mono (by decide)) J_.m J_.F.kp J_.b (ab (fT (ih:=2) gY.mono GT (hr.mono (by decide)) dT.m dT.F.kp dT.b (ab aj af)) af))))))) (ak (a7 gQ)) bg)
    (ah (aR (i:=3) (aH aX aJ aj (fT (ih:=2) gY.mono GT (hr.mono (by decide)) dT.m dT.F.kp dT.b (ab aj af))) gN.nd)
    (bU (c4 (lL (qJ (aw um.mono Vb (hr.mono (by decide)) J8.m J8.F.kp J8.b (ab (ae (i:=3)) (ab (fT (ih:=2) gY.mono GT (hr.mono (by decide)) dT.m dT.F.kp dT.b (ab (ae (i:=3)) af)) af))))) (ak (a7 gQ)) bg)
    (ah (aR (i:=3) (fT (ih:=2) gY.mono GT (hr.mono (by decide)) dT.m dT.F.kp dT.b (ab aj af)) gN.nd)
    (ah (aR (i:=4) (fT (ih:=2) Cn.mono Vc (hr.mono (by decide)) J9.m J9.F.kp J9.b (ab (ae (i:=3)) af)) gN.nd)
    (ah (aR (i:=5) (AM (aH aX aJ (F9 ["tie"] [none] (by rfl) (by decide:(["tie"]:List Str).Nodup) rfl (bx (ae (i:=4))) (λ_ _ _ _ _ _=>(au (i:=0) (by decide:(["tie"]:List Str).Nodup))) (λ_ _ _ _ _ _=>cK) (λ_ _ _ _ _ _=>(a5 ag bR (ae (i:=0)) aj))) (F9 ["tie"] [none] (by rfl) (by decide:(["tie"]:List Str).Nodup) rfl (bx (ae (i:=4))) (λ_ _ _ _ _ _=>(au (i:=0) (by decide:(["tie"]:List Str).Nodup))) (λ_ _ _ _ _ _=>cK) (λ_ _ _ _ _ _=>(a5 ag bR (ae (i:=0)) aj)))) B.sorted) gN.nd)
    (ah (qH (i:=6) false ["point","points"] [none,some 5] (by rfl) (by decide:(["point","points"]:List Str).Nodup) rfl (λ_=>(aU B.range (ab (ae (i:=3)) af))) (λ_ _ _ _ _ _=>(au (i:=0) (by decide:(["point","points"]:List Str).Nodup))) (λ_ _ _ _ _ _=>(gG (aM ag (bC.m (yJ hr.Dt)) (ae (i:=0)) (ae (i:=1))))) (λ_ _ _ _ _ _=>(ae (i:=0))) gN.nd)
    (bU (c4 (aM ag (bC.m (cN hr.units)) (aw fJ.mono FI (hr.mono (by decide)) ji.m ji.F.kp ji.b (ab (aN (ab (ae (i:=3)) (ab (ae (i:=4)) af))) af)) (aN (ab (c0 ag (dB.m zE) B.len JH (ab (ae (i:=4)) af)) (ab (ae (i:=4)) af)))) (ak (a7 gQ)) bg)
    (bU (c4 (aM ag (bC.m (cN hr.units)) (aw kL.mono FJ (hr.mono (by decide)) jj.m jj.F.kp jj.b (ab (aN (ab (ae (i:=3)) (ab (ae (i:=4)) af))) af)) aj) (ak (a7 gQ)) bg)
    (ak (c4 (aM ag (bC.m (cN hr.units)) (aw Cm.mono JV (hr.mono (by decide)) lY.m lY.F.kp lY.b (ab (aN (ab (ae (i:=3)) (ab (ae (i:=4)) af))) af)) (aN (ab (ae (i:=5)) (ab (ae (i:=6)) af)))) (ak (a7 gQ)) bg)))))))))))),λc x0 x2 x3 x4 x5 x6=>?_⟩
   refine{_,rfl,tv,c,rfl,λns hk=>{tv,(by show 2<7;decide),ns,rfl,hk,?_}}
   have nat:∀r:Int,0<=r->∃a:Nat,r=(a:Int):=λr h=>{r.toNat,by lia}
   refine{λβ=>∃x3 x4 x5 x6:Option Q.B,β=[x0,some (.val true (.int c)),some (.hand tu),x3,x4,x5,x6],?_,?_}
   ·refine{rfl,tv,rfl,tv,25,rfl,by decide,by decide,λr r0 r1=>?_}
    obtain⟨a,rfl⟩:=nat r r0;refine{tv,a,rfl,by lia,_,rfl,j9 rfl {rfl,tv,rfl,tv,41,rfl,by decide,by decide,λr r0 r1=>?_}}
    obtain⟨b,rfl⟩:=nat r r0;exact{tv,b,rfl,by lia,_,rfl,j9 rfl {_,_,_,_,rfl}}
   ·rintro β ⟨x3,x4,x5,x6,rfl⟩;refine{tv,rfl,tv,rfl,tv,39,rfl,by decide,by decide,λr r0 r1=>{_,rfl,?_}}
    obtain⟨a,rfl⟩:=nat r r0;have e2:(2:Int)+(a:Int)=((2+a:Nat):Int):=by lia
    rw[e2];refine{λβ=>∃x3 x4 x5 x6:Option Q.B,β=[x0,some (.val true (.int c)),some (.hand tu),x3,x4,x5,x6],?_,?_}
    ·refine{_,rfl,tv,rfl,_,rfl,tv,rfl,tv,((2+a:Nat):Int),rfl,by lia,by lia,λr r0 r1=>?_}
     obtain⟨b,rfl⟩:=nat r r0;exact{tv,2+a,b,rfl,by lia,by lia,by lia,_,rfl,j9 rfl {_,_,_,_,rfl}}
    ·rintro β ⟨x3,x4,x5,x6,rfl⟩;refine{rfl,tv,rfl,tv,41,rfl,by decide,by decide,λr r0 r1=>?_}
     obtain⟨m,rfl⟩:=nat r r0;have hm:m<=40:=by lia
     refine{rfl,_,rfl,tv,rfl,tv,m,rfl,hm,λps h1 h2 h3=>?_};have ok:=Ar h1 h2 (show m<=80 by lia) (show ps.length<=400 by lia)
     have hpl:ps.length<=Wi:=c9 (by lia)
     refine{_,rfl,_,rfl,tv,?_};refine b5 (λ_=>true) (λp:NN=>.int (p.1:Int)) tv hpl (λp hp y0 o J ho h1 _=>{_,rfl,tv,_,rfl,tv,ho,h1 rfl _}) ?_;rw[a6];refine{tv,_,rfl,_,rfl,tv,?_};refine b5 (λ_=>true) (λp:NN=>.int (p.2:Int)) tv hpl (λp hp y0 o J ho h1 _=>{_,rfl,tv,_,rfl,tv,ho,h1 rfl _}) ?_;rw[a6];have ea:Fn (.lst (ps.map λp:NN=>D.int (p.1:Int))) (.lst (ps.map λp:NN=>D.int (p.2:Int)))=some (.lst (((ps.map λp:NN=>(p.1:Int))++ps.map λp:NN=>(p.2:Int)).map D.int)):=by
      rw[nK (by rw[VS,VS];lia),Wv,WR,WR]
      rfl
     refine{_,ea,.inl {fH,_,rfl,by rw[Wf,VS,VS];lia,λms s pm=>?_}}
     have et:=Aq h1 h2 s pm;refine{_,rfl,tv,m,rfl,by lia,by lia,tv,?_}
     rw[WO];refine dv oC (b5 (λp:Nat=>!decide ((p:Int)∈ms)) (λp:Nat=>.int (p:Int)) tv (by rw[We];exact c9 (by lia)) (λp hp y0 o J ho j1 j2=>{_,rfl,tv,_,rfl,_,uw _ _,_,rfl,O_ (λz=>{_,rfl,tv,ho,j1 (by rw[decide_eq_false z];rfl) _}) (λz=>j2 (by rw[decide_eq_true z];rfl) _)}) ?_)
     have el:ML [cU ps]=some (.int (ps.length:Int)):=by
      unfold cU;show some (D.int (((ps.map λp=>kD (tI p)).length:Nat):Int))=_;rw[VS]
     have e1:p0 (fC ps 0 m) (.tup [.int (ps.length:Int),cU ps])=some (.bl false):=by rw[sD h1 h2];exact bK (gM _ _)
     have e2:p0 (.int (hT ps m 0)) (.int 1)=some (.bl false):=by rw[wM h1 h2];exact bK (aV _)
     have e3:p0 (yd ps m) (.tup [.lst (ms.map D.int),.lst (iE ((VW m).filter λp=>!decide ((p:Int)∈ms)))])=some (.bl false):=by
      rw[et];refine bK (n:=3) (hV λd hd=>?_);rcases VX.mp hd with rfl|hd
      ·exact fP _
      ·rw[VU.mp hd];exact mn _
     refine{λβ=>β=[x0,some (.val true (.int c)),some (.hand tu),some (.val true (.int (m:Int))),some (.val true (cU ps)),some (.val true (.lst (ms.map D.int))),some (.val true (.lst (iE ((VW m).filter λp=>!decide ((p:Int)∈ms)))))],?_,?_}
     ·exact{_,rfl,tv,_,rfl,tv,fu,.inr {tv,m,ps,rfl,ok,tv,_,rfl,tv,_,el,tv,_,rfl,tv,fu,.inr {_,e1,_,rfl,j9 rfl rfl}}}
     ·rintro β rfl;refine{λβ=>β=[x0,some (.val true (.int c)),some (.hand tu),some (.val true (.int (m:Int))),some (.val true (cU ps)),some (.val true (.lst (ms.map D.int))),some (.val true (.lst (iE ((VW m).filter λp=>!decide ((p:Int)∈ms)))))],?_,?_}
      ·exact{_,rfl,tv,_,rfl,tv,fu,.inr {tv,m,ps,rfl,ok,hm,tv,_,e2,_,rfl,j9 rfl rfl}}
      ·rintro β rfl;exact{_,rfl,tv,_,rfl,tv,fu,.inr {tv,m,ps,rfl,ok,hm,tv,_,rfl,tv,_,rfl,tv,fu,.inr {_,e3,_,rfl,j9 rfl {_,_,_,_,_,_,_,rfl}}}}
  refine{_,eC (AH Xi rfl (w_ (dt Bf (vA (bN (dt qM bb bb) eF)) (sX wI (pv 0) w6 (w5 bb)))) (Q.au (C:={H,λ_=>False,true,λ_=>False}) (i:=1) gN.nd).pg hb.ps) (jC (iX FZ)),?_};obtain⟨ms,em,hm⟩:=zq ns none (some 6);refine{_,_,rfl,rfl,AR,(by show 1<=Wi;decide),λp1 L_=>{_,rfl,_,rfl,a,_,rfl,(aE.new L_).seq hS,λp2 Nz=>?_}}
  have TV:p1≠p2:=cO ao Nz;refine{p1,p2,_,_,rfl,rfl,(by rw[aB TV];exact ao),ao,(by rw[em,VS,XI,XS];lia),λl hl=>{l,rfl,{_,eQ.of ao},?_}}
  rw[em];rw[em]at hl;have sm:aE H (upd (upd (upd H p1 (.lst [V.int (10 ^ (18:Int).toNat)])) p2 (.lst (ms.map V.int))) l (.lst ([V.int (10 ^ (18:Int).toNat)]++ms.map V.int))):=((aE.new L_).trans (aE.new (by rw[em]at *;exact Nz))).trans (aE.new hl)
  have pP:(upd (upd (upd H p1 (.lst [V.int (10 ^ (18:Int).toNat)])) p2 (.lst (ms.map V.int))) l (.lst ([V.int (10 ^ (18:Int).toNat)]++ms.map V.int))) l=some (.lst (((10 ^ (18:Int).toNat)::ms).map V.int)):=ao;generalize (upd (upd (upd H p1 (.lst [V.int (10 ^ (18:Int).toNat)])) p2 (.lst (ms.map V.int))) l (.lst ([V.int (10 ^ (18:Int).toNat)]++ms.map V.int)))=H1 at sm pP ⊢
  generalize ((10 ^ (18:Int).toNat)::ms)=cs at pP;let X:Cx:=(oU bu P w K mg base ["script","cell","hand","many","ties","points","left"] "law" (ay mx) f c7 A outer s H E).F2
  let C:Q.Cfg:={H,λ_=>False,true,λ_=>False}
  have it:zR X (λ_=>False) (NY K l) (cs.map D.int) H1:=tX pP (λz=>z) (bw cs);have J1:=it (λb=>(λ_=>False) b\/H1 b=none) λb z=>z;have s':Q.cT P w C.z (L2.start ["script","cell","hand","many","ties","points","left"] [.ref a]) H1 (WQ 7 none) (λ_=>[]):=DD (by rfl) sm
  generalize UA:cs.map D.int=ds at J1;have hint:∀d∈ds,∃c:Int,d=.int c:=λd hd=>by
   rw[<- UA]at hd;obtain⟨c,_,rfl⟩:=V4.mp hd;exact{(c),rfl}
  refine{λi m σ H'=>i<=ds.length/\m=ds.length-i/\∃β,Q.SB X C (H1,Q.Wn λ_=>[]) σ H' β/\JL β,{_,V_ _,rfl,_,{_,s',Sn.refl},{_,_,_,_,_,_,_,rfl}},?_};rintro i m σ2 H2 ⟨hi,rfl,β2,⟨bh,s2,n2⟩,⟨y0,y1,y2,y3,y4,y5,y6,rfl⟩⟩;obtain⟨cB,jg⟩:=J1 i H2 (n2.k.mono λb z=>z.imp (λLM=> by obtain⟨_,q⟩ := LM;exact(nomatch q)) id)
  by_cases ie:i<ds.length
  ·right
   have hd:ds[i]?=some ds[i]:=Wh ie;obtain⟨go,yl⟩:=cB _ hd;obtain⟨c,hc⟩:=hint ds[i] (YM ie);refine{go,λσ' H'=>∃β,Q.SB X C (H1,Q.Wn λ_=>[]) σ' H' β/\JL β,λσ' H' LL=> by obtain⟨β',vo,pO⟩ := LL;exact{_,by lia,ie,rfl,β',vo,pO},λx H3 y=>?_}
   obtain⟨s3,r3⟩:=yl x H3 y;rw[hc]at r3;refine{bh,_,.int c,.own,s2.same s3,aD.flat rfl r3,λσ4 s_ s4 w4 _=>?_};exact⟨(H1,Q.Wn λ_=>[]),{nx:=JL,rt:=λd _=>d=.bl true,bk:=JL,ct:=JL},_,{s_,s4,Q.jy (n2.same s3) w4},hψ c y0 y2 y3 y4 y5 y6,⟨λσ5 H5 β5 yu q5=>{(β5),yu,q5},λσ5 H5 β5 d5 v5 yu r5 q5=>by
    subst q5;cases (show v5=V.bl true from Kx r5)
    exact k _,λσ5 H5 β5 yu q5=>k _,λσ5 H5 β5 yu q5=>{(β5),yu,q5}⟩⟩
  ·left
   have e:i=ds.length:=by lia
   subst e;exact{jg (VR _),k _}
end
def gB {α:Type}{P:List α->Prop}(h:∀a,P [a]):∀us:List α,us.length=1->P us:=λus e=>by
 obtain⟨a,rfl⟩:=List.length_eq_one_iff.mp e;exact h a
def yT {α:Type}{P:List α->Prop}(h:∀a b,P [a,b]):∀us:List α,us.length=2->P us:=λus e=>by
 cases us with
 |nil=>cases e
 |cons a us=>exact gB (P:=λus=>P (a::us)) (h a) us (Zo e)
def Iw {α:Type}{P:List α->Prop}(h:∀a b c,P [a,b,c]):∀us:List α,us.length=3->P us:=λus e=>by
 cases us with
 |nil=>cases e
 |cons a us=>exact yT (P:=λus=>P (a::us)) (h a) us (Zo e)
def Lr {α:Type}{P:List α->Prop}(h:∀a b c d,P [a,b,c,d]):∀us:List α,us.length=4->P us:=λus e=>by
 cases us with
 |nil=>cases e
 |cons a us=>exact Iw (P:=λus=>P (a::us)) (h a) us (Zo e)
def EB {α:Type}{P:List α->Prop}(h:∀a b c d e,P [a,b,c,d,e]):∀us:List α,us.length=5->P us:=λus e=>by
 cases us with
 |nil=>cases e
 |cons a us=>exact Lr (P:=λus=>P (a::us)) (h a) us (Zo e)
noncomputable abbrev vS (x:Str)(t:Nat):VT:=.str x t
noncomputable abbrev kE (P:Params)(x:Str)(t:Nat)(v:VT):DictEntry:={PyData.keyHash P x,.str x t,v}
noncomputable abbrev kC (n:Str)(t l p r8 T5 Ts:Nat)(SX SW SV:VT)(Tr T4 S7:Nat):Obj:={cls:=.type "code",data:=.fields #[vS n t,vS n (t+1),vS "/claim/cut.py" (t+2),.int l 0,.int p 0,.int 0 0,.int 0 0,.int 3 0,.ref r8,.bool true,.int T5 0,.ref Ts,SX,SW,SV,.ref Tr,.int T4 0,.int l 0,vS "/claim/cut.py" S7]}
noncomputable abbrev Nq (st:Stmt)(x m:Str)(t c:Nat):WN:=PySem.W.fnOf x x (lX st) (fk st) (ay st) .none .none .none (vS m t) none (.ref c) .none
noncomputable abbrev kF (st:Stmt)(x m:Str)(t c:Nat):Obj:={cls:=.type "function",data:=.func (Nq st x m t c)}
def Ca {K:PySem.W.Frag}{x m:Str}{st:Stmt}{t c f:Nat}(l:K.lookup f=some (kF st x m t c))(cd:PySem.W.codeIn K (.ref c) x=true)(k:PySem.W.keepIn K (.ref f)=true):Dl K x x st f (Nq st x m t c):=Js l cd k
def bP {K:PySem.W.Frag}{h:Heap}{mg:Str->Option VT}{x m:Str}{st:Stmt}{t c f:Nat}{ps:List Str}(X:K.In h)(G:h.Ns XW mg)(l:K.lookup f=some (kF st x m t c))(cd:PySem.W.codeIn K (.ref c) x=true)(k:PySem.W.keepIn K (.ref f)=true)
  (a:PySem.W.nsIn K XW x=some (some (.ref f))) (b:∀us:List VT,us.length=ps.length->bindArgs (Nq st x m t c) {us,[]}=pure (ps.zip us)):Df K mg x st ps f (Nq st x m t c):={Ca l cd k,.all b,PySem.W.mg_of X G a}
noncomputable def KK:Params->PySem.W.Frag:=λP=>[(3,{cls:=.type "dict",data:=.dict #[kE P "__name__" 165 (vS "law_archrow_k13_planted_rows" 370),kE P "__doc__" 166 .none,kE P "__package__" 167 .none,kE P "__loader__" 168 (.builtin "__main__.__loader__#opaque"),kE P "__spec__" 169 .none,kE P "__annotations__" 170 (.ref 6),kE P "__builtins__" 171 (.ref 4),kE P "__file__" 173 (vS "/claim/cut.py" 172),kE P "__cached__" 174 .none,kE P "ArchError" 206 (.ref 24),kE P "NoStretch" 222 (.ref 37),kE P "stretches_rising" 230 (.ref 44),kE P "partners_of" 236 (.ref 49),kE P "parts_left" 245 (.ref 56),kE P "greatest_table" 251 (.ref 61),kE P "number_with" 262 (.ref 68),kE P "least_number" 268 (.ref 73),kE P "best_choices" 274 (.ref 78),kE P "first_greatest" 291 (.ref 85),kE P "ways_in" 302 (.ref 92),kE P "ways_by" 308 (.ref 97),kE P "most_ties" 317 (.ref 104),kE P "most_of" 327 (.ref 111),kE P "table_of" 334 (.ref 118),kE P "always_tied" 340 (.ref 123),kE P "how_many_most" 346 (.ref 128),kE P "one_each" 352 (.ref 133),kE P "choices_met" 369 (.ref 140),kE P "_law_hand" 378 (.ref 147),kE P "_law_take" 387 (.ref 154),kE P "_law_fits" 396 (.ref 161),kE P "_law_every_right" 402 (.ref 166),kE P "_law_pairs" 408 (.ref 171),kE P "_law_known_right" 414 (.ref 176),kE P "_law_star_right" 420 (.ref 181),kE P "_law_shape" 432 (.ref 188),kE P "law" 438 (.ref 193)] 37}),
 (43,kC "stretches_rising" 225 7 1 40 181 41 .none .none .none 42 228 229),
 (44,kF bM "stretches_rising" "archrow.stretches" 223 43),
 (48,kC "partners_of" 231 9 1 45 181 46 .none .none .none 47 234 235),
 (49,kF de "partners_of" "archrow.stretches" 223 48),
 (55,kC "parts_left" 237 15 3 50 181 51 .none (.ref 52) (.ref 53) 54 243 244),
 (56,kF dR "parts_left" "archrow.stretches" 223 55),
 (60,kC "greatest_table" 246 19 2 57 181 58 .none .none .none 59 249 250),
 (61,kF cg "greatest_table" "archrow.stretches" 223 60),
 (67,kC "number_with" 252 26 5 62 181 63 .none (.ref 64) (.ref 65) 66 260 261),
 (68,kF df "number_with" "archrow.stretches" 223 67),
 (72,kC "least_number" 263 28 5 69 181 70 .none .none .none 71 266 267),
 (73,kF cX "least_number" "archrow.stretches" 223 72),
 (77,kC "best_choices" 269 31 5 74 181 75 .none .none .none 76 272 273),
 (78,kF cY "best_choices" "archrow.stretches" 223 77),
 (84,kC "first_greatest" 275 37 5 79 181 80 .none (.ref 81) (.ref 82) 83 289 290),
 (85,kF cj "first_greatest" "archrow.stretches" 223 84),
 (91,kC "ways_in" 292 49 2 86 181 87 .none (.ref 88) (.ref 89) 90 300 301),
 (92,kF hX "ways_in" "archrow.stretches" 223 91),
 (96,kC "ways_by" 303 54 4 93 181 94 .none .none .none 95 306 307),
 (97,kF hZ "ways_by" "archrow.stretches" 223 96),
 (103,kC "most_ties" 311 57 1 98 181 99 .none (.ref 100) (.ref 101) 102 315 316),
 (104,kF e_ "most_ties" "archrow.kept" 309 103),
 (110,kC "most_of" 318 59 3 105 181 106 .none (.ref 107) (.ref 108) 109 325 326),
 (111,kF h8 "most_of" "archrow.kept" 309 110),
 (117,kC "table_of" 328 64 1 112 181 113 .none (.ref 114) (.ref 115) 116 332 333),
 (118,kF fQ "table_of" "archrow.kept" 309 117),
 (122,kC "always_tied" 335 66 1 119 181 120 .none .none .none 121 338 339),
 (123,kF dh "always_tied" "archrow.kept" 309 122),
 (127,kC "how_many_most" 341 73 1 124 181 125 .none .none .none 126 344 345),
 (128,kF cI "how_many_most" "archrow.kept" 309 127),
 (132,kC "one_each" 347 82 1 129 181 130 .none .none .none 131 350 351),
 (133,kF fR "one_each" "archrow.kept" 309 132),
 (139,kC "choices_met" 353 84 1 134 181 135 .none (.ref 136) (.ref 137) 138 367 368),
 (140,kF dg "choices_met" "archrow.kept" 309 139),
 (146,kC "_law_hand" 372 101 1 141 181 142 .none (.ref 143) (.ref 144) 145 376 377),
 (147,kF eg "_law_hand" "law_archrow_k13_planted_rows" 370 146),
 (153,kC "_law_take" 379 103 2 148 181 149 .none (.ref 150) (.ref 151) 152 385 386),
 (154,kF ee "_law_take" "law_archrow_k13_planted_rows" 370 153),
 (160,kC "_law_fits" 388 110 1 155 181 156 .none (.ref 157) (.ref 158) 159 394 395),
 (161,kF fS "_law_fits" "law_archrow_k13_planted_rows" 370 160),
 (165,kC "_law_every_right" 397 115 1 162 181 163 .none .none .none 164 400 401),
 (166,kF bT "_law_every_right" "law_archrow_k13_planted_rows" 370 165),
 (170,kC "_law_pairs" 403 125 1 167 181 168 .none .none .none 169 406 407),
 (171,kF fc "_law_pairs" "law_archrow_k13_planted_rows" 370 170),
 (175,kC "_law_known_right" 409 130 1 172 181 173 .none .none .none 174 412 413),
 (176,kF bS "_law_known_right" "law_archrow_k13_planted_rows" 370 175),
 (180,kC "_law_star_right" 415 144 2 177 181 178 .none .none .none 179 418 419),
 (181,kF cf "_law_star_right" "law_archrow_k13_planted_rows" 370 180),
 (187,kC "_law_shape" 421 149 2 182 181 183 .none (.ref 184) (.ref 185) 186 430 431),
 (188,kF fb "_law_shape" "law_archrow_k13_planted_rows" 370 187),
 (192,kC "law" 433 159 1 189 181 190 .none .none .none 191 436 437),
 (193,kF mx "law" "law_archrow_k13_planted_rows" 370 192)]
noncomputable abbrev HK:PySem.W.Hook:=PySem.W.kHook KK [3,43,44,48,49,55,56,60,61,67,68,72,73,77,78,84,85,91,92,96,97,103,104,110,111,117,118,122,123,127,128,132,133,139,140,146,147,153,154,160,161,165,166,170,171,175,176,180,181,187,188,192,193] (λ_=>by kernel_rfl)
noncomputable def view:V2:={PySem.Challenge.pw_archrow_k13_planted_rows with main:={PySem.Challenge.pw_archrow_k13_planted_rows.main with body:=[top 1,top 2,top 4,top 5,top 6,top 7,top 8,top 9,top 10,top 11,top 12,top 13,top 15,top 16,top 17,top 18,top 19,top 20,top 21,top 23,top 24,top 25,top 26,top 27,top 28,top 29,top 30,top 31]}}
def left:PySem.W.LeftO PySem.Challenge.pw_archrow_k13_planted_rows view [] (λs=>PySem.W.xlAt view [] s&&PySem.W.recOk (PySem.W.RowW.records PySem.Challenge.rw_archrow_k13_planted_rows.row.toRowW) s) HK.obs HK.val 2504:=λw=>by kernel_rfl
def all_mk {l:PySem.W.OpenLaw} (w:Wm) (mg:Str->Option VT) (fa:Addr) (h:Heap) (X:(KK w.params).In h) (G:h.Ns XW mg) (Uz:mg "law" = some (.ref fa))   :∃fd:WN,(∀(s:VY) (v:VT),BindsTo s fd {[v],[]} [("script",v)])/\∀base:Heap,(KK w.params).In base->base.Ns XW mg->aG l.prog w (KK w.params) mg base bu 45 fa fd ["script"] (Al (KK w.params)):=by
 have e:=Uz.symm.trans (PySem.W.mg_of X G (v:=.ref 193) (by kernel_rfl))
 cases e;have Lj:=PySem.W.mg_none_of X G (n:="max") (by kernel_rfl)
 have Li:=PySem.W.mg_none_of X G (n:="min") (by kernel_rfl)
 have Ll:=PySem.W.mg_none_of X G (n:="int") (by kernel_rfl)
 have Ew:=PySem.W.mg_none_of X G (n:="range") (by kernel_rfl)
 have Bt:=PySem.W.mg_none_of X G (n:="sorted") (by kernel_rfl)
 have Lh:=PySem.W.mg_none_of X G (n:="set") (by kernel_rfl)
 have Lk:=PySem.W.mg_none_of X G (n:="len") (by kernel_rfl)
 have Ik:=PySem.W.mg_none_of X G (n:="list") (by kernel_rfl)
 have qX:=PySem.W.mg_none_of X G (n:="isinstance") (by kernel_rfl)
 have Eu:=PySem.W.mg_none_of X G (n:="tuple") (by kernel_rfl)
 have Lg:=PySem.W.mg_none_of X G (n:="str") (by kernel_rfl)
 have Il:=PySem.W.mg_none_of X G (n:="bool") (by kernel_rfl)
 have Lc:=PySem.W.mg_none_of X G (n:="zip") (by kernel_rfl)
 have tG:=PySem.W.mg_none_of X G (n:="enumerate") (by kernel_rfl)
 have Lf:=PySem.W.mg_none_of X G (n:="sum") (by kernel_rfl)
 have B:=({{{(Lj),Li,Ll,Ew,Bt,Lh,Lk,Ik},qX,Eu,Lg,Il,Lc,tG},Lf}:oZ mg);exact⟨_,λs v=>.of_eq rfl,λbase _ _=>Ia (Ca (x:="law") (m:="law_archrow_k13_planted_rows") (st:=mx) (t:=370) (c:=192) (f:=193) (by kernel_rfl) (by kernel_rfl) (by kernel_rfl)) B (bP X G (x:="most_ties") (m:="archrow.kept") (st:=e_) (t:=309) (c:=103) (f:=104) (ps:=["row"]) (by kernel_rfl) (by kernel_rfl) (by kernel_rfl) (by kernel_rfl) (gB λ_=>rfl))
  (bP X G (x:="most_of") (m:="archrow.kept") (st:=h8) (t:=309) (c:=110) (f:=111) (ps:=["row","i","j"]) (by kernel_rfl) (by kernel_rfl) (by kernel_rfl) (by kernel_rfl) (Iw λ_ _ _=>rfl))
  (bP X G (x:="how_many_most") (m:="archrow.kept") (st:=cI) (t:=309) (c:=127) (f:=128) (ps:=["row"]) (by kernel_rfl) (by kernel_rfl) (by kernel_rfl) (by kernel_rfl) (gB λ_=>rfl))
  (bP X G (x:="ways_by") (m:="archrow.stretches") (st:=hZ) (t:=223) (c:=96) (f:=97) (ps:=["counts","choices","i","j"]) (by kernel_rfl) (by kernel_rfl) (by kernel_rfl) (by kernel_rfl) (Lr λ_ _ _ _=>rfl))
  (bP X G (x:="ways_in") (m:="archrow.stretches") (st:=hX) (t:=223) (c:=91) (f:=92) (ps:=["counts","parts"]) (by kernel_rfl) (by kernel_rfl) (by kernel_rfl) (by kernel_rfl) (yT λ_ _=>rfl))
  (bP X G (x:="always_tied") (m:="archrow.kept") (st:=dh) (t:=309) (c:=122) (f:=123) (ps:=["row"]) (by kernel_rfl) (by kernel_rfl) (by kernel_rfl) (by kernel_rfl) (gB λ_=>rfl))
  (bP X G (x:="choices_met") (m:="archrow.kept") (st:=dg) (t:=309) (c:=139) (f:=140) (ps:=["row"]) (by kernel_rfl) (by kernel_rfl) (by kernel_rfl) (by kernel_rfl) (gB λ_=>rfl))
  (bP X G (x:="table_of") (m:="archrow.kept") (st:=fQ) (t:=309) (c:=117) (f:=118) (ps:=["row"]) (by kernel_rfl) (by kernel_rfl) (by kernel_rfl) (by kernel_rfl) (gB λ_=>rfl))
  (bP X G (x:="greatest_table") (m:="archrow.stretches") (st:=cg) (t:=223) (c:=60) (f:=61) (ps:=["row","worth"]) (by kernel_rfl) (by kernel_rfl) (by kernel_rfl) (by kernel_rfl) (yT λ_ _=>rfl))
  (bP X G (x:="partners_of") (m:="archrow.stretches") (st:=de) (t:=223) (c:=48) (f:=49) (ps:=["row"]) (by kernel_rfl) (by kernel_rfl) (by kernel_rfl) (by kernel_rfl) (gB λ_=>rfl))
  (bP X G (x:="stretches_rising") (m:="archrow.stretches") (st:=bM) (t:=223) (c:=43) (f:=44) (ps:=["many"]) (by kernel_rfl) (by kernel_rfl) (by kernel_rfl) (by kernel_rfl) (gB λ_=>rfl))
  (bP X G (x:="least_number") (m:="archrow.stretches") (st:=cX) (t:=223) (c:=72) (f:=73) (ps:=["partners","worth","table","i","j"]) (by kernel_rfl) (by kernel_rfl) (by kernel_rfl) (by kernel_rfl) (EB λ_ _ _ _ _=>rfl))
  (bP X G (x:="number_with") (m:="archrow.stretches") (st:=df) (t:=223) (c:=67) (f:=68) (ps:=["worth","table","i","k","j"]) (by kernel_rfl) (by kernel_rfl) (by kernel_rfl) (by kernel_rfl) (EB λ_ _ _ _ _=>rfl))
  (bP X G (x:="one_each") (m:="archrow.kept") (st:=fR) (t:=309) (c:=132) (f:=133) (ps:=["row"]) (by kernel_rfl) (by kernel_rfl) (by kernel_rfl) (by kernel_rfl) (gB λ_=>rfl))
  (bP X G (x:="first_greatest") (m:="archrow.stretches") (st:=cj) (t:=223) (c:=84) (f:=85) (ps:=["row","worth","table","i","j"]) (by kernel_rfl) (by kernel_rfl) (by kernel_rfl) (by kernel_rfl) (EB λ_ _ _ _ _=>rfl))
  (bP X G (x:="best_choices") (m:="archrow.stretches") (st:=cY) (t:=223) (c:=77) (f:=78) (ps:=["partners","worth","table","i","j"]) (by kernel_rfl) (by kernel_rfl) (by kernel_rfl) (by kernel_rfl) (EB λ_ _ _ _ _=>rfl))
  (bP X G (x:="parts_left") (m:="archrow.stretches") (st:=dR) (t:=223) (c:=55) (f:=56) (ps:=["i","k","j"]) (by kernel_rfl) (by kernel_rfl) (by kernel_rfl) (by kernel_rfl) (Iw λ_ _ _=>rfl))
  (bP X G (x:="_law_hand") (m:="law_archrow_k13_planted_rows") (st:=eg) (t:=370) (c:=146) (f:=147) (ps:=["cell"]) (by kernel_rfl) (by kernel_rfl) (by kernel_rfl) (by kernel_rfl) (gB λ_=>rfl))
  (bP X G (x:="_law_take") (m:="law_archrow_k13_planted_rows") (st:=ee) (t:=370) (c:=153) (f:=154) (ps:=["hand","many"]) (by kernel_rfl) (by kernel_rfl) (by kernel_rfl) (by kernel_rfl) (yT λ_ _=>rfl))
  (bP X G (x:="_law_fits") (m:="law_archrow_k13_planted_rows") (st:=fS) (t:=370) (c:=160) (f:=161) (ps:=["half"]) (by kernel_rfl) (by kernel_rfl) (by kernel_rfl) (by kernel_rfl) (gB λ_=>rfl))
  (bP X G (x:="_law_pairs") (m:="law_archrow_k13_planted_rows") (st:=fc) (t:=370) (c:=170) (f:=171) (ps:=["many"]) (by kernel_rfl) (by kernel_rfl) (by kernel_rfl) (by kernel_rfl) (gB λ_=>rfl))
  (bP X G (x:="_law_every_right") (m:="law_archrow_k13_planted_rows") (st:=bT) (t:=370) (c:=165) (f:=166) (ps:=["many"]) (by kernel_rfl) (by kernel_rfl) (by kernel_rfl) (by kernel_rfl) (gB λ_=>rfl))
  (bP X G (x:="_law_known_right") (m:="law_archrow_k13_planted_rows") (st:=bS) (t:=370) (c:=175) (f:=176) (ps:=["many"]) (by kernel_rfl) (by kernel_rfl) (by kernel_rfl) (by kernel_rfl) (gB λ_=>rfl))
  (bP X G (x:="_law_star_right") (m:="law_archrow_k13_planted_rows") (st:=cf) (t:=370) (c:=180) (f:=181) (ps:=["many","middle"]) (by kernel_rfl) (by kernel_rfl) (by kernel_rfl) (by kernel_rfl) (yT λ_ _=>rfl))
  (bP X G (x:="_law_shape") (m:="law_archrow_k13_planted_rows") (st:=fb) (t:=370) (c:=187) (f:=188) (ps:=["hand","many"]) (by kernel_rfl) (by kernel_rfl) (by kernel_rfl) (by kernel_rfl) (yT λ_ _=>rfl))⟩
end qj
abbrev PySem.W.Fast.tw7649995470410761518:PySem.Program:=PySem.Challenge.pw_archrow_k13_planted_rows
def PySem.W.Fast.te7649995470410761518:PySem.Challenge.pw_archrow_k13_planted_rows=PySem.W.Fast.tw7649995470410761518:=rfl
open PySem PySem.W PyProof.Rows
set_option maxRecDepth 100000 in
set_option maxHeartbeats 0 in
theorem PySem.Challenge.cw_archrow_k13_planted_rows_holds : PySem.Challenge.rw_archrow_k13_planted_rows.Holds := by
 w_on;o_law
 refine holds_open (q:=qj.view) (loose:=[]) (Xt:=λs=>xlAt qj.view [] s&&recOk (RowW.records PySem.Challenge.rw_archrow_k13_planted_rows.row.toRowW) s) (XP:=XL qj.view []) (Yf:=qj.HK.obs) (Ya:=qj.HK.val) (YP:=λw h=>(qj.KK w.params).In h) (N:=2504) qj.left qj.HK.of qj.HK.keeps (λs e=>xl_of s (YT.mp e).1) XL.keeps (by rfl) (by rfl) (by rfl) (λs e=>recFacts_of (YT.mp e).2) (by rfl) (by first|assumption|decide +kernel) (by decide +kernel) {rfl,rfl,rfl,rfl,rfl,by decide +kernel} ?hw ?hc
 (case hw=>w_witness2)
 case hc =>
  exact L2.Ds (l:=PySem.Challenge.rw_archrow_k13_planted_rows) (K:=qj.KK) (n:=63) (k:=45) (x:="script") (CX:=λ_=>L2.bu) (sp:=λw=>qj.Al (qj.KK w.params)) rfl (by decide) rfl {rfl,by decide,by decide} (λw h Y=>Y) qj.all_mk (λ_ _ a ns hl _ hS=>{a,ns,rfl,hS,hl,λ_=>rfl}) λ_ _ _ _ _ z=>z
#print axioms PySem.Challenge.cw_archrow_k13_planted_rows_holds
