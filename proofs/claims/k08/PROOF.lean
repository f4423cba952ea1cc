import PyProof.Rows.All
import Wide.All
import OpenK.AllK
import Wide.FinOn
import OpenK.KLine
import Lean
import PyProof.EqAt
import PyProof.EqKinds
import PyProof.TupleCall
import PyProof.Rows.SortShell
import PyProof.Rows.SortWalk
import PyProof.CompFree
import PyProof.Rows.SortRuns
import PyProof.EqLayable
import PyProof.NeData
import PyProof.P3In
import PyProof.ZipIter
import PyProof.EnumMake
import PyProof.EnumFor
import PyProof.Rows.Range3
import PyProof.AttrMissSeq
import KE.KDictOf
import PyProof.Rows.SeqMore
import PyProof.ConsumeWalk
import KE.IntBitsLaws
import PyProof.ListNew
import PySem.Challenge.RW_archrow_k08_papers_judged
set_option Elab.async false
set_option linter.all false
set_option maxRecDepth 100000
set_option maxHeartbeats 4000000
set_option compiler.extract_closed false
open List renaming length_map->TX,getElem?_eq_getElem->T5,getElem?_map->T6,range->T8,mem_singleton->T_,getElem?_eq_some_iff->Ua,mem_cons->Uc,length_append->Ui,length_cons->Um,mem_append->Uq,length_take->Ut,length_range->Uw,map_append->Ux,map_cons->Uy,mem_cons_self->Uz,mem_cons_of_mem->UA,size_toArray->UB,getD_eq_getElem?_getD->UE,mem_map->UG,getElem?_eq_none->UK,replicate->UL,nodup_cons->UM,mem_of_getElem?->UO,mem_append_right->UP,mem_filter->UX,getElem?_append_right->UZ,take_add_one->U0,append_assoc->U4,map_congr_left->U5,nodup_append->U9,mem_range->U_,map_map->Va,filterMap_cons->Vb,take_length->Vd,nodup_nil->Ve,mem_append_left->Vg,getElem?_append_left->Vh,take_of_length_le->Vi,filter_cons->Vj,ext_getElem?->Vm,append_nil->Vo,lookup_cons->Vp,length_filter_le->Vr,find?_cons->Vu,length_drop->Vv,replicate_succ->Vx,drop_eq_getElem_cons->Vy,getElem_mem->Vz,filter_append->VA,getElem?_range->VG,not_mem_nil->VJ,pairwise_cons->VM,take_append_drop->VN,foldl_cons->VO,pairwise_map->VP,getElem?_set->VQ,flatten_cons->VR,getElem?_cons_succ->VY,set_set->V0,sum_cons->V4,length_singleton->V5,getElem?_of_mem->V9,all_eq_true->Wf,getElem?_take_of_lt->Wm,set_eq_take_append_cons_drop->Wu,map_take->WE,mem_of_mem_take->WJ,zip_cons_cons->WT,mem_filterMap->WU,getElem?_drop->WV,pairwise_iff_getElem->WW,extract_eq_take_drop->WX,any_eq_false->W3,map_drop->W_,perm_middle->Xf,filter_eq_nil_iff->Xi,drop_of_length_le->Xj,range_succ->Xp,of_mem_zip->Xq,length_set->Xr,getElem?_toArray->Xv,filterMap_append->Xw,getElem_of_mem->XI,flatMap_append->XJ,length_zipIdx->XX,zip_nil_left->X9,cons_append->Ye,any_eq_true->Yg,take_succ->YA,mem_or_eq_of_mem_set->YI,getElem?_eq_none_iff->YJ
open PySem renaming Value->TY,wpAny_bind->TZ,Shared->T3,Program->T7,wpAny_pure->Uj,sizeLine->Ul,starEach->Up,World->Ur,wpAny->UQ,foldedSetIterable->UU,FuncData->UW,bootBuiltins->U1,Around->U6,sizeLine_eq->U8,wpAny_holding->Vs,mainGlobals->VC,wpAny_setState_of->VD,swapsWith->VI,binaryOp->VL,backTo->VT,assignEach->VU,compareOp->VW,wpAny_standAt->V2,behindInMarks->V3,wpAny_call_entry->Wc,Scope->Wg,attributeBase->Wi,Comprehension->Wo,Builtin->Wr,wpAny_Call_Name_kw->Ws,wpAny_newObj_type->Wv,codeAny_mono->Wx,wpAny_rule->WA,sliceBounds->WG,NameKind->WI,wpAny_passesOwn->WK,cLine->WN,wpAny_mono->WQ,sysModules->WR,codeAny->WZ,Keyword->W4,wpAny_askSetting->Xc,tupleKind->Xd,letOwnedTupleGo->Xn,codeAny_builtin->Xo,keywordEach->XA,standAt->XF,wpAny_setEntries_of->XH,swapsWithSole->XO,swappedStores->XQ,pyNext->XR,pyIter->XS,call_meets->XT,Params->XU,wpAny_truthy_bool->X0,wpAny_pyIter_list->X1,valueAt->X2,callerA->X3,wpAny_forIn_list->Yb,treeTable->Yc,IsRangeIter->Ym,wpAny_loadPart'->Yo,wpAny_execs_nil->Yp,codeAny_of_tree->Yq,isSubtype_type->Yu,backToKw->Yx,atKey->Yy,GenState->YB
open Nat renaming le_refl->T4,zero_le->Uh,ne_of_lt->UI,lt_of_lt_of_le->US,le_trans->U3,lt_or_ge->Vt,zero_add->We,lt_succ_of_lt->Wz,lt_irrefl->WD,pow_le_pow_right->WH,sub_self->WO,mod_lt->WS,pow_succ->Xh,pow_pos->XB,lt_trichotomy->X8,mod_eq_of_lt->Yd,one_mul->Yk,mod_mul->Yl,not_lt_zero->Yr,mul_le_mul->Yz
open PyProof.Rows renaming Keyed->Ub,wpS_bind->Ug,wpS_pure->Uo,pendingOf->UC,SortSt->UH,arrOf->UN,wpS_forRange->U7,setArr->Vk,callWith_type1->Vl,wpS_mono->VB,seqObj->VV,wpS_modify->V6,SortKind->Wj,failedOf->Ww,setPending->WB,wpS_get->WY,envOfC->W7,IntsAre->Xk,AllBare->Xm,wpS_lift->Xz,boot_range->Yv
open PySem.Heap renaming get?_push_of_some->Ud,lt_size->Us,get?_push_size->UT,SameBut->VS,size_push->XC
open Array renaming length_toList->Ue,getD_eq_getD_getElem?->Uu,getElem?_toList->Uv,toList_append->Vq,toList_push->VF,getElem?_eq_none->VH,perm_iff_toList_perm->Wa,size_setIfInBounds->Xb,getElem?_setIfInBounds_self_of_lt->Xy,toList_extract->XD,getElem?_setIfInBounds_ne->X_,toList_zip->Yh,size_zip->YE,size_map->YF,mk->YG
open Option renaming map_eq_some_iff->Uk,bind_eq_some_iff->Vc,bind_some->VX,map_some->WM,isNone_iff_eq_none->YH
open Option.some renaming inj->UD,injEq->X7
open Decidable renaming by_contra->UJ
open PySem.PassesOwn renaming never->UR
open PySem.NameKind renaming free->UY,cell->Wl
open Bool renaming and_eq_true->Vf,false_ne_true->Vn,eq_iff_iff->V1,not_eq_true'->W6,not_eq_false'->XY,false_eq_true->XZ
open PySem.PyData renaming canLay0->Vw,eqv->V7,canLayAll0->Wy,depthAll->WL,eqvAll->W9,depth->X6
open Int renaming eq_ofNat_of_zero_le->VE,toNat_natCast->W5,zero_add->Xl,toNat_of_nonneg->XM,le_refl->Yn
open PySem.Builtin.Range renaming rangeSize->VZ
open PySem.Obj renaming mapSeq->V8,putSet->XW
open False renaming elim->V_
open Ne renaming symm->Wd
open Classical renaming byContradiction->Wh
open PySem.Builtin.List renaming listTooLong->Wq,listLengthHint->Yt
open PySem.W renaming boot_heap->Wt,boot_drawn->Yw
open True renaming intro->WC
open PyProof renaming noPylong_of_log2->W8
open PySem.Code renaming compLoop->Xa,compStart->YC
open PySem.SeqAt renaming canLay_of_shaped->Xe
open Nat.succ renaming inj->Xg
open List.Perm renaming of_eq->Xs,append_left->Xx
open ForInStep renaming yield->Xu
open PySem.Around renaming under_plainId->XE
open Sum renaming inl->XG,inr->X5
open PySem.Heap.SameBut renaming update->XN
open PySem.Value renaming isInt_shape->X4,isInt->Yi
open Prod.mk renaming inj->Yj
open Array.Perm renaming refl->Ys
open PySem.Calls renaming Name_function_global->YD,call_function_entry->YK
noncomputable section
namespace L2
open PySem PySem.Spec PyProof.Rows
def jR (s:Stmt):Arguments:=match s with
 |.FunctionDef _ a _ _ _ _ _ _ _ _=>a
 |_=>{posonlyargs:=[],args:=[],vararg:=none,kwonlyargs:=[],kw_defaults:=[],kwarg:=none,defaults:=[]}
def di (s:Stmt):List Stmt:=match s with
 |.FunctionDef _ _ b _ _ _ _ _ _ _=>b
 |_=>[]
def aC (s:Stmt):Wg:=match s with
 |.FunctionDef _ _ _ _ _ _ sc _ _ _=>sc
 |_=>{kind:=.function,names:=[],isGenerator:=false,isCoroutine:=false}
end L2
namespace L2.Hd
open PySem PySem.W PySem.Spec PyProof.Rows
noncomputable def gR (tb:String->Option Wr)(p:T7)(w:Ur)(n₀:Nat)(ann:Option TY):Nat->SharedT->Thread->Option SharedT
 |0,_,_=>none
 |n+1,s,t=>match through t with
  |true=>some s
  |false=>match stepOk n₀ ann t with
   |false=>none
   |true=>match stepT (denote tb) p w s t with
    |some (s',t')=>gR tb p w n₀ ann n s' t'
    |none=>none
theorem j7 {tb:String->Option Wr}{p:T7}{w:Ur}{n₀:Nat}{ann:Option TY}:∀{n:Nat} {s s':SharedT} {t:Thread},gR tb p w n₀ ann n s t=some s'->topRun tb p w n₀ ann n s.abs t=some s'.abs
 |0,_,_,_,g=>by cases g
 |n+1,s,s',t,g=>by
  unfold gR at g;unfold topRun;cases ht:through t with
  |true=>rw[ht]at g;cases g;rfl
  |false =>
   rw[ht]at g;cases hk:stepOk n₀ ann t with
   |false=>rw[hk]at g;cases g
   |true =>
    rw[hk]at g;cases hq:stepT (denote tb) p w s t with
    |none=>rw[hq]at g;cases g
    |some r=>obtain⟨s₂,t₂⟩:=r;rw[hq]at g;dsimp only;rw[stepT_spec hq];exact j7 g
noncomputable def Ko (P:XU):BT:=((Wt P).objs.toList.foldl (λ(x:BT×Nat) o=>(x.1.ins x.2 o,x.2+1)) (.nil,0)).1
noncomputable def zY (w:Ur)(os:OsState):SharedT:=⟨Ko w.params,11,(Wt w.params).life,YG [],Yw,boot_toks,os⟩
theorem boot_abs (w:Ur)(os:OsState):(zY w os).abs=⟨Wt w.params,YG [],Yw,boot_toks,os⟩:=by kernel_rfl
theorem Cz (P:XU):((Wt P).isNs VC&&((YG []:Array YB).size==0))=true:=by kernel_rfl
theorem wH (P:XU):(Wt P).objs.size=11:=by kernel_rfl
theorem zX (P:XU):(Wt P).nsMap VC "__annotations__" = some (.ref 6):=by kernel_rfl
def ends (p:T7)(h0:Heap)(s₁:T3):Option T3:=match staticsOk (importedModules p.main.body) h0 s₁.heap&&namesBound p s₁.heap&&gensDone s₁&&laidKept h0 s₁.heap with
 |true=>some s₁
 |false=>none
theorem vM {p q:T7}{loose:List Str}{Xt:T3->Bool}{α:Type}{Yf:T3->α}{Ya:Ur->α}{N:Nat}{g0:Bool}
  (g1:opening p=plainProg p.main.scope.names) (g2:Nat.ble 600 N=true) (g3:∀s,fenceModules? p s=some s)
  (g4:∀(w:Ur) (os:OsState),((gR Yc p w 11 (some (.ref 6)) N (zY w os) (topStub p)).bind λs₁=>ends p (Wt w.params) s₁.abs).map (λs=>(openSeen q loose (importedModules p.main.body) Xt g0 s,Yf s))=some (openGood q loose,Ya w)) :
  LeftO p q loose Xt Yf Ya N g0:=λw=>by
 obtain⟨⟨hp,gs,dr,tk,os⟩,e,v⟩:=Uk.mp (boot_open (N:=N) g1 g2 g3 w);obtain⟨v1,v⟩:=Yj v;obtain⟨v2,v⟩:=Yj v;obtain⟨v3,v4⟩:=Yj v;dsimp only at v1 v2 v3 v4;subst v1 v2 v3 v4;have g:=g4 w os;unfold openEnds;rw[e];show (topFrom Yc p w N _).map _=_;have t:topFrom Yc p w N ⟨Wt w.params,YG [],Yw,boot_toks,os⟩=(topRun Yc p w 11 (some (.ref 6)) N ⟨Wt w.params,YG [],Yw,boot_toks,os⟩ (topStub p)).bind (ends p (Wt w.params)):=by
  unfold topFrom;rw[Cz];dsimp only;rw[wH,zX];rfl
 rw[t];cases hT:gR Yc p w 11 (some (.ref 6)) N (zY w os) (topStub p)with
 |none=>rw[hT]at g;cases g
 |some s₁ =>
  have r:=j7 hT;rw[boot_abs]at r;rw[hT]at g;rw[r];exact g
end L2.Hd
namespace jw
open PySem L2
def top (i:Nat):Stmt:=PySem.Challenge.pw_archrow_k08_papers_judged.main.body.getD i (.Pass ⟨0,0,0,0⟩)
abbrev bK:Stmt:=top 1
abbrev cS:Stmt:=top 2
abbrev dP:Stmt:=top 3
abbrev cU:Stmt:=top 4
abbrev cV:Stmt:=top 5
abbrev cA:Stmt:=top 6
abbrev cT:Stmt:=top 8
abbrev eT:Stmt:=top 9
abbrev dv:Stmt:=top 11
abbrev du:Stmt:=top 12
abbrev eW:Stmt:=top 13
abbrev eU:Stmt:=top 14
abbrev fW:Stmt:=top 15
abbrev dN:Stmt:=top 16
abbrev df:Stmt:=top 17
abbrev de:Stmt:=top 18
abbrev eV:Stmt:=top 19
abbrev dc:Stmt:=top 20
abbrev dO:Stmt:=top 21
abbrev kn:Stmt:=top 22
noncomputable abbrev vS (x:Str)(t:Nat):TY:=.str x t
noncomputable abbrev kE (P:XU)(x:Str)(t:Nat)(v:TY):DictEntry:=⟨PyData.keyHash P x,.str x t,v⟩
noncomputable abbrev kC (n:Str)(t l p r8 Q9 QH:Nat)(Qb Qa P_:TY)(QG Q8 Qq:Nat):Obj:={cls:=.type "code",data:=.fields #[vS n t,vS n (t+1),vS "/claim/cut.py" (t+2),.int l 0,.int p 0,.int 0 0,.int 0 0,.int 3 0,.ref r8,.bool true,.int Q9 0,.ref QH,Qb,Qa,P_,.ref QG,.int Q8 0,.int l 0,vS "/claim/cut.py" Qq]}
noncomputable abbrev KY (st:Stmt)(x m:Str)(t c:Nat):UW:=PySem.W.fnOf x x (jR st) (di st) (aC st) .none .none .none (vS m t) none (.ref c) .none
noncomputable abbrev kF (st:Stmt)(x m:Str)(t c:Nat):Obj:={cls:=.type "function",data:=.func (KY st x m t c)}
noncomputable def KK:XU->PySem.W.Frag:=λP=>[(3,{cls:=.type "dict",data:=.dict #[kE P "__name__" 165 (vS "law_archrow_k08_papers_judged" 246),kE P "__doc__" 166 .none,kE P "__package__" 167 .none,kE P "__loader__" 168 (.builtin "__main__.__loader__#opaque"),kE P "__spec__" 169 .none,kE P "__annotations__" 170 (.ref 6),kE P "__builtins__" 171 (.ref 4),kE P "__file__" 173 (vS "/claim/cut.py" 172),kE P "__cached__" 174 .none,kE P "stretches_rising" 194 (.ref 19),kE P "partners_of" 200 (.ref 24),kE P "has_shape" 206 (.ref 29),kE P "paper_holds" 212 (.ref 34),kE P "number_with" 223 (.ref 41),kE P "least_number" 229 (.ref 46),kE P "paper_shows" 239 (.ref 53),kE P "one_each" 245 (.ref 58),kE P "_law_hand" 254 (.ref 65),kE P "_law_take" 263 (.ref 72),kE P "_law_arcs" 275 (.ref 79),kE P "_law_ties" 281 (.ref 84),kE P "_law_row" 289 (.ref 91),kE P "_law_table" 295 (.ref 96),kE P "_law_copied" 302 (.ref 103),kE P "_law_let_by" 308 (.ref 108),kE P "_law_bent" 327 (.ref 115),kE P "_law_papers" 333 (.ref 120),kE P "_law_right" 339 (.ref 125),kE P "law" 354 (.ref 132)] 29}),
 (18,kC "stretches_rising" 189 2 1 15 181 16 .none .none .none 17 192 193),
 (19,kF bK "stretches_rising" "archrow.stretches" 187 18),
 (23,kC "partners_of" 195 4 1 20 181 21 .none .none .none 22 198 199),
 (24,kF cS "partners_of" "archrow.stretches" 187 23),
 (28,kC "has_shape" 201 10 2 25 181 26 .none .none .none 27 204 205),
 (29,kF dP "has_shape" "archrow.stretches" 187 28),
 (33,kC "paper_holds" 207 12 3 30 181 31 .none .none .none 32 210 211),
 (34,kF cU "paper_holds" "archrow.stretches" 187 33),
 (40,kC "number_with" 213 20 5 35 181 36 .none (.ref 37) (.ref 38) 39 221 222),
 (41,kF cV "number_with" "archrow.stretches" 187 40),
 (45,kC "least_number" 224 22 5 42 181 43 .none .none .none 44 227 228),
 (46,kF cA "least_number" "archrow.stretches" 187 45),
 (52,kC "paper_shows" 232 26 2 47 181 48 .none (.ref 49) (.ref 50) 51 237 238),
 (53,kF cT "paper_shows" "archrow.kept" 230 52),
 (57,kC "one_each" 240 28 1 54 181 55 .none .none .none 56 243 244),
 (58,kF eT "one_each" "archrow.kept" 230 57),
 (64,kC "_law_hand" 248 31 1 59 181 60 .none (.ref 61) (.ref 62) 63 252 253),
 (65,kF dv "_law_hand" "law_archrow_k08_papers_judged" 246 64),
 (71,kC "_law_take" 255 33 2 66 181 67 .none (.ref 68) (.ref 69) 70 261 262),
 (72,kF du "_law_take" "law_archrow_k08_papers_judged" 246 71),
 (78,kC "_law_arcs" 264 40 2 73 181 74 .none (.ref 75) (.ref 76) 77 273 274),
 (79,kF eW "_law_arcs" "law_archrow_k08_papers_judged" 246 78),
 (83,kC "_law_ties" 276 50 2 80 181 81 .none .none .none 82 279 280),
 (84,kF eU "_law_ties" "law_archrow_k08_papers_judged" 246 83),
 (90,kC "_law_row" 282 72 1 85 181 86 .none (.ref 87) (.ref 88) 89 287 288),
 (91,kF fW "_law_row" "law_archrow_k08_papers_judged" 246 90),
 (95,kC "_law_table" 290 77 1 92 181 93 .none .none .none 94 293 294),
 (96,kF dN "_law_table" "law_archrow_k08_papers_judged" 246 95),
 (102,kC "_law_copied" 296 94 1 97 181 98 .none (.ref 99) (.ref 100) 101 300 301),
 (103,kF df "_law_copied" "law_archrow_k08_papers_judged" 246 102),
 (107,kC "_law_let_by" 303 96 2 104 181 105 .none .none .none 106 306 307),
 (108,kF de "_law_let_by" "law_archrow_k08_papers_judged" 246 107),
 (114,kC "_law_bent" 309 113 2 109 181 110 .none (.ref 111) (.ref 112) 113 325 326),
 (115,kF eV "_law_bent" "law_archrow_k08_papers_judged" 246 114),
 (119,kC "_law_papers" 328 135 2 116 181 117 .none .none .none 118 331 332),
 (120,kF dc "_law_papers" "law_archrow_k08_papers_judged" 246 119),
 (124,kC "_law_right" 334 152 2 121 181 122 .none .none .none 123 337 338),
 (125,kF dO "_law_right" "law_archrow_k08_papers_judged" 246 124),
 (131,kC "law" 340 160 1 126 181 127 .none (.ref 128) (.ref 129) 130 352 353),
 (132,kF kn "law" "law_archrow_k08_papers_judged" 246 131)]
noncomputable abbrev HK:PySem.W.Hook:=PySem.W.kHook KK [3,18,19,23,24,28,29,33,34,40,41,45,46,52,53,57,58,64,65,71,72,78,79,83,84,90,91,95,96,102,103,107,108,114,115,119,120,124,125,131,132] (λ_=>by kernel_rfl)
noncomputable def view:T7:={PySem.Challenge.pw_archrow_k08_papers_judged with main:={PySem.Challenge.pw_archrow_k08_papers_judged.main with body:=[top 1,top 2,top 3,top 4,top 5,top 6,top 8,top 9,top 11,top 12,top 13,top 14,top 15,top 16,top 17,top 18,top 19,top 20,top 21,top 22]}}
theorem left:PySem.W.LeftO PySem.Challenge.pw_archrow_k08_papers_judged view [] (λs=>PySem.W.xlAt view [] s&&PySem.W.recOk (PySem.W.RowW.records PySem.Challenge.rw_archrow_k08_papers_judged.row.toRowW) s) HK.obs HK.val 1340:=L2.Hd.vM (by kernel_rfl) (by kernel_rfl) (λ_=>rfl) (λw os=>by kernel_rfl)
end jw
namespace L2
open PySem PySem.Spec PyProof.Rows
abbrev Key:=Sum Int Str
def mM:Key->TY->Bool
 |.inl k,v=>Yi k v
 |.inr x,v=>Value.isStrOf x v
def My (w:Ur):Key->Int
 |.inl k=>hashInt k
 |.inr x=>hashStr w x
theorem bA:∀{k:Key} {v:TY},mM k v=true->(∃i t,k=XG i/\v=Value.int i t)\/(∃x t,k=X5 x/\v=Value.str x t)
 |.inl i,v,h=>by
  obtain⟨t,e⟩:=X4 (k:=i) (v:=v) h;exact .inl ⟨i,t,rfl,e⟩
 |.inr x,v,h=>by
  obtain⟨t,e⟩:=Value.isStrOf_shape (x:=x) (v:=v) h;exact .inr ⟨x,t,rfl,e⟩
theorem vP (i:Int)(t:Tok):mM (.inl i) (.int i t)=true:=by simp[mM,Yi]
theorem vO (x:Str)(t:Tok):mM (.inr x) (.str x t)=true:=by simp[mM,Value.isStrOf]
theorem Fg (a b:Int):decide ((XG a:Key)=XG b)=(a==b):=by
 by_cases e:a=b
 ·subst e;simp
 ·have h:¬ (XG a:Key)=XG b:=λq=>e (Sum.inl.inj q);rw[decide_eq_false h];exact(beq_eq_false_iff_ne.mpr e).symm
theorem Fd (a b:Str):decide ((X5 a:Key)=X5 b)=decide (a=b):=by
 by_cases e:a=b
 ·subst e;simp
 ·have h:¬ (X5 a:Key)=X5 b:=λq=>e (Sum.inr.inj q);rw[decide_eq_false h,decide_eq_false e]
theorem Ff (a:Int)(b:Str):decide ((XG a:Key)=X5 b)=false:=decide_eq_false (λq=>nomatch q)
theorem Fe (a:Str)(b:Int):decide ((X5 a:Key)=XG b)=false:=decide_eq_false (λq=>nomatch q)
def cf (prog:T7)(w:Ur):PySem.KeyKind prog w Key where
 is:=mM
 hash:=My w
 inj:=λv a b ha hb=>by
  rcases bA ha with⟨i,t,rfl,rfl⟩|⟨x,t,rfl,rfl⟩
  ·rcases bA hb with⟨j,u,rfl,e⟩|⟨y,u,rfl,e⟩
   ·injection e with e1 _;rw[e1]
   ·exact nomatch e
  ·rcases bA hb with⟨j,u,rfl,e⟩|⟨y,u,rfl,e⟩
   ·exact nomatch e
   ·injection e with e1 _;rw[e1]
 byValue:=λk v h=>by
  rcases bA h with⟨i,t,rfl,rfl⟩|⟨x,t,rfl,rfl⟩ <;> rfl
 pyHash:=λhv h=>by
  rcases bA hv with⟨i,t,rfl,rfl⟩|⟨x,t,rfl,rfl⟩
  ·exact wpAny_pyHash_int h
  ·exact wpAny_pyHash_str h
 eqBool:=λhu hv h=>by
  rcases bA hu with⟨i,t,rfl,rfl⟩|⟨x,t,rfl,rfl⟩
  ·rcases bA hv with⟨j,u,rfl,rfl⟩|⟨y,u,rfl,rfl⟩
   ·rw[Fg]at h;exact wpAny_eqBool_int h
   ·rw[Ff]at h;exact SeqAt.EqAt.int_str i t y u _ _ _ _ h
  ·rcases bA hv with⟨j,u,rfl,rfl⟩|⟨y,u,rfl,rfl⟩
   ·rw[Fe]at h;exact SeqAt.EqAt.str_int x t j u _ _ _ _ h
   ·rw[Fd]at h;exact wpAny_eqBool_str h
 «strs»:=λk x t v h=>by
  rcases bA h with⟨i,u,rfl,e⟩|⟨y,u,rfl,e⟩
  ·exact nomatch e
  ·injection e with e1 _
   subst e1;cases v <;> rfl
theorem pX (prog:T7)(w:Ur)(i:Int)(t:Tok):(cf prog w).is (.inl i) (.int i t)=true:=vP i t
theorem pW (prog:T7)(w:Ur)(x:Str)(t:Tok):(cf prog w).is (.inr x) (.str x t)=true:=vO x t
inductive V where
 |cE|bl (b:Bool)|int (i:Int)|str (x:Str)|Cu (b:Array UInt8)|GU (b:UInt64)|ref (a:Addr)|ty (n:String)
 deriving DecidableEq
def RelV:V->TY->Prop
 |.cE,u=>u=Value.none
 |.bl b,u=>u=Value.bool b
 |.int i,u=>∃t,u=Value.int i t
 |.str x,u=>∃t,u=Value.str x t
 |.Cu b,u=>∃t,u=Value.bytes b t
 |.GU b,u=>∃t,u=Value.float b t
 |.ref a,u=>u=Value.ref a
 |.ty n,u=>u=Value.type n
abbrev Vals:List V->List TY->Prop:=Paired RelV
theorem Vals.length {xs:List V}{us:List TY}(r:Vals xs us):xs.length=us.length:=Paired.length r
theorem Vals.get:∀{xs:List V} {us:List TY} {i:Nat} {x:V},Vals xs us->xs[i]?=some x->∃u,us[i]?=some u/\RelV x u
 |_,_,_,_,.nil,e=>by simp at e
 |_,_,0,_,.cons r _,e=>by simp at e;subst e;exact⟨_,rfl,r⟩
 |_,_,i+1,x,.cons _ t,e=>by
  obtain⟨u,h1,h2⟩:=Vals.get (i:=i) (x:=x) t (by simpa using e)
  exact⟨u,by simpa using h1,h2⟩
theorem Vals.set {x:V}{u:TY}(r:RelV x u):∀{xs:List V} {us:List TY} (i:Nat),Vals xs us->Vals (xs.set i x) (us.set i u)
 |_,_,_,.nil=>.nil
 |_,_,0,.cons _ t=>.cons r t
 |_,_,i+1,.cons q t=>.cons q (Vals.set r i t)
theorem Vals.append:∀{xs ys:List V} {us ws:List TY},Vals xs us->Vals ys ws->Vals (xs++ys) (us++ws)
 |_,_,_,_,.nil,s=>s
 |_,_,_,_,.cons r t,s=>.cons r (Vals.append t s)
theorem Vals.take:∀{xs:List V} {us:List TY} (n:Nat),Vals xs us->Vals (xs.take n) (us.take n)
 |_,_,0,_=>.nil
 |_,_,_+1,.nil=>.nil
 |_,_,n+1,.cons r t=>.cons r (Vals.take n t)
theorem Vals.drop:∀{xs:List V} {us:List TY} (n:Nat),Vals xs us->Vals (xs.drop n) (us.drop n)
 |_,_,0,r=>r
 |_,_,_+1,.nil=>.nil
 |_,_,n+1,.cons _ t=>Vals.drop n t
theorem Vals.none_of:∀{xs:List V} {us:List TY} {i:Nat},Vals xs us->xs[i]?=none->us[i]?=none:=λ{xs us i} r e=>by
 have h1:=r.length;have h2:xs.length<=i:=YJ.mp e;exact YJ.mpr (by lia)
def lN:Option V->Option TY->Prop
 |some v,some u=>RelV v u
 |none,none=>True
 |_,_=>False
def KV {κ:Type}:List (κ×V)->List (κ×TY)->Prop:=Paired λ(p:κ×V) (q:κ×TY)=>p.1=q.1/\RelV p.2 q.2
def kV:Key->V
 |.inl i=>.int i
 |.inr x=>.str x
inductive HO where
 |lst (xs:List V)
 |tup (xs:List V)
 |dK (kvs:List (Key×V))|dT (kvs:List (List Key×V))
 |set (S:Int->Bool) (n:Nat)
 |ins (C dx:Addr) (fs:List (Str×V))
 |own (x:Addr)
 |xd (fs:List (Str×V))
 |met (f x:Addr)
 |LP (lo hi:Int)
 |uq (o:Obj) (u:HO)
 |Eb (ps:Array TY)
 |ext (φ:Heap->Prop)
abbrev Hp:=Addr->Option HO
def upd (H:Hp)(a:Addr)(o:HO):Hp:=λb=>if b=a then some o else H b
theorem ar {H:Hp}{a:Addr}{o:HO}:upd H a o a=some o:=by unfold upd;rw[if_pos rfl]
theorem aw {H:Hp}{a b:Addr}{o:HO}(h:b≠a):upd H a o b=H b:=by unfold upd;rw[if_neg h]
theorem CZ {H:Hp}{a b:Addr}{o u:HO}(h:H a=some o)(h':H b=some u)(d:o≠u):a≠b:=by
 intro e;subst e;rw[h]at h';exact d (UD h')
theorem cn {H:Hp}{a b:Addr}{o:HO}(h:H a=some o)(h':H b=none):a≠b:=by
 intro e;subst e;rw[h]at h';cases h'
section
variable (P:T7)(w:Ur)
def bD (H:Hp)(h:Heap)(a:Addr):HO->Prop
 |.lst xs=>xs.length<=Ul/\∃(its:List TY) (n:Nat),Vals xs its/\h.get? a=some {cls:=.type "list",data:=.seq its.toArray n}
 |.tup xs=>xs.length<=Ul/\∃its:List TY,Vals xs its/\IsTup h a its.toArray
 |.dK kvs=>kvs.length<=Ul/\(a==WR)=false/\∃vs,KV kvs vs/\h.DictOf (cf P w) a vs
 |.dT kvs=>kvs.length<=Ul/\(a==WR)=false/\∃xs:List (List Key×Addr×TY),
   Paired (λ(p:List Key×V) (q:List Key×Addr×TY)=>p.1=q.1/\H q.2.1=some (.tup (p.1.map kV))/\RelV p.2 q.2.2) kvs xs /\
   ∃o es ep,h.get? a=some o/\o.ExactDict/\o.data=.dict es ep/\es.toList=xs.map (entryOfKey (Xd (cf P w)))/\(xs.map (·.1)).Nodup
 |.set S n=>h.SetOf (intKind P w) a S n
 |.ins C dx fs=>H dx=some (.own a)/\fs.length<=1000/\dx≠a/\h.get? a=some (PySem.W.instObj C dx) /\
   ∃mA,h.Ns1 dx mA/\(∀f,lN (fs.lookup f) (mA f))/\PySem.Within mA (fs.map (·.1))
 |.own _=>∃o,h.get? a=some o
 |.xd fs=>∃mA,h.Ns1 a mA/\∀f,lN (fs.lookup f) (mA f)
 |.LP lo hi=>∃t u v,h.get? a=some {cls:=.type "range",data:=.fields #[.int lo t,.int hi u,.int 1 v]}
 |.uq o u=>h.get? a=some o/\bD H h a u
 |.Eb ps=>h.get? a=some {cls:=.none,data:=.fields ps}
 |.met f x=>h.get? a=some (PySem.W.methodObj (.ref f) (.ref x))
 |.ext φ=>φ h/\(∃o,h.get? a=some o)/\∀h1 h2:Heap,φ h1->(∀o,h1.get? a=some o->h2.get? a=some o)->φ h2
def gL (H:Hp)(h:Heap):Prop:=∀a o,H a=some o->bD P w H h a o
end
section
variable {P:T7}{w:Ur}{H H':Hp}{h h':Heap}{a:Addr}{o:HO}
theorem bD.lt (x:bD P w H h a o):a<h.objs.size:=by
 cases o with
 |lst xs=>obtain⟨_,_,_,_,e⟩:=x;exact Us e
 |tup xs=>obtain⟨_,_,_,p⟩:=x;exact p.lt
 |dK kvs=>obtain⟨_,_,_,_,o,_,_,e,_⟩:=x;exact Us e
 |dT kvs=>obtain⟨_,_,_,_,o,_,_,e,_⟩:=x;exact Us e
 |set S n=>obtain⟨o,_,_,_,e,_⟩:=x;exact Us e
 |ins C dx fs=>obtain⟨_,_,_,e,_⟩:=x;exact Us e
 |own y=>obtain⟨_,e⟩:=x;exact Us e
 |xd fs=>obtain⟨_,⟨_,_,_,e,_⟩,_⟩:=x;exact Us e
 |LP lo hi=>obtain⟨_,_,_,e⟩:=x;exact Us e
 |uq ob u=>obtain⟨e,_⟩:=x;exact Us e
 |Eb ps=>exact Us (show h.get? a=some _ from x)
 |met f y=>exact Us (show h.get? a=some _ from x)
 |ext φ=>obtain⟨_,⟨_,e⟩,_⟩:=x;exact Us e
theorem Paired.E2 {α β:Type}{F G:α->β->Prop}:∀{l₁:List α} {l₂:List β},Paired F l₁ l₂->(∀a b,F a b->G a b)->Paired G l₁ l₂
 |_,_,.nil,_=>.nil
 |_,_,.cons r t,f=>.cons (f _ _ r) (Paired.E2 t f)
theorem bD.pk (x:bD P w H h a o)(k:∀b u,(b=a\/H b=some (.own a))->h.get? b=some u->h'.get? b=some u)
  (ho:∀b,H b=some (.own a)->H' b=some (.own a)) (ht:∀b xs,H b=some (.tup xs)->H' b=some (.tup xs)):bD P w H' h' a o:=by
 induction o with
 |lst xs=>obtain⟨z,its,n,r,e⟩:=x;exact⟨z,its,n,r,k _ _ (.inl rfl) e⟩
 |tup xs=>obtain⟨z,its,r,ob,e,c⟩:=x;exact⟨z,its,r,ob,k _ _ (.inl rfl) e,c⟩
 |dK kvs=>obtain⟨z,y,vs,r,ob,es,ep,e,c⟩:=x;exact⟨z,y,vs,r,ob,es,ep,k _ _ (.inl rfl) e,c⟩
 |dT kvs =>
  obtain⟨z,y,xs,r,ob,es,ep,e,c⟩:=x;exact⟨z,y,xs,Paired.E2 r λp q z=>⟨z.1,ht _ _ z.2.1,z.2.2⟩,ob,es,ep,k _ _ (.inl rfl) e,c⟩
 |set S n=>obtain⟨ob,es,ep,t,e,c⟩:=x;exact⟨ob,es,ep,t,k _ _ (.inl rfl) e,c⟩
 |ins C dx fs =>
  obtain⟨d,z,ne,e,mA,⟨od,es,ep,e2,c⟩,r⟩:=x;exact⟨ho _ d,z,ne,k _ _ (.inl rfl) e,mA,⟨od,es,ep,k _ _ (.inr d) e2,c⟩,r⟩
 |own y=>obtain⟨ob,e⟩:=x;exact⟨ob,k _ _ (.inl rfl) e⟩
 |xd fs=>obtain⟨mA,⟨od,es,ep,e,c⟩,r⟩:=x;exact⟨mA,⟨od,es,ep,k _ _ (.inl rfl) e,c⟩,r⟩
 |LP lo hi=>obtain⟨t,u,v,e⟩:=x;exact⟨t,u,v,k _ _ (.inl rfl) e⟩
 |uq ob u ih=>obtain⟨e,q⟩:=x;exact⟨k _ _ (.inl rfl) e,ih q⟩
 |Eb ps =>
  have e:h.get? a=some {cls:=.none,data:=.fields ps}:=x;show h'.get? a=some {cls:=.none,data:=.fields ps};exact k a _ (.inl rfl) e
 |met f y =>
  have e:h.get? a=some (PySem.W.methodObj (.ref f) (.ref y)):=x;show h'.get? a=some (PySem.W.methodObj (.ref f) (.ref y));exact k a _ (.inl rfl) e
 |ext φ=>obtain⟨p,⟨o,e⟩,st⟩:=x;exact⟨st _ _ p λo q=>k _ _ (.inl rfl) q,⟨o,k _ _ (.inl rfl) e⟩,st⟩
theorem gL.lt (x:gL P w H h)(e:H a=some o):a<h.objs.size:=(x a o e).lt
theorem gL.fresh (x:gL P w H h)(e:h.objs.size<=a):H a=none:=by
 cases q:H a with
 |none=>rfl
 |some u=>exact absurd (US (x.lt q) e) (WD _)
theorem gL.kept (x:gL P w H h)(k:∀b u,h.get? b=some u->h'.get? b=some u):gL P w H h':=λa o e =>
 (x a o e).pk (λb u _ q=>k b u q) (λ_ q=>q) λ_ _ q=>q
theorem gL.laid (x:gL P w H h)(k:∀b u,h.get? b=some u->h'.get? b=some u)(hp:h.objs.size<=a)(new:bD P w (upd H a o) h' a o):gL P w (upd H a o) h':=λb u e=>by
 have hn:=x.fresh hp
 by_cases hb:b=a
 ·subst hb;rw[ar]at e;cases e;exact new
 ·rw[aw hb]at e;exact(x b u e).pk (λc v _ q=>k c v q) (λc q=>by rw[aw (cn q hn)];exact q) λc xs q=>by rw[aw (cn q hn)];exact q
end
def Rd (H:Hp)(a:Addr)(u:HO):Prop:=H a=some u\/∃o,H a=some (.uq o u)
theorem Rd.ok {P:T7}{w:Ur}{H:Hp}{h:Heap}{a:Addr}{u:HO}(r:Rd H a u)(x:gL P w H h):bD P w H h a u:=by
 rcases r with r|⟨o,r⟩
 ·exact x a u r
 ·obtain⟨_,q⟩:=x a _ r;exact q
def Ky:Option HO->Prop
 |some (.lst _)=>True
 |some (.dK _)=>True
 |some (.dT _)=>True
 |some (.set _ _)=>True
 |some (.ins _ _ _)=>True
 |some (.ext _)=>True
 |_=>False
section
variable {P:T7}{w:Ur}{H:Hp}{h h':Heap}{x e:Addr}{o':HO}
theorem gL.write (ok:gL P w H h)(mu:Ky (H x))(he:e=x\/H e=some (.own x))(k:∀b u,b≠e->h.get? b=some u->h'.get? b=some u)(GK:∃u,h'.get? e=some u)
  (new:bD P w (upd H x o') h' x o'):gL P w (upd H x o') h':=λb u q=>by
 have HX:∀c y,H c=some (.own y)->c≠x:=λc y r z=>by subst z;rw[r]at mu;exact mu
 have Mj:∀c xs,H c=some (.tup xs)->c≠x:=λc xs r z=>by subst z;rw[r]at mu;exact mu
 by_cases hb:b=x
 ·subst hb;rw[ar]at q;cases q;exact new
 ·rw[aw hb]at q
  by_cases FZ:b=e
  ·have q':H b=some (.own x):=by
    rcases he with z|z
    ·exact absurd (FZ.trans z) hb
    ·rw[FZ];exact z
   rw[q]at q';cases q';obtain⟨v,hv⟩:=GK;exact⟨v,by rw[FZ];exact hv⟩
  ·refine(ok b u q).pk (λc v hc r=>k c v ?_ r) (λc r=>by rw[aw (HX c b r)];exact r) λc xs r=>by rw[aw (Mj c xs r)];exact r
   rcases hc with rfl|hc
   ·exact FZ
   ·rintro rfl;rcases he with z|z
    ·exact HX c b hc z
    ·rw[hc]at z;cases z;exact hb rfl
end
structure Un (fs ex:List Addr)(H H':Hp)(h h':Heap):Prop where
 keep:∀b o,h.get? b=some o->H b=none->b∉fs->b∉ex->h'.get? b=some o
 slot:∀b o,h.get? b=some o->H b=none->b∈fs->b∉ex->∃sl,h'.get? b=some {o with slots:=sl}
 free:∀b o,h.get? b=some o->H b=none->b∉ex->H' b=none
 there:∀b o,h.get? b=some o->b∉ex->∃o',h'.get? b=some o'
 nD:∀b xs,H b=some (.tup xs)->H' b=some (.tup xs)
 l8:∀b o u,H b=some (.uq o u)->H' b=some (.uq o u)
 nF:∀b ps,H b=some (.Eb ps)->∃more,H' b=some (.Eb (ps++more))
section
variable {fs ex:List Addr}{H H1:Hp}{h h1 h':Heap}{a x e:Addr}{o:HO}
theorem Un.any (u:Un fs ex H H1 h h1){b:Addr}{ob:Obj}(q:h.get? b=some ob)(n:H b=none)(hx:b∉ex):∃sl,h1.get? b=some {ob with slots:=sl}:=by
 by_cases hb:b∈fs
 ·exact u.slot b ob q n hb hx
 ·exact⟨ob.slots,u.keep b ob q n hb hx⟩
theorem Un.kept (k:∀b u,h.get? b=some u->h'.get? b=some u):Un fs ex H H h h' :=
 ⟨λb ob q _ _ _=>k b ob q,λb ob q _ _ _=>⟨ob.slots,k b ob q⟩,λ_ _ _ n _=>n,λb ob q _=>⟨ob,k b ob q⟩,λ_ _ q=>q,λ_ _ _ q=>q,λ_ ps q=>⟨#[],by rw[q];simp⟩⟩
theorem Un.refl:Un fs ex H H h h:=Un.kept λ_ _ q=>q
theorem Un.laid (k:∀b u,h.get? b=some u->h'.get? b=some u)(hp:h.objs.size<=a)(hn:H a=none):Un fs ex H (upd H a o) h h' where
 keep:=λb u q _ _ _=>k b u q
 slot:=λb u q _ _ _=>⟨u.slots,k b u q⟩
 free:=λb u q n _=>by rw[aw (UI (US (Us q) hp))];exact n
 there:=λb u q _=>⟨u,k b u q⟩
 nD:=λb xs q=>by rw[aw (cn q hn)];exact q
 l8:=λb u xs q=>by rw[aw (cn q hn)];exact q
 nF:=λb ps q=>⟨#[],by rw[aw (cn q hn),q];simp⟩
theorem Un.write (mu:Ky (H x))(he:e=x\/H e=some (.own x))(k:∀b u,b≠e->h.get? b=some u->h'.get? b=some u)(GK:∃u,h'.get? e=some u):Un fs ex H (upd H x o) h h':=by
 have hx:∀b,H b=none->b≠x:=λb n z=>by subst z;rw[n]at mu;exact mu
 have hb:∀b,H b=none->b≠e:=λb n z=>by
  subst z;rcases he with r|r
  ·exact hx b n r
  ·rw[n]at r;cases r
 have hm:∀b u,H b=some u->¬ Ky (some u)->b≠x:=λb u q nm z=>by subst z;rw[q]at mu;exact nm mu
 refine⟨λb u q n _ _=>k b u (hb b n) q,λb u q n _ _=>⟨u.slots,k b u (hb b n) q⟩,λb u q n _=>by rw[aw (hx b n)];exact n,λb u q _=>?_,
  λb xs q=>by rw[aw (hm b _ q λz=>z)];exact q,λb u xs q=>by rw[aw (hm b _ q λz=>z)];exact q,λb ps q=>⟨#[],by rw[aw (hm b _ q λz=>z),q];simp⟩⟩
 by_cases FZ:b=e
 ·subst FZ;exact GK
 ·exact⟨u,k b u FZ q⟩
end
def KG (h:Heap)(H:Hp):List Addr:=(T8 h.objs.size).filter λa=>(H a).isSome
def ou (h:Heap)(H:Hp):Heap:=PySem.W.hideAll h (KG h H)
theorem vY (h:Heap)(H:Hp):(ou h H).objs.size=h.objs.size:=PySem.W.hideAll_size _ _
theorem zj {h:Heap}{H:Hp}{b:Addr}{o:Obj}(e:h.get? b=some o)(n:H b=none):(ou h H).get? b=some o :=
 PySem.W.hideAll_get _ e λhm=>by
  have q:(H b).isSome=true:=(UX.mp hm).2;rw[n]at q;simp at q
theorem Bw {h:Heap}{H:Hp}{b:Addr}{o:Obj}(e:(ou h H).get? b=some o):h.get? b=some o/\H b=none:=by
 have e':h.get? b=some o:=PySem.W.of_hideAll (KG h H) e;refine⟨e',?_⟩;cases q:H b with
 |none=>rfl
 |some x =>
  have hm:b∈KG h H:=UX.mpr ⟨U_.mpr (Us e'),by simp[q]⟩
  have z:(ou h H).get? b=none:=PySem.W.hideAll_none (KG h H) hm;rw[z]at e;cases e
structure Mod (K:PySem.W.Frag)(mg:Str->Option TY)(base:Heap):Prop where
 Mw:K.In base
 glob:base.Ns VC mg
 blt:∃mb,base.Ns builtinsNs mb/\∀x:Str,x≠"__name__" -> mb x=U1 x
 nolimit:base.NoLimit
structure Cx where
 prog:T7
 w:Ur
 K:PySem.W.Frag
 mg:Str->Option TY
 base:Heap
 A:U6
 N:List Str
 s₀:T3
 H₀:Hp
 env:Env
 outer:List Env
 stack:List Env
 ex:List Addr
 fn:Str->Bool
 calm:Bool
 pn:List (Addr×Obj)
 xe:TY->T3->Prop
def zA (l:List Env):List Addr:=l.filterMap (·.frame)
abbrev Cx.fs (X:Cx):List Addr:=zA X.outer
def lT (sc:Wg)(x:Str):Prop:=sc.names.lookup x=some .local\/sc.names.lookup x=some .cell\/sc.names.lookup x=some .free
def Loc (sc:Wg)(x:Str):Prop:=sc.names.lookup x=some .local\/sc.names.lookup x=some .cell
def Look (env:Env)(h:Heap)(m:Str->Option TY)(x:Str)(u:TY):Prop :=
 (env.kindOf x=some .local/\m x=some u)\/((env.kindOf x=some .cell\/env.kindOf x=some .free)/\∃c,env.cells.lookup x=some c/\h.IsCell c (some u))
structure Cx.Ok (X:Cx):Prop where
 mod:Mod X.K X.mg X.base
 kind:X.env.scope.kind=.function
 glob:X.env.globals=VC
 blt:X.env.builtins=builtinsNs
 above:X.s₀.heap.objs.size<=X.env.locals
 inj:∀x y c,X.env.cells.lookup x=some c->X.env.cells.lookup y=some c->x=y
 has:∀x,(X.env.kindOf x=some .cell\/X.env.kindOf x=some .free)->∃c,X.env.cells.lookup x=some c
 Kn:∀x c,X.fn x=true->X.env.cells.lookup x=some c->X.s₀.heap.objs.size<=c
 hd:X.calm=true->X.A.handled=none
 frames:X.A.frames=some X.stack
 KI:X.stack=X.outer\/(X.stack=X.env::X.outer/\X.env.frame=some X.env.locals)
 Lf:∀b∈X.ex,b≠X.env.locals/\∀x c,X.env.cells.lookup x=some c->c≠b
 bs:∀b o,X.base.get? b=some o->X.s₀.heap.get? b=some o/\X.H₀ b=none
 DC:X.base.objs.size<=X.s₀.heap.objs.size
 yC:∀b o,X.base.get? b=some o->b∉X.ex
 zI:∀b∈X.ex,b∉X.fs
 lq:X.s₀.heap.FunFrames X.base X.outer
 GS:∀b∈X.fs,X.H₀ b=none
structure Inv (X:Cx)(pins:List (Addr×Obj))(σ:List (Option V))(H:Hp)(s:T3):Prop where
 ok:X.Ok
 os:s.os=X.s₀.os
 bare:Xm s.gens
 base:Un X.fs X.ex X.H₀ H X.s₀.heap s.heap
 loc:∃m,s.heap.Ns X.env.locals m/\∀(i:Nat) (x:Str) (v:V),X.N[i]?=some x->σ[i]?=some (some v)->lT X.env.scope x->∃u,RelV v u/\Look X.env s.heap m x u
 cell:∀x c,X.env.cells.lookup x=some c->∃v,s.heap.IsCell c v
 free:H X.env.locals=none
 gu:∀x c,X.env.cells.lookup x=some c->H c=none
 pin:∀p∈X.pn++pins,s.heap.get? p.1=some p.2/\H p.1=none/\p.1≠X.env.locals/\p.1∉X.fs/\∀v,p.2.data≠.cell v
 bM:gL X.prog X.w H s.heap
 len:σ.length=X.N.length
section
variable {X:Cx}{pins:List (Addr×Obj)}{σ:List (Option V)}{H H':Hp}{s:T3}{h':Heap}
theorem Cx.Ok.EU (ok:X.Ok){b:Addr}{o:Obj}(e:X.base.get? b=some o):b∉X.fs:=λhb=>by
 have:=(ok.lq.mem hb).1;rw[e]at this;cases this
theorem Inv.bs (I:Inv X pins σ H s):∀b o,X.base.get? b=some o->s.heap.get? b=some o/\H b=none:=λb o e =>
 ⟨I.base.keep b o (I.ok.bs b o e).1 (I.ok.bs b o e).2 (I.ok.EU e) (I.ok.yC b o e),I.base.free b o (I.ok.bs b o e).1 (I.ok.bs b o e).2 (I.ok.yC b o e)⟩
theorem Inv.bk (I:Inv X pins σ H s):∀b o,X.base.get? b=some o->s.heap.get? b=some o:=λb o e=>(I.bs b o e).1
theorem Inv.mod (I:Inv X pins σ H s):Mod X.K X.mg X.base:=I.ok.mod
theorem Inv.qg (I:Inv X pins σ H s):X.K.In s.heap:=I.ok.mod.Mw.keeps I.bk
theorem Inv.lt (I:Inv X pins σ H s):X.env.locals<s.heap.objs.size:=let ⟨_,hn,_⟩:=I.loc;hn.lt
theorem Inv.sz (I:Inv X pins σ H s):X.s₀.heap.objs.size<=s.heap.objs.size:=U3 I.ok.above (Nat.le_of_lt I.lt)
theorem Inv.Ml (I:Inv X pins σ H s){a:Addr}(h:s.heap.objs.size<=a):a∉X.fs:=λhb=>by
 obtain⟨_,o,ho,_⟩:=I.ok.lq.mem hb;exact absurd (US (Us ho) (U3 I.sz h)) (WD _)
theorem Inv.F_ (I:Inv X pins σ H s):∀x c,X.env.cells.lookup x=some c->c≠X.env.locals:=λx c e z=>by
 obtain⟨v,o,ho,hd⟩:=I.cell x c e;obtain⟨m,⟨o',es,ep,zf,RZ,_⟩,_⟩:=I.loc;rw[z,zf]at ho;cases ho;rw[RZ]at hd;cases hd
theorem Inv.lq (I:Inv X pins σ H s):s.heap.FunFrames X.base X.outer:=by
 have all:∀(l:List Env),(∀b∈zA l,b∈X.fs)->X.s₀.heap.FunFrames X.base l->s.heap.FunFrames X.base l:=by
  intro l
  induction l with
  |nil=>intro _ _;trivial
  |cons env r ih =>
   intro hs hl;obtain⟨hk,⟨L,o,hf,hn,ho,hd⟩,hr⟩:=hl;have hL:L∈X.fs:=hs L (by unfold zA;rw[Vb,hf];exact Uz)
   obtain⟨sl,e⟩:=I.base.slot L o ho (I.ok.GS L hL) hL λz=>I.ok.zI L z hL;exact⟨hk,⟨L,_,hf,hn,e,hd⟩,ih (λb hb=>hs b (by unfold zA;rw[Vb,hf];exact UA _ hb)) hr⟩
 exact all X.outer (λ_ hb=>hb) I.ok.lq
theorem Inv.stack (I:Inv X pins σ H s):s.heap.FunFrames X.base X.stack:=by
 rcases I.ok.KI with e|⟨e,hf⟩
 ·rw[e];exact I.lq
 ·rw[e];obtain⟨m,hn,_⟩:=I.loc;refine .cons (by rw[I.ok.kind];decide) hf hn ?_ I.lq
  exact Heap.get?_none_of_le (U3 I.ok.DC I.ok.above)
theorem Inv.rL (I:Inv X pins σ H s):∀b∈zA X.stack,b∈X.env.locals::X.fs:=λb hb=>by
 rcases I.ok.KI with e|⟨e,hf⟩
 ·rw[e]at hb;exact UA _ hb
 ·rw[e]at hb;unfold zA at hb;rw[Vb,hf]at hb;exact hb
theorem Inv.tH (I:Inv X pins σ H s):∀b∈zA X.stack,H b=none:=λb hb=>by
 rcases Uc.mp (I.rL b hb)with e|hb
 ·rw[e];exact I.free
 ·obtain⟨_,o,ho,_⟩:=I.ok.lq.mem hb;exact I.base.free b o ho (I.ok.GS b hb) λz=>I.ok.zI b z hb
theorem Inv.step {g':Array YB}{t':Nat}{d':Drawn}{ch:List Addr}(I:Inv X pins σ H s)
  (qj:∀b∈ch,(b∈X.ex\/X.s₀.heap.objs.size<=b)/\b≠X.env.locals/\(∀x c,X.env.cells.lookup x=some c->c≠b)/\∀p∈X.pn++pins,p.1≠b)
  (keep:∀b o,b≠X.env.locals->b∉X.fs->b∉ch->s.heap.get? b=some o->H b=none->h'.get? b=some o)
  (slot:∀b o,b≠X.env.locals->b∈X.fs->b∉ch->s.heap.get? b=some o->H b=none->∃sl,h'.get? b=some {o with slots:=sl}) (free:∀b o,b∉ch->s.heap.get? b=some o->H b=none->H' b=none)
  (there:∀b o,b∉ch->s.heap.get? b=some o->∃o',h'.get? b=some o')
  (nD:∀b xs,H b=some (.tup xs)->H' b=some (.tup xs)) (l8:∀b o u,H b=some (.uq o u)->H' b=some (.uq o u)) (nF:∀b ps,H b=some (.Eb ps)->∃more,H' b=some (.Eb (ps++more)))
  (ns:∀m,s.heap.Ns X.env.locals m->h'.Ns X.env.locals m) (bM:gL X.prog X.w H' h') (hg:Xm g') :
  Inv X pins σ H' {s with heap:=h',gens:=g',drawn:=d',toks:=t'}:=by
 have OS:∀b o,X.s₀.heap.get? b=some o->b≠X.env.locals:=λb o e=>UI (US (Us e) I.ok.above);have KS:∀b o,X.s₀.heap.get? b=some o->b∉X.ex->b∉ch:=λb o e hx hb=>by
  rcases (qj b hb).1 with z|z
  ·exact hx z
  ·exact absurd (US (Us e) z) (WD _)
 have cellK:∀x c,X.env.cells.lookup x=some c->∀v,s.heap.IsCell c v->h'.IsCell c v:=λx c e v BX=>by
  obtain⟨o,ho,hd⟩:=BX;have Ia:c∉ch:=λz=>(qj c z).2.2.1 x c e rfl
  by_cases hc:c∈X.fs
  ·obtain⟨sl,q⟩:=slot c o (I.F_ x c e) hc Ia ho (I.gu x c e);exact⟨_,q,hd⟩
  ·exact⟨o,keep c o (I.F_ x c e) hc Ia ho (I.gu x c e),hd⟩
 refine⟨I.ok,I.os,hg,⟨λb o e n hb hx=>?_,λb o e n hb hx=>?_,λb o e n hx=>?_,λb o e hx=>?_,λb xs e=>nD b xs (I.base.nD b xs e),λb o xs e=>l8 b o xs (I.base.l8 b o xs e),λb ps e=>?_⟩,?_,λx c e=>?_,?_,λx c e=>?_,λp hp=>?_,bM,I.len⟩
 ·exact keep b o (OS b o e) hb (KS b o e hx) (I.base.keep b o e n hb hx) (I.base.free b o e n hx)
 ·obtain⟨sl,e1⟩:=I.base.slot b o e n hb hx;obtain⟨Ej,e2⟩:=slot b _ (OS b o e) hb (KS b o e hx) e1 (I.base.free b o e n hx);exact⟨Ej,e2⟩
 ·obtain⟨o',e1⟩:=I.base.there b o e hx;exact free b o' (KS b o e hx) e1 (I.base.free b o e n hx)
 ·obtain⟨o',e1⟩:=I.base.there b o e hx;exact there b o' (KS b o e hx) e1
 ·obtain⟨m1,e1⟩:=I.base.nF b ps e;obtain⟨m2,e2⟩:=nF b _ e1;exact⟨m1++m2,by rw[e2,Array.append_assoc]⟩
 ·obtain⟨m,hn,hl⟩:=I.loc;refine⟨m,ns m hn,λi x v e1 e2 e3=>?_⟩;obtain⟨u,r,l⟩:=hl i x v e1 e2 e3;refine⟨u,r,?_⟩;rcases l with l|⟨k,c,e,z⟩
  ·exact .inl l
  ·exact .inr ⟨k,c,e,cellK x c e _ z⟩
 ·obtain⟨v,z⟩:=I.cell x c e;exact⟨v,cellK x c e v z⟩
 ·obtain⟨m,⟨o,_,_,ho,_⟩,_⟩:=I.loc;exact free _ o (λz=>(qj _ z).2.1 rfl) ho I.free
 ·obtain⟨v,o,ho,hd⟩:=I.cell x c e;exact free c o (λz=>(qj c z).2.2.1 x c e rfl) ho (I.gu x c e)
 ·obtain⟨e,n,ne,nf,d⟩:=I.pin p hp;have Ia:p.1∉ch:=λz=>(qj p.1 z).2.2.2 p hp rfl;exact⟨keep p.1 p.2 ne nf Ia e n,free p.1 p.2 Ia e n,ne,nf,d⟩
theorem Inv.un {t':Nat}(I:Inv X pins σ H s)(u:Un X.fs [] H H' s.heap h')(bM:gL X.prog X.w H' h'):Inv X pins σ H' {s with heap:=h',toks:=t'}:=by
 obtain⟨m,⟨o,es,ep,ho,r⟩,_⟩:=id I.loc;obtain⟨sl,hL⟩:=u.any ho I.free (by simp)
 exact I.step (g':=s.gens) (d':=s.drawn) (ch:=[]) (λ_ z=>nomatch z) (λb o _ hb _ e n=>u.keep b o e n hb (by simp)) (λb o _ hb _ e n=>u.slot b o e n hb (by simp)) (λb o _ e n=>u.free b o e n (by simp)) (λb o _ e=>u.there b o e (by simp)) u.nD u.l8 u.nF (λm' hm=>by
  obtain⟨o',dX,oB,zf,r'⟩:=hm;rw[ho]at zf;cases zf;exact⟨_,dX,oB,hL,r'⟩) bM I.bare
theorem Inv.call {g':Array YB}{t':Nat}{d':Drawn}{ch:List Addr}(I:Inv X pins σ H s)(u:Un (zA X.stack) ch H H' s.heap h')(bM:gL X.prog X.w H' h')(hg:Xm g')
  (qj:∀b∈ch,(b∈X.ex\/X.s₀.heap.objs.size<=b)/\b≠X.env.locals/\(∀x c,X.env.cells.lookup x=some c->c≠b)/\∀p∈X.pn++pins,p.1≠b) :
  Inv X pins σ H' {s with heap:=h',gens:=g',drawn:=d',toks:=t'}:=by
 obtain⟨m,⟨o,es,ep,ho,r⟩,_⟩:=id I.loc;obtain⟨sl,hL⟩:=u.any ho I.free λz=>(qj _ z).2.1 rfl;exact I.step (ch:=ch) qj (λb o hL hb hc e n=>u.keep b o e n (λz=>(Uc.mp (I.rL b z)).elim hL hb) hc) (λb o _ _ hc e n=>u.any e n hc) (λb o hc e n=>u.free b o e n hc) (λb o hc e=>u.there b o e hc) u.nD u.l8 u.nF (λm' hm=>by
  obtain⟨o',dX,oB,zf,r'⟩:=hm;rw[ho]at zf;cases zf;exact⟨_,dX,oB,hL,r'⟩) bM hg
theorem Inv.turned {t':Nat}{it:Addr}(I:Inv X pins σ H s)(k:∀b o,b≠it->s.heap.get? b=some o->h'.get? b=some o)(hn:H it=none)(hL:it≠X.env.locals)
  (h1:it∈X.ex\/X.s₀.heap.objs.size<=it) (h2:∀x c,X.env.cells.lookup x=some c->c≠it) (h3:∀p∈X.pn++pins,p.1≠it):Inv X pins σ H {s with heap:=h',toks:=t'}:=by
 have OR:∀b u,H b=some u->b≠it:=λb u e z=>by rw[z,hn]at e;cases e
 refine I.step (g':=s.gens) (d':=s.drawn) (ch:=[it]) (λb hb=>?_) (λb o _ _ hc e _=>k b o (λz=>hc (by simp[z])) e) (λb o _ _ hc e _=>⟨o.slots,k b o (λz=>hc (by simp[z])) e⟩) (λ_ _ _ _ n=>n)
  (λb o hc e=>⟨o,k b o (λz=>hc (by simp[z])) e⟩) (λ_ _ e=>e) (λ_ _ _ e=>e) (λb ps e=>⟨#[],by rw[e];simp⟩) (λm hm=>?_) (λb u e=>?_) I.bare
 ·have e:b=it:=by simpa using hb
  subst e;exact⟨h1,hL,h2,h3⟩
 ·obtain⟨o,es,ep,ho,r⟩:=hm;exact⟨o,es,ep,k _ o (Wd hL) ho,r⟩
 ·refine(I.bM b u e).pk (λc v hc q=>k c v ?_ q) (λ_ q=>q) λ_ _ q=>q;rcases hc with z|z
  ·rw[z];exact OR b u e
  ·exact OR c _ z
theorem Inv.tok (I:Inv X pins σ H s)(t:Nat):Inv X pins σ H {s with toks:=t}:=I.un (h':=s.heap) (t':=t) Un.refl I.bM
theorem Inv.kept {t':Nat}(I:Inv X pins σ H s)(k:∀b u,s.heap.get? b=some u->h'.get? b=some u):Inv X pins σ H {s with heap:=h',toks:=t'}:=I.un (Un.kept k) (I.bM.kept k)
theorem Inv.laid {a:Addr}{o:HO}{t':Nat}(I:Inv X pins σ H s)(k:∀b u,s.heap.get? b=some u->h'.get? b=some u)(hp:s.heap.objs.size<=a)(new:bD X.prog X.w (upd H a o) h' a o):
  Inv X pins σ (upd H a o) {s with heap:=h',toks:=t'}:=I.un (Un.laid k hp (I.bM.fresh hp)) (I.bM.laid k hp new)
theorem Inv.write {x e:Addr}{o:HO}{t':Nat}(I:Inv X pins σ H s)(mu:Ky (H x))(he:e=x\/H e=some (.own x))(k:∀b u,b≠e->s.heap.get? b=some u->h'.get? b=some u)(GK:∃u,h'.get? e=some u)
  (new:bD X.prog X.w (upd H x o) h' x o):Inv X pins σ (upd H x o) {s with heap:=h',toks:=t'}:=I.un (Un.write mu he k GK) (I.bM.write mu he k GK new)
theorem Inv.tY {CQ:List (Addr×Obj)}(I:Inv X pins σ H s)(h:∀p∈CQ,s.heap.get? p.1=some p.2/\H p.1=none/\p.1≠X.env.locals/\p.1∉X.fs/\∀v,p.2.data≠.cell v):Inv X CQ σ H s :=
 ⟨I.ok,I.os,I.bare,I.base,I.loc,I.cell,I.free,I.gu,λp hp=>(Uq.mp hp).elim (λz=>I.pin p (Vg _ z)) (h p),I.bM,I.len⟩
theorem pS {N:List Str}(hN:N.Nodup){i j:Nat}{x:Str}(a:N[i]?=some x)(b:N[j]?=some x):i=j:=by
 obtain⟨h1,e1⟩:=Ua.mp a;obtain⟨h2,e2⟩:=Ua.mp b;exact(List.getElem_inj hN).mp (e1.trans e2.symm)
theorem my {M:Model}{A:U6}{E:TY->T3->Prop}{i:Nat}{x:Str}{v:V}{u:TY}{Q:Unit->T3->Prop}(I:Inv X pins σ H s)(hN:X.N.Nodup)(hi:X.N[i]?=some x)(hx:Loc X.env.scope x)(r:RelV v u)
  (h:∀s',Inv X pins (σ.set i (some v)) H s'->(∃a,VS a s.heap s'.heap/\(a=X.env.locals\/X.env.cells.lookup x=some a))->Q () s') (hf:X.fn x=true\/X.env.scope.names.lookup x=some .local:=by first|exact .inl rfl|exact .inr rfl|assumption):UQ M A (storeName X.env x u) Q E s:=by
 obtain⟨m,hn,hl⟩:=id I.loc;have NJ:(X.env.scope.kind==.class || (X.env.scope.kind==.module&&X.env.locals != X.env.globals))=false:=by rw[I.ok.kind];rfl
 have JW:i<σ.length:=by rw[I.len];exact(Ua.mp hi).1
 have F_:=I.F_;have tracked:∀{a:Addr} {h':Heap},(∃o,s.heap.get? a=some o/\H a=none)->VS a s.heap h'->gL X.prog X.w H h':=λ{a h'} ha hs b ob e=>by
  obtain⟨_,_,Dj⟩:=ha;refine(I.bM b ob e).pk (λc w' hc q=>(hs.2 c ?_).trans q) (λ_ q=>q) λ_ _ q=>q;rintro rfl;rcases hc with rfl|hc
  ·rw[Dj]at e;cases e
  ·rw[Dj]at hc;cases hc
 rcases hx with hk|hk
 ·refine wpAny_storeName_local hk hn (λh' BZ hs=>?_) NJ;obtain⟨oL,_,_,Rv,_⟩:=id hn;refine h _ ⟨I.ok,I.os,I.bare,⟨λb o e n hb hx=>?_,λb o e n hb hx=>?_,I.base.free,λb o e hx=>?_,I.base.nD,I.base.l8,I.base.nF⟩,⟨_,BZ,λj y v' e1 e2 e3=>?_⟩,λy c e=>?_,I.free,I.gu,λp hp=>?_,tracked ⟨oL,Rv,I.free⟩ hs,by simpa using I.len⟩ ⟨_,hs,.inl rfl⟩
  ·exact(hs.2 b (UI (US (Us e) I.ok.above))).trans (I.base.keep b o e n hb hx)
  ·obtain⟨sl,e1⟩:=I.base.slot b o e n hb hx;exact⟨sl,(hs.2 b (UI (US (Us e) I.ok.above))).trans e1⟩
  ·obtain⟨o',e1⟩:=I.base.there b o e hx;exact⟨o',(hs.2 b (UI (US (Us e) I.ok.above))).trans e1⟩
  ·by_cases hj:j=i
   ·subst hj;rw[hi]at e1;cases e1;rw[List.getElem?_set_self JW]at e2;cases e2;exact⟨u,r,.inl ⟨hk,by simp⟩⟩
   ·rw[List.getElem?_set_ne (Wd hj)]at e2;obtain⟨u',r',q⟩:=hl j y v' e1 e2 e3;refine⟨u',r',?_⟩;rcases q with⟨k,e⟩|⟨k,c,e,z⟩
    ·refine .inl ⟨k,?_⟩;have:y≠x:=λe=>hj (pS hN e1 (e▸hi));simp[this,e]
    ·exact .inr ⟨k,c,e,z.sameBut hs (F_ y c e)⟩
  ·obtain⟨w',z⟩:=I.cell y c e;exact⟨w',z.sameBut hs (F_ y c e)⟩
  ·obtain⟨e,n,ne,nf,d⟩:=I.pin p hp;exact⟨(hs.2 p.1 ne).trans e,n,ne,nf,d⟩
 ·have GJ:X.fn x=true:=by
   rcases hf with z|z
   ·exact z
   ·rw[z]at hk;cases hk
  obtain⟨c,hc⟩:=I.ok.has x (.inl hk);obtain⟨w',z⟩:=I.cell x c hc;refine wpAny_storeName_cell I.ok.kind hk hc z (λh' qk hs=>?_);obtain⟨oc,ze,Na⟩:=id z;refine h {s with heap:=h'} ⟨I.ok,I.os,I.bare,⟨λb o e n hb hx=>?_,λb o e n hb hx=>?_,I.base.free,λb o e hx=>?_,I.base.nD,I.base.l8,I.base.nF⟩,⟨m,hn.sameBut hs (Wd (F_ x c hc)),λj y v' e1 e2 e3=>?_⟩,λy c' e=>?_,I.free,I.gu,λp hp=>?_,tracked ⟨oc,ze,I.gu x c hc⟩ hs,by simpa using I.len⟩ ⟨c,hs,.inr hc⟩
  ·exact(hs.2 b (UI (US (Us e) (I.ok.Kn x c GJ hc)))).trans (I.base.keep b o e n hb hx)
  ·obtain⟨sl,e1⟩:=I.base.slot b o e n hb hx;exact⟨sl,(hs.2 b (UI (US (Us e) (I.ok.Kn x c GJ hc)))).trans e1⟩
  ·obtain⟨o',e1⟩:=I.base.there b o e hx;exact⟨o',(hs.2 b (UI (US (Us e) (I.ok.Kn x c GJ hc)))).trans e1⟩
  ·by_cases hj:j=i
   ·subst hj;rw[hi]at e1;cases e1;rw[List.getElem?_set_self JW]at e2;cases e2;exact⟨u,r,.inr ⟨.inl hk,c,hc,qk⟩⟩
   ·rw[List.getElem?_set_ne (Wd hj)]at e2;obtain⟨u',r',q⟩:=hl j y v' e1 e2 e3;refine⟨u',r',?_⟩;rcases q with q|⟨k,c',e,z'⟩
    ·exact .inl q
    ·refine .inr ⟨k,c',e,z'.sameBut hs ?_⟩;rintro rfl;exact hj (pS hN e1 (I.ok.inj _ _ _ e hc▸hi))
  ·by_cases B5:c'=c
   ·subst B5;exact⟨_,qk⟩
   ·obtain⟨w2,z2⟩:=I.cell y c' e;exact⟨w2,z2.sameBut hs B5⟩
  ·obtain⟨e,n,ne,nf,d⟩:=I.pin p hp;refine⟨(hs.2 p.1 ?_).trans e,n,ne,nf,d⟩;intro q;rw[q,ze]at e;have q':oc=p.2:=UD e;exact d w' (by rw[<- q'];exact Na)
theorem pj {M:Model}{A:U6}{E:TY->T3->Prop}{i:Nat}{x:Str}{v:V}{u:TY}{Q:Unit->T3->Prop}(I:Inv X pins σ H s)(hN:X.N.Nodup)(hi:X.N[i]?=some x)(hx:Loc X.env.scope x)(r:RelV v u)
  (h:∀s',Inv X pins (σ.set i (some v)) H s'->Q () s') (hf:X.fn x=true\/X.env.scope.names.lookup x=some .local:=by first|exact .inl rfl|exact .inr rfl|assumption):UQ M A (storeName X.env x u) Q E s :=
 my I hN hi hx r (λs' I' _=>h s' I') hf
theorem Inv.Km {s':T3}{ch:List Addr}(I:Inv X pins σ H s)(ho:s'.os=s.os)(u:Un (zA X.stack) ch H H' s.heap s'.heap)(bM:gL X.prog X.w H' s'.heap)(hg:Xm s'.gens)
  (qj:∀b∈ch,(b∈X.ex\/X.s₀.heap.objs.size<=b)/\b≠X.env.locals/\(∀x c,X.env.cells.lookup x=some c->c≠b)/\∀p∈X.pn++pins,p.1≠b):Inv X pins σ H' s':=by
 obtain⟨h',g',d',t',o'⟩:=s';have e:o'=s.os:=ho;subst e;exact I.call (g':=g') (t':=t') (d':=d') u bM hg qj
end
abbrev XK:=TY->Option Addr->Hp->Prop
abbrev St:=List (Option V)
abbrev VK:=V->Hp->Prop
abbrev TE:=St->Hp->VK->Prop
abbrev TT:=St->Hp->(Bool->Hp->Prop)->Prop
abbrev TA:=St->Hp->(List V->Hp->Prop)->Prop
structure Ends where
 nx:St->Hp->Prop
 rt:VK
 bk:St->Hp->Prop:=λ_ _=>False
 ct:St->Hp->Prop:=λ_ _=>False
abbrev TS:=Ends->St->Hp->Prop
def EP (X:Cx)(pins:List (Addr×Obj))(σ:St)(Q:VK)(u:TY)(s':T3):Prop:=∃v H',Inv X pins σ H' s'/\RelV v u/\Q v H'
def TP (X:Cx)(pins:List (Addr×Obj))(σ:St)(Q:Bool->Hp->Prop)(b:Bool)(s':T3):Prop:=∃H',Inv X pins σ H' s'/\Q b H'
def AP (X:Cx)(pins:List (Addr×Obj))(σ:St)(Q:List V->Hp->Prop)(us:List TY)(s':T3):Prop:=∃vs H',Inv X pins σ H' s'/\Vals vs us/\Q vs H'
def SP (X:Cx)(pins:List (Addr×Obj))(D:Ends)(f:Flow)(s':T3):Prop :=
 match f with
 |.next=>∃σ' H',Inv X pins σ' H' s'/\D.nx σ' H'
 |.brk=>∃σ' H',Inv X pins σ' H' s'/\D.bk σ' H'
 |.cont=>∃σ' H',Inv X pins σ' H' s'/\D.ct σ' H'
 |.ret u=>∃v σ' H',Inv X pins σ' H' s'/\RelV v u/\D.rt v H'
def PE (X:Cx)(e:Expr)(t:TE):Prop :=
 ∀(pins:List (Addr×Obj)) (s:T3) (σ:St) (H:Hp) (Q:VK),Inv X pins σ H s->t σ H Q->UQ (model X.prog X.w) X.A (eval e X.env) (EP X pins σ Q) X.xe s
def PT (X:Cx)(e:Expr)(t:TT):Prop :=
 ∀(pins:List (Addr×Obj)) (s:T3) (σ:St) (H:Hp) (Q:Bool->Hp->Prop),Inv X pins σ H s->t σ H Q->UQ (model X.prog X.w) X.A (isTrue e X.env (eval e X.env)) (TP X pins σ Q) X.xe s
def PW (X:Cx)(e:Expr)(t:TT):Prop :=
 ∀(whole:Sem TY) (pins:List (Addr×Obj)) (s:T3) (σ:St) (H:Hp) (Q:Bool->Hp->Prop),Inv X pins σ H s->t σ H Q->UQ (model X.prog X.w) X.A (isTrue e X.env whole) (TP X pins σ Q) X.xe s
theorem PW.pt {X:Cx}{e:Expr}{t:TT}(h:PW X e t):PT X e t:=h _
def PA (X:Cx)(es:List Expr)(t:TA):Prop :=
 ∀(pos:Pos) (pins:List (Addr×Obj)) (s:T3) (σ:St) (H:Hp) (Q:List V->Hp->Prop),Inv X pins σ H s->t σ H Q->UQ (model X.prog X.w) X.A (spliced (VT pos (Up es X.env))) (AP X pins σ Q) X.xe s
def PS (X:Cx)(st:Stmt)(t:TS):Prop :=
 ∀(pins:List (Addr×Obj)) (s:T3) (σ:St) (H:Hp) (D:Ends),Inv X pins σ H s->t D σ H->UQ (model X.prog X.w) X.A (exec st X.env) (SP X pins D) X.xe s
def rq (X:Cx)(st:List Stmt)(t:TS):Prop :=
 ∀(pins:List (Addr×Obj)) (s:T3) (σ:St) (H:Hp) (D:Ends),Inv X pins σ H s->t D σ H->UQ (model X.prog X.w) X.A (execs st X.env) (SP X pins D) X.xe s
theorem b9 {α:Type}{t:Sem α}{Q Q':α->T3->Prop}{M:Model}{A:U6}{E:TY->T3->Prop}{s:T3}(h:UQ M A t Q E s)(hQ:∀a s,Q a s->Q' a s):UQ M A t Q' E s:=WQ h hQ λ_ _ x=>x
section
variable {X:Cx}
def G9 (i:Nat):TE:=λσ H Q=>∃v,σ[i]?=some (some v)/\Q v H
def tC (v:V):TE:=λ_ H Q=>Q v H
theorem br {i:Nat} {x:Str} {pos:Pos} (hN:X.N[i]?=some x) (hv:lT X.env.scope x) (hd:(x==("__debug__" : Str))=false:=by decide) (dJ:(x==("__classdict__" : Str))=false:=by decide):PE X (.Name x pos) (G9 i):=by
 intro pins s σ H Q I h;obtain⟨v,e,h⟩:=h;obtain⟨m,hn,hl⟩:=I.loc;obtain⟨u,r,l⟩:=hl i x v hN e hv;have fin:EP X pins σ Q u s:=⟨v,H,I,r,h⟩;rcases l with⟨hk,hm⟩|⟨hk,c,hc,mT⟩
 ·exact wpAny_Name (wpAny_loadName_local I.ok.kind hk hn hm fin) hd
 ·rcases hk with hk|hk
  ·exact wpAny_Name (wpAny_loadName_cell I.ok.kind hk hc mT fin) hd
  ·exact wpAny_Name (wpAny_loadName_free I.ok.kind hk hc mT fin dJ) hd
theorem bt {i j pos}:PE X (.Constant (.int i) j pos) (tC (.int i)):=λ_ _ _ H _ I h=>wpAny_Constant_int ⟨.int i,H,I.tok _,⟨_,rfl⟩,h⟩
theorem CS {b j pos}:PE X (.Constant (.bool b) j pos) (tC (.bl b)):=λ_ _ _ H _ I h=>Constant_bool ⟨.bl b,H,I,rfl,h⟩
def Gl (X:Cx)(x:Str):Prop:=X.env.kindOf x=some .globalImplicit
theorem BL {E:TY->T3->Prop}{pins:List (Addr×Obj)}{s:T3}{σ:St}{H:Hp}{x:Str}{u:TY}{pos:Pos}{Q:TY->T3->Prop}(I:Inv X pins σ H s)(hg:Gl X x)(hm:X.mg x=some u)(h:Q u s)
  (hd:(x==("__debug__" : Str))=false:=by decide):UQ (model X.prog X.w) X.A (eval (.Name x pos) X.env) Q E s :=
 YD I.ok.kind hg (Calls.loadGlobal_global (by rw[I.ok.glob];exact I.mod.glob.keeps I.bk) hm h) hd
theorem eZ {E:TY->T3->Prop}{pins:List (Addr×Obj)}{s:T3}{σ:St}{H:Hp}{x:Str}{u:TY}{pos:Pos}{Q:TY->T3->Prop}(I:Inv X pins σ H s)(hg:Gl X x)(hm:X.mg x=none)(hv:U1 x=some u)(h:Q u s)
  (hn:x≠"__name__" := by decide) (hd:(x==("__debug__" : Str))=false:=by decide):UQ (model X.prog X.w) X.A (eval (.Name x pos) X.env) Q E s:=by
 obtain⟨mb,h1,h2⟩:=I.mod.blt;exact YD I.ok.kind hg (Calls.loadGlobal_builtin (by rw[I.ok.glob];exact I.mod.glob.keeps I.bk) hm (by rw[I.ok.blt];exact h1.keeps I.bk) ((h2 x hn).trans hv) h) hd
theorem Ba {x:Str} {v:V} {u:TY} {pos:Pos} (hg:Gl X x) (hm:X.mg x=none) (hv:U1 x=some u) (r:RelV v u) (hn:x≠"__name__" := by decide) (hd:(x==("__debug__" : Str))=false:=by decide):PE X (.Name x pos) (tC v) :=
 λ_ _ _ H _ I h=>eZ I hg hm hv ⟨v,H,I,r,h⟩ hn hd
variable {a b:Expr}{pos:Pos}
theorem pT (b:Expr){op:CmpOp}(h:op≠.In)(h2:op≠.NotIn):V3 op b=false:=by
 have e1:(op==CmpOp.In)=false:=by cases op <;> first|rfl|exact absurd rfl h
 have e2:(op==CmpOp.NotIn)=false:=by cases op <;> first|rfl|exact absurd rfl h2
 cases b <;> simp[V3,e1,e2]
def tB (t:TE):TT:=λσ H Q=>t σ H λx H1=>∃c,x=.bl c/\Q c H1
theorem Ey {e:Expr}{t:TE}(h:PE X e t)(he:∀whole,isTrue e X.env whole=(do let v <- whole;XF e.pos;holding [v] (truthy v)):=by intro _;rfl):PT X e (tB t):=by
 intro pins s σ H Q I hw;refine isTrue_plain (b9 (h pins s σ H _ I hw) λv s1 ⟨x,H1,I1,r1,q1⟩=>?_) (he _);obtain⟨d,rfl,q⟩:=q1;cases r1;exact X0 ⟨H1,I1,q⟩
variable {tA KH:TT}{rest:List Expr}
def LC (t u:TT):TT:=λσ H Q=>t σ H λc H1=>if c=true then u σ H1 Q else Q false H1
def Qo (t u:TT):TT:=λσ H Q=>t σ H λc H1=>if c=true then Q true H1 else u σ H1 Q
def Lw (t:TT):TT:=λσ H Q=>t σ H λc H1=>Q (!c) H1
theorem pw_and1 (ha:PT X a tA):PW X (.BoolOp .And [a] pos) tA:=by
 intro wh pins s σ H Q I h;refine isTrue_and (b9 (ha pins s σ H Q I h) λc s1 e=>?_);cases c with
 |true=>exact isTrue_and_nil e
 |false=>exact e
theorem pw_or1 (ha:PT X a tA):PW X (.BoolOp .Or [a] pos) tA:=by
 intro wh pins s σ H Q I h;refine isTrue_or (b9 (ha pins s σ H Q I h) λc s1 e=>?_);cases c with
 |false=>exact isTrue_or_nil e
 |true=>exact e
theorem pw_and (ha:PT X a tA)(hb:PW X (.BoolOp .And (b::rest) pos) KH):PW X (.BoolOp .And (a::b::rest) pos) (LC tA KH):=by
 intro wh pins s σ H Q I h;refine isTrue_and (b9 (ha pins s σ H _ I h) λc s1 ⟨H1,I1,q1⟩=>?_);cases c with
 |true=>exact hb wh pins s1 σ H1 Q I1 q1
 |false=>exact⟨H1,I1,q1⟩
theorem pw_or (ha:PT X a tA)(hb:PW X (.BoolOp .Or (b::rest) pos) KH):PW X (.BoolOp .Or (a::b::rest) pos) (Qo tA KH):=by
 intro wh pins s σ H Q I h;refine isTrue_or (b9 (ha pins s σ H _ I h) λc s1 ⟨H1,I1,q1⟩=>?_);cases c with
 |true=>exact⟨H1,I1,q1⟩
 |false=>exact hb wh pins s1 σ H1 Q I1 q1
theorem Ez (ha:PT X a tA):PT X (.UnaryOp .Not a pos) (Lw tA):=by
 intro pins s σ H Q I h;exact isTrue_not (ha pins s σ H (λc H1=>Q (!c) H1) I h)
end
def cQ (K:PySem.W.Frag)(H:Hp)(a:Addr)(xs:List V):Prop :=
 Rd H a (.lst xs) \/
  ∃(o:Obj) (its:Array TY) (n:Nat),K.lookup a=some o/\o.cls=.type "list" /\ o.dict=none/\o.data=.seq its n/\its.size<=Ul/\Vals xs its.toList
def uS (K:PySem.W.Frag)(H:Hp)(a:Addr)(xs:List V):Prop :=
 Rd H a (.tup xs) \/
  ∃(o:Obj) (its:Array TY) (n:Nat),K.lookup a=some o/\o.cls=.type "tuple" /\ o.data=.seq its n/\its.size<=Ul/\Vals xs its.toList
noncomputable def Oa:TY->Option V
 |.none=>some .cE
 |.bool b=>some (.bl b)
 |.int i _=>some (.int i)
 |.str x _=>some (.str x)
 |.bytes b _=>some (.Cu b)
 |.float b _=>some (.GU b)
 |.ref a=>some (.ref a)
 |.type n=>some (.ty n)
 |_=>none
theorem RelV.abs {x:V}{u:TY}(r:RelV x u):Oa u=some x:=by
 cases x with
 |cE=>cases r;rfl
 |bl _=>cases r;rfl
 |int _=>obtain⟨t,rfl⟩:=r;rfl
 |str _=>obtain⟨t,rfl⟩:=r;rfl
 |Cu _=>obtain⟨t,rfl⟩:=r;rfl
 |GU _=>obtain⟨t,rfl⟩:=r;rfl
 |ref _=>cases r;rfl
 |ty _=>cases r;rfl
theorem RelV.inj {x y:V}{u:TY}(r:RelV x u)(q:RelV y u):x=y:=UD (r.abs.symm.trans q.abs)
theorem Vals.inj:∀{xs ys:List V} {us:List TY},Vals xs us->Vals ys us->xs=ys
 |_,_,_,.nil,.nil=>rfl
 |_,_,_,.cons r t,.cons r' t'=>by rw[r.inj r',Vals.inj t t']
section
variable {X:Cx}{pins:List (Addr×Obj)}{σ:St}{H:Hp}{s:T3}{a:Addr}{xs ys:List V}
theorem cQ.of {K:PySem.W.Frag}(h:H a=some (.lst xs)):cQ K H a xs:=.inl (.inl h)
theorem uS.of {K:PySem.W.Frag}(h:H a=some (.tup xs)):uS K H a xs:=.inl (.inl h)
theorem Inv.list (I:Inv X pins σ H s)(h:cQ X.K H a xs):∃its:List TY,Vals xs its/\PlainL s.heap a its.toArray/\xs.length<=Ul:=by
 rcases h with h|⟨o,its,n,hk,hc,hd,hs,hz,r⟩
 ·obtain⟨z,its,n,r,e⟩:=h.ok I.bM;exact⟨its,r,⟨_,n,e,rfl,rfl,rfl⟩,z⟩
 ·refine⟨its.toList,r,⟨o,n,I.qg a o hk,hc,hd,by simpa using hs⟩,?_⟩
  have e:=r.length;simp only[Ue]at e;lia
theorem Inv.tuple (I:Inv X pins σ H s)(h:uS X.K H a xs):∃its:List TY,Vals xs its/\IsTup s.heap a its.toArray/\xs.length<=Ul:=by
 rcases h with h|⟨o,its,n,hk,hc,hs,hz,r⟩
 ·obtain⟨z,its,r,p⟩:=h.ok I.bM;exact⟨its,r,p,z⟩
 ·refine⟨its.toList,r,⟨o,I.qg a o hk,hc,n,by simpa using hs⟩,?_⟩
  have e:=r.length;simp only[Ue]at e;lia
theorem Inv.yK (I:Inv X pins σ H s)(h:cQ X.K H a xs)(h':cQ X.K H a ys):xs=ys:=by
 obtain⟨its,r,⟨o,n,e,_,_,d⟩,_⟩:=I.list h;obtain⟨its',r',⟨o',n',e',_,_,d'⟩,_⟩:=I.list h';rw[e]at e';cases e';rw[d]at d';injection d' with d1 _
 have:its=its':=by simpa using congrArg Array.toList d1
 subst this;exact r.inj r'
end
noncomputable abbrev Cx.lV (X:Cx)(E:TY->T3->Prop):Cx:={X with xe:=E}
abbrev Cx.Bx (X:Cx):Cx:=X.lV λ_ _=>False
theorem Cx.Ok.lV {X:Cx}(ok:X.Ok)(E:TY->T3->Prop):(X.lV E).Ok :=
 ⟨ok.mod,ok.kind,ok.glob,ok.blt,ok.above,ok.inj,ok.has,ok.Kn,ok.hd,ok.frames,ok.KI,ok.Lf,ok.bs,ok.DC,ok.yC,ok.zI,ok.lq,ok.GS⟩
theorem Cx.Ok.fz {X:Cx}{E:TY->T3->Prop}(ok:(X.lV E).Ok):X.Ok :=
 ⟨ok.mod,ok.kind,ok.glob,ok.blt,ok.above,ok.inj,ok.has,ok.Kn,ok.hd,ok.frames,ok.KI,ok.Lf,ok.bs,ok.DC,ok.yC,ok.zI,ok.lq,ok.GS⟩
section
variable {X:Cx}{pins:List (Addr×Obj)}{σ:St}{H:Hp}{s:T3}{E:TY->T3->Prop}
theorem Inv.lV (I:Inv X pins σ H s)(E:TY->T3->Prop):Inv (X.lV E) pins σ H s:=⟨I.ok.lV E,I.os,I.bare,I.base,I.loc,I.cell,I.free,I.gu,I.pin,I.bM,I.len⟩
theorem Inv.fz (I:Inv (X.lV E) pins σ H s):Inv X pins σ H s:=⟨I.ok.fz,I.os,I.bare,I.base,I.loc,I.cell,I.free,I.gu,I.pin,I.bM,I.len⟩
theorem SP.fz {D:Ends}{f:Flow}{s':T3}(h:SP (X.lV E) pins D f s'):SP X pins D f s':=by
 cases f with
 |next=>obtain⟨σ',H',I,q⟩:=h;exact⟨σ',H',I.fz,q⟩
 |brk=>obtain⟨σ',H',I,q⟩:=h;exact⟨σ',H',I.fz,q⟩
 |cont=>obtain⟨σ',H',I,q⟩:=h;exact⟨σ',H',I.fz,q⟩
 |ret u=>obtain⟨v,σ',H',I,r,q⟩:=h;exact⟨v,σ',H',I.fz,r,q⟩
theorem rq.Bx {st:List Stmt}{t:TS}(h:rq X.Bx st t):rq X st t:=λpins s σ H D I hw =>
 WQ (h pins s σ H D (I.lV _) hw) (λ_ _ q=>q.fz) λ_ _ z=>V_ z
end
section
variable {X:Cx}{st:Stmt}{rest:List Stmt}{t u:TS}{e:Expr}{te:TE}{pos:Pos}
def Hg:TS:=λD σ H=>D.nx σ H
def Lu (t u:TS):TS:=λD σ H=>t {D with nx:=u D} σ H
theorem tR:rq X [] Hg:=λ_ _ σ H _ I h=>Yp ⟨σ,H,I,h⟩
theorem dw (h1:PS X st t)(h2:rq X rest u):rq X (st::rest) (Lu t u):=by
 intro pins s σ H D I h;refine wpAny_execs_cons (b9 (h1 pins s σ H {D with nx:=u D} I h) λf s1 q=>?_)
 cases f with
 |next =>
  obtain⟨σ',H',I',q⟩:=q;exact h2 pins s1 σ' H' D I' q
 |ret v=>exact q
 |brk=>exact q
 |cont=>exact q
theorem gV (h1:PS X st t):rq X [st] t:=by
 intro pins s σ H D I h;refine wpAny_execs_cons (b9 (h1 pins s σ H D I h) λf s1 q=>?_);cases f with
 |next=>exact Yp q
 |ret v=>exact q
 |brk=>exact q
 |cont=>exact q
theorem Inv.quiet {pins:List (Addr×Obj)}{σ:St}{H:Hp}{s:T3}(I:Inv X pins σ H s):interactive X.env=false:=by simp[interactive,I.ok.kind]
def Hi (te:TE):TS:=λD σ H=>te σ H λ_ H1=>D.nx σ H1
theorem jE (he:PE X e te)(hs:VI e none pos.line X.env=pure false:=by rfl):PS X (.Expr e pos) (Hi te):=by
 intro pins s σ H D I h;exact wpAny_Expr_any (b9 (he pins s σ H _ I h) λv s1 za=>by obtain⟨x,H1,I1,r1,q1⟩:=za;exact⟨σ,H1,I1,q1⟩) I.quiet hs
def Lv (te:TE):TS:=λD σ H=>te σ H D.rt
theorem iG (he:PE X e te):PS X (.Return (some e) pos) (Lv te):=by
 intro pins s σ H D I h;exact wpAny_Return_some (b9 (he pins s σ H _ I h) λv s1 y_=>by obtain⟨x,H1,I1,r1,q1⟩:=y_;exact⟨x,σ,H1,I1,r1,q1⟩)
def Ly (c:TT)(t u:TS):TS:=λD σ H=>c σ H λb H1=>if b=true then t D σ H1 else u D σ H1
theorem CO {c:Expr}{a b:List Stmt}{tc:TT}(hc:PT X c tc)(ha:rq X a t)(hb:rq X b u):PS X (.If c a b pos) (Ly tc t u):=by
 intro pins s σ H D I h;refine wpAny_If (b9 (hc pins s σ H _ I h) λd s1 ⟨H1,I1,q1⟩=>?_);cases d with
 |true=>exact ha pins s1 σ H1 D I1 q1
 |false=>exact hb pins s1 σ H1 D I1 q1
end
abbrev TG:=V->St->Hp->(St->Hp->Prop)->Prop
abbrev DE:=List V->St->Hp->(St->Hp->Prop)->Prop
def PG (X:Cx)(target:Expr)(t:TG):Prop :=
 ∀(pins:List (Addr×Obj)) (s:T3) (σ:St) (H:Hp) (v:V) (u:TY) (Q:St->Hp->Prop),Inv X pins σ H s->RelV v u->t v σ H Q ->
  UQ (model X.prog X.w) X.A (assign target X.env u) (λ_ s'=>∃σ' H',Inv X pins σ' H' s'/\Q σ' H') X.xe s
def DI (X:Cx)(ts:List Expr)(t:DE):Prop :=
 ∀(pins:List (Addr×Obj)) (s:T3) (σ:St) (H:Hp) (vs:List V) (us:List TY) (Q:St->Hp->Prop),Inv X pins σ H s->Vals vs us->t vs σ H Q ->
  UQ (model X.prog X.w) X.A (assignInOrder ((VU ts X.env).map (·.2)) us) (λ_ s'=>∃σ' H',Inv X pins σ' H' s'/\Q σ' H') X.xe s
abbrev Gn:=V->V->V->Hp->(Hp->Prop)->Prop
def Kw (X:Cx)(t:Gn):Prop :=
 ∀(pins:List (Addr×Obj)) (s:T3) (σ:St) (H:Hp) (o i v:V) (ov iv u:TY) (Q:Hp->Prop),Inv X pins σ H s->RelV o ov->RelV i iv->RelV v u->t o i v H Q ->
  UQ (model X.prog X.w) X.A (setItem ov iv u) (λ_ s'=>∃H',Inv X pins σ H' s'/\Q H') X.xe s
section
variable {X:Cx}{pos:Pos}
def uo (i:Nat):TG:=λv σ H Q=>Q (σ.set i (some v)) H
theorem t6 {i:Nat}{x:Str}(hN:X.N.Nodup)(hi:X.N[i]?=some x)(hx:Loc X.env.scope x)(hf:X.fn x=true\/X.env.scope.names.lookup x=some .local:=by first|exact .inl rfl|exact .inr rfl|assumption):PG X (.Name x pos) (uo i):=by
 intro pins s σ H v u Q I r h;exact wpAny_assign_Name (pj I hN hi hx r (λs' I'=>⟨_,H,I',h⟩) hf)
def F2:DE:=λvs σ H Q=>vs=[]/\Q σ H
def zv (t:TG)(u:DE):DE:=λvs σ H Q=>∃v r,vs=v::r/\t v σ H λσ' H'=>u r σ' H' Q
theorem t5:DI X [] F2:=by
 intro pins s σ H vs us Q I r h;obtain⟨e,h⟩:=h;subst e;cases r;exact assignInOrder_nil ⟨σ,H,I,h⟩
theorem kK {e:Expr}{es:List Expr}{t:TG}{u:DE}(h1:PG X e t)(h2:DI X es u)
  (hs:(VU (e::es) X.env).map (·.2)=assign e X.env::(VU es X.env).map (·.2):=by rfl):DI X (e::es) (zv t u):=by
 intro pins s σ H vs us Q I r h;obtain⟨v,vr,e1,h⟩:=h;subst e1;cases r with
 |cons r rr =>
  rw[hs];refine assignInOrder_cons (b9 (h1 pins s σ H _ _ _ I r h) λ_ s1 ⟨σ1,H1,I1,q1⟩=>?_);exact h2 pins s1 σ1 H1 _ _ Q I1 rr q1
def NQ (K:PySem.W.Frag)(n:Nat)(t:DE):TG:=λv σ H Q=>∃a xs,v=.ref a/\uS K H a xs/\xs.length=n/\t xs σ H Q
theorem ye {es:List Expr}{k:Nat}{t:DE}{n:Nat}(hc:X.calm=true)(h:DI X es t)
  (hn:(VU es X.env).length=n:=by rfl) (Ft:(VU es X.env).findIdx? (·.1)=none:=by rfl):PG X (.Tuple es k pos) (NQ X.K n t):=by
 intro pins s σ H v u Q I r hw;obtain⟨a,xs,e1,hq,hl,hw⟩:=hw;subst e1;cases r;obtain⟨its,rv,ht,hz⟩:=I.tuple hq;refine assign_Tuple_tuple (I.ok.hd hc) ht (by simp[hn,<- hl,rv.length]) Ft λh' hx=>?_
 have I1:Inv X pins σ H {s with heap:=h'}:=I.kept (t':=s.toks) λb o e=>hx b o (UI (Us e)) e
 exact h pins _ σ H xs _ Q I1 (by simpa using rv) hw
def NR (to ti:TE)(t:Gn):TG:=λv σ H Q=>to σ H λo H1=>ti σ H1 λi H2=>t o i v H2 λH3=>Q σ H3
theorem kL {o i:Expr}{to ti:TE}{t:Gn}(ho:PE X o to)(hi:PE X i ti)(hs:Kw X t)
  (ha:∀v,assign (.Subscript o i pos) X.env v=(do
   let ov <- holding [v] (eval o X.env)
   let iv <- holding [v,ov] (eval i X.env)
   XF pos
   holding [v,ov,iv] (setItem ov iv v)
   release [v,ov,iv] []):=by intro _;rfl):PG X (.Subscript o i pos) (NR to ti t):=by
 intro pins s σ H v u Q I r h;rw[ha];refine TZ (Vs (b9 (ho pins s σ H _ I h) λov s1 ⟨x,H1,I1,r1,q1⟩=>?_));refine TZ (Vs (b9 (hi pins s1 σ H1 _ I1 q1) λiv s2 ⟨y,H2,I2,r2,q2⟩=>?_));refine TZ (V2 (TZ (Vs (b9 (hs pins s2 σ H2 x y v ov iv u _ I2 r1 r2 r q2) λ_ s3 ⟨H3,I3,q3⟩=>?_))));exact wpAny_release ⟨σ,H3,I3,q3⟩
def Hk (te:TE)(g:TG):TS:=λD σ H=>te σ H λx H1=>g x σ H1 D.nx
theorem kA {tg e:Expr}{te:TE}{g:TG}(he:PE X e te)(hg:PG X tg g)(hs:XO [tg] e pos.line X.env=pure false:=by rfl)(hw:XQ [tg] e X.env=pure none:=by rfl)
  (h1:(VU [tg] X.env).map (·.2)=[assign tg X.env]:=by rfl):PS X (.Assign [tg] e pos) (Hk te g):=by
 intro pins s σ H D I h;refine wpAny_Assign_stores (b9 (he pins s σ H _ I h) λv s1 ⟨x,H1,I1,r1,q1⟩=>?_) hs hw;rw[h1];exact b9 (hg pins s1 σ H1 x v _ I1 r1 q1) λ_ s2 q=>q
theorem iF {i:Nat}{x:Str}{e:Expr}{te:TE}{pos':Pos}(hN:X.N.Nodup)(hi:X.N[i]?=some x)(hx:Loc X.env.scope x)(he:PE X e te)(hs:VI e (some (.Name x pos')) pos.line X.env=pure false:=by rfl)(hf:X.fn x=true\/X.env.scope.names.lookup x=some .local:=by first|exact .inl rfl|exact .inr rfl|assumption):
  PS X (.Assign [.Name x pos'] e pos) (Hk te (uo i)):=by
 intro pins s σ H D I h;refine wpAny_Assign_Name (b9 (he pins s σ H _ I h) λv s1 ⟨y,H1,I1,r1,q1⟩=>?_) hs;exact pj I1 hN hi hx r1 (λs2 I2=>⟨_,H1,I2,q1⟩) hf
end
section
end
structure It where
 go:Nat->Hp->Prop
 G5:Nat->Hp->V->Hp->Prop
 stop:Nat->Hp->Prop
def fU (X:Cx)(pins:List (Addr×Obj))(H:Hp)(b:Addr):Prop :=
 H b=none/\b≠X.env.locals/\b∉X.fs/\(b∈X.ex\/X.s₀.heap.objs.size<=b)/\(∀x c,X.env.cells.lookup x=some c->c≠b)/\∀p∈X.pn++pins,p.1≠b
theorem Inv.zB {X:Cx}{pins:List (Addr×Obj)}{σ:St}{H H':Hp}{s:T3}{b:Addr}(I:Inv X pins σ H s)(hb:s.heap.objs.size<=b)(hn:H' b=none):fU X pins H' b:=by
 refine⟨hn,Nat.ne_of_gt (US I.lt hb),I.Ml hb,.inr (U3 I.sz hb),λx c e z=>?_,λp hp z=>?_⟩
 ·obtain⟨v,q⟩:=I.cell x c e;exact absurd (US q.lt (by rw[z];exact hb)) (WD _)
 ·exact absurd (US (Us (I.pin p hp).1) (by rw[z];exact hb)) (WD _)
structure Turn (P:T7)(w:Ur)(K:PySem.W.Frag)(tg:Expr)(J:It)(fp:List Addr)(it:Addr)(tn:Nat->Heap->Prop):Prop where
 mem:it∈fp
 obj:∀i h,tn i h->∀b∈fp,∃o,h.get? b=some o/\∀v,o.data≠.cell v
 keep:∀i h h',tn i h->(∀b∈fp,∀o,h.get? b=some o->h'.get? b=some o)->tn i h'
 item:∀(X:Cx),X.prog=P->X.w=w->X.K=K->X.calm=true->∀(i:Nat) (pins:List (Addr×Obj)) (s:T3) (σ:St) (H:Hp) (E:TY->T3->Prop),Inv X pins σ H s->(∀b∈fp,fU X pins H b)->tn i s.heap->J.go i H ->
  UQ (model P w) X.A (XR (.ref it)) (λr s1=>∃u,r=some u /\
   UQ (model P w) X.A (Xn tg (.ref it) u) (λ_ s2=>∃x H',Inv X pins σ H' s2/\RelV x u/\J.G5 i H x H'/\tn (i+1) s2.heap/\∀b∈fp,H' b=none) E s1) E s
 done:∀(X:Cx),X.prog=P->X.w=w->X.K=K->X.calm=true->∀(i:Nat) (pins:List (Addr×Obj)) (s:T3) (σ:St) (H:Hp) (E:TY->T3->Prop),Inv X pins σ H s->(∀b∈fp,fU X pins H b)->tn i s.heap->J.stop i H ->
  UQ (model P w) X.A (XR (.ref it)) (λr s1=>r=none/\Inv X pins σ H s1) E s
 self:∀(A:U6) (i:Nat) (s:T3) (Q:TY->T3->Prop) (E:TY->T3->Prop),tn i s.heap->Q (.ref it) s->UQ (model P w) A (XS (.ref it)) Q E s
abbrev TI:=St->Hp->(It->Hp->Prop)->Prop
def Lj (X:Cx)(pins:List (Addr×Obj))(σ:St)(tg:Expr)(R:It->Hp->Prop)(C9:TY)(s2:T3):Prop :=
 ∃(it:Addr) (fp:List Addr) (tn:Nat->Heap->Prop) (J:It) (H':Hp),C9=.ref it/\Inv X pins σ H' s2/\Turn X.prog X.w X.K tg J fp it tn/\tn 0 s2.heap/\(∀b∈fp,fU X pins H' b)/\R J H'
def PI (X:Cx)(tg iter:Expr)(wi:TI):Prop :=
 ∀(pins:List (Addr×Obj)) (s:T3) (σ:St) (H:Hp) (R:It->Hp->Prop),Inv X pins σ H s->wi σ H R ->
  UQ (model X.prog X.w) X.A (eval iter X.env) (λv s1=>UQ (model X.prog X.w) X.A (XS v) (Lj X pins σ tg R) X.xe s1) X.xe s
theorem zu {M:Model}{A:U6}{E:TY->T3->Prop}{s:T3}{tg:Expr}{it:Addr}{u:TY}{o:Obj}{n:String}{vs:Array TY}{Q:Unit->T3->Prop}(ho:s.heap.get? it=some o)(hc:o.cls=.type n)(hd:o.data=.fields vs)
  (hn:["enumerate","zip","dict_itemiterator","dict_reverseitemiterator","odict_iterator","itertools.zip_longest","itertools.pairwise"].contains n=false) (hQ:Q () s):UQ M A (Xn tg (.ref it) u) Q E s:=by
 unfold Xn;cases tg <;> first
  |exact Uj hQ
  | (cases u <;> first
    |exact Uj hQ
    | (refine TZ (wpAny_load ho ?_)
       rw[hc,hd];show UQ M A (if (["enumerate","zip","dict_itemiterator","dict_reverseitemiterator","odict_iterator","itertools.zip_longest","itertools.pairwise"].contains n&&vs[0]?==some (rawInt _))=true then _ else _) Q E s
       rw[if_neg (by intro h;rw[hn,Bool.false_and]at h;cases h)]
       exact Uj hQ))
def Lm (K:PySem.W.Frag)(a:Addr):It :=
 ⟨λi H=>∃xs x,cQ K H a xs/\xs[i]?=some x,λi H x H'=>H'=H/\∀xs,cQ K H a xs->xs[i]?=some x,λi H=>∃xs,cQ K H a xs/\xs.length<=i⟩
def Kz (lo:Int)(n:Nat):It:=⟨λi _=>i<n,λi H x H'=>H'=H/\x=.int (lo+i),λi _=>n<=i⟩
theorem uW {P:T7}{w:Ur}{K:PySem.W.Frag}{tg:Expr}(a it:Addr):Turn P w K tg (Lm K a) [it] it (λi h=>h.IsListIter it a i) where
 mem:=by simp
 obj:=λi h st b hb=>by
  have e:b=it:=by simpa using hb
  subst e;obtain⟨o,e,c,d⟩:=st;exact⟨o,e,λv z=>by rw[d]at z;cases z⟩
 keep:=λi h h' st k=>st.at λo e=>k it (by simp) o e
 item:=by
  intro X hP hw hK hc i pins s σ H E I hf st hg;subst hP hw hK;obtain⟨xs,x,hq,hx⟩:=hg;obtain⟨its,rv,p,hz⟩:=I.list hq;obtain⟨u,hu,ru⟩:=rv.get hx;obtain⟨f0,f1,f2,f3,f4,f5⟩:=hf it (by simp)
  refine wpAny_pyNext_list_item st p.isList (x:=u) (by simpa using hu) λh' aD sb=>?_
  have I1:Inv X pins σ H {s with heap:=h'}:=I.turned (t':=s.toks) (λb o hb e=>(sb.2 b hb).trans e) f0 f1 f3 f4 f5
  obtain⟨o,e,c,d⟩:=id aD;exact⟨u,rfl,zu (s:={s with heap:=h'}) e c d (by decide) ⟨x,H,I1,ru,⟨rfl,λys hy=>by rw[I.yK hy hq];exact hx⟩,aD,λb hb=>(hf b hb).1⟩⟩
 done:=by
  intro X hP hw hK hc i pins s σ H E I hf st hg;subst hP hw hK;obtain⟨xs,hq,hx⟩:=hg;obtain⟨its,rv,p,hz⟩:=I.list hq;obtain⟨f0,f1,f2,f3,f4,f5⟩:=hf it (by simp)
  have hl:=rv.length;exact wpAny_pyNext_list_end (I.ok.hd hc) st p.isList (by simp;lia) λh' eb=>⟨rfl,I.turned (t':=s.toks) (λb o hb e=>eb b o hb e) f0 f1 f3 f4 f5⟩
 self:=λ_ _ _ _ _ st h=>wpAny_pyIter_listiter st h
theorem rJ {P:T7}{w:Ur}{K:PySem.W.Frag}{tg:Expr}(it:Addr)(lo:Int)(n:Nat):Turn P w K tg (Kz lo n) [it] it (λi h=>Ym h it (lo+(i:Nat)*1) ((n:Int)-(i:Nat)) 1) where
 mem:=by simp
 obj:=λi h st b hb=>by
  have e:b=it:=by simpa using hb
  subst e;exact⟨_,st,λv z=>by
   have z':Data.fields _=Data.cell v:=z;cases z'⟩
 keep:=λi h h' st k=>k it (by simp) _ st
 item:=by
  intro X hP hw hK hc i pins s σ H E I hf st hg;subst hP hw hK;obtain⟨f0,f1,f2,f3,f4,f5⟩:=hf it (by simp)
  have W:=Walks.range (prog:=X.prog) (w:=X.w) (I.ok.hd hc) it lo 1 n;refine W.item i s _ _ hg st λv h' tk hv aD kk=>?_;obtain⟨t,rfl⟩:=hv;have I1:Inv X pins σ H {s with heap:=h',toks:=tk}:=I.turned (λb o hb e=>kk b o (by simpa using hb) e) f0 f1 f3 f4 f5
  refine⟨_,rfl,zu (s:={s with heap:=h',toks:=tk}) (n:="range_iterator") aD rfl rfl (by decide) ⟨.int (lo+i),H,I1,⟨t,?_⟩,⟨rfl,rfl⟩,aD,λb hb=>(hf b hb).1⟩⟩
  rw[Int.mul_one]
 done:=by
  intro X hP hw hK hc i pins s σ H E I hf st hg;subst hP hw hK;obtain⟨f0,f1,f2,f3,f4,f5⟩:=hf it (by simp)
  exact wpAny_pyNext_range_end (I.ok.hd hc) st (by have:n<=i:=hg;lia) λh' eb=>⟨rfl,I.turned (t':=s.toks) (λb o hb e=>eb b o hb e) f0 f1 f3 f4 f5⟩
 self:=λ_ _ _ _ _ st h=>wpAny_pyIter_rangeiter st h
section
variable {X:Cx}{tg:Expr}
def IJ (K:PySem.W.Frag)(tl:TE):TI:=λσ H R=>tl σ H λx H1=>∃a,x=.ref a/\(∃xs,cQ K H1 a xs)/\R (Lm K a) H1
theorem nV {l:Expr}{tl:TE}(hl:PE X l tl):PI X tg l (IJ X.K tl):=by
 intro pins s σ H R I h;refine b9 (hl pins s σ H _ I h) λv s1 ⟨x,H1,I1,r1,q1⟩=>?_;obtain⟨a,e,⟨xs,hq⟩,q⟩:=q1;subst e;cases r1;obtain⟨its,rv,p,hz⟩:=I1.list hq;refine X1 p.isList ?_;refine⟨s1.heap.objs.size,[s1.heap.objs.size],_,_,H1,rfl,I1.kept (t':=s1.toks) λb o e=>Ud _ e,uW a _,⟨_,UT _ rfl,rfl,rfl⟩,λb hb=>?_,q⟩;have e:b=s1.heap.objs.size:=by simpa using hb
 subst e;exact I1.zB (T4 _) (I1.bM.fresh (T4 _))
theorem pH {pins:List (Addr×Obj)}{σ:St}{H:Hp}{s:T3}{R:It->Hp->Prop}{E:TY->T3->Prop}{lo hi:Int}{t u v:Tok}{tk:Nat}(I:Inv X pins σ H s)(h1:-(2 ^ 62)<=lo)(h2:lo<2 ^ 62)(h3:-(2 ^ 62)<=hi)(h4:hi<2 ^ 62)
  (q:R (Kz lo (hi-lo).toNat) H):UQ (model X.prog X.w) X.A (XS (.ref s.heap.objs.size)) (Lj X pins σ tg R) E {s with heap:=s.heap.push {cls:=.type "range",data:=.fields #[.int lo t,.int hi u,.int 1 v]},toks:=tk}:=by
 refine wpAny_pyIter_range (IsRange.new ..) (small_one h1 h2 h3 h4) ?_;have I1:Inv X pins σ H {s with heap:=s.heap.push {cls:=.type "range",data:=.fields #[.int lo t,.int hi u,.int 1 v]},toks:=tk}:=I.kept λb o e=>Ud _ e
 refine⟨(s.heap.push {cls:=.type "range",data:=.fields #[.int lo t,.int hi u,.int 1 v]}).objs.size,[(s.heap.push {cls:=.type "range",data:=.fields #[.int lo t,.int hi u,.int 1 v]}).objs.size],_,_,H,rfl,
  I1.kept (t':=tk) λb o e=>Ud _ e,rJ _ lo (hi-lo).toNat,?_,λb hb=>?_,q⟩
 ·have e1:lo+((0:Nat):Int)*1=lo:=by simp
  have e2:(((hi-lo).toNat:Nat):Int)-((0:Nat):Int)=VZ lo hi 1:=by rw[rangeSize_one];split <;> lia
  show Ym _ _ (lo+((0:Nat):Int)*1) ((((hi-lo).toNat:Nat):Int)-((0:Nat):Int)) 1;rw[e1,e2];exact UT _ rfl
 ·have e:b=(s.heap.push {cls:=.type "range",data:=.fields #[.int lo t,.int hi u,.int 1 v]}).objs.size:=by simpa using hb
  subst e;exact I1.zB (T4 _) (I1.bM.fresh (T4 _))
def II (ta:TA):TI:=λσ H R=>ta σ H λvs H1=>∃j:Int,vs=[.int j]/\-(2 ^ 62)<=j/\j<2 ^ 62/\R (Kz 0 j.toNat) H1
def IH (ta:TA):TI:=λσ H R=>ta σ H λvs H1=>∃i j:Int,vs=[.int i,.int j]/\(-(2 ^ 62)<=i/\i<2 ^ 62/\-(2 ^ 62)<=j/\j<2 ^ 62)/\R (Kz i (j-i).toNat) H1
theorem vt {a:Expr} {ta:TA} {p pos:Pos} (hg:Gl X "range") (hm:X.mg "range" = none) (ha:PA X [a] ta) (hs:Up [a] X.env=[(false,eval a X.env)]:=by rfl):PI X tg (.Call (.Name "range" p) [a] [] pos) (II ta):=by
 intro pins s σ H R I h;refine Call_ (eZ I hg hm Yv (Vl (b9 (ha pos pins s σ H _ I h) λus s1 ⟨vs,H1,I1,r1,q1⟩=>?_) hs rfl));obtain⟨j,e,q1,q2,q⟩:=q1;subst e;cases r1 with
 |cons r rr =>
  cases rr;obtain⟨t,rfl⟩:=r;exact call_range_1 (pH I1 (by lia) (by lia) q1 q2 (by simpa using q))
theorem mD {a b:Expr} {ta:TA} {p pos:Pos} (hg:Gl X "range") (hm:X.mg "range" = none) (ha:PA X [a,b] ta) (hs:Up [a,b] X.env=[(false,eval a X.env),(false,eval b X.env)]:=by rfl) (mS:Up [b] X.env=[(false,eval b X.env)]:=by rfl) :
  PI X tg (.Call (.Name "range" p) [a,b] [] pos) (IH ta):=by
 intro pins s σ H R I h;refine Call_ (eZ I hg hm Yv (Vl (b9 (ha pos pins s σ H _ I h) λus s1 ⟨vs,H1,I1,r1,q1⟩=>?_) (by rw[hs,mS]) (by rw[mS];rfl)))
 obtain⟨i,j,e,⟨q1,q2,q3,q4⟩,q⟩:=q1;subst e;cases r1 with
 |cons r rr =>
  cases rr with
  |cons r' rr =>
   cases rr;obtain⟨t,rfl⟩:=r;obtain⟨t',rfl⟩:=r';exact call_range_2 (pH I1 q1 q2 q3 q4 q)
def Lz (wi:TI)(g:TG)(tb:TS):TS:=λD σ H=>wi σ H λJ H1=>∃W:Nat->Nat->St->Hp->Prop,(∃m,W 0 m σ H1)/\∀i m σ H,W i m σ H ->
 (J.stop i H/\D.nx σ H)\/(J.go i H/\∃N:St->Hp->Prop,(∀σ' H',N σ' H'->∃m',m'<m/\W (i+1) m' σ' H')/\∀x H',J.G5 i H x H'->g x σ H' λσ2 H2=>tb {D with nx:=N,ct:=N,bk:=D.nx} σ2 H2)
def kJ (fp:List Addr)(h:Heap):List (Addr×Obj):=fp.filterMap λb=>(h.get? b).map λo=>(b,o)
theorem eX {fp:List Addr}{h:Heap}{b:Addr}{o:Obj}(hb:b∈fp)(e:h.get? b=some o):(b,o)∈kJ fp h:=WU.mpr ⟨b,hb,by rw[e];rfl⟩
theorem vB {fp:List Addr}{h:Heap}{p:Addr×Obj}(hp:p∈kJ fp h):p.1∈fp/\h.get? p.1=some p.2:=by
 obtain⟨b,hb,e⟩:=WU.mp hp;cases q:h.get? b with
 |none=>rw[q]at e;cases e
 |some o =>
  rw[q]at e;have e':(b,o)=p:=UD e;subst e';exact⟨hb,q⟩
theorem Inv.pinned {pins:List (Addr×Obj)}{σ:St}{H:Hp}{s:T3}{fp:List Addr}(I:Inv X pins σ H s)(hf:∀b∈fp,fU X pins H b)(ho:∀b∈fp,∃o,s.heap.get? b=some o/\∀v,o.data≠.cell v):Inv X (pins++kJ fp s.heap) σ H s :=
 I.tY λp hp=>(Uq.mp hp).elim (λz=>I.pin p (UP _ z)) λz=>by
  obtain⟨hb,e⟩:=vB z;obtain⟨f0,f1,f2,_⟩:=hf p.1 hb;obtain⟨o,e',d⟩:=ho p.1 hb;rw[e]at e';cases e';exact⟨e,f0,f1,f2,d⟩
theorem Inv.gQ {pins pl:List (Addr×Obj)}{σ:St}{H:Hp}{s:T3}(I:Inv X (pins++pl) σ H s):Inv X pins σ H s:=I.tY λp hp=>I.pin p (UP _ (Vg _ hp))
theorem xX {iter:Expr}{body:List Stmt}{wi:TI}{g:TG}{tb:TS}{pos:Pos}(hp:PassesOwn (model X.prog X.w) X.A X.env X.xe)(hc:X.calm=true)(hi:PI X tg iter wi)(hg:PG X tg g)(hb:rq X body tb)
  (hs:∀x,UU iter X.env x=pure x:=by intro _;rfl):PS X (.For tg iter body [] pos) (Lz wi g tb):=by
 intro pins s σ H D I h;refine wpAny_For (b9 (hi pins s σ H _ I h) λv s1 h1=>b9 h1 λC9 s2 h2=>?_) hs;obtain⟨it,fp,tn,J,H2,e,I2,T,fh,f2,W,⟨m0,w0⟩,turn⟩:=h2;subst e;have rM:∀{H':Hp},(∀b∈fp,H' b=none)->∀b∈fp,fU X pins H' b:=λhn b hb=>⟨hn b hb,(f2 b hb).2⟩;refine codeAny_forLoop_any (λn s'=>∃i σ' H',Inv X pins σ' H' s'/\tn i s'.heap/\(∀b∈fp,H' b=none)/\W i n σ' H') ?_ m0 ⟨0,σ,H2,I2,fh,λb hb=>(f2 b hb).1,w0⟩;rintro n s3 ⟨i,σ3,H3,I3,j9,J9,w3⟩;rcases turn i n σ3 H3 w3 with⟨stop,qn⟩|⟨go,N,hN,step⟩
 ·refine WK hp (b9 (T.done X rfl rfl rfl hc i pins s3 σ3 H3 X.xe I3 (rM J9) j9 stop) λr s4 ⟨hr,I4⟩=>?_);subst hr;exact Yp ⟨σ3,H3,I4,qn⟩
 ·refine WK hp (b9 (T.item X rfl rfl rfl hc i pins s3 σ3 H3 X.xe I3 (rM J9) j9 go) λr s4 ⟨u,hr,h4⟩=>?_);subst hr;refine WK hp (b9 h4 λ_ s5 ⟨x,H5,I5,r5,y5,Aj,NS⟩=>?_);have Og:=I5.pinned (rM NS) (T.obj _ _ Aj);refine WK hp (b9 (hg _ s5 σ3 H5 x u _ Og r5 (step x H5 y5)) λ_ s6 ⟨σ6,H6,I6,q6⟩=>?_);refine WK hp (b9 (hb _ s6 σ6 H6 _ I6 q6) λf s7 q7=>?_);have again:∀{σ7:St} {H7:Hp},Inv X (pins++kJ fp s5.heap) σ7 H7 s7->N σ7 H7->∃m,m<n/\∃i σ' H',Inv X pins σ' H' s7/\tn i s7.heap/\(∀b∈fp,H' b=none)/\W i m σ' H':=λ{σ7 H7} I7 n7=>by
   obtain⟨m',hm,w7⟩:=hN σ7 H7 n7;refine⟨m',hm,i+1,σ7,H7,I7.gQ,T.keep _ _ _ Aj λb hb o e=>(I7.pin (b,o) (UP _ (UP _ (eX hb e)))).1,λb hb=>?_,w7⟩;obtain⟨o,e,d⟩:=T.obj _ _ Aj b hb;exact(I7.pin (b,o) (UP _ (UP _ (eX hb e)))).2.1
  cases f with
  |next=>obtain⟨σ7,H7,I7,n7⟩:=q7;exact again I7 n7
  |cont=>obtain⟨σ7,H7,I7,n7⟩:=q7;exact again I7 n7
  |brk=>obtain⟨σ7,H7,I7,q7⟩:=q7;exact⟨σ7,H7,I7.gQ,q7⟩
  |ret v=>obtain⟨x7,σ7,H7,I7,r7,q7⟩:=q7;exact⟨x7,σ7,H7,I7.gQ,r7,q7⟩
end
abbrev R2:=V->V->Hp->VK->Prop
def jV (X:Cx)(f:TY->TY->Sem TY)(r:R2):Prop :=
 ∀(pins:List (Addr×Obj)) (s:T3) (σ:St) (H:Hp) (x y:V) (v u:TY) (Q:VK),Inv X pins σ H s->RelV x v->RelV y u->r x y H Q ->
  UQ (model X.prog X.w) X.A (f v u) (EP X pins σ Q) X.xe s
def Kt (X:Cx)(f:TY->Sem TY)(r:V->Hp->VK->Prop):Prop :=
 ∀(pins:List (Addr×Obj)) (s:T3) (σ:St) (H:Hp) (x:V) (v:TY) (Q:VK),Inv X pins σ H s->RelV x v->r x H Q ->
  UQ (model X.prog X.w) X.A (f v) (EP X pins σ Q) X.xe s
def fv (X:Cx)(f:TY)(r:List V->Hp->VK->Prop):Prop :=
 ∀(pins:List (Addr×Obj)) (s:T3) (σ:St) (H:Hp) (xs:List V) (us:List TY) (Q:VK),Inv X pins σ H s->Vals xs us->r xs H Q ->
  UQ (model X.prog X.w) X.A (call f us) (EP X pins σ Q) X.xe s
def He (r:R2)(ta tb:TE):TE:=λσ H Q=>ta σ H λx H1=>tb σ H1 λy H2=>r x y H2 Q
def Qm (r:V->Hp->VK->Prop)(ta:TE):TE:=λσ H Q=>ta σ H λx H1=>r x H1 Q
def rI (C:Int->Int->Prop)(g:Int->Int->V):R2:=λx y H Q=>∃i j,x=.int i/\y=.int j/\C i j/\Q (g i j) H
def AX (g:Int->Int->V):R2:=λx y H Q=>∃i j,x=.int i/\y=.int j/\Q (g i j) H
def rU (g:Int->V):V->Hp->VK->Prop:=λx H Q=>∃i,x=.int i/\Q (g i) H
section
variable {X:Cx}{a b:Expr}{ta tb:TE}{pos:Pos}
theorem Gj (ha:PE X a ta)(hb:PE X b tb){pins:List (Addr×Obj)}{s:T3}{σ:St}{H:Hp}{R:V->V->Hp->Prop}(I:Inv X pins σ H s)
  (h:ta σ H λx H1=>tb σ H1 λy H2=>R x y H2) {Q:TY->T3->Prop} {f:TY->TY->Sem TY}
  (hf:∀v u s2 x y H2,Inv X pins σ H2 s2->RelV x v->RelV y u->R x y H2->UQ (model X.prog X.w) X.A (f v u) Q X.xe s2) :
  UQ (model X.prog X.w) X.A (eval a X.env) (λv s₁=>UQ (model X.prog X.w) X.A (eval b X.env) (λu s₂=>UQ (model X.prog X.w) X.A (f v u) Q X.xe s₂) X.xe s₁) X.xe s:=by
 refine b9 (ha pins s σ H _ I h) λv s1 ⟨x,H1,I1,r1,q1⟩=>?_;refine b9 (hb pins s1 σ H1 _ I1 q1) λu s2 ⟨y,H2,I2,r2,q2⟩=>?_;exact hf v u s2 x y H2 I2 r1 r2 q2
theorem cI {op:Operator}{r:R2}(ho:jV X (VL op) r)(ha:PE X a ta)(hb:PE X b tb):PE X (.BinOp a op b pos) (He r ta tb):=by
 intro pins s σ H Q I h;exact wpAny_BinOp (Gj ha hb I h λv u s2 x y H2 I2 rx ry q=>ho pins s2 σ H2 x y v u Q I2 rx ry q)
theorem HL {op:UnaryOp}{r:V->Hp->VK->Prop}(ho:Kt X (unaryOp op) r)(ha:PE X a ta):PE X (.UnaryOp op a pos) (Qm r ta):=by
 intro pins s σ H Q I h;exact UnaryOp_ (b9 (ha pins s σ H _ I h) λv s1 MQ=>by obtain⟨x,H1,I1,r1,q1⟩:=MQ;exact ho pins s1 σ H1 x v Q I1 r1 q1)
theorem KP {f:TY->TY->Sem TY}{C:Int->Int->Prop}{g:Int->Int->Int}
  (rule:∀(i j:Int) (t u:Tok) (s:T3) (Q:TY->T3->Prop) (E:TY->T3->Prop),C i j->Q (.int (g i j) s.toks) {s with toks:=s.toks+1}->UQ (model X.prog X.w) X.A (f (.int i t) (.int j u)) Q E s) :
  jV X f (rI C λi j=>.int (g i j)):=by
 intro pins s σ H x y v u Q I rx ry h;obtain⟨i,j,rfl,rfl,hc,q⟩:=h;obtain⟨t,rfl⟩:=rx;obtain⟨t',rfl⟩:=ry;exact rule i j t t' s _ _ hc ⟨.int (g i j),H,I.tok _,⟨_,rfl⟩,q⟩
theorem HS {f:TY->TY->Sem TY}{g:Int->Int->Int}
  (rule:∀(i j:Int) (t u:Tok) (s:T3) (Q:TY->T3->Prop) (E:TY->T3->Prop),Q (.int (g i j) s.toks) {s with toks:=s.toks+1}->UQ (model X.prog X.w) X.A (f (.int i t) (.int j u)) Q E s) :
  jV X f (AX λi j=>.int (g i j)):=by
 intro pins s σ H x y v u Q I rx ry h;obtain⟨i,j,rfl,rfl,q⟩:=h;obtain⟨t,rfl⟩:=rx;obtain⟨t',rfl⟩:=ry;exact rule i j t t' s _ _ ⟨.int (g i j),H,I.tok _,⟨_,rfl⟩,q⟩
theorem EM {f:TY->TY->Sem TY}{g:Int->Int->Bool}
  (rule:∀(i j:Int) (t u:Tok) (s:T3) (Q:TY->T3->Prop) (E:TY->T3->Prop),Q (.bool (g i j)) s->UQ (model X.prog X.w) X.A (f (.int i t) (.int j u)) Q E s) :
  jV X f (AX λi j=>.bl (g i j)):=by
 intro pins s σ H x y v u Q I rx ry h;obtain⟨i,j,rfl,rfl,q⟩:=h;obtain⟨t,rfl⟩:=rx;obtain⟨t',rfl⟩:=ry;exact rule i j t t' s _ _ ⟨.bl (g i j),H,I,rfl,q⟩
def tq (i j:Int):Prop:=0<=j/\j<=1000000/\i.natAbs<2 ^ 64
def oQ (i j:Int):Prop:=(-(2 ^ 64)<i/\i<2 ^ 64)\/(-(2 ^ 64)<j/\j<2 ^ 64)
theorem oQ.ok {i j:Int}(h:oQ i j):IntMulOk i j:=by
 rcases h with⟨h1,h2⟩|⟨h1,h2⟩
 ·exact .of_left (intBits_le_64 h1 h2)
 ·exact .of_right (intBits_le_64 h1 h2)
theorem sf:jV X (VL .Add) (AX λi j=>.int (i+j)):=HS λ_ _ _ _ _ _ _ q=>add_int q
theorem yp:jV X (VL .Sub) (AX λi j=>.int (i-j)):=HS λ_ _ _ _ _ _ _ q=>sub_int q
theorem r_:jV X (VL .Mult) (rI oQ λi j=>.int (i*j)):=KP λ_ _ _ _ _ _ _ hc q=>mul_int q hc.ok
theorem kQ:jV X (VL .Mod) (rI (λ_ j=>0<j) λi j=>.int (i % j)):=KP λi j _ _ _ _ _ hc q=>by
 have h1:(0:Int)<j:=hc;exact mod_int' (by lia) (by rw[Int.fmod_eq_emod_of_nonneg i (by lia)];exact q)
theorem kP:jV X (VL .Pow) (rI tq λi j=>.int (i ^ j.toNat)):=KP λ_ _ _ _ _ _ _ hc q=>pow_int_small hc.1 hc.2.1 hc.2.2 q
theorem Qe {f:TY->Sem TY}{g:Int->Int}
  (rule:∀(i:Int) (t:Tok) (s:T3) (Q:TY->T3->Prop) (E:TY->T3->Prop),Q (.int (g i) s.toks) {s with toks:=s.toks+1}->UQ (model X.prog X.w) X.A (f (.int i t)) Q E s) :
  Kt X f (rU λi=>.int (g i)):=by
 intro pins s σ H x v Q I rx h;obtain⟨i,rfl,q⟩:=h;obtain⟨t,rfl⟩:=rx;exact rule i t s _ _ ⟨.int (g i),H,I.tok _,⟨_,rfl⟩,q⟩
theorem DZ:Kt X (unaryOp .USub) (rU λi=>.int (-i)):=Qe λ_ _ _ _ _ q=>neg_int q
end
def LM:V->V->Bool
 |.cE,.cE=>true | .cE,.int _=>true | .int _,.cE=>true | .cE,.bl _=>true | .bl _,.cE=>true | .cE,.str _=>true | .str _,.cE=>true
 |.int _,.int _=>true | .bl _,.bl _=>true | .str _,.str _=>true | .Cu _,.Cu _=>true
 |.int _,.str _=>true | .str _,.int _=>true | .bl _,.str _=>true | .str _,.bl _=>true
 |_,_=>false
def QD:R2:=λx y H Q=>LM x y=true/\Q (.bl (!decide (x=y))) H
theorem Ce {i j:Int}:decide (V.int i=V.int j)=(i==j):=by
 rw[V1];simp
theorem F8 {i j:Bool}:decide (V.bl i=V.bl j)=(i==j):=by
 rw[V1];simp
theorem Cd {i j:Str}:decide (V.str i=V.str j)=(i==j):=by
 rw[V1];simp
theorem Cf {i j:Array UInt8}:decide (V.Cu i=V.Cu j)=(i.toList==j.toList):=by
 rw[V1];cases i;cases j;simp
section
variable {X:Cx}{a b c:Expr}{ta tb:TE}{pos:Pos}
theorem cq {pins:List (Addr×Obj)}{σ:St}{H:Hp}{s:T3}{Q:VK}{k k':Bool}(I:Inv X pins σ H s)(q:Q (.bl k) H)(e:k=k'):EP X pins σ Q (.bool k') s:=by
 subst e;exact⟨.bl k,H,I,rfl,q⟩
theorem HP:jV X (VW .NotEq) QD:=by
 intro pins s σ H x y v u Q I rx ry h;obtain⟨hs,q⟩:=h;cases x with
 |cE =>
  cases rx;cases y with
  |cE=>cases ry;exact PySem.EqNone.ne_none_none (cq I q (by simp))
  |bl j=>cases ry;exact PySem.EqNone.ne_none_bool (cq I q (by simp))
  |int j=>obtain⟨t',rfl⟩:=ry;exact PySem.EqNone.ne_none_int (cq I q (by simp))
  |str j=>obtain⟨t',rfl⟩:=ry;exact PySem.EqNone.ne_none_str (cq I q (by simp))
  |_=>exact absurd (show false=true from hs) Vn
 |bl i =>
  cases rx;cases y with
  |cE=>cases ry;exact PySem.EqNone.ne_bool_none (cq I q (by simp))
  |bl j=>cases ry;exact ne_bool (cq I q (congrArg not F8))
  |str j=>obtain⟨t',rfl⟩:=ry;exact PySem.EqMixed.ne_bool_str (cq I q (by simp))
  |_=>exact absurd (show false=true from hs) Vn
 |int i =>
  obtain⟨t,rfl⟩:=rx;cases y with
  |cE=>cases ry;exact PySem.EqNone.ne_int_none (cq I q (by simp))
  |int j=>obtain⟨t',rfl⟩:=ry;exact ne_int (cq I q (congrArg not Ce))
  |str j=>obtain⟨t',rfl⟩:=ry;exact PySem.EqMixed.ne_int_str (cq I q (by simp))
  |_=>exact absurd (show false=true from hs) Vn
 |str i =>
  obtain⟨t,rfl⟩:=rx;cases y with
  |cE=>cases ry;exact PySem.EqNone.ne_str_none (cq I q (by simp))
  |bl j=>cases ry;exact PySem.EqMixed.ne_str_bool (cq I q (by simp))
  |int j=>obtain⟨t',rfl⟩:=ry;exact PySem.EqMixed.ne_str_int (cq I q (by simp))
  |str j=>obtain⟨t',rfl⟩:=ry;exact ne_str (cq I q (congrArg not Cd))
  |_=>exact absurd (show false=true from hs) Vn
 |Cu i =>
  obtain⟨t,rfl⟩:=rx;cases y with
  |Cu j=>obtain⟨t',rfl⟩:=ry;exact PySem.W.ne_bytes (cq I q (congrArg not Cf))
  |_=>exact absurd (show false=true from hs) Vn
 |_=>cases y <;> exact absurd (show false=true from hs) Vn
theorem HQ:jV X (VW .Lt) (AX λi j=>.bl (decide (i<j))):=EM λ_ _ _ _ _ _ _ q=>lt_int q
theorem CW:jV X (VW .Gt) (AX λi j=>.bl (decide (j<i))):=EM λ_ _ _ _ _ _ _ q=>gt_int q
theorem HR:jV X (VW .GtE) (AX λi j=>.bl (decide (j<=i))):=EM λ_ _ _ _ _ _ _ q=>ge_int q
theorem yB (b:Expr){op:CmpOp}(h:op≠.In:=by decide)(h2:op≠.NotIn:=by decide):V3 op b=false:=by
 have e1:(op==CmpOp.In)=false:=by cases op <;> first|rfl|exact absurd rfl h
 have e2:(op==CmpOp.NotIn)=false:=by cases op <;> first|rfl|exact absurd rfl h2
 cases b <;> simp[V3,e1,e2]
theorem t7 {op:CmpOp}{r:R2}(ho:jV X (VW op) r)(ha:PE X a ta)(hb:PE X b tb)(hm:V3 op b=false):PE X (.Compare a [op] [b] pos) (He r ta tb):=by
 intro pins s σ H Q I h;exact wpAny_Compare1 (Gj ha hb I h λv u s2 x y H2 I2 rx ry q=>ho pins s2 σ H2 x y v u Q I2 rx ry q) hm
def Ha (t:TE):TT:=λσ H Q=>t σ H λx H'=>∃k,x=.bl k/\Q k H'
theorem tP {op:CmpOp}{r:R2}(ho:jV X (VW op) r)(ha:PE X a ta)(hb:PE X b tb)(hm:V3 op b=false):PT X (.Compare a [op] [b] pos) (Ha (He r ta tb)):=by
 intro pins s σ H Q I h;refine wpAny_isTrue_Compare1 (b9 (ha pins s σ H _ I h) λv s1 ⟨x,H1,I1,r1,q1⟩=>b9 (hb pins s1 σ H1 _ I1 q1) λu s2 ⟨y,H2,I2,r2,q2⟩ =>
  b9 (ho pins s2 σ H2 x y v u _ I2 r1 r2 q2) λc s3 ⟨z,H3,I3,r3,k,e,q3⟩=>?_) hm
 subst e;cases r3;exact X0 ⟨H3,I3,q3⟩
theorem om:(Ul:Nat)<2 ^ 63:=by rw[U8];decide
theorem vals1 {x:V}{us:List TY}(r:Vals [x] us):∃u,us=[u]/\RelV x u:=by
 cases r with
 |cons r1 r2=>cases r2;exact⟨_,rfl,r1⟩
theorem vals2 {x y:V}{us:List TY}(r:Vals [x,y] us):∃u w',us=[u,w']/\RelV x u/\RelV y w':=by
 cases r with
 |cons r1 r2 =>
  cases r2 with
  |cons r3 r4=>cases r4;exact⟨_,_,rfl,r1,r3⟩
theorem ng (hc:X.calm=true):fv X (.builtin "max") (λxs H Q=>∃i j,xs=[.int i,.int j]/\Q (.int (if j>i then j else i)) H):=by
 intro pins s σ H xs us Q I r h;obtain⟨i,j,rfl,q⟩:=h;obtain⟨u,w',rfl,⟨t,rfl⟩,⟨t',rfl⟩⟩:=vals2 r;refine max_two_ints (I.ok.hd hc) λh' tk k=>⟨_,H,I.kept k,?_,q⟩
 by_cases hj:j>i
 ·rw[if_pos hj,if_pos hj];exact⟨_,rfl⟩
 ·rw[if_neg hj,if_neg hj];exact⟨_,rfl⟩
theorem wu (hc:X.calm=true):fv X (.builtin "min") (λxs H Q=>∃i j,xs=[.int i,.int j]/\Q (.int (if j<i then j else i)) H):=by
 intro pins s σ H xs us Q I r h;obtain⟨i,j,rfl,q⟩:=h;obtain⟨u,w',rfl,⟨t,rfl⟩,⟨t',rfl⟩⟩:=vals2 r;refine min_two_ints (I.ok.hd hc) λh' tk k=>⟨_,H,I.kept k,?_,q⟩
 by_cases hj:j<i
 ·rw[if_pos hj,if_pos hj];exact⟨_,rfl⟩
 ·rw[if_neg hj,if_neg hj];exact⟨_,rfl⟩
theorem iY:fv X (.type "int") (λxs H Q=>(∃i,xs=[.int i]/\Q (.int i) H)\/∃k,xs=[.bl k]/\Q (.int (if k then 1 else 0)) H):=by
 intro pins s σ H xs us Q I r h;rcases h with⟨i,rfl,q⟩|⟨k,rfl,q⟩
 ·obtain⟨u,rfl,t,rfl⟩:=vals1 r;exact call_int_int ⟨.int i,H,I,⟨_,rfl⟩,q⟩
 ·obtain⟨u,rfl,r1⟩:=vals1 r;cases r1;exact call_int_bool ⟨.int (if k then 1 else 0),H,I.tok _,⟨_,rfl⟩,q⟩
end
structure Gv (h:Heap)(x dx C:Addr)(mA:Str->Option TY):Prop where
 obj:h.get? x=some (PySem.W.instObj C dx)
 ns:h.Ns1 dx mA
 ne:dx≠x
theorem vL {h:Heap}{dx:Addr}{mA:Str->Option TY}(n:h.Ns1 dx mA):∃od,h.get? dx=some od/\∀name,PySem.W.lookIn name od=some (mA name):=by
 obtain⟨o,es,ep,ho,hd,hk,_,hm⟩:=n;refine⟨o,ho,λname=>?_⟩;have e:=hm name;unfold nsFind findBy at e;rw[<- Array.find?_toList]at e;unfold PySem.W.lookIn;rw[hd];dsimp only
 split
 ·rename_i y q
  rw[q]at e;exact congrArg some e
 ·rename_i q
  rw[q]at e;have a:es.toList.any (·.refKey)=false:=by
   rw[W3];intro y hy;obtain⟨z,t,Nq⟩:=hk y (Array.mem_toList_iff.mp hy);simp[DictEntry.refKey,Nq]
  have a':¬ es.toList.any (·.refKey)=true:=by rw[a];exact Vn
  rw[if_neg a'];exact congrArg some e
theorem Gv.look {h:Heap}{x dx C:Addr}{mA:Str->Option TY}(I:Gv h x dx C mA):∃od,PySem.W.InstAt h x (PySem.W.instObj C dx) C (some od)/\∀name,PySem.W.lookIn name od=some (mA name) :=
 let ⟨od,ho,hl⟩:=vL I.ns
 ⟨od,⟨I.obj,rfl,rfl,ho⟩,hl⟩
section
end
theorem lN.some_of {v:V}{o:Option TY}(r:lN (some v) o):∃u,o=some u/\RelV v u:=by
 cases o with
 |none=>exact(show False from r).elim
 |some u=>exact⟨u,rfl,r⟩
section
variable {P:T7}{w:Ur}{H:Hp}{h:Heap}{a C dx:Addr}{fs:List (Str×V)}
theorem dh (bM:gL P w H h)(e:H a=some (.ins C dx fs)):∃mA,Gv h a dx C mA/\(∀f,lN (fs.lookup f) (mA f))/\PySem.Within mA (fs.map (·.1))/\fs.length<=1000/\H dx=some (.own a):=by
 obtain⟨d,z,ne,ob,mA,n,r,q⟩:=(show bD P w H h a (.ins C dx fs) from bM a _ e)
 exact⟨mA,⟨ob,n,ne⟩,r,q,z,d⟩
end
structure Om (K:PySem.W.Frag)(C:Addr):Prop where
 pg:PySem.W.plainGet K C Str.empty=true
 hd:PySem.W.hasDictIn K C=true
 po:PySem.W.plainOver K C=true
 sa:PySem.W.findIn K (.ref C) "__setattr__" = some (some (.builtin "object.__setattr__"))
theorem Om.get {K:PySem.W.Frag}{C:Addr}(c:Om K C)(f:Str):PySem.W.plainGet K C f=true:=c.pg
section
end
section
end
section
variable {X:Cx}{pins:List (Addr×Obj)}{σ:St}{H:Hp}{s:T3}{A:U6}{E:TY->T3->Prop}{Q:TY->T3->Prop}{c:TY}{b:Bool}
inductive ie (K:PySem.W.Frag) (H:Hp):V->TY->Prop where
 |cE:ie K H .cE (.type "NoneType")
 |bl (x:Bool):ie K H (.bl x) (.type "bool")
 |int (i:Int):ie K H (.int i) (.type "int")
 |str (x:Str):ie K H (.str x) (.type "str")
 |GU (x:UInt64):ie K H (.GU x) (.type "float")
 |lst {a:Addr} {xs:List V} (e:H a=some (.lst xs)):ie K H (.ref a) (.type "list")
 |uq {a:Addr} {o:Obj} {xs:List V} (e:H a=some (.uq o (.lst xs))):ie K H (.ref a) (.type "list")
 |tup {a:Addr} {xs:List V} (e:H a=some (.tup xs)):ie K H (.ref a) (.type "tuple")
 |dK {a:Addr} {kvs:List (Key×V)} (e:H a=some (.dK kvs)):ie K H (.ref a) (.type "dict")
 |dT {a:Addr} {kvs:List (List Key×V)} (e:H a=some (.dT kvs)):ie K H (.ref a) (.type "dict")
 |ins {a C dx:Addr} {fs:List (Str×V)} (e:H a=some (.ins C dx fs)) (cl:Om K C) (ha:PySem.W.findIn K (.ref C) "__class__" = some (some (.builtin "object.__class__")))
   (hn:PySem.W.specialIn K (.builtin "object.__class__") "__get__" = some (some (.builtin "getset_descriptor.__get__"))) (Pc:PySem.W.takesIn K (.builtin "object.__class__")=some true)
   (hm:PySem.W.mroIn K C (.type "object")=some true):ie K H (.ref a) (.ref C)
theorem vR {x:V}{u t:TY}(I:Inv X pins σ H s)(rx:RelV x u)(ty:ie X.K H x t)(e:PySem.W.kitOne X.K t c=some b)(h:∀tk,Q (.bool b) {s with toks:=tk}):
  UQ (model X.prog X.w) A (call (.builtin "isinstance") [u,c]) Q E s:=by
 cases ty with
 |cE=>cases (show u=Value.none from rx);exact PySem.W.kia_one PySem.W.kitx_none I.qg WC e (λz=>nomatch z) h
 |bl y=>cases (show u=Value.bool y from rx);exact PySem.W.kia_one PySem.W.kitx_bool I.qg WC e (λz=>nomatch z) h
 |int i=>obtain⟨t,q⟩:=(show ∃t,u=Value.int i t from rx);cases q;exact PySem.W.kia_one PySem.W.kitx_int I.qg WC e (λz=>nomatch z) h
 |str y=>obtain⟨t,q⟩:=(show ∃t,u=Value.str y t from rx);cases q;exact PySem.W.kia_one PySem.W.kitx_str I.qg WC e (λz=>nomatch z) h
 |GU y=>obtain⟨t,q⟩:=(show ∃t,u=Value.float y t from rx);cases q;exact PySem.W.kia_one PySem.W.kitx_float I.qg WC e (λz=>nomatch z) h
 | @lst a xs ea =>
  cases (show u=Value.ref a from rx)
  obtain⟨_,_,n,_,h1⟩:=(show bD X.prog X.w H s.heap a (.lst xs) from I.bM a _ ea)
  exact PySem.W.kia_one PySem.W.kitx_list I.qg ⟨_,h1,rfl⟩ e (λz=>nomatch z) h
 | @uq a ob xs ea =>
  cases (show u=Value.ref a from rx)
  obtain⟨_,_,_,n,_,h1⟩:=(show bD X.prog X.w H s.heap a (.uq ob (.lst xs)) from I.bM a _ ea)
  exact PySem.W.kia_one PySem.W.kitx_list I.qg ⟨_,h1,rfl⟩ e (λz=>nomatch z) h
 | @tup a xs ea =>
  cases (show u=Value.ref a from rx)
  obtain⟨_,_,_,p⟩:=(show bD X.prog X.w H s.heap a (.tup xs) from I.bM a _ ea)
  obtain⟨o,h1,h2,_⟩:=p;exact PySem.W.kia_one PySem.W.kitx_tuple I.qg ⟨o,h1,h2⟩ e (λz=>nomatch z) h
 | @dK a kvs ea =>
  cases (show u=Value.ref a from rx)
  obtain⟨_,_,vs,_,p⟩:=(show bD X.prog X.w H s.heap a (.dK kvs) from I.bM a _ ea)
  obtain⟨o,es,ep,h1,h2,_⟩:=p;exact PySem.W.kia_one PySem.W.kitx_dict I.qg ⟨o,h1,h2.1⟩ e (λz=>nomatch z) h
 | @dT a kvs ea =>
  cases (show u=Value.ref a from rx)
  obtain⟨_,_,xs,_,o,es,ep,h1,h2,_⟩:=(show bD X.prog X.w H s.heap a (.dT kvs) from I.bM a _ ea)
  exact PySem.W.kia_one PySem.W.kitx_dict I.qg ⟨o,h1,h2.1⟩ e (λz=>nomatch z) h
 | @ins a C dx fs ea cl ha hn Pc hm =>
  cases (show u=Value.ref a from rx)
  obtain⟨mA,O,_⟩:=dh I.bM ea;obtain⟨od,J,_⟩:=O.look;exact PySem.W.kia_one (PySem.W.kitx_own (cl.get _) cl.hd ha hn Pc hm) I.qg J e (λz=>nomatch z) h
end
structure cR (k:Nat)(A:U6):Prop where
 hd:A.handled=none
 dp:A.depth+3*k+5<recursionLimit
 un:A.units+16*k+200<WN
theorem cR.mono {j k:Nat}{A:U6}(r:cR k A)(h:j<=k):cR j A:=⟨r.hd,by have:=r.dp;lia,by have:=r.un;lia⟩
theorem cR.deeper {k:Nat}{A:U6}(r:cR (k+1) A)(env:Env):cR k (A.deeper env) :=
 ⟨r.hd,by have:=r.dp;show A.depth+1+3*k+5<_;lia,by have:=r.un;show A.units+3+16*k+200<_;lia⟩
theorem cR.depth {k:Nat}{A:U6}(r:cR k A):A.depth<recursionLimit:=by have:=r.dp;lia
theorem cR.units {k:Nat}{A:U6}(r:cR k A):A.units+64<WN:=by have:=r.un;lia
def Hf:TA:=λ_ H Q=>Q [] H
def CK (ta:TE)(tr:TA):TA:=λσ H Q=>ta σ H λx H1=>tr σ H1 λxs H2=>Q (x::xs) H2
section
variable {X:Cx}{e:Expr}{es:List Expr}{te:TE}{t:TA}{pos:Pos}
theorem cO:PA X [] Hf:=λ_ _ _ _ H Q I h=>Calls.spliced_nil ⟨[],H,I,.nil,h⟩
theorem bu (ha:PE X e te)(hr:PA X es t)(hs:Up (e::es) X.env=(false,eval e X.env)::Up es X.env:=by rfl):PA X (e::es) (CK te t):=by
 intro pos pins s σ H Q I h;rw[hs];show UQ _ _ (spliced ((false,eval e X.env)::VT pos (Up es X.env))) _ _ s;refine Calls.spliced_cons (b9 (ha pins s σ H _ I h) λu s1 ⟨x,H1,I1,r1,q1⟩=>?_);exact b9 (hr pos pins s1 σ H1 _ I1 q1) λus s2 ⟨xs,H2,I2,r2,q2⟩=>⟨x::xs,H2,I2,.cons r1 r2,q2⟩
def Ls (t:TA):TE:=λσ H Q=>t σ H λxs H1=>xs.length<=Ul/\∀p,H1 p=none->Q (.ref p) (upd H1 p (.tup xs))
def Lx (t:TA):TE:=λσ H Q=>t σ H λxs H1=>xs.length<=Ul/\∀p,H1 p=none->Q (.ref p) (upd H1 p (.lst xs))
theorem yh {x1}(h:PA X es t):PE X (.Tuple es x1 pos) (Ls t):=by
 intro pins s σ H Q I hq;refine wpAny_Tuple_spliced (b9 (h pos pins s σ H _ I hq) λus s1 ⟨xs,H1,I1,r,z,q⟩=>⟨by rw[<- r.length];exact z,?_⟩)
 have hf:H1 s1.heap.objs.size=none:=I1.bM.fresh (T4 _);refine⟨.ref s1.heap.objs.size,upd H1 s1.heap.objs.size (.tup xs),I1.laid (t':=s1.toks) (λb u e=>Ud _ e) (T4 _) ?_,rfl,q _ hf⟩;exact⟨z,us,r,⟨_,UT _ rfl,rfl,_,rfl⟩⟩
theorem nX (h:PA X es t):PE X (.List es pos) (Lx t):=by
 intro pins s σ H Q I hq;refine wpAny_List_spliced (b9 (h pos pins s σ H _ I hq) λus s1 ⟨xs,H1,I1,r,z,q⟩=>⟨by rw[<- r.length];exact z,?_⟩)
 have hf:H1 s1.heap.objs.size=none:=I1.bM.fresh (T4 _);refine⟨.ref s1.heap.objs.size,upd H1 s1.heap.objs.size (.lst xs),I1.laid (t':=s1.toks) (λb u e=>Ud _ e) (T4 _) ?_,rfl,q _ hf⟩;exact⟨z,us,0,r,UT _ rfl⟩
end
abbrev Sp:=List V->Hp->VK->XK->Prop
abbrev Ai:=List Env->Hp->T3->XK->TY->T3->Prop
structure CI (P:T7)(w:Ur)(K:PySem.W.Frag)(mg:Str->Option TY)(base:Heap)(A:U6)(outer:List Env)(s:T3)(H:Hp):Prop where
 frames:A.frames=some outer
 mod:Mod K mg base
 bs:∀b o,base.get? b=some o->s.heap.get? b=some o/\H b=none
 DC:base.objs.size<=s.heap.objs.size
 lq:s.heap.FunFrames base outer
 GS:∀b∈zA outer,H b=none
 bM:gL P w H s.heap
 bare:Xm s.gens
def CE (outer:List Env)(P:T7)(w:Ur)(H:Hp)(s:T3)(Q:VK)(u:TY)(s':T3):Prop :=
 ∃v H',s'.os=s.os/\Xm s'.gens/\Un (zA outer) [] H H' s.heap s'.heap/\gL P w H' s'.heap/\RelV v u/\Q v H'
def CR (CX:Ai)(outer:List Env)(P:T7)(w:Ur)(H:Hp)(s:T3)(Q:VK)(E:XK)(r:Result)(s':T3):Prop :=
 match r with
 |.ok (.ret u)=>CE outer P w H s Q u s'
 |.ok _=>False
 |.error e=>CX outer H s E e s'
structure aR (P:T7)(w:Ur)(K:PySem.W.Frag)(mg:Str->Option TY)(base:Heap)(CX:Ai)(k:Nat)(f:Addr)(fd:UW)(ps:List Str)(sp:Sp):Prop where
 len:∀vs H Q E,sp vs H Q E->vs.length=ps.length
 run:∀(A:U6) (outer:List Env) (s:T3) (H:Hp) (args:Args) (us:List TY) (vs:List V) (Q:VK) (E:XK),cR k A->CI P w K mg base A outer s H->BindsTo s fd args (ps.zip us)->Vals vs us->sp vs H Q E ->
  WZ (model P w) A (.call (.ref f) args) (CR CX outer P w H s Q E) s
theorem aR.imp {P:T7}{w:Ur}{K:PySem.W.Frag}{mg:Str->Option TY}{base:Heap}{CX:Ai}{k:Nat}{f:Addr}{fd:UW}{ps:List Str}{sp OB:Sp}(F:aR P w K mg base CX k f fd ps sp)
  (h:∀vs H Q E,OB vs H Q E->sp vs H Q E):aR P w K mg base CX k f fd ps OB :=
 ⟨λvs H Q E q=>F.len vs H Q E (h _ _ _ _ q),λA outer s H args us vs Q E hr he hb hv hs=>F.run A outer s H args us vs Q E hr he hb hv (h _ _ _ _ hs)⟩
section
variable {X:Cx}{pins:List (Addr×Obj)}{σ:St}{H:Hp}{s s':T3}
theorem Inv.N2 (I:Inv X pins σ H s):CI X.prog X.w X.K X.mg X.base X.A X.stack s H :=
 ⟨I.ok.frames,I.ok.mod,I.bs,U3 I.ok.DC I.sz,I.stack,I.tH,I.bM,I.bare⟩
theorem Inv.after {Q:VK}{u:TY}(I:Inv X pins σ H s)(h:CE X.stack X.prog X.w H s Q u s'):EP X pins σ Q u s':=by
 obtain⟨v,H',os,bare,un,bM,r,q⟩:=h;obtain⟨hh,g,d,t,Mf⟩:=s';obtain rfl:Mf=s.os:=os;exact⟨v,H',I.call (h':=hh) (g':=g) (d':=d) (t':=t) (ch:=[]) un bM bare (λb z=>absurd z (by simp)),r,q⟩
end
def Hj (sp:Sp)(Dr:List V)(E:XK)(t:TA):TE:=λσ H Q=>t σ H λvs H1=>sp (vs++Dr) H1 Q E
def Binds (K:PySem.W.Frag)(fd:UW)(ps:List Str)(ds:List TY):Prop :=
 ∀(s:T3) (us:List TY),K.In s.heap->(us++ds).length=ps.length->BindsTo s fd ⟨us,[]⟩ (ps.zip (us++ds))
theorem Binds.all {K:PySem.W.Frag}{fd:UW}{ps:List Str}(h:∀us:List TY,us.length=ps.length->bindArgs fd ⟨us,[]⟩=pure (ps.zip us)):Binds K fd ps []:=λs us _ hl=>by
 rw[Vo]at hl ⊢
 exact .of_eq (h us hl)
def Passes (CX:Ai)(X:Cx)(E:XK):Prop:=∀(pins:List (Addr×Obj)) (σ:St) (H:Hp) (s:T3) (e:TY) (s':T3),Inv X pins σ H s->CX X.stack H s E e s'->X.xe e s'
section
variable {X:Cx}{CX:Ai}{k:Nat}{f:Addr}{fd:UW}{ps:List Str}{sp:Sp}{Dr:List V}{ds:List TY}{E:XK}{x:Str}{p pos:Pos}{e:Expr}{es:List Expr}{t:TA}
theorem Eo {pins:List (Addr×Obj)}{σ:St}{H:Hp}{s:T3}{Q:VK}{us:List TY}{vs:List V}(F:aR X.prog X.w X.K X.mg X.base CX k f fd ps sp)(hr:cR k X.A)(hb:Binds X.K fd ps ds)(hd:Vals Dr ds)(hx:Passes CX X E)
  (I:Inv X pins σ H s) (r:Vals vs us) (h:sp (vs++Dr) H Q E):UQ (model X.prog X.w) X.A (call (.ref f) us) (EP X pins σ Q) X.xe s:=by
 have r2:Vals (vs++Dr) (us++ds):=r.append hd;have hl:(us++ds).length=ps.length:=by rw[<- r2.length];exact F.len _ _ _ _ h
 refine wpAny_call (Wx (F.run X.A X.stack s H ⟨us,[]⟩ (us++ds) (vs++Dr) Q E hr I.N2 (hb s us I.qg hl) r2 h) λr s' hq=>?_);cases r with
 |error e=>exact hx pins σ H s e s' I hq
 |ok fl =>
  cases fl with
  |ret u=>exact I.after hq
  |next=>exact V_ hq
  |brk=>exact V_ hq
  |cont=>exact V_ hq
theorem nY (F:aR X.prog X.w X.K X.mg X.base CX k f fd ps sp)(hr:cR k X.A)(hg:Gl X x)(hm:X.mg x=some (.ref f))(hk:PySem.W.keepIn X.K (.ref f)=true)(hb:Binds X.K fd ps ds)(hd:Vals Dr ds)(hx:Passes CX X E)
  (ha:PA X (e::es) t) (hdb:(x==("__debug__" : Str))=false:=by decide) (he:Up (e::es) X.env=(false,eval e X.env)::Up es X.env:=by rfl) (hpl:(VT pos (Up es X.env)).any (·.1)=false:=by rfl) :
  PE X (.Call (.Name x p) (e::es) [] pos) (Hj sp Dr E t):=by
 intro pins s σ H Q I h;refine Ws (BL I hg hm ?_ hdb);refine PySem.W.callWith_K (h₀:=X.base) I.ok.mod.Mw hk (b9 (ha pos pins s σ H _ I h) λus s1 ⟨vs,H1,I1,r,q⟩=>⟨I1.qg,?_⟩) he hpl;exact Eo F hr hb hd hx I1 r q
end
section
end
structure aP (N P:List Str)(sc:Wg):Prop where
 kind:sc.kind=.function
 co:sc.isCoroutine=false
 gen:sc.isGenerator=false
 nd:N.Nodup
 pre:N.take P.length=P
 par:∀x∈P,sc.names.lookup x=some .local\/sc.names.lookup x=some .cell
 ET:∀y∈sc.names,y.2≠.free
theorem mkS{N P:List Str}{sc:Wg}(h0:sc.kind=.function:=by rfl)(h1:sc.isCoroutine=false:=by rfl)(h2:sc.isGenerator=false:=by rfl)(h3:N.Nodup:=by decide +kernel)(h4:N.take P.length=P:=by rfl)(h5:∀x∈P,sc.names.lookup x=some .local\/sc.names.lookup x=some .cell:=by decide +kernel)(h6:∀y∈sc.names,y.2≠.free:=by decide +kernel):aP N P sc:=⟨h0,h1,h2,h3,h4,h5,h6⟩
theorem nj {kindOf:Str->Option WI}{x:Str}:∀{binds:List (Str×TY)} {m:Str->Option TY},(∀v,(x,v)∉binds)->bindL kindOf binds m x=m x
 |[],_,_=>rfl
 | (n,v)::r,m,h=>by
  unfold bindL;rw[nj λw hw=>h w (UA _ hw)]
  split
  ·have:x≠n:=by rintro rfl;exact h v Uz
   simp[this]
  ·rfl
theorem nr {kindOf:Str->Option WI}{x:Str}:∀{binds:List (Str×TY)} {m:Str->Option TY},(∀v,(x,v)∉binds)->bindC kindOf binds m x=m x
 |[],_,_=>rfl
 | (n,v)::r,m,h=>by
  unfold bindC;rw[nr λw hw=>h w (UA _ hw)]
  split
  ·rfl
  ·have:x≠n:=by rintro rfl;exact h v Uz
   simp[this]
theorem nk {kindOf:Str->Option WI}{x:Str}{v:TY}:∀{P:List Str} {vs:List TY} {i:Nat} {m:Str->Option TY},P.Nodup->P[i]?=some x->vs[i]?=some v->kindOf x=some .local ->
  bindL kindOf (P.zip vs) m x=some v
 |[],_,_,_,_,h,_,_=>by simp at h
 |_::_,[],_,_,_,_,h,_=>by simp at h
 |p::P,w::vs,0,m,nd,h1,h2,hk=>by
  simp at h1 h2;subst h1;subst h2;show bindL kindOf ((p,w)::P.zip vs) m p=_;unfold bindL;rw[nj λv hv=>(UM.mp nd).1 (Xq hv).1,if_pos hk];simp
 |p::P,w::vs,i+1,m,nd,h1,h2,hk=>by
  show bindL kindOf ((p,w)::P.zip vs) m x=_;unfold bindL;exact nk (i:=i) (UM.mp nd).2 (by simpa using h1) (by simpa using h2) hk
theorem nv {kindOf:Str->Option WI}{x:Str}{v:TY}:∀{P:List Str} {vs:List TY} {i:Nat} {m:Str->Option TY},P.Nodup->P[i]?=some x->vs[i]?=some v->kindOf x≠some .local ->
  bindC kindOf (P.zip vs) m x=some v
 |[],_,_,_,_,h,_,_=>by simp at h
 |_::_,[],_,_,_,_,h,_=>by simp at h
 |p::P,w::vs,0,m,nd,h1,h2,hk=>by
  simp at h1 h2;subst h1;subst h2;show bindC kindOf ((p,w)::P.zip vs) m p=_;unfold bindC;rw[nr λv hv=>(UM.mp nd).1 (Xq hv).1,if_neg hk];simp
 |p::P,w::vs,i+1,m,nd,h1,h2,hk=>by
  show bindC kindOf ((p,w)::P.zip vs) m x=_;unfold bindC;exact nv (i:=i) (UM.mp nd).2 (by simpa using h1) (by simpa using h2) hk
def start (N:List Str)(vs:List V):St:=vs.map some++UL (N.length-vs.length) none
noncomputable def lH (CX:Ai)(P:T7)(w:Ur)(K:PySem.W.Frag)(mg:Str->Option TY)(base:Heap)(N:List Str)(qual:Str)(scope:Wg)(f:Addr)(cd:TY)(A:U6)(outer:List Env)(s:T3)(H:Hp)(E:XK):Cx where
 prog:=P
 w:=w
 K:=K
 mg:=mg
 base:=base
 A:=A.deeper (W7 qual scope s.heap.objs.size f cd)
 N:=N
 s₀:=s
 H₀:=H
 env:=W7 qual scope s.heap.objs.size f cd
 outer:=outer
 stack:=W7 qual scope s.heap.objs.size f cd::outer
 ex:=[]
 calm:=true
 fn:=λ_=>true
 pn:=[]
 xe:=λe s'=>UQ (model P w) (A.deeper (W7 qual scope s.heap.objs.size f cd)) (leaving (W7 qual scope s.heap.objs.size f cd) e) (λ_ LN=>CX outer H s E e LN) (λe' LN=>CX outer H s E e' LN) s'
theorem qU {sc:Wg}{n:Nat}{x:Str}(h:sc.names.lookup x=some .cell):∃c,(cellsFrom n sc.names []).lookup x=some c:=by
 have q:=PySem.W.cellsFrom_some sc.names n [] (.inl h);exact Option.isSome_iff_exists.mp q
theorem vU {CX:Ai}{P:T7}{w:Ur}{K:PySem.W.Frag}{mg:Str->Option TY}{base:Heap}{N ps:List Str}{qual:Str}{scope:Wg}{f:Addr}{cd:TY}{A:U6}{outer:List Env}{s s1:T3}{H:Hp}{E:XK}{us:List TY}{vs:List V}
  (S:aP N ps scope) (hd:A.handled=none) (e0:CI P w K mg base A outer s H) (hl:vs.length=ps.length) (r:Vals vs us)
  (x:InCallC s s.heap.objs.size (bindL (W7 qual scope s.heap.objs.size f cd).kindOf (ps.zip us) λ_=>none) (cellsFrom (s.heap.objs.size+1) scope.names []) (bindC (W7 qual scope s.heap.objs.size f cd).kindOf (ps.zip us) λ_=>none) s1) :
  Inv (lH CX P w K mg base N qual scope f cd A outer s H E) [] (start N vs) H s1:=by
 have hpl:ps.length<=N.length:=by have:=congrArg List.length S.pre;rw[Ut]at this;lia
 obtain⟨h1,tk,rfl,hk⟩:=x.done;have H4:∀b:Addr,b∉(lH CX P w K mg base N qual scope f cd A outer s H E).ex:=λb z=>absurd (show b∈([]:List Addr) from z) (by simp)
 refine⟨⟨e0.mod,S.kind,rfl,rfl,T4 _,λy z c h1 h2=>?_,λy hy=>?_,λy c _ h=>?_,λ_=>hd,Around.frames_deeper e0.frames,.inr ⟨rfl,rfl⟩,λb z=>absurd z (H4 b),e0.bs,e0.DC,λb _ _=>H4 b,λb z=>absurd z (H4 b),e0.lq,e0.GS⟩,
  rfl,e0.bare,Un.kept hk,⟨_,x.toInCall.ns,λi y v h1 h2 h3=>?_⟩,λy c h=>⟨_,x.cell y c h⟩,e0.bM.fresh (T4 _),λy c h=>?_,λp hp=>absurd (show p∈([]:List (Addr×Obj)) from hp) (by simp),e0.bM.kept hk,?_⟩
 ·exact name_of_addr x.apart (PySem.mem_of_lookup h1) (PySem.mem_of_lookup h2)
 ·have hy:scope.names.lookup y=some .cell\/scope.names.lookup y=some .free:=hy;rcases hy with hy|hy
  ·exact qU hy
  ·exact absurd rfl (S.ET _ (PySem.mem_of_lookup hy))
 ·exact Nat.le_of_lt (x.above y c (PySem.mem_of_lookup h))
 ·have hi:i<vs.length:=by
   unfold start at h2
   by_cases hi:i<vs.length
   ·exact hi
   ·rw[UZ (by simpa using hi)]at h2
    rw[List.getElem?_replicate]at h2
    split at h2 <;> cases h2
  have ha:vs[i]?=some v:=by
   unfold start at h2;rw[Vh (by simpa using hi),T6]at h2
   cases e:vs[i]? with
   |none=>rw[e]at h2;cases h2
   |some a=>rw[e]at h2;cases h2;rfl
  obtain⟨u,hu,rv⟩:=r.get ha;have hp:ps[i]?=some y:=by
   rw[<- S.pre,Wm (by lia)];exact h1
  have OT:ps.Nodup:=by rw[<- S.pre];exact S.nd.sublist (List.take_sublist _ _)
  refine⟨u,rv,?_⟩;rcases S.par y (UO hp)with k|k
  ·exact .inl ⟨k,nk OT hp hu k⟩
  ·obtain⟨c,e⟩:=qU (n:=s.heap.objs.size+1) k;refine .inr ⟨.inl k,c,e,?_⟩;have q:=x.cell y c e;rw[nv OT hp hu (by show scope.names.lookup y≠_;rw[k];decide)]at q
   exact q
 ·exact e0.bM.fresh (Nat.le_of_lt (x.above y c (PySem.mem_of_lookup h)))
 ·unfold start;show _=N.length;rw[Ui,TX,List.length_replicate];lia
theorem J_ {CX:Ai}{P:T7}{w:Ur}{K:PySem.W.Frag}{mg:Str->Option TY}{base:Heap}{k:Nat}{f:Addr}{name qual:Str}{params:Arguments}{body:List Stmt}{scope:Wg}{dV kV doc pm cG ct oc:TY}{an od:Option Addr}
  {EI:Array (Option TY)} {N ps:List Str} {sp:Sp} (lk:K.lookup f=some ⟨oc,od,.func (PySem.W.fnOf name qual params body scope dV kV doc pm an cG ct),EI⟩) (dJ:PySem.W.codeIn K cG qual=true) (S:aP N ps scope)
  (len:∀vs H Q E,sp vs H Q E->vs.length=ps.length)
  (hX:∀(A:U6) (outer:List Env) (s:T3) (H:Hp) (vs:List V) (Q:VK) (E:XK),cR k (A.deeper (W7 qual scope s.heap.objs.size f cG))->sp vs H Q E ->
   ∃t,rq (lH CX P w K mg base N qual scope f cG A outer s H E) body t/\t {nx:=λ_ H'=>Q .cE H',rt:=Q} (start N vs) H) :
  aR P w K mg base CX (k+1) f (PySem.W.fnOf name qual params body scope dV kV doc pm an cG ct) ps sp:=by
 refine⟨len,λA outer s H args us vs Q E hr e0 hb r jk=>?_⟩;have hl:=len _ _ _ _ jk;have KX:K.In s.heap:=e0.mod.Mw.keeps λb o e=>(e0.bs b o e).1;have lim:s.heap.NoLimit:=e0.mod.nolimit.keeps λb o e=>(e0.bs b o e).1;have JV:∀y∈ps.zip us,scope.names.lookup y.1=some .local\/(scope.names.lookup y.1=some .cell/\((cellsFrom (s.heap.objs.size+1) scope.names []).lookup y.1).isSome=true):=λMO hy=>by
  obtain⟨n,v⟩:=MO;rcases S.par n (Xq hy).1 with q|q
  ·exact .inl q
  ·exact .inr ⟨q,PySem.W.cellsFrom_some _ _ _ (.inl q)⟩
 refine codeAny_call_function hr.depth (KX _ _ lk) rfl S.co S.gen rfl (PySem.W.codeRec_of KX dJ) (hb _ _ _ _ ?_);refine wpAny_newFunctionEnv_cells S.kind JV λenv he s1 x=>?_;subst he;refine⟨lim.keeps x.toInCall.keep,codeAny_func ?_⟩;obtain⟨t,ht,hq⟩:=hX A outer s H vs Q E (hr.deeper _) jk;have I:Inv (lH CX P w K mg base N qual scope f cG A outer s H E) [] (start N vs) H s1:=vU S hr.hd e0 hl r x;refine WQ (ht [] s1 (start N vs) H _ I hq) (λfl s' hs=>?_) λe s' hs=>hs;have fin:∀{σ':St} {H':Hp} {v:V} {u:TY},Inv (lH CX P w K mg base N qual scope f cG A outer s H E) [] σ' H' s'->RelV v u->Q v H'->CE outer P w H s Q u s' :=
  λ{σ' H' v u} J rv q=>⟨v,H',J.os,J.bare,J.base,J.bM,rv,q⟩
 cases fl with
 |ret u =>
  obtain⟨v,σ',H',J,rv,q⟩:=hs;exact fin J rv q
 |next =>
  obtain⟨σ',H',J,q⟩:=hs;exact fin (v:=V.cE) (u:=Value.none) J rfl q
 |brk =>
  obtain⟨_,_,_,q⟩:=hs;exact V_ q
 |cont =>
  obtain⟨_,_,_,q⟩:=hs;exact V_ q
section
variable {X:Cx}{x:Str}{p pos:Pos}{e:Expr}{es:List Expr}{t:TA}{id T:String}{r:List V->Hp->VK->Prop}
def LA (r:List V->Hp->VK->Prop)(t:TA):TE:=λσ H Q=>t σ H λvs H1=>r vs H1 Q
theorem kM (hc:fv X (.builtin id) r) (hg:Gl X x) (hm:X.mg x=none) (hv:U1 x=some (.builtin id)) (ha:PA X (e::es) t) (hn:x≠"__name__" := by decide) (hdb:(x==("__debug__" : Str))=false:=by decide)
  (he:Up (e::es) X.env=(false,eval e X.env)::Up es X.env:=by rfl) (hpl:(VT pos (Up es X.env)).any (·.1)=false:=by rfl):PE X (.Call (.Name x p) (e::es) [] pos) (LA r t):=by
 intro pins s σ H Q I h;refine Ws (eZ I hg hm hv ?_ hn hdb);exact PyProof.Rows.callWith_builtin1 (b9 (ha pos pins s σ H _ I h) λus s1 Fw=>by obtain⟨vs,H1,I1,r1,q1⟩:=Fw;exact hc pins s1 σ H1 vs us Q I1 r1 q1) he hpl
theorem iH (hc:fv X (.type T) r) (hg:Gl X x) (hm:X.mg x=none) (hv:U1 x=some (.type T)) (ha:PA X (e::es) t) (hn:x≠"__name__" := by decide) (hdb:(x==("__debug__" : Str))=false:=by decide)
  (he:Up (e::es) X.env=(false,eval e X.env)::Up es X.env:=by rfl) (hpl:(VT pos (Up es X.env)).any (·.1)=false:=by rfl):PE X (.Call (.Name x p) (e::es) [] pos) (LA r t):=by
 intro pins s σ H Q I h;refine Ws (eZ I hg hm hv ?_ hn hdb);exact Vl (b9 (ha pos pins s σ H _ I h) λus s1 Fv=>by obtain⟨vs,H1,I1,r1,q1⟩:=Fv;exact hc pins s1 σ H1 vs us Q I1 r1 q1) he hpl
end
end L2
namespace HT
open PySem PyProof.Rows
def lexLt:List Int->List Int->Bool
 |[],[]=>false
 |[],_::_=>true
 |_::_,[]=>false
 |x::xs,y::ys=>if x=y then lexLt xs ys else decide (x<y)
theorem gF (x y:Int)(xs ys:List Int):lexLt (x::xs) (y::ys)=if x=y then lexLt xs ys else decide (x<y):=rfl
section
open PySem.SeqAt
open PySem.AutoSeq1 (wpAny_loadPart')
open PySem.MeetsSeq PySem.MeetsSeq2 PySem.MeetsSeq3
end
section
def ku (n d:Nat):Option Int->Nat
 |none=>d
 |some v=>if v<0 then (v+(n:Int)).toNat else min v.toNat n
theorem kq (n d:Nat):ku n d none=d:=rfl
theorem nN (n d k:Nat):ku n d (some (k:Int))=min k n:=by
 show (if (k:Int)<0 then ((k:Int)+(n:Int)).toNat else min (k:Int).toNat n)=min k n
 rw[if_neg (by lia),W5]
end
end HT
namespace L2
open PySem PySem.Spec PyProof.Rows
abbrev TO:=St->Hp->(Option Int->Hp->Prop)->Prop
def PO (X:Cx)(e:Option Expr)(t:TO):Prop :=
 ∀(pins:List (Addr×Obj)) (s:T3) (σ:St) (H:Hp) (Q:Option Int->Hp->Prop),Inv X pins σ H s->t σ H Q ->
  UQ (model X.prog X.w) X.A (evalPart e X.env) (λu s'=>∃o H',Inv X pins σ H' s'/\IsPart u o/\Q o H') X.xe s
def AD:TO:=λ_ H Q=>Q none H
def Hc (t:TE):TO:=λσ H Q=>t σ H λx H1=>∃i,x=.int i/\Q (some i) H1
theorem intsAre_of {ns:List Int}:∀{us:List TY},Vals (ns.map V.int) us->Xk us ns:=by
 induction ns with
 |nil=>intro us r;rw[List.map_nil]at r;cases r;exact .nil
 |cons n ns ih =>
  intro us r;rw[Uy]at r;cases r with
  |cons r1 r2 =>
   obtain⟨t,e⟩:=r1;subst e;exact .cons n t (ih r2)
section
variable {X:Cx}{e:Expr}{te:TE}{lo hi:Option Expr}{tl th:TO}{pos p2:Pos}
theorem tX:PO X none AD:=by
 intro pins s σ H Q I h;rw[evalPart_none];exact Uj ⟨none,H,I,.none,h⟩
theorem tV (h:PE X e te):PO X (some e) (Hc te):=by
 intro pins s σ H Q I hw;rw[evalPart_some];refine b9 (h pins s σ H _ I hw) λu s1 ⟨x,H1,I1,r1,q1⟩=>?_;obtain⟨i,rfl,q⟩:=q1;obtain⟨t,rfl⟩:=r1;exact⟨some i,H1,I1,.int i t,q⟩
def Oc (X:Cx)(r:V->Option Int->Option Int->Hp->VK->Prop):Prop :=
 ∀(pins:List (Addr×Obj)) (s:T3) (σ:St) (H:Hp) (x:V) (v vl vu:TY) (lo hi:Option Int) (sl:Addr) (Q:VK),Inv X pins σ H s->RelV x v->s.heap.IsSliceOf sl vl vu .none->IsPart vl lo->IsPart vu hi->r x lo hi H Q ->
  ∃T id,typeLookup (.type T) "__getitem__" = pure (some (.builtin id))/\s.TypeIs v T/\UQ (model X.prog X.w) X.A (getItem v (.ref sl)) (EP X pins σ Q) X.xe s
def Qn (r:V->Option Int->Option Int->Hp->VK->Prop)(te:TE)(tl th:TO):TE:=λσ H Q=>te σ H λx H1=>tl σ H1 λl H2=>th σ H2 λu H3=>r x l u H3 Q
theorem pO {r:V->Option Int->Option Int->Hp->VK->Prop}(hr:Oc X r)(he:PE X e te)(hl:PO X lo tl)(hu:PO X hi th):PE X (.Subscript e (.Slice lo hi none p2) pos) (Qn r te tl th):=by
 intro pins s σ H Q I h;refine Subscript_ (b9 (he pins s σ H _ I h) λv s1 ⟨x,H1,I1,r1,q1⟩=>?_);refine wpAny_Slice (b9 (hl pins s1 σ H1 _ I1 q1) λvl s2 ⟨l,H2,I2,pl,q2⟩=>b9 (hu pins s2 σ H2 _ I2 q2) λvu s3 ⟨u,H3,I3,pu,q3⟩=>?_);rw[evalPart_none];refine Uj ?_;have I4:Inv X pins σ H3 {s3 with heap:=s3.heap.push {cls:=.type "slice",data:=.fields #[vl,vu,.none]}}:=I3.kept (t':=s3.toks) λb ob q=>Ud _ q
 obtain⟨T,id,hT,ht,hg⟩:=hr pins {s3 with heap:=s3.heap.push {cls:=.type "slice",data:=.fields #[vl,vu,.none]}} σ H3 x v vl vu l u s3.heap.objs.size Q I4 r1 (Heap.IsSliceOf.new ..) pl pu q3
 show UQ (model X.prog X.w) X.A (subscriptTail e (.Slice lo hi none p2) v (.ref s3.heap.objs.size)) (EP X pins σ Q) X.xe {s3 with heap:=s3.heap.push {cls:=.type "slice",data:=.fields #[vl,vu,.none]}}
 exact tail_any (ops:=[.ref s3.heap.objs.size,v]) ht hT hg (by with_unfolding_all rfl)
def qT (xs:List V)(lo hi:Option Int):List V:=(xs.drop (HT.ku xs.length 0 lo)).take (HT.ku xs.length xs.length hi-HT.ku xs.length 0 lo)
theorem qS (xs:List V)(lo hi:Option Int):(qT xs lo hi).length<=xs.length:=by
 unfold qT;rw[Ut,Vv];lia
end
def rl (n:Nat)(i:Int):Option Nat:=if 0<=i then (if i<n then some i.toNat else none) else if -(n:Int)<=i then some (i+n).toNat else none
def jB {α:Type}(xs:List α)(i:Int):Option α:=(rl xs.length i).bind λj=>xs[j]?
theorem ui {n:Nat}{i:Int}{j:Nat}(h:rl n i=some j):seqIndex? i n=some j/\j<n/\-(n:Int)<=i/\i<n:=by
 unfold rl at h
 by_cases h0:0<=i
 ·rw[if_pos h0]at h
  by_cases h1:i<n
  ·rw[if_pos h1]at h;have e:i.toNat=j:=UD h;exact⟨by rw[seqIndex_of h0 h1,e],by lia,by lia,h1⟩
  ·rw[if_neg h1]at h;cases h
 ·rw[if_neg h0]at h
  by_cases h1:-(n:Int)<=i
  ·rw[if_pos h1]at h;have e:(i+n).toNat=j:=UD h;exact⟨by rw[seqIndex_neg (by lia) h1,e],by lia,h1,by lia⟩
  ·rw[if_neg h1]at h;cases h
theorem uO {α:Type}{xs:List α}{i:Int}{v:α}(h:jB xs i=some v):∃j,seqIndex? i xs.length=some j/\xs[j]?=some v/\j<xs.length/\-(xs.length:Int)<=i/\i<xs.length:=by
 unfold jB at h;cases e:rl xs.length i with
 |none=>rw[e]at h;cases h
 |some j =>
  rw[e]at h;obtain⟨h1,h2,h3,h4⟩:=ui e;exact⟨j,h1,h,h2,h3,h4⟩
def jU (b:Expr):Prop:=∀o i,subscripted b false o i=operate [o,i] (getItem o i)
def DJ (X:Cx)(r:R2):Prop :=
 ∀(value slice:Expr) (pins:List (Addr×Obj)) (s:T3) (σ:St) (H:Hp) (x y:V) (v u:TY) (Q:VK),Inv X pins σ H s->RelV x v->RelV y u->r x y H Q ->
  subscripted slice false v u=operate [v,u] (getItem v u)->UQ (model X.prog X.w) X.A (subscriptTail value slice v u) (EP X pins σ Q) X.xe s
def P0 (X:Cx)(id:String)(r:V->List V->Hp->VK->Prop):Prop :=
 ∀(pins:List (Addr×Obj)) (s:T3) (σ:St) (H:Hp) (x:V) (xs:List V) (v:TY) (us:List TY) (Q:VK),Inv X pins σ H s->RelV x v->Vals xs us->r x xs H Q ->
  UQ (model X.prog X.w) X.A (call (.builtin id) (v::us)) (EP X pins σ Q) X.xe s
section
variable {X:Cx}{a b:Expr}{ta tb:TE}{pos:Pos}
theorem gn {r:R2}(hr:DJ X r)(ha:PE X a ta)(hb:PE X b tb)(hs:jU b):PE X (.Subscript a b pos) (He r ta tb):=by
 intro pins s σ H Q I h;exact Subscript_ (Gj ha hb I h λv u s2 x y H2 I2 rx ry q=>hr a b pins s2 σ H2 x y v u Q I2 rx ry q (hs _ _))
def Hz (K:PySem.W.Frag):R2:=λx y H Q=>∃p xs i v,x=.ref p/\y=.int i/\cQ K H p xs/\jB xs i=some v/\Q v H
def Hw (K:PySem.W.Frag):R2:=λx y H Q=>∃p xs i v,x=.ref p/\y=.int i/\uS K H p xs/\jB xs i=some v/\Q v H
theorem cX:DJ X (Hz X.K):=by
 intro value slice pins s σ H x y v u Q I rx ry h hs;obtain⟨p,xs,i,z,rfl,rfl,hq,he,q⟩:=h;cases rx;obtain⟨t,rfl⟩:=ry;obtain⟨its,r,pl,hz⟩:=I.list hq;obtain⟨j,h1,h2,h3,h4,h5⟩:=uO he;obtain⟨w,ew,Ak⟩:=r.get h2;have hl:=r.length;have hn:=om;have fin:EP X pins σ Q w s:=⟨z,H,I,Ak,q⟩
 by_cases h0:0<=i
 ·have hj:i.toNat=j:=by
   rw[seqIndex_of h0 h5]at h1;exact UD h1
  exact item_listR pl.isList h0 (by lia) (by rw[hj];simpa using ew) fin hs
 ·have hj:(i+(its.toArray.size:Int)).toNat=j:=by
   rw[seqIndex_neg (by lia) h4]at h1
   rw[UB,<- hl];exact UD h1
  exact subscriptTail_builtinR (x:=w) pl.isList.typeIs slot_list_getitem.lookup
   (wpAny_getItem_list_neg (Q:=λr s'=>r=w/\EP X pins σ Q r s') pl.isList (by lia) (by rw[UB] <;> lia) (by lia) (by rw[hj];simpa using ew) ⟨rfl,fin⟩) hs
theorem yO:DJ X (Hw X.K):=by
 intro value slice pins s σ H x y v u Q I rx ry h hs;obtain⟨p,xs,i,z,rfl,rfl,hq,he,q⟩:=h;cases rx;obtain⟨t,rfl⟩:=ry;obtain⟨its,r,pl,hz⟩:=I.tuple hq;obtain⟨j,h1,h2,h3,h4,h5⟩:=uO he;obtain⟨w,ew,Ak⟩:=r.get h2;have hl:=r.length;have hn:=om;have fin:EP X pins σ Q w s:=⟨z,H,I,Ak,q⟩;exact subscriptTail_builtinR (x:=w) pl.typeIs slot_tuple_getitem.lookup
  (getItem_tuple (j:=j) (Q:=λr s'=>r=w/\EP X pins σ Q r s') pl (by lia) (by lia) (by rw[UB,<- hl];exact h1) (by simpa using ew) ⟨rfl,fin⟩) hs
theorem su (its:List TY)(n j:Nat)(u:TY):V8 (·.setIfInBounds j u) {cls:=.type "list",data:=.seq its.toArray n}={cls:=.type "list",data:=.seq (its.set j u).toArray n}:=by
 simp[V8]
theorem Inv.lst {pins:List (Addr×Obj)}{σ:St}{H:Hp}{s:T3}{p:Addr}{xs:List V}(I:Inv X pins σ H s)(h:H p=some (.lst xs)):
  ∃(its:List TY) (n:Nat),Vals xs its/\s.heap.get? p=some {cls:=.type "list",data:=.seq its.toArray n}/\xs.length<=Ul:=by
 obtain⟨z,its,n,r,e⟩:=I.bM p _ h;exact⟨its,n,r,e,z⟩
theorem Inv.E3 {pins:List (Addr×Obj)}{σ:St}{H:Hp}{s:T3}{p:Addr}{xs ys:List V}{its its':List TY}{n n':Nat}{f:Obj->Obj}(I:Inv X pins σ H s)(h:H p=some (.lst xs))
  (ho:s.heap.get? p=some {cls:=.type "list",data:=.seq its.toArray n}) (hf:f {cls:=.type "list",data:=.seq its.toArray n}={cls:=.type "list",data:=.seq its'.toArray n'}) (r:Vals ys its') (hz:ys.length<=Ul) (t:Nat) :
  Inv X pins σ (upd H p (.lst ys)) {s with heap:=s.heap.update p f,toks:=t}:=by
 have e:(s.heap.update p f).get? p=some {cls:=.type "list",data:=.seq its'.toArray n'}:=by
  rw[Heap.get?_update_self f ho (by rw[hf] <;> rfl),hf]
 refine I.write (x:=p) (e:=p) (by rw[h];trivial) (.inl rfl) (λb u hb q=>(Heap.get?_update_other _ _ (Wd hb)).trans q) ⟨_,e⟩ ?_
 exact⟨hz,its',n',r,e⟩
def Hv:V->V->V->Hp->(Hp->Prop)->Prop:=λo i v H Q=>∃p xs k j,o=.ref p/\i=.int k/\H p=some (.lst xs)/\rl xs.length k=some j/\Q (upd H p (.lst (xs.set j v)))
theorem set_list:Kw X Hv:=by
 intro pins s σ H o i v ov iv u Q I ro ri rv h;obtain⟨p,xs,k,j,rfl,rfl,hp,hj,q⟩:=h;cases ro;obtain⟨t,rfl⟩:=ri;obtain⟨its,n,r,ho,hz⟩:=I.lst hp;obtain⟨h1,h2,h3,h4⟩:=ui hj;have hl:=r.length;have hn:=om;have I':Inv X pins σ (upd H p (.lst (xs.set j v))) {s with heap:=s.heap.update p (V8 (·.setIfInBounds j u))} :=
  I.E3 hp ho (su its n j u) (r.set rv j) (by rw[Xr];exact hz) s.toks
 by_cases h0:0<=k
 ·have hk:k.toNat=j:=by
   rw[seqIndex_of h0 h4]at h1;exact UD h1
  exact PySem.W.ki_setAt ho h0 (by lia) (by rw[UB,<- hl];exact h4) (by rw[hk];exact⟨_,I',q⟩)
 ·have hk:(k+(its.toArray.size:Int)).toNat=j:=by
   rw[seqIndex_neg (by lia) h3]at h1
   rw[UB,<- hl];exact UD h1
  exact PySem.W.ki_setBack ho (by lia) (by rw[UB,<- hl];exact h3) (by lia) (by rw[hk];exact⟨_,I',q⟩)
theorem nG (lo hi:Option Int)(n:Nat):(WG lo hi none n).1=((HT.ku n 0 lo:Nat):Int)/\(WG lo hi none n).2.1=((HT.ku n n hi:Nat):Int)/\(WG lo hi none n).2.2=1:=by
 refine⟨?_,?_,rfl⟩
 ·cases lo with
  |none=>simp[WG,HT.ku]
  |some i =>
   simp only[WG,HT.ku,Option.getD_none,show (1:Int)>0 by decide,if_true]
   by_cases h:i<0
   ·simp only[h,if_true] <;> lia
   ·simp only[h,if_false] <;> lia
 ·cases hi with
  |none=>simp[WG,HT.ku]
  |some i =>
   simp only[WG,HT.ku,Option.getD_none,show (1:Int)>0 by decide,if_true]
   by_cases h:i<0
   ·simp only[h,if_true] <;> lia
   ·simp only[h,if_false] <;> lia
theorem lW (its:List TY)(lo hi:Option Int):slicePick its.toArray lo hi none=((its.drop (HT.ku its.length 0 lo)).take (HT.ku its.length its.length hi-HT.ku its.length 0 lo)).toArray:=by
 obtain⟨h1,h2,h3⟩:=nG lo hi its.toArray.size;unfold slicePick;rw[h1,h2,h3];simp only[sliceRange_one,pick_run,UB] <;> rfl
def LR (K:PySem.W.Frag):V->Option Int->Option Int->Hp->VK->Prop:=λx lo hi H Q=>∃a xs,x=.ref a/\cQ K H a xs/\∀p,H p=none->Q (.ref p) (upd H p (.lst (qT xs lo hi)))
theorem tK:Oc X (LR X.K):=by
 intro pins s σ H x v vl vu lo hi sl Q I rx hs pl pu h;obtain⟨a,xs,rfl,hx,q⟩:=h;cases rx;obtain⟨its,r,ht,hz⟩:=I.list hx;have hlen:=r.length;refine⟨"list",_,slot_list_getitem.lookup,ht.isList.typeIs,?_⟩;refine wpAny_getItem_list_slice ht.isList hs pl pu .none (by simp) ?_ (by rw[UB] <;> lia)
 rw[lW,<- hlen];refine⟨.ref s.heap.objs.size,_,I.laid (t':=s.toks) (o:=.lst (qT xs lo hi)) (λb ob q=>Ud _ q) (T4 _) ?_,rfl,q _ (I.bM.fresh (T4 _))⟩;exact⟨U3 (qS xs lo hi) hz,_,0,(r.drop (HT.ku xs.length 0 lo)).take (HT.ku xs.length xs.length hi-HT.ku xs.length 0 lo),UT _ rfl⟩
theorem ib:fv X (.builtin "len") (λxs H Q=>∃p ys,xs=[.ref p]/\(cQ X.K H p ys\/uS X.K H p ys)/\Q (.int ys.length) H):=by
 intro pins s σ H xs us Q I r h;obtain⟨p,ys,rfl,hq,q⟩:=h;obtain⟨u,rfl,rx⟩:=vals1 r;cases rx;have hn:=om;rcases hq with hq|hq
 ·obtain⟨its,r',pl,hz⟩:=I.list hq;have hlen:=r'.length;exact Calls.call_len_list pl.isList (by simp only[UB] <;> lia) ⟨.int ys.length,H,I.tok _,⟨s.toks+1,by rw[UB,hlen]⟩,q⟩
 ·obtain⟨its,r',pl,hz⟩:=I.tuple hq;have hlen:=r'.length;exact len_tuple pl (by simp only[UB] <;> lia) ⟨.int ys.length,H,I.tok _,⟨s.toks+1,by rw[UB,hlen]⟩,q⟩
theorem fc:fv X (.type "list") (λxs H Q=>∃p ys,xs=[.ref p]/\(cQ X.K H p ys\/uS X.K H p ys)/\∀l,H l=none->Q (.ref l) (upd H l (.lst ys))):=by
 intro pins s σ H xs us Q I r h;obtain⟨p,ys,rfl,hq,q⟩:=h;obtain⟨u,rfl,rx⟩:=vals1 r;cases rx;have fin:∀(its:List TY),Vals ys its->ys.length<=Ul->∀(h':Heap) (c':Nat),(∀b o',s.heap.get? b=some o'->h'.get? b=some o') ->
   h'.get? s.heap.objs.size=some {cls:=.type "list",dict:=none,data:=.seq its.toArray c',slots:=#[]}->EP X pins σ Q (.ref s.heap.objs.size) {s with heap:=h'}:=λits r' hz h' c' kp e =>
  ⟨.ref s.heap.objs.size,_,I.laid (t':=s.toks) kp (T4 _) (show bD X.prog X.w _ h' _ (.lst ys) from ⟨hz,its,c',r',e⟩),rfl,q _ (I.bM.fresh (T4 _))⟩
 rcases hq with hq|hq
 ·obtain⟨its,r',pl,hz⟩:=I.list hq;have hlen:=r'.length;obtain⟨o,ho,hc,n,hd⟩:=pl.isList;exact call_list_seq p (.inl rfl) ho hc hd (λh' c' kp e=>fin its r' hz h' c' kp e) (by simp only[UB] <;> lia)
 ·obtain⟨its,r',pl,hz⟩:=I.tuple hq;have hlen:=r'.length;obtain⟨o,ho,hc,n,hd⟩:=pl;exact call_list_seq p (.inr rfl) ho hc hd (λh' c' kp e=>fin its r' hz h' c' kp e) (by simp only[UB] <;> lia)
def KD (K:PySem.W.Frag)(T:String)(x:V)(H:Hp):Prop:=match x with
 |.str _=>T="str"
 |.int _=>T="int"
 |.ref p=>(T="list" /\ ∃xs,cQ K H p xs)\/(T="tuple" /\ ∃o,K.lookup p=some o/\o.cls=.type "tuple" /\ o.dict=none) \/
   (T="dict" /\ ((∃kvs,H p=some (.dK kvs))\/∃kvs,H p=some (.dT kvs)))\/(T="set" /\ ∃S n,H p=some (.set S n))
 |_=>False
theorem xg {pins:List (Addr×Obj)}{σ:St}{H:Hp}{s:T3}{T:String}{x:V}{v:TY}(I:Inv X pins σ H s)(r:RelV x v)(ty:KD X.K T x H):
  s.TypeIs v T/\∀a,v=.ref a->∃ob,s.heap.get? a=some ob/\ob.dict=none:=by
 cases x with
 |str z =>
  obtain⟨t,rfl⟩:=r;cases (show T="str" from ty)
  exact⟨typeIs_str s z t,λ_ e=>nomatch e⟩
 |int i =>
  obtain⟨t,rfl⟩:=r;cases (show T="int" from ty)
  exact⟨typeIs_int s i t,λ_ e=>nomatch e⟩
 |ref p =>
  cases r;rcases ty with⟨rfl,xs,hq⟩|⟨rfl,o,hk,hc,hd⟩|⟨rfl,hk⟩|⟨rfl,S,n,hk⟩
  ·obtain⟨its,_,pl,_⟩:=I.list hq;refine⟨pl.isList.typeIs,λa e=>?_⟩;cases e;obtain⟨o,n,e,c,hd,_⟩:=pl;exact⟨o,e,hd⟩
  ·refine⟨⟨o,I.qg p o hk,hc⟩,λa e=>?_⟩;cases e;exact⟨o,I.qg _ o hk,hd⟩
  ·have z:∃o,s.heap.get? p=some o/\o.ExactDict:=by
    rcases hk with⟨kvs,hk⟩|⟨kvs,hk⟩
    ·obtain⟨_,_,_,_,o,_,_,e,ex,_⟩:=I.bM p _ hk;exact⟨o,e,ex⟩
    ·obtain⟨_,_,_,_,o,_,_,e,ex,_⟩:=I.bM p _ hk;exact⟨o,e,ex⟩
   obtain⟨o,e,ex⟩:=z;refine⟨⟨o,e,ex.1⟩,λa e2=>?_⟩;cases e2;exact⟨o,e,ex.2.1⟩
  ·obtain⟨o,_,_,_,e,ex,_⟩:=I.bM p _ hk;refine⟨⟨o,e,ex.1⟩,λa e2=>?_⟩;cases e2;exact⟨o,e,ex.2.1⟩
 |_=>exact V_ ty
def LB (K:PySem.W.Frag)(T:String)(r:V->List V->Hp->VK->Prop)(to:TE):TE:=λσ H Q=>to σ H λx H1=>KD K T x H1/\r x [] H1 Q
def Qp (K:PySem.W.Frag)(T:String)(r:V->List V->Hp->VK->Prop)(to:TE)(t:TA):TE:=λσ H Q=>to σ H λx H1=>KD K T x H1/\t σ H1 λxs H2=>r x xs H2 Q
variable {o e:Expr}{es:List Expr}{to:TE}{t:TA}{name:Str}{apos cpos:Pos}{T id:String}{r:V->List V->Hp->VK->Prop}
theorem EE (pa:PlainAttrs T) (slot:Slot T name id) (MI:typeOf (.builtin id)=pure (.type "method_descriptor")) (hm:P0 X id r) (ho:PE X o to)
  (eM:Wi o name X.env (eval o X.env)=eval o X.env:=by rfl) (eL:(apos.endLine==cpos.line)=true:=by rfl):PE X (.Call (.Attribute o name apos) [] [] cpos) (LB X.K T r to):=by
 intro pins s σ H Q I h;refine wpAny_Call_method0_late eM eL (b9 (ho pins s σ H _ I h) λv s1 ⟨x,H1,I1,r1,ty,q1⟩=>?_);obtain⟨h1,h2⟩:=xg I1 r1 ty;exact⟨T,id,pa,slot,MI,h1,h2,Calls.callWith_builtin rfl (PySem.evalArgs_none (hm pins s1 σ H1 x [] v [] Q I1 r1 .nil q1))⟩
theorem t8 (pa:PlainAttrs T) (slot:Slot T name id) (MI:typeOf (.builtin id)=pure (.type "method_descriptor")) (hm:P0 X id r) (ho:PE X o to) (ha:PA X (e::es) t)
  (eM:Wi o name X.env (eval o X.env)=eval o X.env:=by rfl)
  (oz:((VT cpos (Up (e::es) X.env)).all (λx=>!x.1)&&(Yx cpos (XA [] X.env)).all (λx=>x.1.isSome)
   && decide ((e::es).length+([]:List W4).length+(if ([]:List W4).isEmpty then 0 else 1)<30))=true:=by rfl)
  (eL:(apos.endLine==cpos.line)=true:=by rfl) (hs:Up (e::es) X.env=(false,eval e X.env)::Up es X.env:=by rfl) (e_:(VT cpos (Up es X.env)).any (·.1)=false:=by rfl) :
  PE X (.Call (.Attribute o name apos) (e::es) [] cpos) (Qp X.K T r to t):=by
 intro pins s σ H Q I h;refine wpAny_Call_method_late eM oz eL rfl (b9 (ho pins s σ H _ I h) λv s1 ⟨x,H1,I1,r1,ty,q1⟩=>?_);obtain⟨h1,h2⟩:=xg I1 r1 ty;refine⟨T,id,pa,slot,MI,h1,h2,?_⟩;have hA:=ha cpos pins s1 σ H1 _ I1 q1;rw[hs]at hA ⊢
 refine Calls.callWith_builtin (by show (false || (VT cpos (Up es X.env)).any (·.1))=false;rw[e_] <;> rfl) (Calls.evalArgs_plain ?_)
 exact b9 hA λus s2 ⟨vs,H2,I2,r2,q2⟩=>hm pins s2 σ H2 x vs v us Q I2 r1 r2 q2
end
def Of (X:Cx)(id:String)(r:V->List V->Hp->VK->Prop):Prop :=
 ∀(pins:List (Addr×Obj)) (s:T3) (σ:St) (H:Hp) (x:V) (xs:List V) (v:TY) (us:List TY) (Q:VK),Inv X pins σ H s->RelV x v->Vals xs us->r x xs H Q ->
  UQ (model X.prog X.w) X.A (call (.builtin id) (v::us)) (EP X pins σ Q) X.xe s
theorem Vals.one:∀{x:V} {us:List TY},Vals [x] us->∃u,us=[u]/\RelV x u
 |_,_,.cons r .nil=>⟨_,rfl,r⟩
theorem Vals.zero:∀{us:List TY},Vals [] us->us=[]
 |_,.nil=>rfl
theorem Vals.dropLast {xs:List V}{us:List TY}(h:Vals xs us):Vals xs.dropLast us.dropLast:=by
 induction h with
 |nil=>exact .nil
 |cons r t ih =>
  cases t with
  |nil=>exact .nil
  |cons q t'=>exact .cons r ih
theorem Vals.rep {xs:List V}{us:List TY}(h:Vals xs us):∀k:Nat,Vals (UL k xs).flatten (UL k us).flatten
 |0=>.nil
 |k+1=>by
  rw[Vx,Vx,VR,VR];exact Vals.append h (Vals.rep h k)
theorem sU {α:Type}(l:List α):l.eraseIdx (l.length-1)=l.dropLast:=by
 induction l with
 |nil=>rfl
 |cons a r ih =>
  cases r with
  |nil=>rfl
  |cons b r =>
   have e:(a::b::r).length-1=((b::r).length-1)+1:=by
    have h1:(a::b::r).length=r.length+2:=rfl;have h2:(b::r).length=r.length+1:=rfl;lia
   rw[e,List.eraseIdx_cons_succ,ih]
   all_goals rfl
theorem foldl_rep (its:List TY):∀(k:Nat) (acc:List TY),
  List.foldl (λx1 x2=>x1++x2) acc.toArray (UL k its.toArray)=(acc++(UL k its).flatten).toArray
 |0,acc=>by simp
 |k+1,acc=>by
  have e:acc.toArray++its.toArray=(acc++its).toArray:=by simp
  have e2:(acc++its)++(UL k its).flatten=acc++(UL (k+1) its).flatten:=by
   rw[Vx,VR,U4]
  rw[<- e2,<- foldl_rep its k (acc++its),<- e,Vx,VO]
section
variable {X:Cx}{pins:List (Addr×Obj)}{σ:St}{H:Hp}{s:T3}{l:Addr}{xs ys:List V}
theorem Inv.E5 {its its':List TY}{n:Nat}{f:Array TY->Array TY}{t':Nat}(I:Inv X pins σ H s)(hH:H l=some (.lst xs))
  (e:s.heap.get? l=some {cls:=.type "list",data:=.seq its.toArray n}) (hf:f its.toArray=its'.toArray) (hv:Vals ys its') (hz:ys.length<=Ul) :
  Inv X pins σ (upd H l (.lst ys)) {s with heap:=s.heap.update l (V8 f),toks:=t'}:=by
 have q:=PySem.IsL.update e f;rw[hf]at q;refine I.write (x:=l) (e:=l) (by rw[hH];exact trivial) (.inl rfl) (λb' u hb hu=>(Heap.get?_update_other s.heap (V8 f) (Wd hb)).trans hu) ⟨_,q⟩ ?_
 exact⟨hz,its',_,hv,q⟩
theorem Inv.E8 {its:List TY}{t':Nat}(I:Inv X pins σ H s)(hv:Vals ys its)(hz:ys.length<=Ul):
  Inv X pins σ (upd H s.heap.objs.size (.lst ys)) {s with heap:=s.heap.push {cls:=.type "list",data:=.seq its.toArray},toks:=t'} :=
 I.laid (λ_ _ q=>Ud _ q) (T4 _) ⟨hz,its,0,hv,UT _ rfl⟩
theorem Inv.fresh (I:Inv X pins σ H s):H s.heap.objs.size=none:=I.bM.fresh (T4 _)
theorem Inv.sv (I:Inv X pins σ H s)(hH:H l=some (.lst xs)):xs.length<=Ul/\∃(its:List TY) (n:Nat),Vals xs its/\xs.length=its.length/\s.heap.get? l=some {cls:=.type "list",data:=.seq its.toArray n}:=by
 obtain⟨z,its,n,r,e⟩:=I.bM l _ hH;exact⟨z,its,n,r,r.length,e⟩
theorem pR {n:Nat}(h:n<=Ul):Wq n=false:=by
 unfold Wq;exact decide_eq_false (by lia)
end
section
variable {X:Cx}
def tO:V->List V->Hp->VK->Prop:=λx vs H Q=>∃l xs y,x=.ref l/\vs=[y]/\H l=some (.lst xs)/\xs.length<Ul/\Q .cE (upd H l (.lst (xs++[y])))
theorem f9:Of X "list.append" tO:=by
 intro pins s σ H x vs v us Q I rx rv h;obtain⟨l,xs,y,rfl,rfl,hH,hz,q⟩:=h;cases rx;obtain⟨u,rfl,ru⟩:=rv.one;obtain⟨z,its,n,r,hl,e⟩:=I.sv hH;refine XT F.slot_list_append ⟨_,e,rfl⟩ F.entry_list_append (F.args_list_append_2 _ _) (PySem.list_append l its.toArray n u (by rw[UB];lia)) ⟨e,?_⟩
 refine⟨.cE,_,I.E5 (its':=its++[u]) hH e (by simp) (r.append (.cons ru .nil)) ?_,rfl,q⟩
 rw[Ui,V5];lia
def AY:V->List V->Hp->VK->Prop:=λx vs H Q=>∃l b xs zs,x=.ref l/\vs=[.ref b]/\H l=some (.lst xs)/\H b=some (.lst zs)/\xs.length+zs.length<=Ul/\Q .cE (upd H l (.lst (xs++zs)))
theorem vE:Of X "list.extend" AY:=by
 intro pins s σ H x vs v us Q I rx rv h;obtain⟨l,b,xs,zs,rfl,rfl,hH,hB,hz,q⟩:=h;cases rx;obtain⟨u,rfl,ru⟩:=rv.one;cases ru;obtain⟨z,its,n,r,hl,e⟩:=I.sv hH;obtain⟨z2,sG,n2,r2,JS,e2⟩:=I.sv hB;have hsz:its.toArray.size+sG.toArray.size<=Ul:=by rw[UB,UB];lia
 have zh:¬ (!its.toArray.isEmpty&&Wq (its.toArray.size+sG.toArray.size))=true:=by
  rw[pR hsz,Bool.and_false];exact Vn
 refine XT F.slot_list_extend ⟨_,e,rfl⟩ F.entry_list_extend (F.args_list_extend_2 _ _)
  (AutoSeq1.list_extend_list_list_0 l its.toArray n b sG.toArray n2 zh (by rw[UB];lia) (by lia)) ⟨e,e2,?_⟩
 refine⟨.cE,_,I.E5 (its':=its++sG) hH e (by simp) (r.append r2) ?_,rfl,q⟩
 rw[Ui];lia
def LU:V->List V->Hp->VK->Prop:=λx vs H Q=>∃l xs y,x=.ref l/\vs=[]/\H l=some (.lst xs)/\xs[xs.length-1]?=some y/\Q y (upd H l (.lst xs.dropLast))
theorem EZ:Of X "list.pop" LU:=by
 intro pins s σ H x vs v us Q I rx rv h;obtain⟨l,xs,y,rfl,rfl,hH,hy,q⟩:=h;cases rx;have yX:=rv.zero;subst yX;obtain⟨z,its,n,r,hl,e⟩:=I.sv hH;obtain⟨u,hu,ru⟩:=r.get hy;have Rf:its.toArray[its.toArray.size-1]?=some u:=by
  show its.toArray[its.length-1]?=some u;rw[<- Uv,<- hl];exact hu
 refine XT F.slot_list_pop ⟨_,e,rfl⟩ F.entry_list_pop (F.args_list_pop_1 _) (MeetsSeq.list_pop_last l its.toArray n u Rf (by rw[UB];lia)) ⟨e,?_⟩
 refine⟨y,_,I.E5 (its':=its.dropLast) hH e ?_ r.dropLast ?_,ru,q⟩
 ·show its.toArray.eraseIdxIfInBounds (its.toArray.size-1)=its.dropLast.toArray;rw[UB,List.eraseIdxIfInBounds_toArray,sU]
 ·rw[List.length_dropLast];lia
def LX:R2:=λx y H Q=>∃l b xs zs,x=.ref l/\y=.ref b/\H l=some (.lst xs)/\H b=some (.lst zs)/\xs.length+zs.length<=Ul/\∀p,H p=none->Q (.ref p) (upd H p (.lst (xs++zs)))
theorem sd:jV X (VL .Add) LX:=by
 intro pins s σ H x y v u Q I rx ry h;obtain⟨l,b,xs,zs,rfl,rfl,hH,hB,hz,q⟩:=h;cases rx;cases ry;obtain⟨z,its,n,r,hl,e⟩:=I.sv hH;obtain⟨z2,sG,n2,r2,JS,e2⟩:=I.sv hB;refine PySem.P.add_list e e2 ?_ (by rw[UB,UB];lia)
 have ea:its.toArray++sG.toArray=(its++sG).toArray:=by simp
 rw[ea];exact⟨.ref _,_,I.E8 (t':=s.toks) (r.append r2) (by rw[Ui];lia),rfl,q _ I.fresh⟩
def LS:R2:=λx y H Q=>∃l k xs,x=.ref l/\y=.int k/\H l=some (.lst xs)/\-(2 ^ 63)<=k/\k<2 ^ 63/\xs.length*k.toNat<=Ul /\
 ∀p,H p=none->Q (.ref p) (upd H p (.lst (UL k.toNat xs).flatten))
theorem len_rep {α:Type}(xs:List α)(k:Nat):(UL k xs).flatten.length=k*xs.length:=by
 induction k with
 |zero=>simp
 |succ k ih=>rw[Vx,VR,Ui,ih,Nat.succ_mul,Nat.add_comm]
theorem EK:jV X (VL .Mult) LS:=by
 intro pins s σ H x y v u Q I rx ry h;obtain⟨l,k,xs,rfl,rfl,hH,h1,h2,hz,q⟩:=h;cases rx;obtain⟨t,rfl⟩:=ry;obtain⟨z,its,n,r,hl,e⟩:=I.sv hH;have hlen:its.toArray.size*k.toNat<=Ul:=by rw[UB,<- hl];exact hz
 have NK:¬ its.toArray.size*k.toNat>(2 ^ 63-1) / 8:=by
  have:(Ul:Nat)<=(2 ^ 63-1) / 8:=by decide
  lia
 have NG:¬ (!Builtin.List.listFitsIndex k)=true:=by
  rw[fitsIndex_both h1 h2];exact Vn
 have zh:¬ Wq (its.toArray.size*k.toNat)=true:=by
  rw[pR hlen];exact Vn
 have FQ:List.foldl (λx1 x2=>x1++x2) #[] (UL (if its.toArray.isEmpty=true then 0 else k.toNat) its.toArray)=(UL k.toNat its).flatten.toArray:=by
  have f0:∀m:Nat,List.foldl (λx1 x2=>x1++x2) #[] (UL m its.toArray)=(UL m its).flatten.toArray:=λm=>by
   have:=foldl_rep its m [];rw[List.nil_append]at this;exact this
  rw[f0];cases its with
  |nil=>simp
  |cons a r'=>rw[if_neg (by simp)]
 refine wpAny_binaryOp_repeat_ref (T:="list") (U:="int") (by decide) ⟨_,e,rfl⟩ (λs'=>typeIs_int s' k t) noFill_list_mul F.fills_int_mul F.slot_int_rmul repeat_list F.slot_int_index.lookup
  (XT F.slot_int_rmul (typeIs_int s k t) F.entry_int_rmul (F.args_int_rmul_2 _ _) (int___rmul___int_list k t l its.toArray n)
   ⟨e,rfl,⟨_,e,rfl⟩,XT F.slot_list_mul ⟨_,e,rfl⟩ F.entry_list_mul (F.args_list_mul_2 _ _) (AutoListH.list___mul___list_int_3 l its.toArray n k t NG NK zh) ⟨e,?_⟩⟩)
 rw[FQ];exact⟨.ref _,_,I.E8 (t':=s.toks) (r.rep k.toNat) (by rw[len_rep,Nat.mul_comm];exact hz),rfl,q _ I.fresh⟩
end
section
end
section
end
end L2
namespace P8
open PySem PySem.W PySem.Calls PyProof.Rows
theorem jz {P:XU}{h:Heap}:∀(ns:List Int) (vs:List TY),WellAll P h vs (ns.map WData.int)->Xk vs ns:=by
 intro ns
 induction ns with
 |nil =>
  intro vs w;rw[List.map_nil]at w;cases w;exact .nil
 |cons n ns ih =>
  intro vs w;rw[Uy]at w;cases w with
  |cons a b =>
   cases a;exact .cons _ _ (ih _ b)
theorem vd {l:OpenLaw}{n:Nat}(hn:l.most=some n){P:XU}{h:Heap}{args:List WData}{vals:List TY}
  (BY:l.row.toRowW.claim.pre args=true) (MG:WellAll P h vals args) :
  ∃a vs ns,vals=[Value.ref a]/\args=[WData.list (ns.map WData.int)]/\h.get? a=some {cls:=.type "list",data:=.seq vs.toArray}/\Xk vs ns/\ns.length<=n:=by
 have Al:WShape.hasAll [] args [.list .int]=true:=(pre_splitW BY).1;have hc:l.pre.holds [] {args:=args}=true:=(pre_splitW BY).2;obtain⟨d,r,rfl,h1,h2⟩:=hasAllW_cons Al;obtain rfl:=hasAllW_nil h2;obtain⟨xs,rfl,h3⟩:=hasW_list h1;obtain⟨ns,rfl⟩:=items_int h3;have hlen:ns.length<=n:=by
  unfold OpenLaw.pre at hc;have h4:(WTm.not (.lt (.lit (.int (n:Int))) (.len (.arg 0)))).holds [] {args:=[.list (ns.map .int)]}=true:=by
   have h4:=(holds_andW hc).1;rw[hn]at h4;exact h4
  have h5:=condW_of h4 (w_not (w_lt w_lit (w_len_list (w_arg rfl))));rw[TX]at h5;refine Nat.le_of_not_lt λq=>?_;have q':(n:Int)<((ns.length:Nat):Int):=by lia
  first
   | (rw[decide_eq_true q']at h5;exact absurd h5 (by decide))
   | (simp at h5;lia)
 cases MG with
 |cons w1 w2 =>
  cases w2;cases w1 with
  |list ho eN=>exact⟨_,_,ns,rfl,rfl,ho,jz ns _ eN,hlen⟩
theorem vo (l:OpenLaw)(args:List WData):l.row.toRowW.claim.post args (.bool true) args=true :=
 postW_of (r:=l.row.toRowW) (X:=(true==true))
  (show WShape.has [] (.bool true) .bool=true by first|rfl|decide|simp[WShape.has,WShape.arms,WShape.armsAll])
  (show (WTm.eq .res (.lit (.bool true))).value [] {args:=args,res:=some (.bool true),after:=args}=some (.bool (true==true)) from w_eq_bool (w_res rfl) w_lit) rfl
theorem qW {l:OpenLaw}{n:Nat}{q:T7}{loose:List Str}{XP:(Str->Option TY)->Heap->Prop}{YP:Ur->Heap->Prop}{d:DefRec}
  (hn:l.most=some n) (K7:d.params.defaults=[])
  (call:∀(w:Ur) (s₀ s₁:T3) (mg mb:Str->Option TY) (fa:Addr) (o:Obj) (pm cd doc:TY) (a:Addr) (vs:List TY) (ns:List Int),
   Ground q loose [] XP w s₀ mg mb s₁.heap->YP w s₁.heap ->
   s₁.heap.get? fa=some o->o.data=.func (docDef d.name d.params d.body d.scope pm cd doc)->s₁.heap.CodeRec cd d.name->mg d.name=some (.ref fa) ->
   s₁.heap.get? a=some {cls:=.type "list",data:=.seq vs.toArray}->Xk vs ns->ns.length<=n->s₁.gens=#[] ->
   WZ (model l.prog w) X3 (.call (.ref fa) ⟨[.ref a],[]⟩) (λr s'=>r=.ok (.ret (.bool true))/\OldK s₁.heap s'.heap/\s'.os=s₁.os/\Xm s'.gens) s₁) :
  WalkO q loose XP YP l.row.toRowW d [] (λf vs=>PySem.call f vs):=by
 intro w s₀ s₁ mg mb G Y fa o pm cd doc dV kV ho hd dJ hD Ni hg args vals as BY RN Tt MG K4;obtain rfl:dV=.none:=Dflts.none hD K7;obtain rfl:kV=.none:=Dflts.noKw hD;obtain⟨a,vs,ns,rfl,rfl,FN,hints,hlen⟩:=vd hn BY MG;refine enter_call (Wx (call w s₀ s₁ mg mb fa o pm cd doc a vs ns G Y ho (fd_plain hd) dJ Ni FN hints hlen hg) λr s' hq=>?_);obtain⟨rfl,h2,h3,h4⟩:=hq;exact⟨.inl ⟨.bool true,.bool true,[],rfl,λ_=>rfl,.bool true,vo l _,λ_=>⟨List.Pairwise.nil,λ_ hm=>(nomatch hm)⟩⟩,h2,h3,h4⟩
section
end
end P8
namespace L2
open PySem PySem.Spec PyProof.Rows
theorem mq:∀{vs:List TY} {ns:List Int},Xk vs ns->Vals (ns.map V.int) vs
 |_,_,.nil=>.nil
 |_,_,.cons n t h=>.cons ⟨t,rfl⟩ (mq h)
def Gu (H:Hp):Prop:=∀b,H b=none\/∃o xs,H b=some (.uq o (.lst xs))
theorem yL {P:T7}{w:Ur}{K:PySem.W.Frag}{mg mb:Str->Option TY}{CX:Ai}{k:Nat}{fa a:Addr}{fd:UW}{x:Str}{sp:Sp}{s₁:T3}{vs:List TY}{ns:List Int}
  (KX:K.In s₁.heap) (K2:s₁.heap.Ns VC mg) (hb:s₁.heap.Ns builtinsNs mb) (R1:∀x:Str,x≠"__name__" -> mb x=U1 x) (Nm:s₁.heap.NoLimit) (hg:s₁.gens=#[])
  (ha:s₁.heap.get? a=some {cls:=.type "list",data:=.seq vs.toArray}) (hi:Xk vs ns) (hl:ns.length<=Ul) (hr:cR k X3)
  (F:∀base:Heap,K.In base->base.Ns VC mg->aR P w K mg base CX k fa fd [x] sp) (J5:∀(s:T3) (u:TY),BindsTo s fd ⟨[u],[]⟩ [(x,u)])
  (jk:∀H:Hp,Gu H->cQ K H a (ns.map V.int)->sp [.ref a] H (λv _=>v=.bl true) λ_ _ _=>False)
  (NO:∀H e s',CX [] H s₁ (λ_ _ _=>False) e s'->False) :
  WZ (model P w) X3 (.call (.ref fa) ⟨[.ref a],[]⟩) (λr s'=>r=.ok (.ret (.bool true))/\OldK s₁.heap s'.heap/\s'.os=s₁.os/\Xm s'.gens) s₁:=by
 have rv:=mq hi;have Mr:=hi.length;have core:∀H:Hp,Gu H->cQ K H a (ns.map V.int)->gL P w H s₁.heap->(∀b,H b≠none->b=a)->(H a≠none->K.lookup a=none) ->
   WZ (model P w) X3 (.call (.ref fa) ⟨[.ref a],[]⟩) (λr s'=>r=.ok (.ret (.bool true))/\OldK s₁.heap s'.heap/\s'.os=s₁.os/\Xm s'.gens) s₁:=by
  intro H hO hS bM hA hK;have uM:∀{b:Addr} {o:Obj},s₁.heap.get? b=some o->H b=none->(ou s₁.heap H).get? b=some o:=λe n=>zj e n;have H4:∀{b:Addr} {o:Obj} {es:Array DictEntry} {ep:Nat},s₁.heap.get? b=some o->o.data=.dict es ep->H b=none:=λ{b o es ep} e d=>by
   cases q:H b with
   |none=>rfl
   |some u =>
    have e':b=a:=hA b (by rw[q];simp)
    subst e';rw[ha]at e;cases e;have d':Data.seq vs.toArray _=Data.dict es ep:=d;cases d'
  have KQ:∀{b:Addr} {m:Str->Option TY},s₁.heap.Ns b m->(ou s₁.heap H).Ns b m:=λ{b m} ⟨o,es,ep,e,d,r⟩=>⟨o,es,ep,uM e (H4 e d),d,r⟩;have PF:K.In (ou s₁.heap H):=λb o e=>uM (KX b o e) (by
   cases q:H b with
   |none=>rfl
   |some u =>
    have e':b=a:=hA b (by rw[q];simp)
    subst e';rw[hK (by rw[q];simp)]at e;cases e)
  have hM:Mod K mg (ou s₁.heap H):=⟨PF,KQ K2,⟨mb,KQ hb,R1⟩,let ⟨mc,h1,h2⟩:=Nm;⟨mc,KQ h1,h2⟩⟩
  have e0:CI P w K mg (ou s₁.heap H) X3 [] s₁ H:=⟨rfl,hM,λb o e=>Bw e,Nat.le_of_eq (vY _ _),trivial,λb hb=>absurd (show b∈([]:List Addr) from hb) (by simp),bM,.of_eq hg⟩
  refine Wx ((F _ PF (KQ K2)).run X3 [] s₁ H ⟨[.ref a],[]⟩ [.ref a] [.ref a] _ _ hr e0 (J5 s₁ (.ref a)) (.cons rfl .nil) (jk H hO hS)) λr s' h=>?_;cases r with
  |error e=>exact(NO H e s' h).elim
  |ok fl =>
   cases fl with
   |next=>exact V_ h
   |brk=>exact V_ h
   |cont=>exact V_ h
   |ret u =>
    obtain⟨v,H',os,bare,un,M_,r',q⟩:=h;have q':v=.bl true:=q;subst q';obtain rfl:u=Value.bool true:=r';refine⟨rfl,OldK.of_keep λb o e=>?_,os,bare⟩;cases q:H b with
    |none=>exact un.keep b o e q (by intro z;exact absurd (show b∈([]:List Addr) from z) (by simp)) (by simp)
    |some u =>
     rcases hO b with z|⟨ob,xs,z⟩
     ·rw[q]at z;cases z
     ·have z2:=un.l8 b ob _ z;obtain⟨e1,_⟩:=bM b _ z;obtain⟨e2,_⟩:=M_ b _ z2;rw[e]at e1;cases e1;exact e2
 cases hk:K.lookup a with
 |some o =>
  have e:=KX a o hk;rw[ha]at e;cases e;refine core (λ_=>none) (λ_=>.inl rfl) (.inr ⟨_,vs.toArray,_,hk,rfl,rfl,rfl,by rw[UB,Mr];exact hl,by simpa using rv⟩) (λb u z=>by have z':(none:Option HO)=some u:=z;cases z') (λb z=>absurd rfl z) λz=>absurd rfl z
 |none =>
  refine core (λb=>if b=a then some (.uq {cls:=.type "list",data:=.seq vs.toArray} (.lst (ns.map V.int))) else none) (λb=>?_) (.inl (.inr ⟨{cls:=.type "list",data:=.seq vs.toArray},if_pos rfl⟩)) (λb u z=>?_) (λb z=>?_) λ_=>hk
  ·by_cases hb:b=a
   ·exact .inr ⟨_,_,if_pos hb⟩
   ·exact .inl (if_neg hb)
  ·by_cases hb:b=a
   ·have z':=(if_pos hb).symm.trans z;cases z';subst hb;exact⟨ha,by rw[TX];exact hl,vs,_,rv,ha⟩
   ·have z':=(if_neg hb).symm.trans z;cases z'
  ·by_cases hb:b=a
   ·exact hb
   ·exact absurd (if_neg hb) z
theorem Az {l:PySem.W.OpenLaw}{n k:Nat}{q:T7}{loose:List Str}{XP:(Str->Option TY)->Heap->Prop}{YP:Ur->Heap->Prop}{d:DefRec}{K:XU->PySem.W.Frag}{CX:Ur->Ai}{sp:Ur->Sp}{x:Str}
  (hn:l.most=some n) (GF:n<=Ul) (K7:d.params.defaults=[]) (hr:cR k X3)
  (hY:∀(w:Ur) (h:Heap),YP w h->(K w.params).In h)
  (F:∀(w:Ur) (mg:Str->Option TY) (fa:Addr) (h:Heap),(K w.params).In h->h.Ns VC mg->mg d.name=some (.ref fa) ->
   ∃fd:UW,(∀(s:T3) (u:TY),BindsTo s fd ⟨[u],[]⟩ [(x,u)]) /\
    ∀base:Heap,(K w.params).In base->base.Ns VC mg->aR l.prog w (K w.params) mg base (CX w) k fa fd [x] (sp w))
  (jk:∀(w:Ur) (H:Hp) (a:Addr) (ns:List Int),ns.length<=n->Gu H->cQ (K w.params) H a (ns.map V.int)->sp w [.ref a] H (λv _=>v=.bl true) λ_ _ _=>False)
  (NO:∀(w:Ur) (H:Hp) (s:T3) (e:TY) (s':T3),CX w [] H s (λ_ _ _=>False) e s'->False) :
  PySem.W.WalkO q loose XP YP l.row.toRowW d [] (λf vs=>PySem.call f vs):=by
 refine P8.qW hn K7 λw s₀ s₁ mg mb fa o pm cd doc a vs ns G Y ho hd dJ Ni FN hints hlen hg=>?_;have KX:=hY w _ Y;obtain⟨fd,hb,hF⟩:=F w mg fa _ KX G.T.g Ni;exact yL KX G.T.g G.T.b G.T.builtins G.T.nolimit hg FN hints (U3 hlen GF) hr hF hb (λH hO hS=>jk w H a ns hlen hO hS) λH e s'=>NO w H s₁ e s'
abbrev cj:Ai:=λ_ _ _ _ _ _=>False
abbrev E0:XK:=λ_ _ _=>False
theorem ym {X:Cx}:Passes cj X E0:=λ_ _ _ _ _ _ _ h=>h.elim
structure Ag (K:PySem.W.Frag)(x qual:Str)(st:Stmt)(f:Addr)(fd:UW):Prop where
 ex:∃(oc:TY) (od:Option Addr) (kV doc pm:TY) (an:Option Addr) (cG ct:TY) (EI:Array (Option TY)),
  fd=PySem.W.fnOf x qual (jR st) (di st) (aC st) .none kV doc pm an cG ct/\K.lookup f=some ⟨oc,od,.func fd,EI⟩/\PySem.W.codeIn K cG qual=true
 kp:PySem.W.keepIn K (.ref f)=true
section
variable {P:T7}{w:Ur}{K:PySem.W.Frag}{mg:Str->Option TY}{base:Heap}
theorem Ag.ok {x qual:Str}{st:Stmt}{f:Addr}{fd:UW}{N ps:List Str}{k:Nat}{sp:Sp}(F:Ag K x qual st f fd)(S:aP N ps (aC st))(len:∀vs H Q E,sp vs H Q E->vs.length=ps.length)
  (hX:∀(cG:TY) (A:U6) (outer:List Env) (s:T3) (H:Hp) (vs:List V) (Q:VK) (E:XK),cR k (A.deeper (W7 qual (aC st) s.heap.objs.size f cG))->sp vs H Q E ->
   ∃t,rq (lH cj P w K mg base N qual (aC st) f cG A outer s H E).Bx (di st) t/\t {nx:=λ_ H'=>Q .cE H',rt:=Q} (start N vs) H):aR P w K mg base cj (k+1) f fd ps sp:=by
 obtain⟨oc,od,kV,doc,pm,an,cG,ct,EI,rfl,lk,dJ⟩:=F.ex;refine J_ lk dJ S len λA outer s H vs Q E hr jk=>?_;obtain⟨t,h,q⟩:=hX cG A outer s H vs Q E hr jk;exact⟨t,h.Bx,q⟩
theorem F3 {x qual:Str}{st:Stmt}{f:Addr}{oc:TY}{od an:Option Addr}{EI:Array (Option TY)}{kV doc pm cG ct:TY}(l:K.lookup f=some ⟨oc,od,.func (PySem.W.fnOf x qual (jR st) (di st) (aC st) .none kV doc pm an cG ct),EI⟩)
  (c:PySem.W.codeIn K cG qual=true) (k:PySem.W.keepIn K (.ref f)=true):Ag K x qual st f (PySem.W.fnOf x qual (jR st) (di st) (aC st) .none kV doc pm an cG ct):=⟨⟨oc,od,kV,doc,pm,an,cG,ct,EI,rfl,l,c⟩,k⟩
end
section
variable {X:Cx}
theorem pv (i:Nat){x:Str}{pos:Pos}(hN:X.N[i]?=some x:=by rfl)(hv:lT X.env.scope x:=by first|exact Or.inl rfl|exact Or.inr (Or.inl rfl)|exact Or.inr (Or.inr rfl))(hd:(x==("__debug__" : Str))=false:=by decide)
  (dJ:(x==("__classdict__" : Str))=false:=by decide):PE X (.Name x pos) (G9 i):=br hN hv hd dJ
end
def az (H H':Hp):Prop:=∀b o,H b=some o->H' b=some o
theorem az.refl (H:Hp):az H H:=λ_ _ h=>h
theorem az.trans {H H1 H2:Hp}(a:az H H1)(b:az H1 H2):az H H2:=λc o h=>b c o (a c o h)
theorem az.free {H H':Hp}(e:az H H'){l:Addr}(h:H' l=Option.none):H l=Option.none:=by
 cases q:H l with
 |none=>rfl
 |some o =>
  rw[e l o q]at h;cases h
theorem az.seq {K:PySem.W.Frag}{H H':Hp}{a:Addr}{xs:List V}(e:az H H')(h:cQ K H a xs):cQ K H' a xs:=by
 rcases h with (h|⟨o,h⟩)|h
 ·exact .inl (.inl (e _ _ h))
 ·exact .inl (.inr ⟨o,e _ _ h⟩)
 ·exact .inr h
section
variable {X:Cx}
def nz (i j:Int):Prop:=0<j/\j.natAbs.log2<9000
theorem nz.of {i j:Int}(h0:0<j)(h:j<2 ^ 200):nz i j:=by
 refine⟨h0,?_⟩;have h2:j.natAbs<2 ^ 200:=by lia
 have:=(Nat.log2_lt (n:=j.natAbs) (k:=200) (by lia)).mpr h2
 lia
theorem kR:jV X (VL .FloorDiv) (rI nz λi j=>.int (i / j)):=KP λi j _ _ _ _ _ hc q=>by
 have h1:(0:Int)<j:=hc.1;exact floordiv_int (by lia) (by rw[Int.fdiv_eq_ediv_of_nonneg i (by lia)];exact q) (.inl (W8 hc.2))
variable {r:R2}{t:V->TE}
theorem zU:fv X (.builtin "isinstance") (λxs H Q=>∃x n t k,xs=[x,.ty n]/\ie X.K H x t/\PySem.W.kitOne X.K t (.type n)=some k/\Q (.bl k) H):=by
 intro pins s σ H xs us Q I r h;obtain⟨x,n,t,k,rfl,ty,e,q⟩:=h;obtain⟨u,w',rfl,r1,r2⟩:=vals2 r;cases r2;exact vR I r1 ty e λtk=>⟨.bl k,H,I.tok _,rfl,q⟩
end
theorem oK:U1 "max" = some (.builtin "max"):=by decide +kernel
theorem oJ:U1 "min" = some (.builtin "min"):=by decide +kernel
theorem zW:U1 "int" = some (.type "int"):=by decide +kernel
theorem Cy:U1 "bool" = some (.type "bool"):=by decide +kernel
theorem jT:U1 "list" = some (.type "list"):=by decide +kernel
theorem ni:U1 "sorted" = some (.builtin "sorted"):=by decide +kernel
theorem Gh:U1 "isinstance" = some (.builtin "isinstance"):=by decide +kernel
theorem iZ:U1 "len" = some (.builtin "len"):=by decide +kernel
theorem IC {c A B:Prop}[Decidable c](hc:c)(h:A):if decide c=true then A else B:=by
 rw[if_pos (decide_eq_true hc)];exact h
theorem ID {c A B:Prop}[Decidable c](hc:¬ c)(h:B):if decide c=true then A else B:=by
 rw[if_neg (by simp[hc])]
 exact h
theorem MA {c A B:Prop}[Decidable c](h1:c->A)(h2:¬ c->B):if decide c=true then A else B:=by
 by_cases h:c
 ·exact IC h (h1 h)
 ·exact ID h (h2 h)
def Fm (h:Addr)(H H':Hp):Prop:=∀b o,H b=some o->b≠h->H' b=some o
theorem Fm.upd {h:Addr}{H:Hp}{o:HO}:Fm h H (upd H h o):=λb u e n=>by rw[aw n];exact e
theorem az.new {H:Hp}{p:Addr}{o:HO}(n:H p=none):az H (L2.upd H p o):=λb u e=>by rw[aw (cn e n)];exact e
def Hand (H:Hp)(h:Addr):Prop:=∃x y:Int,H h=some (.lst [.int x,.int y])/\0<=x/\0<=y/\y<2147483647
def xB:Sp:=λvs H Q _=>∃c:Int,vs=[.int c]/\∀p H',H p=none->Hand H' p->az H H'->Q (.ref p) H'
def xx:Sp:=λvs H Q _=>∃(h:Addr) (n:Int),vs=[.ref h,.int n]/\Hand H h/\0<n/\n<2 ^ 200 /\
 ∀(r:Int) (H':Hp),0<=r->r<n->Hand H' h->Fm h H H'->Q (.int r) H'
structure S9 (mg:Str->Option TY):Prop where
 max:mg "max" = none
 min:mg "min" = none
 int:mg "int" = none
section
end
theorem yd:tq 10 18:=⟨by decide,by decide,by decide⟩
section
theorem jN {a:Int}{b:Int}(h:0<b):0<=a % b/\a % b<b:=⟨Int.emod_nonneg a (by lia),Int.emod_lt_of_pos a h⟩
end
noncomputable def aB (X:Cx)(scope:Wg)(N':List Str)(cl:List (Str×Addr))(C:Addr)(s:T3)(H:Hp)(ex:List Addr):Cx :=
 {X with N:=N',s₀:=s,H₀:=H,env:=compEnvC scope cl C X.env,outer:=X.stack,stack:=X.stack,ex:=ex,fn:=λ_=>false,pn:=[],xe:=λ_ _=>False}
theorem gJ {env:Env}:∀(names:List (Str×WI)) (cs:List (Str×Addr)),(∀x,(x,UY)∈names->∃c,env.cells.lookup x=some c) ->
  (∀x c,cs.lookup x=some c->env.cells.lookup x=some c) ->
  ∃cl,(forIn names cs λ(p:Str×WI) (cs:List (Str×Addr))=>do
   if p.2==.free then do
    let a <- cellOf env p.1
    pure (Xu ((p.1,a)::cs))
   else pure (Xu cs):Sem (List (Str×Addr)))=pure cl /\
   (∀x,((x,UY)∈names\/(∃c,cs.lookup x=some c))->∃c,cl.lookup x=some c)/\∀x c,cl.lookup x=some c->env.cells.lookup x=some c
 |[],cs,_,K8=>⟨cs,rfl,λx h=>h.elim (λz=>nomatch z) id,K8⟩
 | (n,k)::names,cs,hf,K8=>by
  by_cases hk:k=.free
  ·subst hk;obtain⟨c,hc⟩:=hf n (Uz ..);obtain⟨cl,e,h1,h2⟩:=gJ names ((n,c)::cs) (λx hx=>hf x (UA _ hx)) (λx c' hx=>by
    rw[Vp]at hx;cases q:x==n with
    |true=>rw[q]at hx;cases hx;rw[eq_of_beq q];exact hc
    |false=>rw[q]at hx;exact K8 x c' hx)
   refine⟨cl,?_,λx hx=>h1 x ?_,h2⟩
   ·rw[List.forIn_cons];have ec:cellOf env n=pure c:=by unfold cellOf;rw[hc]
    simp only[beq_self_eq_true,if_true,ec];exact e
   ·rcases hx with hx|⟨c',hx⟩
    ·rcases Uc.mp hx with z|z
     ·cases z;exact .inr ⟨c,by simp⟩
     ·exact .inl z
    ·right
     rw[Vp];cases q:x==n with
     |true=>exact⟨c,rfl⟩
     |false=>exact⟨c',hx⟩
  ·obtain⟨cl,e,h1,h2⟩:=gJ names cs (λx hx=>hf x (UA _ hx)) K8;refine⟨cl,?_,λx hx=>h1 x ?_,h2⟩
   ·rw[List.forIn_cons];have hb:(k==UY)=false:=by simpa using hk
    simp only[hb,XZ,if_false];exact e
   ·rcases hx with hx|hx
    ·rcases Uc.mp hx with z|z
     ·cases z;exact absurd rfl hk
     ·exact .inl z
    ·exact .inr hx
theorem gz {env:Env}{scope:Wg}(h:∀x,(x,UY)∈scope.names->∃c,env.cells.lookup x=some c):
  ∃cl,closureFor scope env=pure cl/\(∀x,(x,UY)∈scope.names->∃c,cl.lookup x=some c)/\∀x c,cl.lookup x=some c->env.cells.lookup x=some c:=by
 obtain⟨cl,e,h1,h2⟩:=gJ scope.names [] h (λx c z=>by simp at z)
 refine⟨cl,?_,λx hx=>h1 x (.inl hx),h2⟩;unfold closureFor;refine Eq.trans ?_ (congrArg (· >>= pure) e);rfl
structure Links (X:Cx)(scope:Wg)(N':List Str)(lk:List (Option Nat)):Prop where
 kind:scope.kind=.function
 si:∀x∈scope.names,x.2≠.cell
 names:∀x∈scope.names,x.2=.local->scope.names.lookup x.1=some .local
 free:∀x,(x,UY)∈scope.names->X.env.kindOf x=some .cell\/X.env.kindOf x=some .free
 len:lk.length=N'.length
 link:∀(i j:Nat),lk[i]?=some (some j)->∃x,N'[i]?=some x/\X.N[j]?=some x/\(x,UY)∈scope.names/\scope.names.lookup x=some .free
noncomputable def eY (outer:List (Str×WI))(N:List Str)(scope:Wg)(N':List Str)(lk:List (Option Nat)):Bool :=
 (scope.kind==.function)&&scope.names.all (λx=>x.2 != .cell&&(x.2 != .local || scope.names.lookup x.1==some .local)&&(x.2 != .free || outer.lookup x.1==some .cell || outer.lookup x.1==some .free)) &&
 lk.length==N'.length&&(T8 lk.length).all λi=>match lk[i]? with
  |some (some j)=>match N'[i]? with
   |some x=>N[j]?==some x&&scope.names.contains (x,.free)&&scope.names.lookup x==some .free
   |none=>false
  |_=>true
theorem Links.of {X:Cx}{scope:Wg}{N':List Str}{lk:List (Option Nat)}(h:eY X.env.scope.names X.N scope N' lk=true):Links X scope N' lk:=by
 simp only[eY,Vf]at h;obtain⟨⟨⟨h1,h2⟩,h3⟩,h4⟩:=h;rw[Wf]at h2 h4;refine⟨by simpa using h1,λx hx=>?_,λx hx hl=>?_,λx hx=>?_,by simpa using h3,λi j aF=>?_⟩
 ·have:=h2 x hx;simp only[Vf]at this;simpa using this.1.1
 ·have:=h2 x hx;simp only[Vf]at this;have q:=this.1.2;rw[hl]at q;simpa using q
 ·have:=h2 _ hx;simp only[Vf]at this;have q:=this.2;simp only[Bool.or_eq_true]at q;rcases q with (q|q)|q
  ·simp at q
  ·exact .inl (show X.env.scope.names.lookup x=some .cell by simpa using q)
  ·exact .inr (show X.env.scope.names.lookup x=some .free by simpa using q)
 ·have hi:i<lk.length:=(Ua.mp aF).1;have q:=h4 i (U_.mpr hi);rw[aF]at q;simp only at q;cases e:N'[i]? with
  |none=>rw[e]at q;simp at q
  |some x =>
   rw[e]at q;simp only[Vf]at q;obtain⟨⟨q1,q2⟩,q3⟩:=q;exact⟨x,rfl,by simpa using q1,by simpa using q2,by simpa using q3⟩
noncomputable def c5 (lk:List (Option Nat))(σ:St):St:=lk.map λl=>match l with|some j=>(match σ[j]? with|some v=>v|none=>none)|none=>none
theorem da {env:Env}:∀{names:List (Str×WI)} {x:Str},names.lookup x=some .free ->
  (names.map λ(n,k)=>if (k==UY&&env.scope.kind==.function&&env.kindOf n==some .cell) then (n,Wl) else (n,k)).lookup x=some .cell \/
  (names.map λ(n,k)=>if (k==UY&&env.scope.kind==.function&&env.kindOf n==some .cell) then (n,Wl) else (n,k)).lookup x=some .free
 |[],_,h=>by simp at h
 | (n,k)::r,x,h=>by
  have ih:=@da env r x;show List.lookup x ((if (k==UY&&env.scope.kind==.function&&env.kindOf n==some .cell)=true then (n,Wl) else (n,k))::_)=_ \/
   List.lookup x ((if (k==UY&&env.scope.kind==.function&&env.kindOf n==some .cell)=true then (n,Wl) else (n,k))::_)=_
  cases hx:x==n with
  |true =>
   simp only[Vp,hx]at h;cases h
   by_cases hc:(UY==UY&&env.scope.kind==.function&&env.kindOf n==some .cell)=true
   ·rw[if_pos hc];left;simp[Vp,hx]
   ·rw[if_neg hc];right;simp[Vp,hx]
  |false =>
   simp only[Vp,hx]at h
   by_cases hc:(k==UY&&env.scope.kind==.function&&env.kindOf n==some .cell)=true
   ·rw[if_pos hc];simp only[Vp,hx];exact ih h
   ·rw[if_neg hc];simp only[Vp,hx];exact ih h
theorem c_ {env:Env}:∀{names:List (Str×WI)} {x:Str} {k:WI},(k=.cell\/k=.free)->(∀y∈names,y.2≠.cell) ->
  (names.map λ(n,k)=>if (k==UY&&env.scope.kind==.function&&env.kindOf n==some .cell) then (n,Wl) else (n,k)).lookup x=some k->(x,UY)∈names
 |[],_,_,_,_,h=>by simp at h
 | (n,k')::r,x,k,hk,hc,h=>by
  have ih:=@c_ env r x k hk (λy hy=>hc y (UA _ hy));have h':List.lookup x ((if (k'==UY&&env.scope.kind==.function&&env.kindOf n==some .cell)=true then (n,Wl) else (n,k'))::(r.map λ(n,k)=>if (k==UY&&env.scope.kind==.function&&env.kindOf n==some .cell) then (n,Wl) else (n,k)))=some k:=h
  have GG:=hc (n,k') (Uz ..)
  by_cases B4:(k'==UY&&env.scope.kind==.function&&env.kindOf n==some .cell)=true
  ·rw[if_pos B4]at h';simp only[Vf,beq_iff_eq]at B4;cases hx:x==n with
   |true=>rw[eq_of_beq hx,B4.1.1];exact Uz ..
   |false=>rw[Vp,hx]at h';exact UA _ (ih h')
  ·rw[if_neg B4]at h';cases hx:x==n with
   |true =>
    rw[Vp,hx]at h';have e:k'=k:=by simpa using h'
    subst e;rcases hk with hk|hk
    ·exact absurd hk GG
    ·rw[eq_of_beq hx,hk];exact Uz ..
   |false=>rw[Vp,hx]at h';exact UA _ (ih h')
section
variable {X:Cx}{pins:List (Addr×Obj)}{σ:St}{H:Hp}{s:T3}{scope:Wg}{N':List Str}{lk:List (Option Nat)}{cl:List (Str×Addr)}{ex:List Addr}
theorem yU {h':Heap}{t':Nat}(I:Inv X pins σ H s)(L:Links X scope N' lk)(hex:∀b∈ex,fU X pins H b)(Nc:∀b∈ex,∃o,s.heap.get? b=some o)
  (l7:∀x,(x,UY)∈scope.names->∃c,cl.lookup x=some c) (sO:∀x c,cl.lookup x=some c->X.env.cells.lookup x=some c)
  (hn:h'.Ns s.heap.objs.size (λ_=>none)) (hk:∀b o,s.heap.get? b=some o->h'.get? b=some o) :
  Inv (aB X scope N' cl s.heap.objs.size s H ex) [] (c5 lk σ) H {s with heap:=h',toks:=t'}:=by
 obtain⟨m,hm,hl⟩:=I.loc;have Si:∀b∈ex,b≠s.heap.objs.size:=λb hb=>by
  obtain⟨o,e⟩:=Nc b hb;exact UI (Us e)
 refine⟨⟨I.ok.mod,L.kind,I.ok.glob,I.ok.blt,T4 _,λx y c h1 h2=>I.ok.inj x y c (sO _ _ h1) (sO _ _ h2),λx hx=>?_,λx c z=>(nomatch z),I.ok.hd,I.ok.frames,.inl rfl,
  λb hb=>⟨Si b hb,λx c e=>(hex b hb).2.2.2.2.1 x c (sO _ _ e)⟩,I.bs,U3 I.ok.DC I.sz,λb o e z=>?_,λb hb z=>?_,I.stack,I.tH⟩,
  rfl,I.bare,Un.kept hk,⟨_,hn,λi x v h1 h2 h3=>?_⟩,λx c e=>?_,I.bM.fresh (T4 _),λx c e=>I.gu x c (sO _ _ e),λp hp=>absurd (show p∈([]:List (Addr×Obj)) from hp) (by simp),I.bM.kept hk,?_⟩
 ·have BU:(relabel scope X.env).names.lookup x=some .cell\/(relabel scope X.env).names.lookup x=some .free:=hx;rcases BU with q|q
  ·exact l7 x (c_ (.inl rfl) L.si q)
  ·exact l7 x (c_ (.inr rfl) L.si q)
 ·obtain⟨f0,f1,f2,f3,_⟩:=hex b z;rcases f3 with q|q
  ·exact I.ok.yC b o e q
  ·have h1:=Us e;have h2:=I.ok.DC;exact absurd (US h1 (U3 h2 q)) (WD _)
 ·obtain⟨f0,f1,f2,f3,_⟩:=hex b hb;rcases Uc.mp (I.rL b z)with q|q
  ·exact f1 q
  ·exact f2 q
 ·have hi:∃j,lk[i]?=some (some j)/\σ[j]?=some (some v):=by
   have zr:(c5 lk σ)[i]?=some (some v):=h2;unfold c5 at zr;rw[T6]at zr;cases e:lk[i]? with
   |none=>rw[e]at zr;cases zr
   |some l =>
    cases l with
    |none=>rw[e]at zr;cases zr
    |some j =>
     rw[e]at zr;cases e2:σ[j]? with
     |none=>simp[e2]at zr
     |some w' =>
      simp only[WM,e2,X7]at zr;subst zr;exact⟨j,rfl,e2⟩
  obtain⟨j,hj,hσ⟩:=hi;obtain⟨y,e1,e2,e3,e4⟩:=L.link i j hj;have Sh:x=y:=by
   have zt:N'[i]?=some x:=h1;rw[e1]at zt;exact(UD zt).symm
  subst Sh;have MH:lT X.env.scope x:=by
   rcases L.free x e3 with q|q
   ·exact .inr (.inl q)
   ·exact .inr (.inr q)
  obtain⟨u,ru,lu⟩:=hl j x v e2 hσ MH;refine⟨u,ru,.inr ⟨?_,?_⟩⟩
  ·exact da e4
  ·rcases lu with⟨k,_⟩|⟨_,c,hc,z⟩
   ·rcases L.free x e3 with q|q <;> (rw[k]at q;cases q)
   ·obtain⟨c',qk⟩:=l7 x e3;have:=sO x c' qk;rw[hc]at this;cases this;obtain⟨o,ho,hd⟩:=z;exact⟨c,qk,o,hk _ _ ho,hd⟩
 ·obtain⟨v,o,ho,hd⟩:=I.cell x c (sO _ _ e);exact⟨v,o,hk _ _ ho,hd⟩
 ·show (c5 lk σ).length=N'.length;unfold c5;rw[TX,L.len]
theorem yV {s':T3}{σ':St}{H':Hp}{pl:List (Addr×Obj)}{C:Addr}{h'':Heap}(I:Inv X pins σ H s)(hex:∀b∈ex,fU X pins H b)
  (J:Inv (aB X scope N' cl s.heap.objs.size s H ex) pl σ' H' s') (hs:VS s.heap.objs.size s'.heap h''):Inv X pins σ H' {s' with heap:=h''}:=by
 have hC:H' s.heap.objs.size=none:=J.free;have u:=J.base;refine I.Km (ch:=ex) (s':={s' with heap:=h''}) J.os ?_ ?_ J.bare (λb hb=>?_)
 ·have kk:∀b o,b≠s.heap.objs.size->s'.heap.get? b=some o->h''.get? b=some o:=λb o hb e=>(hs.2 b hb).trans e;have ne:∀b o,s.heap.get? b=some o->b≠s.heap.objs.size:=λb o e=>UI (Us e);refine⟨λb o e n hb hx=>kk b _ (ne b o e) (u.keep b o e n hb hx),λb o e n hb hx=>?_,u.free,λb o e hx=>?_,u.nD,u.l8,u.nF⟩
  ·obtain⟨sl,q⟩:=u.slot b o e n hb hx;exact⟨sl,kk b _ (ne b o e) q⟩
  ·obtain⟨o',q⟩:=u.there b o e hx;exact⟨o',kk b _ (ne b o e) q⟩
 ·intro b o e;have hb:b≠s.heap.objs.size:=λz=>by rw[z]at e;rw[hC]at e;cases e
  refine(J.bM b o e).pk (λc v hc q=>(hs.2 c ?_).trans q) (λ_ q=>q) λ_ _ q=>q;rcases hc with z|z
  ·rw[z];exact hb
  ·intro z';rw[z']at z;rw[hC]at z;cases z
 ·obtain⟨f0,f1,f2,f3,f4,f5⟩:=hex b hb;exact⟨f3,f1,f4,f5⟩
end
noncomputable def j5 (g:Wo)(after:Sem Fin->Sem Fin)(e:Expr)(d:Nat)(it acc:TY)(env:Env):Sem Fin:=do
 XF g.iter.pos
 match <- XR it with
 |none=>pure (.done .next)
 |some v =>
  Xn g.target it v
  assign g.target env v
  let mut ok:=true
  for c in g.ifs do
   if ok then ok <- isTrue c env (eval c env)
  if ok then after (again (.compLoop e d it acc env)) else again (.compLoop e d it acc env)
noncomputable def oe (e:Expr)(d:Nat)(g':Wo)(acc:TY)(env:Env)(k:Sem Fin):Sem Fin:=do
 let x <- eval g'.iter env
 XF g'.iter.pos
 let x <- UU g'.iter env x
 let _ <- runOwn (.compStart e (d+1) (<- holding [x] (XS x)) acc env) env
 k
def j8 (t:Sem Unit)(k:Sem Fin):Sem Fin:=do
 t
 k
def uz (elt:Expr)(acc:TY)(env:Env):Sem Unit:=do let _ <- call (.builtin "list.append") [acc,<- eval elt env]
noncomputable def zK (k v:Expr)(acc:TY)(env:Env):Sem Unit:=do
    let kv <- eval k env
    let vv <- holding [kv] (eval v env)
    match acc with
    |.ref d=>do
     XF {k.pos with endLine:=v.pos.endLine,endCol:=v.pos.endCol}
     holding [kv,vv] (dictSet d kv vv)
    |_=>unsupported "internal:dictcomp"
structure gB (e:Expr)(d:Nat)(g:Wo)(acc:TY)(env:Env)(after:Sem Fin->Sem Fin):Prop where
 turn:∀it,compTurn e d it acc env=j5 g after e d it acc env
 cl:(clausesOf e)[d]?=some g
 sync:g.is_async=0
 quiet:∀it,(Xa e d it acc env).quiet=true
 under:∀(A:U6) it,A.under (Xa e d it acc env)=A
 DY:∀(A:U6) it,A.under (YC e d it acc env)=A
 EU:∀it,(Xa e d it acc env).isFrame=false
 HZ:∀it,(YC e d it acc env).isFrame=false
section
variable {elt tg xj bS l3 k v:Expr}{ifs l4:List Expr}{sc:Wg}{pos:Pos}{acc:TY}{env:Env}
theorem uJ:gB (.ListComp elt [⟨tg,bS,ifs,0⟩] sc pos) 0 ⟨tg,bS,ifs,0⟩ acc env (j8 (uz elt acc env)) :=
 ⟨λ_=>rfl,rfl,rfl,λ_=>rfl,λ_ _=>rfl,λ_ _=>rfl,λ_=>rfl,λ_=>rfl⟩
theorem Kk:gB (.DictComp k v [⟨tg,bS,ifs,0⟩] sc pos) 0 ⟨tg,bS,ifs,0⟩ acc env (j8 (zK k v acc env)) :=
 ⟨λ_=>rfl,rfl,rfl,λ_=>rfl,λ_ _=>rfl,λ_ _=>rfl,λ_=>rfl,λ_=>rfl⟩
theorem Gb:gB (.ListComp elt [⟨tg,bS,ifs,0⟩,⟨xj,l3,l4,0⟩] sc pos) 0 ⟨tg,bS,ifs,0⟩ acc env (oe (.ListComp elt [⟨tg,bS,ifs,0⟩,⟨xj,l3,l4,0⟩] sc pos) 0 ⟨xj,l3,l4,0⟩ acc env) :=
 ⟨λ_=>rfl,rfl,rfl,λ_=>rfl,λ_ _=>rfl,λ_ _=>rfl,λ_=>rfl,λ_=>rfl⟩
theorem Ga:gB (.ListComp elt [⟨tg,bS,ifs,0⟩,⟨xj,l3,l4,0⟩] sc pos) 1 ⟨xj,l3,l4,0⟩ acc env (j8 (uz elt acc env)) :=
 ⟨λ_=>rfl,rfl,rfl,λ_=>rfl,λ_ _=>rfl,λ_ _=>rfl,λ_=>rfl,λ_=>rfl⟩
end
def G_:TT:=λ_ H Q=>Q true H
def q_ (X:Cx)(ifs:List Expr)(t:TT):Prop :=
 ∀(pins:List (Addr×Obj)) (s:T3) (σ:St) (H:Hp) (Q:Bool->Hp->Prop),Inv X pins σ H s->t σ H Q ->
  UQ (model X.prog X.w) X.A (forIn ifs true λc r=>if r=true then do let ok <- isTrue c X.env (eval c X.env);pure (Xu ok) else pure (Xu r)) (TP X pins σ Q) X.xe s
theorem A6 {X:Cx}:q_ X [] G_:=λ_ _ _ H _ I h=>wpAny_tests_nil ⟨H,I,h⟩
theorem A5 {X:Cx}{c:Expr}{t:TT}(h:PT X c t):q_ X [c] t:=λpins s σ H Q I q=>wpAny_tests_one (h pins s σ H Q I q)
abbrev lM:=(St->Hp->Prop)->St->Hp->Prop
def oO (X:Cx)(after:Sem Fin->Sem Fin)(t:lM):Prop :=
 ∀(pins:List (Addr×Obj)) (s:T3) (σ:St) (H:Hp) (N:St->Hp->Prop) (k:Sem Fin) (Q:Fin->T3->Prop) (E:TY->T3->Prop),Inv X pins σ H s->t N σ H ->
  (∀σ' H' s',Inv X pins σ' H' s'->N σ' H'->UQ (model X.prog X.w) X.A k Q E s')->UQ (model X.prog X.w) X.A (after k) Q E s
theorem dS {X:Cx}(hx:X.xe=λ_ _=>False){α:Type}{t:Sem α}{Q:α->T3->Prop}{E:TY->T3->Prop}{s:T3}(h:UQ (model X.prog X.w) X.A t Q X.xe s):UQ (model X.prog X.w) X.A t Q E s :=
 WQ h (λ_ _ q=>q) λe s q=>by rw[hx]at q;exact q.elim
def fg (J:It)(g:TG)(tt:TT)(ta:lM)(End:St->Hp->Prop):St->Hp->Prop:=λσ H =>
 ∃W:Nat->Nat->St->Hp->Prop,(∃m,W 0 m σ H)/\∀i m σ H,W i m σ H->(J.stop i H/\End σ H) \/
  (J.go i H/\∃N:St->Hp->Prop,(∀σ' H',N σ' H'->∃m',m'<m/\W (i+1) m' σ' H')/\∀x H',J.G5 i H x H'->g x σ H' λσ2 H2=>tt σ2 H2 λb H3=>if b=true then ta N σ2 H3 else N σ2 H3)
section
variable {X:Cx}{e:Expr}{d:Nat}{g:Wo}{acc:TY}{after:Sem Fin->Sem Fin}{tg:TG}{tt:TT}{ta:lM}
theorem wo (hx:X.xe=λ_ _=>False)(hc:X.calm=true)(F:gB e d g acc X.env after)(hg:PG X g.target tg)(ht:q_ X g.ifs tt)(ha:oO X after ta)
  {it:Addr} {fp:List Addr} {tn:Nat->Heap->Prop} {J:It} (T:Turn X.prog X.w X.K g.target J fp it tn) {pins:List (Addr×Obj)} {σ:St} {H:Hp} {s:T3} {End:St->Hp->Prop}
  (I:Inv X pins σ H s) (st:tn 0 s.heap) (hf:∀b∈fp,fU X pins H b) (h:fg J tg tt ta End σ H) :
  WZ (model X.prog X.w) X.A (.compLoop e d (.ref it) acc X.env) (λr s'=>r=.ok .next/\∃σ' H',Inv X pins σ' H' s'/\End σ' H') s:=by
 obtain⟨W,⟨m0,w0⟩,turn⟩:=h;have rM:∀{H':Hp},(∀b∈fp,H' b=none)->∀b∈fp,fU X pins H' b:=λhn b hb=>⟨hn b hb,(hf b hb).2⟩;refine codeAny_loop (F.quiet _) (λn s'=>∃i σ' H',Inv X pins σ' H' s'/\tn i s'.heap/\(∀b∈fp,H' b=none)/\W i n σ' H') (λn s3 hI=>?_) m0 ⟨0,σ,H,I,st,λb hb=>(hf b hb).1,w0⟩;obtain⟨i,σ3,H3,I3,j9,J9,w3⟩:=hI;rw[F.under];have FY:(model X.prog X.w).den (.compLoop e d (.ref it) acc X.env)=(j5 g after e d (.ref it) acc X.env).onRaise (λx=>do noteFrame x X.env;theTreesLotGoes x):=by
  rw[<- F.turn];show (if (Xa e d (.ref it) acc X.env).isFrame then _ else _)=_
  rw[F.EU];rfl
 rw[FY];refine wpAny_noted ?_;unfold j5;rcases turn i n σ3 H3 w3 with⟨stop,qn⟩|⟨go,N,hN,step⟩
 ·refine TZ (V2 (TZ (b9 (T.done X rfl rfl rfl hc i pins s3 σ3 H3 _ I3 (rM J9) j9 stop) λr s4 ⟨hr,I4⟩=>?_)));subst hr;exact Uj ⟨rfl,σ3,H3,I4,qn⟩
 ·refine TZ (V2 (TZ (b9 (T.item X rfl rfl rfl hc i pins s3 σ3 H3 _ I3 (rM J9) j9 go) λr s4 ⟨u,hr,h4⟩=>?_)));subst hr;refine TZ (b9 h4 λ_ s5 ⟨x,H5,I5,r5,y5,Aj,NS⟩=>?_);have Og:=I5.pinned (rM NS) (T.obj _ _ Aj);refine TZ (b9 (dS hx (hg _ s5 σ3 H5 x u _ Og r5 (step x H5 y5))) λ_ s6 ⟨σ6,H6,I6,q6⟩=>?_);refine TZ (b9 (dS hx (ht _ s6 σ6 H6 _ I6 q6)) λok s7 ⟨H7,I7,q7⟩=>?_);have z_:∀{σ8:St} {H8:Hp} {s8:T3},Inv X (pins++kJ fp s5.heap) σ8 H8 s8->N σ8 H8->∃m,m<n/\∃i σ' H',Inv X pins σ' H' s8/\tn i s8.heap/\(∀b∈fp,H' b=none)/\W i m σ' H':=λ{σ8 H8 s8} I8 n8=>by
   obtain⟨m',hm,w8⟩:=hN σ8 H8 n8;refine⟨m',hm,i+1,σ8,H8,I8.gQ,T.keep _ _ _ Aj λb hb o e=>(I8.pin (b,o) (UP _ (UP _ (eX hb e)))).1,λb hb=>?_,w8⟩;obtain⟨o,e,d⟩:=T.obj _ _ Aj b hb;exact(I8.pin (b,o) (UP _ (UP _ (eX hb e)))).2.1
  cases ok with
  |false=>exact Uj ⟨rfl,z_ I7 (by simpa using q7)⟩
  |true =>
   exact ha _ s7 σ6 H7 N _ _ _ I7 (by simpa using q7) λσ8 H8 s8 I8 n8=>Uj ⟨rfl,z_ I8 n8⟩
theorem lJ (hx:X.xe=λ_ _=>False)(hc:X.calm=true)(F:gB e d g acc X.env after)(hg:PG X g.target tg)(ht:q_ X g.ifs tt)(ha:oO X after ta)
  {it:Addr} {fp:List Addr} {tn:Nat->Heap->Prop} {J:It} (T:Turn X.prog X.w X.K g.target J fp it tn) {pins:List (Addr×Obj)} {σ:St} {H:Hp} {s:T3} {End:St->Hp->Prop}
  (I:Inv X pins σ H s) (st:tn 0 s.heap) (hf:∀b∈fp,fU X pins H b) (h:fg J tg tt ta End σ H) :
  WZ (model X.prog X.w) X.A (.compStart e d (.ref it) acc X.env) (λr s'=>r=.ok .next/\∃σ' H',Inv X pins σ' H' s'/\End σ' H') s:=by
 have lp:=wo hx hc F hg ht ha T I st hf h;refine Yq ?_;rw[F.DY];have FY:(model X.prog X.w).den (.compStart e d (.ref it) acc X.env)=(compStart e d (.ref it) acc X.env).onRaise (λx=>do noteFrame x X.env;XF theWindowsPlace):=by
  show (if (YC e d (.ref it) acc X.env).isFrame then _ else _)=_
  rw[F.HZ];rfl
 rw[FY];refine wpAny_notedAt ?_;unfold compStart;rw[F.cl];simp only[Option.elim_some,F.sync];show UQ _ _ (ask >>= _) _ _ s;refine TZ (Xc (wpAny_ite ?_))
 split
 ·first
   |exact TZ (Uj (Uj (And.intro (F.quiet _) lp)))
   |exact Uj (And.intro (F.quiet _) lp)
 ·have h2:∀(E:TY->T3->Prop),UQ (model X.prog X.w) X.A (XS (.ref it)) (λKZ s'=>(Xa e d KZ acc X.env).quiet=true/\WZ (model X.prog X.w) X.A (.compLoop e d KZ acc X.env) (λr s'=>r=.ok .next/\∃σ' H',Inv X pins σ' H' s'/\End σ' H') s') E s :=
   λE=>T.self X.A 0 s _ E st ⟨F.quiet _,lp⟩
  first
   |exact TZ (WA (TZ (V2 (TZ (WQ (h2 _) (λKZ s' h'=>Uj h') λ_ _ x=>x)))))
   | (refine TZ (WA ?_);exact TZ (V2 (TZ (WQ (h2 _) (λKZ s' h'=>Uj h') λ_ _ x=>x))))
theorem Bf {g':Wo}{wi:TI}(hx:X.xe=λ_ _=>False)(hc:X.calm=true)(F:gB e (d+1) g' acc X.env after)(hi:PI X g'.target g'.iter wi)(hg:PG X g'.target tg)(ht:q_ X g'.ifs tt)(ha:oO X after ta)
  (hs:∀x,UU g'.iter X.env x=pure x:=by intro _;rfl) :
  oO X (oe e d g' acc X.env) (λN σ H=>wi σ H λJ H1=>fg J tg tt ta N σ H1):=by
 intro pins s σ H N k Q E I h hk;unfold oe;refine TZ (b9 (dS hx (hi pins s σ H _ I h)) λx s1 h1=>?_);refine TZ (V2 (TZ (wpAny_of_eq (hs x) ?_)));refine TZ (Vs (b9 (dS hx h1) λC9 s2 h2=>?_));obtain⟨it,fp,tn,J,H2,e1,I2,T,fh,f2,hl⟩:=h2;subst e1;refine TZ (wpAny_runOwn (Wx (lJ hx hc F hg ht ha T I2 fh f2 hl) λr s' hr=>?_));obtain⟨rfl,σ',H',I',q⟩:=hr;exact hk σ' H' s' I' q
theorem fH {elt:Expr}{te:TE}{a:Addr}(hx:X.xe=λ_ _=>False)(he:PE X elt te):
  oO X (j8 (uz elt (.ref a) X.env)) (λN σ H=>te σ H λv H1=>∃xs,H1 a=some (.lst xs)/\xs.length<Ul/\N σ (upd H1 a (.lst (xs++[v])))):=by
 intro pins s σ H N k Q E I h hk;unfold j8 uz;refine TZ (TZ (b9 (dS hx (he pins s σ H _ I h)) λu s1 ⟨v,H1,I1,r1,xs,hH,hz,q⟩=>?_));refine TZ (b9 (dS hx <| f9 (X:=X) pins s1 σ H1 (.ref a) [v] (.ref a) [u] (λw' H'=>N σ H') I1 rfl (.cons r1 .nil) ⟨a,xs,v,rfl,rfl,hH,hz,q⟩) λ_ s2 ⟨_,H2,I2,_,q2⟩=>?_)
 exact Uj (hk σ H2 s2 I2 q2)
end
section
variable {X:Cx}{e:Expr}
structure lO (X:Cx)(d6:Sem TY)(o:HO):Prop where
 ok:∀(pins:List (Addr×Obj)) (s:T3) (σ:St) (H:Hp) (Q:TY->T3->Prop) (E:TY->T3->Prop),Inv X pins σ H s ->
  (∀a s',s.heap.objs.size<=a->H a=none->(∀b o,s.heap.get? b=some o->s'.heap.get? b=some o)->Inv X pins σ (upd H a o) s'->Q (.ref a) s')->UQ (model X.prog X.w) X.A d6 Q E s
theorem fJ:lO X (newList []) (.lst []) :=
 ⟨λpins s σ H Q E I h=>Wv (h _ _ (T4 _) I.fresh (λb o e=>Ud _ e) (I.E8 (its:=[]) (t':=s.toks) .nil (Uh _)))⟩
theorem Inv.sameBut {pins:List (Addr×Obj)}{σ:St}{H:Hp}{s:T3}{C:Addr}{h':Heap}(I:Inv X pins σ H s)(f:fU X pins H C)(hs:VS C s.heap h'):Inv X pins σ H {s with heap:=h'}:=by
 obtain⟨f0,f1,f2,f3,f4,f5⟩:=f;exact I.turned (t':=s.toks) (λb o hb e=>(hs.2 b hb).trans e) f0 f1 f3 f4 f5
end
end L2
namespace ST
open PySem PySem.SetTable
def it:Nat->Nat->Nat
 |0,x=>x
 |n+1,x=>5*it n x+1
theorem sI (a:Nat):∀(b x:Nat),it (a+b) x=it b (it a x)
 |0,x=>rfl
 |b+1,x=>by
  show 5*it (a+b) x+1=5*it b (it a x)+1;rw[sI a b x]
theorem yR:∀j:Nat,∃a b:Nat,∀x,it (2 ^ j) x=(1+4*2 ^ j*a)*x+2 ^ j*(1+2*b)
 |0=>⟨1,0,λx=>by show 5*x+1=_;simp⟩
 |j+1=>by
  obtain⟨a,b,h⟩:=yR j;refine⟨a+2*2 ^ j*a*a,b+2 ^ j*a*(1+2*b),λx=>?_⟩;rw[show 2 ^ (j+1)=2 ^ j+2 ^ j by rw[Xh];lia,sI,h,h]
  generalize 2 ^ j=P
  grind
theorem lift:∀(j x t:Nat),∃k,k<2 ^ j/\it k x % 2 ^ j=t % 2 ^ j
 |0,x,t=>⟨0,by decide,by rw[Nat.pow_zero,Nat.mod_one,Nat.mod_one]⟩
 |j+1,x,t=>by
  obtain⟨k,hk,e⟩:=lift j x t;obtain⟨a,b,h⟩:=yR j;have hP:0<2 ^ j:=XB (by decide)
  rw[Xh]
  by_cases q:it k x % (2 ^ j*2)=t % (2 ^ j*2)
  ·exact⟨k,by lia,q⟩
  ·refine⟨k+2 ^ j,by lia,?_⟩
   rw[sI,h];generalize it k x=y at *
   generalize 2 ^ j=P at *
   have e1:((1+4*P*a)*y+P*(1+2*b))=(y+P)+(P*2)*(2*a*y+b):=by grind
   rw[e1,Nat.add_mul_mod_self_left,Yl,Yl];rw[Yl,Yl,e]at q;rw[Nat.add_mod_right,Nat.add_div_right _ hP,e];have u1:y / P % 2<2:=WS _ (by decide)
   have u2:t / P % 2<2:=WS _ (by decide)
   have u3:y / P % 2≠t / P % 2:=λz=>q (by rw[z])
   have u4:(y / P).succ % 2=t / P % 2:=by lia
   rw[u4]
def c7 (m:Nat)(p:Probe):Probe:=advance {mask:=m,place:=#[],dummies:=#[],finger:=0,led:=true,moves:=0,plain:=true} p
def LG (m:Nat)(h:Int):Probe:=probeStart {mask:=m,place:=#[],dummies:=#[],finger:=0,led:=true,moves:=0,plain:=true} h
theorem Ee (t:SetTable)(h:Int):probeStart t h=LG t.mask h:=rfl
noncomputable def fy (m:Nat)(h:Int):Nat->Probe
 |0=>LG m h
 |n+1=>c7 m (fy m h n)
def cv (m:Nat)(h:Int)(n:Nat):Nat:=(fy m h n).j
def lp (m:Nat)(h:Int):Nat->Nat×Nat
 |0=>(bits h % (m+1),bits h)
 |k+1=>leap m (lp m h k).1 (lp m h k).2
def G0 (m:Nat)(x:Nat×Nat):Probe:={j:=x.1,more:=runEnd m x.1-x.1,i:=x.1,perturb:=x.2,dummy:=none}
theorem En (m i:Nat):runEnd m i-i<=9:=by
 unfold runEnd
 split <;> lia
theorem sL (m:Nat)(h:Int)(x:Nat×Nat)(n:Nat)(e:fy m h n=G0 m x):∀d,d<=runEnd m x.1-x.1->fy m h (n+d)={G0 m x with j:=x.1+d,more:=runEnd m x.1-x.1-d}
 |0,_=>by rw[Nat.add_zero,e];rfl
 |d+1,hd=>by
  show c7 m (fy m h (n+d))=_;rw[sL m h x n e d (by lia)]
  unfold c7 advance;rw[if_pos (by show runEnd m x.1-x.1-d>0;lia)]
  rfl
theorem qV (m:Nat)(h:Int)(x:Nat×Nat)(n:Nat)(e:fy m h n=G0 m x):fy m h (n+(runEnd m x.1-x.1)+1)=G0 m (leap m x.1 x.2):=by
 show c7 m (fy m h (n+(runEnd m x.1-x.1)))=_;rw[sL m h x n e _ (T4 _)];unfold c7 advance;rw[if_neg (by show ¬ runEnd m x.1-x.1-(runEnd m x.1-x.1)>0;lia)]
 rfl
theorem zZ (m:Nat)(h:Int):∀k,∃n,n<=10*k/\fy m h n=G0 m (lp m h k)
 |0=>⟨0,T4 _,rfl⟩
 |k+1=>by
  obtain⟨n,h1,h2⟩:=zZ m h k;refine⟨n+(runEnd m (lp m h k).1-(lp m h k).1)+1,?_,qV m h _ n h2⟩;have:=En m (lp m h k).1;lia
theorem yJ (m:Nat)(h:Int):∀k,(lp m h k).2=bits h / 32 ^ k
 |0=>by rw[Nat.pow_zero,Nat.div_one];rfl
 |k+1=>by
  show (lp m h k).2 / 32=_;rw[yJ m h k,Nat.div_div_eq_div_mul,Xh]
theorem CA (h:Int):bits h<2 ^ 64:=by
 unfold bits;have h1:=Int.emod_lt_of_pos h (show (0:Int)<2 ^ 64 by decide)
 have h2:=Int.emod_nonneg h (show (2 ^ 64:Int)≠0 by decide)
 lia
theorem BH (m:Nat)(h:Int){k:Nat}(hk:13<=k):(lp m h k).2=0:=by
 rw[yJ];refine Nat.div_eq_of_lt (US (CA h) ?_);have:32 ^ 13<=32 ^ k:=WH (by decide) hk
 exact U3 (by decide) this
theorem C2 {j:Nat}(h:Int):∀d,(lp (2 ^ j-1) h (13+d)).1=it d (lp (2 ^ j-1) h 13).1 % 2 ^ j:=by
 have hP:2 ^ j-1+1=2 ^ j:=by have:0<2 ^ j:=XB (by decide);lia
 have lt:∀k,(lp (2 ^ j-1) h k).1<2 ^ j:=λk=>by
  cases k with
  |zero=>show bits h % (2 ^ j-1+1)<_;rw[hP];exact WS _ (by lia)
  |succ k=>show (_*5+1+_ / 32) % (2 ^ j-1+1)<_;rw[hP];exact WS _ (by lia)
 intro d
 induction d with
 |zero=>exact(Yd (lt 13)).symm
 |succ d ih =>
  show ((lp (2 ^ j-1) h (13+d)).1*5+1+(lp (2 ^ j-1) h (13+d)).2 / 32) % (2 ^ j-1+1)=(5*it d _+1) % 2 ^ j;rw[hP,BH _ h (by lia),ih,Nat.zero_div,Nat.add_zero,Nat.mul_comm]
  conv=>rhs;rw[Nat.add_mod,Nat.mul_mod]
  rw[Nat.add_mod,Nat.mul_mod,Nat.mod_mod]
theorem SJ (j:Nat)(h:Int){t:Nat}(ht:t<2 ^ j):∃n,n<10*turns (2 ^ j-1)/\cv (2 ^ j-1) h n=t:=by
 obtain⟨k,hk,e⟩:=lift j (lp (2 ^ j-1) h 13).1 t;obtain⟨n,h1,h2⟩:=zZ (2 ^ j-1) h (13+k);refine⟨n,by unfold turns;lia,?_⟩
 unfold cv;rw[h2];show (lp (2 ^ j-1) h (13+k)).1=t;rw[C2,e,Yd ht]
abbrev g (xs:Array Nat)(i:Nat):Nat:=xs.getD i 0
theorem sR {xs:Array Nat}{i:Nat}(h:i<xs.size):xs[i]?=some (g xs i):=by
 rw[getElem?_pos xs i h,g,Uu,getElem?_pos xs i h];rfl
def DG (xs:Array Nat):Prop:=∀i j,i<j->j<xs.size->g xs i<g xs j
theorem DG.inj {xs:Array Nat}(r:DG xs){i j:Nat}(hi:i<xs.size)(hj:j<xs.size)(e:g xs i=g xs j):i=j:=by
 rcases X8 i j with h|h|h
 ·have:=r i j h hj;lia
 ·exact h
 ·have:=r j i h hi;lia
theorem lL {xs:Array Nat}{j:Nat}(r:DG xs):∀(f lo hi:Nat),hi<=xs.size->lo<=hi->hi-lo<=f->(∀k,k<lo->g xs k<j)->(∀k,hi<=k->k<xs.size->j<=g xs k) ->
  below.go xs j f lo hi<=xs.size/\(∀k,k<below.go xs j f lo hi->g xs k<j)/\(∀k,below.go xs j f lo hi<=k->k<xs.size->j<=g xs k)
 |0,lo,hi,h1,h2,h3,h4,h5=>by
  obtain rfl:lo=hi:=by omega
  exact⟨h1,h4,h5⟩
 |f+1,lo,hi,h1,h2,h3,h4,h5=>by
  unfold below.go
  by_cases hl:lo<hi
  ·rw[if_pos hl];dsimp only;have hm:(lo+hi) / 2<xs.size:=by omega
   have e:xs.getD ((lo+hi) / 2) j=g xs ((lo+hi) / 2):=by
    rw[g,Uu,Uu,getElem?_pos xs _ hm];rfl
   rw[e]
   by_cases hc:g xs ((lo+hi) / 2)<j
   ·rw[if_pos hc];refine lL r f _ _ h1 (by omega) (by omega) (λk hk=>?_) h5
    by_cases K5:k=(lo+hi) / 2
    ·rw[K5];exact hc
    ·have:=r k ((lo+hi) / 2) (by omega) hm;omega
   ·rw[if_neg hc];refine lL r f _ _ (by omega) (by omega) (by omega) h4 (λk hk GG=>?_)
    by_cases K5:k=(lo+hi) / 2
    ·rw[K5];omega
    ·have:=r ((lo+hi) / 2) k (by omega) GG;omega
  ·rw[if_neg hl];obtain rfl:lo=hi:=by omega
   exact⟨h1,h4,h5⟩
theorem fe {xs:Array Nat}(r:DG xs)(j:Nat):below xs j<=xs.size/\(∀k,k<below xs j->g xs k<j)/\(∀k,below xs j<=k->k<xs.size->j<=g xs k) :=
 lL r xs.size 0 xs.size (T4 _) (Uh _) (T4 _) (λk hk=>by lia) (λk h1 h2=>by lia)
theorem below_at {xs:Array Nat}(r:DG xs){i:Nat}(hi:i<xs.size):below xs (g xs i)=i:=by
 obtain⟨h1,h2,h3⟩:=fe r (g xs i);rcases X8 (below xs (g xs i)) i with h|h|h
 ·have:=h3 (below xs (g xs i)) (T4 _) (by omega)
  have:=r _ _ h hi;omega
 ·exact h
 ·have:=h2 i h;omega
def oP (t:SetTable)(x:Nat):Prop:=∃i,i<t.place.size/\g t.place i=x
theorem mB {t:SetTable}(r:DG t.place){i:Nat}(hi:i<t.place.size):t.slot (g t.place i)=.live i:=by
 unfold slot;dsimp only;rw[below_at r hi,if_pos (by rw[sR hi];exact beq_self_eq_true _)]
theorem va {t:SetTable}(r:DG t.place)(d:t.dummies=#[]){x:Nat}(h:¬ oP t x):t.slot x=.empty:=by
 unfold slot;dsimp only;rw[if_neg ?_,if_neg ?_]
 ·rw[d];unfold has;simp
 ·intro q;have q:=eq_of_beq q;have hl:below t.place x<t.place.size:=by
   rcases Vt (below t.place x) t.place.size with z|z
   ·exact z
   ·rw[VH z]at q;cases q
  rw[sR hl]at q;exact h ⟨_,hl,UD q⟩
structure WF (t:SetTable)(hs:List Int):Prop where
 GW:t.dummies=#[]
 sz:t.place.size=hs.length
 vg:DG t.place
 PU:∀i,i<t.place.size->g t.place i<=t.mask
 C1:∃j,3<=j/\t.mask=2 ^ j-1
 room:t.place.size<=t.mask
 OE:∀i h,hs[i]?=some h->∃n,cv t.mask h n=g t.place i/\∀k,k<n->oP t (cv t.mask h k)
theorem least {p:Nat->Prop}[DecidablePred p]:∀n,p n->∃m,m<=n/\p m/\∀k,k<m->¬ p k:=by
 intro n
 induction n using Nat.strongRecOn with
 |_ n ih =>
  intro hn
  by_cases h:∃k,k<n/\p k
  ·obtain⟨k,hk,hp⟩:=h;obtain⟨m,h1,h2,h3⟩:=ih k hk hp;exact⟨m,by lia,h2,h3⟩
  ·exact⟨n,T4 _,hn,λk hk hp=>h ⟨k,hk,hp⟩⟩
instance (t:SetTable):DecidablePred (oP t):=λx=>decidable_of_iff (∃i,i<t.place.size/\g t.place i=x) Iff.rfl
theorem WF.hole {t:SetTable}{hs:List Int}(w:WF t hs):∃x,x<=t.mask/\¬ oP t x:=by
 refine Wh λNd=>?_;have all:∀x,x<=t.mask->oP t x:=λx hx=>Wh λq=>Nd ⟨x,hx,q⟩;have up:∀x,x<=t.mask->∃i,i<t.place.size/\g t.place i=x/\x<=i:=by
  intro x
  induction x with
  |zero =>
   intro hx;obtain⟨i,h1,h2⟩:=all 0 hx;exact⟨i,h1,h2,Uh _⟩
  |succ x ih =>
   intro hx;obtain⟨i,h1,h2,h3⟩:=ih (by lia)
   obtain⟨i',h4,h5⟩:=all (x+1) hx;refine⟨i',h4,h5,?_⟩;rcases Vt i i' with q|q
   ·lia
   ·rcases Vt i' i with q2|q2
    ·have:=w.vg i' i q2 h1;lia
    ·obtain rfl:i=i':=by lia
     lia
 obtain⟨i,h1,h2,h3⟩:=up t.mask (T4 _);have:=w.room;lia
theorem WF.first {t:SetTable}{hs:List Int}(w:WF t hs)(h:Int):∃n,n<10*turns t.mask/\¬ oP t (cv t.mask h n)/\∀k,k<n->oP t (cv t.mask h k):=by
 obtain⟨x,hx,hf⟩:=w.hole;obtain⟨j,_,hj⟩:=w.C1;have BU:x<2 ^ j:=by have:0<2 ^ j:=XB (by decide);lia
 obtain⟨n,h1,h2⟩:=SJ j h BU;rw[<- hj]at h1 h2;obtain⟨m,g1,g2,g3⟩:=least (p:=λn=>¬ oP t (cv t.mask h n)) n (by rw[h2];exact hf)
 exact⟨m,by lia,g2,λk hk=>Wh λq=>g3 k hk q⟩
theorem iE (m:Nat)(h:Int):∀n,(fy m h n).dummy=none
 |0=>rfl
 |n+1=>by
  show (c7 m (fy m h n)).dummy=none;unfold c7 advance
  split
  ·exact iE m h n
  ·exact iE m h n
theorem pK {t:SetTable}{hs:List Int}(w:WF t hs)(ha:Nat->Int)(h:Int){N:Nat}(hN:¬ oP t (cv t.mask h N))(hO:∀k,k<N->oP t (cv t.mask h k)):∀(d n f:Nat),n+d=N->d<f ->
  (probe.go t ha h f (fy t.mask h n)=some (.empty (cv t.mask h N) none)/\∀k,n<=k->k<N->∀i,i<t.place.size->g t.place i=cv t.mask h k->ha i≠h) \/
  ∃m i,n<=m/\m<N/\i<t.place.size/\g t.place i=cv t.mask h m/\ha i=h/\probe.go t ha h f (fy t.mask h n)=some (.candidate (cv t.mask h m) i (fy t.mask h (m+1)))/\∀k,n<=k->k<m->∀i,i<t.place.size->g t.place i=cv t.mask h k->ha i≠h
 |0,n,f,e,hf=>by
  obtain rfl:n=N:=by lia
  obtain⟨f,rfl⟩:∃f',f=f'+1:=⟨f-1,by lia⟩
  refine .inl ⟨?_,λk h1 h2=>by lia⟩
  unfold probe.go;rw[show t.slot (fy t.mask h n).j=.empty from va w.vg w.GW hN]
  dsimp only;rw[iE];rfl
 |d+1,n,f,e,hf=>by
  obtain⟨f,rfl⟩:∃f',f=f'+1:=⟨f-1,by lia⟩
  obtain⟨i,hi,hg⟩:=hO n (by lia)
  have GD:t.slot (fy t.mask h n).j=.live i:=by
   show t.slot (cv t.mask h n)=.live i;rw[<- hg];exact mB w.vg hi
  by_cases hh:ha i=h
  ·refine .inr ⟨n,i,T4 _,by lia,hi,hg,hh,?_,λk h1 h2=>by lia⟩
   unfold probe.go;rw[GD];dsimp only;rw[if_pos (by rw[hh];exact beq_self_eq_true _)]
   rfl
  ·have st:probe.go t ha h (f+1) (fy t.mask h n)=probe.go t ha h f (fy t.mask h (n+1)):=by
    conv=>lhs;unfold probe.go
    rw[GD];dsimp only;rw[if_neg (by simpa using hh)]
    rfl
   rw[st];have here:∀i',i'<t.place.size->g t.place i'=cv t.mask h n->ha i'≠h:=λi' h1 h2=>by
    rw[w.vg.inj h1 hi (h2.trans hg.symm)];exact hh
   rcases pK w ha h hN hO d (n+1) f (by lia) (by lia)with⟨q1,q2⟩|⟨m,i',q1,q2,q3,q4,q5,q6,q7⟩
   ·refine .inl ⟨q1,λk h1 h2=>?_⟩
    by_cases hk:k=n
    ·subst hk;exact here
    ·exact q2 k (by lia) h2
   ·refine .inr ⟨m,i',by lia,q2,q3,q4,q5,q6,λk h1 h2=>?_⟩
    by_cases hk:k=n
    ·subst hk;exact here
    ·exact q7 k (by lia) h2
theorem lj {α:Type}(xs:Array α)(p:Nat)(x:α):(insertAt xs p x).toList=xs.toList.take p++x::xs.toList.drop p:=by
 unfold insertAt;rw[Vq,VF,XD,XD,WX,WX,U4];simp[Vi]
theorem yW {α:Type}{xs:Array α}{p:Nat}{x:α}(h:p<=xs.size):(insertAt xs p x).size=xs.size+1:=by
 rw[<- Ue,lj,Ui,Um,Ut,Vv,Ue];lia
theorem dh {xs:Array Nat}{p x:Nat}(h:p<=xs.size)(k:Nat):g (insertAt xs p x) k=if k<p then g xs k else if k=p then x else g xs (k-1):=by
 have e:∀(ys:Array Nat) (k:Nat),g ys k=(ys.toList[k]?).getD 0:=λys k=>by rw[g,Uu,Uv]
 rw[e,e,e,lj]
 by_cases h1:k<p
 ·rw[if_pos h1,Vh (by rw[Ut,Ue];lia),Wm h1]
 ·rw[if_neg h1,UZ (by rw[Ut];lia),Ut,Ue,show min p xs.size=p by lia]
  by_cases h2:k=p
  ·rw[if_pos h2,h2,WO];rfl
  ·rw[if_neg h2,show k-p=k-p-1+1 by lia,VY,WV,show p+(k-p-1)=k-1 by lia]
theorem WF.put {t:SetTable}{hs:List Int}(w:WF t hs){h:Int}{N:Nat}(hb:cv t.mask h N<=t.mask)(hN:¬ oP t (cv t.mask h N))(hO:∀k,k<N->oP t (cv t.mask h k))(hr:t.place.size+1<=t.mask):
  WF (t.put (cv t.mask h N)).1 (hs.take (t.put (cv t.mask h N)).2++h::hs.drop (t.put (cv t.mask h N)).2)/\(t.put (cv t.mask h N)).2<=t.place.size:=by
 obtain⟨b1,b2,b3⟩:=fe w.vg (cv t.mask h N);have hp:(t.put (cv t.mask h N)).2=below t.place (cv t.mask h N):=rfl;rw[hp];generalize hx:cv t.mask h N=x at *
 generalize hq:below t.place x=p at *
 have e:(t.put x).1={t with place:=insertAt t.place p x}:=by
  unfold SetTable.put;dsimp only;rw[w.GW,hq];unfold has;simp
 have ne:∀k,p<=k->k<t.place.size->x<g t.place k:=λk h1 h2=>by
  have:=b3 k h1 h2;rcases Vt x (g t.place k)with q|q
  ·exact q
  ·exact absurd ⟨k,h2,by lia⟩ hN
 have LD:(insertAt t.place p x).size=t.place.size+1:=yW b1;have OO:∀y,oP t y->oP {t with place:=insertAt t.place p x} y:=by
  rintro y ⟨i,h1,h2⟩
  by_cases hi:i<p
  ·exact⟨i,by show i<(insertAt t.place p x).size;lia,by show g (insertAt t.place p x) i=y;rw[dh b1,if_pos hi];exact h2⟩
  ·exact⟨i+1,by show i+1<(insertAt t.place p x).size;lia,by show g (insertAt t.place p x) (i+1)=y;rw[dh b1,if_neg (by lia),if_neg (by lia)];exact h2⟩
 rw[e];refine⟨⟨w.GW,?_,?_,?_,w.C1,?_,?_⟩,b1⟩
 ·show (insertAt t.place p x).size=_;rw[LD,Ui,Um,Ut,Vv,<- w.sz];lia
 ·intro i j aF hj;have hj:j<t.place.size+1:=by rw[<- LD];exact hj
  show g (insertAt t.place p x) i<g (insertAt t.place p x) j;rw[dh b1,dh b1]
  by_cases h1:i<p
  ·rw[if_pos h1]
   by_cases h2:j<p
   ·rw[if_pos h2];exact w.vg i j aF (by lia)
   ·rw[if_neg h2]
    by_cases h3:j=p
    ·rw[if_pos h3];exact b2 i h1
    ·rw[if_neg h3];exact w.vg i (j-1) (by lia) (by lia)
  ·rw[if_neg h1,if_neg (show ¬ j<p by lia)]
   by_cases h3:i=p
   ·rw[if_pos h3,if_neg (show ¬ j=p by lia)];exact ne _ (by lia) (by lia)
   ·rw[if_neg h3,if_neg (show ¬ j=p by lia)];exact w.vg (i-1) (j-1) (by lia) (by lia)
 ·intro i hi;have hi:i<t.place.size+1:=by rw[<- LD];exact hi
  show g (insertAt t.place p x) i<=t.mask;rw[dh b1]
  split
  ·exact w.PU i (by lia)
  ·split
   ·exact hb
   ·exact w.PU _ (by lia)
 ·show (insertAt t.place p x).size<=t.mask;lia
 ·intro i h' d_;show ∃n,cv t.mask h' n=g (insertAt t.place p x) i/\_;have old:∀i h',hs[i]?=some h'->∃n,cv t.mask h' n=g t.place i/\∀k,k<n->oP {t with place:=insertAt t.place p x} (cv t.mask h' k):=λi h' q=>by
   obtain⟨n,h1,h2⟩:=w.OE i h' q;exact⟨n,h1,λk hk=>OO _ (h2 k hk)⟩
  have hpl:p<=hs.length:=by rw[<- w.sz];exact b1
  by_cases h1:i<p
  ·rw[Vh (by rw[Ut];lia),Wm h1]at d_
   rw[dh b1,if_pos h1];exact old i h' d_
  ·rw[UZ (by rw[Ut];lia),Ut,show min p hs.length=p by lia]at d_
   rw[dh b1,if_neg h1]
   by_cases h2:i=p
   ·rw[h2,WO]at d_;rw[if_pos h2];obtain rfl:h=h':=UD d_;exact⟨N,hx,λk hk=>OO _ (hO k hk)⟩
   ·rw[show i-p=i-p-1+1 by lia,VY,WV,show p+(i-p-1)=i-1 by lia]at d_
    rw[if_neg h2];exact old (i-1) h' d_
theorem fX {m i:Nat}(h:i<=m):i<=runEnd m i/\runEnd m i<=m:=by
 unfold runEnd
 split <;> lia
theorem xW (m:Nat)(h:Int):∀n,(fy m h n).j+(fy m h n).more<=m
 |0=>by
  show bits h % (m+1)+(runEnd m (bits h % (m+1))-bits h % (m+1))<=m;have hl:bits h % (m+1)<=m:=Nat.le_of_lt_succ (WS _ (Nat.succ_pos _));have:=fX hl;lia
 |n+1=>by
  have ih:=xW m h n;show (c7 m (fy m h n)).j+(c7 m (fy m h n)).more<=m;unfold c7 advance
  split
  ·show (fy m h n).j+1+((fy m h n).more-1)<=m;lia
  ·show (leap m (fy m h n).i (fy m h n).perturb).1+(runEnd m (leap m (fy m h n).i (fy m h n).perturb).1-(leap m (fy m h n).i (fy m h n).perturb).1)<=m;have hl:(leap m (fy m h n).i (fy m h n).perturb).1<=m:=Nat.le_of_lt_succ (WS _ (Nat.succ_pos _));have:=fX hl;lia
theorem jC (m:Nat)(h:Int)(n:Nat):cv m h n<=m:=by
 have:=xW m h n;unfold cv;lia
abbrev Ow:=Array (Option Nat)
def fo (o:Ow)(j:Nat):Bool:=(o.getD j (some 0)).isNone
theorem mU {m:Nat}{o:Ow}(h:Int):∀(f b n:Nat) (j:Nat),fy m h n=G0 m (lp m h b)->layClean.free m o f (lp m h b).1 (lp m h b).2=some j->∃N,n<=N/\cv m h N=j/\fo o j=true/\∀k,n<=k->k<N->fo o (cv m h k)=false
 |0,b,n,j,_,e=>by cases e
 |f+1,b,n,j,hb,e=>by
  unfold layClean.free at e;have MB:∀d,d<=runEnd m (lp m h b).1-(lp m h b).1->cv m h (n+d)=(lp m h b).1+d:=λd hd=>by
   unfold cv;rw[sL m h _ n hb d hd]
  have hl:(lp m h b).1<=m:=by
   have:=jC m h n;unfold cv at this;rw[hb]at this;exact this
  have hr:=fX hl;cases hf:(T8 (runEnd m (lp m h b).1+1-(lp m h b).1)).find? (λk=>(o.getD ((lp m h b).1+k) (some 0)).isNone)with
  |some k =>
   rw[hf]at e;dsimp only at e;obtain⟨h1,h2,h3⟩:=List.find?_range_eq_some.mp hf;have h2:=U_.mp h2;refine⟨n+k,by lia,?_,?_,λx g1 g2=>?_⟩
   ·rw[MB k (by lia)]
    exact UD e
   ·rw[<- UD e];exact h1
   ·have:=h3 (x-n) (by lia)
    rw[show x=n+(x-n) by lia,MB (x-n) (by lia)]
    unfold fo;simpa using this
  |none =>
   rw[hf]at e;dsimp only at e;have h3:=List.find?_range_eq_none.mp hf;obtain⟨N,q1,q2,q3,q4⟩:=mU h f (b+1) (n+(runEnd m (lp m h b).1-(lp m h b).1)+1) j (qV m h _ n hb) e;refine⟨N,by lia,q2,q3,λx g1 g2=>?_⟩
   by_cases hx:n+(runEnd m (lp m h b).1-(lp m h b).1)+1<=x
   ·exact q4 x hx g2
   ·have:=h3 (x-n) (by lia)
    rw[show x=n+(x-n) by lia,MB (x-n) (by lia)]
    unfold fo;simpa using this
theorem mV {m:Nat}{o:Ow}(h:Int):∀(f b:Nat),layClean.free m o f (lp m h b).1 (lp m h b).2=none->∀d,d<f->(lp m h (b+d)).1<=m->fo o (lp m h (b+d)).1=false
 |0,b,_,d,hd,_=>by lia
 |f+1,b,e,d,hd,hl=>by
  unfold layClean.free at e;cases hf:(T8 (runEnd m (lp m h b).1+1-(lp m h b).1)).find? (λk=>(o.getD ((lp m h b).1+k) (some 0)).isNone)with
  |some k =>
   rw[hf]at e;cases e
  |none =>
   rw[hf]at e;dsimp only at e;cases d with
   |zero =>
    have:=List.find?_range_eq_none.mp hf 0 (by have:=fX hl;rw[Nat.add_zero]at this;lia)
    unfold fo;simpa using this
   |succ d =>
    have:=mV h f (b+1) e d (by lia) (by rw[show b+1+d=b+(d+1) by lia];exact hl)
    rw[show b+1+d=b+(d+1) by lia]at this
    exact this
theorem E6 (j:Nat)(h:Int){t:Nat}(ht:t<2 ^ j):∃k,k<turns (2 ^ j-1)/\(lp (2 ^ j-1) h k).1=t:=by
 obtain⟨k,hk,e⟩:=lift j (lp (2 ^ j-1) h 13).1 t;refine⟨13+k,by unfold turns;lia,?_⟩
 rw[C2,e,Yd ht]
def ow (o:Ow)(j:Nat):Option Nat:=o.getD j none
theorem dE {α:Type}{f f':Nat->Option α}:∀(l:List Nat),(∀k∈l,f' k=f k)->l.filterMap f'=l.filterMap f
 |[],_=>rfl
 |x::l,h=>by
  rw[Vb,Vb,h x Uz,dE l λk hk=>h k (UA _ hk)]
theorem qu {α:Type}{f f':Nat->Option α}(l:List Nat)(h:∀k∈l,f' k=f k):l.filterMap f'=l.filterMap f:=dE l h
theorem qr {α:Type}(f f':Nat->Option α)(j:Nat)(v:α)(h1:f j=none)(h2:f' j=some v)(h3:∀k,k≠j->f' k=f k):∀N,j<N->((T8 N).filterMap f').Perm (v::(T8 N).filterMap f)
 |0,h=>by lia
 |N+1,h=>by
  rw[Xp,Xw,Xw]
  by_cases e:j=N
  ·subst e;have e1:(T8 j).filterMap f'=(T8 j).filterMap f:=by
    exact dE _ λk hk=>h3 k (UI (U_.mp hk))
   rw[e1,Vb,h2,Vb,h1,List.filterMap_nil,List.filterMap_nil];show ((T8 j).filterMap f++[v]).Perm (v::((T8 j).filterMap f++[]));rw[Vo];exact List.perm_append_comm
  ·have ih:=qr f f' j v h1 h2 h3 N (by lia)
   have e2:[N].filterMap f'=[N].filterMap f:=dE _ λk hk=>by
    rw[T_.mp hk];exact h3 N (λz=>e z.symm)
   rw[e2];exact ih.append_right _
theorem qv {α:Type}(f:Nat->Option α):∀N,(∀k,k<N->(f k).isSome=true)->((T8 N).filterMap f).length=N
 |0,_=>rfl
 |N+1,h=>by
  rw[Xp,Xw,Ui,qv f N λk hk=>h k (by lia)]
  have:=h N (by lia)
  cases e:f N with
  |none=>rw[e]at this;cases this
  |some x=>rw[Vb,e];rfl
structure Ld (m:Nat)(hs:Array Int)(o:Ow)(k:Nat):Prop where
 sz:o.size=m+1
 L9:((T8 (m+1)).filterMap (ow o)).Perm (T8 k)
 way:∀j a,ow o j=some a->a<k/\∃n,cv m (hs.getD a 0) n=j/\∀x,x<n->fo o (cv m (hs.getD a 0) x)=false
theorem kO {o:Ow}{j:Nat}(h:j<o.size):fo o j=true↔ow o j=none:=by
 unfold fo ow;rw[Uu,Uu,getElem?_pos o j h];show (o[j]).isNone=true↔o[j]=none;exact YH
theorem Ld.next {j0:Nat}{hs:Array Int}{o:Ow}{k:Nat}(L:Ld (2 ^ j0-1) hs o k)(hk:k<=2 ^ j0-1)(h:Int)(hh:hs.getD k 0=h):
  ∃j,layClean.free (2 ^ j0-1) o (turns (2 ^ j0-1)) (bits h % (2 ^ j0-1+1)) (bits h)=some j/\Ld (2 ^ j0-1) hs (o.setIfInBounds j (some k)) (k+1):=by
 have hP:0<2 ^ j0:=XB (by decide)
 generalize hm:2 ^ j0-1=m at *
 obtain⟨x,hx,Ru⟩:∃x,x<=m/\ow o x=none:=by
  refine Wh λNd=>?_;have:=qv (ow o) (m+1) λx hx=>by
   cases e:ow o x with
   |none=>exact absurd ⟨x,by lia,e⟩ Nd
   |some _=>rfl
  rw[L.L9.length_eq,Uw]at this;lia
 cases hf:layClean.free m o (turns m) (bits h % (m+1)) (bits h)with
 |none =>
  exfalso
  obtain⟨c,hc,he⟩:=E6 j0 h (t:=x) (by lia)
  rw[hm]at hc he;have:=mV (m:=m) (o:=o) h (turns m) 0 hf c hc (by rw[We,he];exact hx)
  rw[We,he]at this;have q:=(kO (o:=o) (j:=x) (by rw[L.sz];lia)).mpr Ru
  rw[q]at this;cases this
 |some j =>
  refine⟨j,rfl,?_⟩;obtain⟨N,_,q2,q3,q4⟩:=mU (m:=m) (o:=o) h (turns m) 0 0 j rfl hf;have hj:j<=m:=by rw[<- q2];exact jC m h N
  have Nt:j<o.size:=by rw[L.sz];lia
  have JP:ow o j=none:=(kO Nt).mp q3;have same:∀i,i≠j->ow (o.setIfInBounds j (some k)) i=ow o i:=λi hi=>by
   unfold ow;rw[Uu,Uu,X_ (λz=>hi z.symm)]
  have here:ow (o.setIfInBounds j (some k)) j=some k:=by
   unfold ow;rw[Uu,Xy Nt];rfl
  have shut:∀i,fo o i=false->fo (o.setIfInBounds j (some k)) i=false:=λi hi=>by
   unfold fo at *
   rw[Uu]at *
   by_cases e:i=j
   ·subst e;rw[Xy Nt];rfl
   ·rw[X_ (λz=>e z.symm)];exact hi
  refine⟨by rw[Xb];exact L.sz,?_,λi a K6=>?_⟩
  ·refine(qr (ow o) _ j k JP here same (m+1) (by lia)).trans ?_
   refine(L.L9.cons k).trans ?_;rw[Xp];exact(List.perm_append_singleton k _).symm
  ·by_cases e:i=j
   ·subst e;rw[here]at K6;obtain rfl:=UD K6;refine⟨Nat.lt_succ_self _,N,by rw[hh];exact q2,λx hx=>shut _ ?_⟩
    rw[hh];exact q4 x (Uh _) hx
   ·rw[same i e]at K6;obtain⟨g1,n,g2,g3⟩:=L.way i a K6;exact⟨by lia,n,g2,λx hx=>shut _ (g3 x hx)⟩
theorem lK {j0:Nat}{hs:Array Int}(hk:hs.size<=2 ^ j0-1):∀(l:List Int) (k:Nat) (o:Ow),hs.toList.drop k=l->k+l.length=hs.size->Ld (2 ^ j0-1) hs o k ->
  ∃o',(l.foldl (λ(acc:Option (Ow×Nat)) h=>do
   let (owner,k) <- acc
   let j <- layClean.free (2 ^ j0-1) owner (turns (2 ^ j0-1)) (bits h % (2 ^ j0-1+1)) (bits h)
   pure (owner.setIfInBounds j (some k),k+1)) (some (o,k)))=some (o',hs.size)/\Ld (2 ^ j0-1) hs o' hs.size
 |[],k,o,e,z,L=>by
  obtain rfl:k=hs.size:=z;exact⟨o,rfl,L⟩
 |h::l,k,o,e,z,L=>by
  rw[Um]at z;have d8:k<hs.toList.length:=by rw[Ue];lia
  rw[Vy d8]at e;injection e with e1 e2
  have hh:hs.getD k 0=h:=by
   rw[Uu,<- Uv,T5 d8,e1];rfl
  obtain⟨j,q1,q2⟩:=L.next (by lia) h hh
  rw[VO];show ∃o',(l.foldl _ (do
   let j <- layClean.free (2 ^ j0-1) o (turns (2 ^ j0-1)) (bits h % (2 ^ j0-1+1)) (bits h)
   pure (o.setIfInBounds j (some k),k+1)))=_/\_
  rw[q1];exact lK hk l (k+1) _ e2 (by lia) q2
theorem Ld.start (m:Nat)(hs:Array Int):Ld m hs (Array.replicate (m+1) none) 0:=by
 have e:∀j,ow (Array.replicate (m+1) none) j=none:=λj=>by
  unfold ow;rw[Uu,Array.getElem?_replicate]
  split <;> rfl
 refine⟨Array.size_replicate,?_,λj a h=>by rw[e]at h;cases h⟩
 rw[dE (f:=λ_=>(none:Option Nat)) _ λk _=>e k];have:∀l:List Nat,l.filterMap (λ_=>(none:Option Nat))=[]:=λl=>by
  induction l with
  |nil=>rfl
  |cons x l ih=>rw[Vb];exact ih
 rw[this];exact .refl _
theorem BM {j0:Nat}{hs:Array Int}(h3:3<=j0)(hk:hs.size<=2 ^ j0-1)(finger moves:Nat)(led plain:Bool):
  ∃t order,laid (2 ^ j0-1) finger moves led plain hs=some (t,order)/\t.mask=2 ^ j0-1/\t.led=led/\t.plain=plain/\t.moves=moves/\order.toList.Perm (T8 hs.size)/\WF t (order.toList.map λa=>hs.getD a 0)/\t.place.size=hs.size:=by
 obtain⟨o,e1,L⟩:=lK hk hs.toList 0 _ rfl (by rw[We,Ue]) (Ld.start _ hs)
 have e2:layClean (2 ^ j0-1) hs=some o:=by
  unfold layClean;rw[<- Array.foldl_toList];exact congrArg (Option.map (·.1)) e1
 generalize hm:2 ^ j0-1=m at *
 have Iu:∀(l:List Nat),((l.filterMap λj=>(o.getD j none).map (j,·)).map (·.2))=l.filterMap (ow o):=λl=>by
  rw[List.map_filterMap];refine qu l λj _=>?_;rw[Option.map_map];show ((o.getD j none).map λa=>a)=_;rw[Option.map_id'];rfl
 generalize Dh:((T8 (m+1)).filterMap λj=>(o.getD j none).map (j,·))=live at *
 have pw:live.Pairwise (λx y=>x.1<y.1):=by
  rw[<- Dh,List.pairwise_filterMap];refine List.pairwise_lt_range.imp λ{a b} GO x hx y hy=>?_;obtain⟨_,_,rfl⟩:=Uk.mp hx;obtain⟨_,_,rfl⟩:=Uk.mp hy;exact GO
 have mem:∀x∈live,x.1<m+1/\ow o x.1=some x.2:=λx hx=>by
  rw[<- Dh]at hx;obtain⟨j,hj,e⟩:=WU.mp hx;obtain⟨a,ha,rfl⟩:=Uk.mp e;exact⟨U_.mp hj,ha⟩
 have ord:(live.map (·.2)).Perm (T8 hs.size):=by
  rw[<- Dh,Iu];exact L.L9
 have len:live.length=hs.size:=by
  have:=ord.length_eq;rw[TX,Uw]at this;exact this
 have gp:∀i (hi:i<live.length),g (live.map (·.1)).toArray i=(live[i]).1:=λi hi=>by
  rw[g,Uu,Xv,T6,T5 hi];rfl
 refine⟨{mask:=m,place:=(live.map (·.1)).toArray,dummies:=#[],finger,led,moves,plain},(live.map (·.2)).toArray,?_,rfl,rfl,rfl,rfl,ord,?_,?_⟩
 ·unfold laid;rw[e2,<- Dh];rfl
 ·have L7:(live.map (·.1)).toArray.size=live.length:=by rw[UB,TX]
  refine⟨rfl,?_,?_,?_,⟨j0,h3,hm.symm⟩,?_,?_⟩
  ·show (live.map (·.1)).toArray.size=_;rw[L7,TX,TX]
  ·intro i j aF hj;have hj:j<live.length:=by rw[<- L7];exact hj
   show g (live.map (·.1)).toArray i<g (live.map (·.1)).toArray j;rw[gp i (by lia),gp j hj]
   exact WW.mp pw i j (by lia) hj aF
  ·intro i hi;have hi:i<live.length:=by rw[<- L7];exact hi
   show g (live.map (·.1)).toArray i<=m;rw[gp i hi];have:=(mem _ (Vz hi)).1;lia
  ·show (live.map (·.1)).toArray.size<=m;lia
  ·intro i h hi;show ∃n,cv m h n=g (live.map (·.1)).toArray i/\_;rw[T6,T6]at hi;have l6:i<live.length:=by
    rcases Vt i live.length with q|q
    ·exact q
    ·rw[UK q]at hi;cases hi
   rw[T5 l6]at hi;have hi:hs.getD (live[i]).2 0=h:=UD hi;obtain⟨_,n,g2,g3⟩:=L.way _ _ (mem _ (Vz l6)).2;rw[hi]at g2 g3;refine⟨n,by rw[gp i l6];exact g2,λk hk=>?_⟩
   have hv:=jC m h k;have Rn:cv m h k<o.size:=by rw[L.sz];lia
   have:=g3 k hk;cases eo:ow o (cv m h k)with
   |none =>
    rw[(kO Rn).mpr eo]at this;cases this
   |some a =>
    have sM:(cv m h k,a)∈live:=by
     rw[<- Dh];exact WU.mpr ⟨cv m h k,U_.mpr (by lia),by show (ow o (cv m h k)).map _=_;rw[eo];rfl⟩
    obtain⟨i',d_,e'⟩:=XI sM;exact⟨i',by show i'<(live.map (·.1)).toArray.size;lia,by show g (live.map (·.1)).toArray i'=_;rw[gp i' d_,e']⟩
 ·show (live.map (·.1)).toArray.size=hs.size;rw[UB,TX];exact len
end ST
namespace TS
open PySem PyProof.Rows
def cg:Bool->Ub->Array Ub->Nat->Nat->Nat->StateT UH Sem (Option Nat):=sortPriv% PySem.Builtin.gallop
def gZ:Array Ub->Array Ub->StateT UH Sem (Array Ub):=sortPriv% PySem.Builtin.mergeLo
def g8:Array Ub->Array Ub->StateT UH Sem (Array Ub):=sortPriv% PySem.Builtin.mergeHi
abbrev cm (st:UH)(g:Nat):UH:=SortSt.mk' (kindOf st) (UN st) (UC st) g (Ww st)
theorem sQ (left:Bool)(key:Ub)(arr:Array Ub)(base n hint:Nat):cg left key arr base n hint=(do
  let ask:=λ(at_:Nat)=>(do
   let z <- elem' arr (base+at_)
   if left then lt' z key else return (<- lt' key z).map (!·):StateT UH Sem (Option Bool))
  let mut before:=0
  let mut step:=1
  let mut u:=0
  let mut v:=0
  let some up <- ask hint|return none
  if up then
   let room:=n-hint
   for _ in [0:n] do
    if step >= room then break
    let some on <- ask (hint+step)|return none
    if !on then break
    before:=step
    step:=2*step+1
   u:=hint+before+1
   v:=hint+min step room
  else
   let room:=hint+1
   for _ in [0:n] do
    if step >= room then break
    let some hit <- ask (hint-step)|return none
    if hit then break
    before:=step
    step:=2*step+1
   u:=hint+1-min step room
   v:=hint-before
  for _ in [0:n] do
   if u >= v then break
   let mid:=u+(v-u) / 2
   let some on <- ask mid|return none
   if on then u:=mid+1 else v:=mid
  return some v):=rfl
theorem pY (p q:Array Ub):gZ p q=(do
  rule "list.sort.merge-lo"
  let all:=p.size+q.size
  let rest:=λ(to:Array Ub) (i j:Nat)=>to++p.extract i p.size++q.extract j q.size
  let tail:=λ(to:Array Ub) (i j:Nat)=>to++q.extract j q.size++p.extract i p.size
  let mut to:Array Ub:=#[<- elem' q 0]
  let mut i:=0
  let mut j:=1
  if j==q.size then return rest to i j
  if i+1==p.size then return tail to i j
  let mut mg:=gallopOf (<- get)
  for _ in [0:all] do
   let mut m:=0
   let mut n:=0
   for _ in [0:all] do
    let some DU <- lt' (<- elem' q j) (<- elem' p i)|return rest to i j
    if DU then
     to:=to.push (<- elem' q j);j:=j+1;n:=n+1;m:=0
     if j==q.size then return rest to i j
     if n >= mg then break
    else
     to:=to.push (<- elem' p i);i:=i+1;m:=m+1;n:=0
     if i+1==p.size then return tail to i j
     if m >= mg then break
   rule "list.sort.gallop"
   mg:=mg+1
   for _ in [0:all] do
    if mg>1 then mg:=mg-1
    modify λst=>cm st mg
    let some k <- cg false (<- elem' q j) p i (p.size-i) 0|return rest to i j
    m:=k
    if k>0 then
     to:=to++p.extract i (i+k);i:=i+k
     if i+1==p.size then return tail to i j
     if i==p.size then return rest to i j
    to:=to.push (<- elem' q j);j:=j+1
    if j==q.size then return rest to i j
    let some k <- cg true (<- elem' p i) q j (q.size-j) 0|return rest to i j
    n:=k
    if k>0 then
     to:=to++q.extract j (j+k);j:=j+k
     if j==q.size then return rest to i j
    to:=to.push (<- elem' p i);i:=i+1
    if i+1==p.size then return tail to i j
    if m<7&&n<7 then break
   mg:=mg+1
   modify λst=>cm st mg
  unsupported "internal:list.sort.merge-bound"):=rfl
theorem p0 (p q:Array Ub):g8 p q=(do
  rule "list.sort.merge-hi"
  let all:=p.size+q.size
  let rest:=λ(to:Array Ub) (i j:Nat)=>p.extract 0 i++q.extract 0 j++to.reverse
  let tail:=λ(to:Array Ub) (i j:Nat)=>q.extract 0 j++p.extract 0 i++to.reverse
  let mut i:=p.size-1
  let mut j:=q.size
  let mut to:Array Ub:=#[<- elem' p i]
  if i==0 then return rest to i j
  if j==1 then return tail to i j
  let mut mg:=gallopOf (<- get)
  for _ in [0:all] do
   let mut m:=0
   let mut n:=0
   for _ in [0:all] do
    let some DU <- lt' (<- elem' q (j-1)) (<- elem' p (i-1))|return rest to i j
    if DU then
     i:=i-1;to:=to.push (<- elem' p i);m:=m+1;n:=0
     if i==0 then return rest to i j
     if m >= mg then break
    else
     j:=j-1;to:=to.push (<- elem' q j);n:=n+1;m:=0
     if j==1 then return tail to i j
     if n >= mg then break
   rule "list.sort.gallop"
   mg:=mg+1
   for _ in [0:all] do
    if mg>1 then mg:=mg-1
    modify λst=>cm st mg
    let some h <- cg false (<- elem' q (j-1)) p 0 i (i-1)|return rest to i j
    let k:=i-h
    m:=k
    if k>0 then
     to:=to++(p.extract h i).reverse;i:=h
     if i==0 then return rest to i j
    j:=j-1;to:=to.push (<- elem' q j)
    if j==1 then return tail to i j
    let some h <- cg true (<- elem' p (i-1)) q 0 j (j-1)|return rest to i j
    let k:=j-h
    n:=k
    if k>0 then
     to:=to++(q.extract h j).reverse;j:=h
     if j==1 then return tail to i j
     if j==0 then return rest to i j
    i:=i-1;to:=to.push (<- elem' p i)
    if i==0 then return rest to i j
    if m<7&&n<7 then break
   mg:=mg+1
   modify λst=>cm st mg
  unsupported "internal:list.sort.merge-bound"):=rfl
theorem qa (i:Nat):mergeAt' i=(do
  let st <- get
  let (some (sa,na,pw),some (sb,nb,_)):=((UC st)[i]?,(UC st)[i+1]?)|unsupported "internal:list.sort.pending"
  set (WB st (((UC st).setIfInBounds i (sa,na+nb,pw)).eraseIdxIfInBounds (i+1)))
  let some k <- cg false (<- elem' (UN st) sb) (UN st) sa na 0|return false
  let (sa,na):=(sa+k,na-k)
  if na==0 then return true
  let some nb <- cg true (<- elem' (UN st) (sa+na-1)) (UN st) sb nb (nb-1)|return false
  if nb==0 then return true
  let x:=(UN st).extract sa sb
  let y:=(UN st).extract sb (sb+nb)
  let got <- if na<=nb then gZ x y else g8 x y
  modify λs2=>Vk s2 (got.toList.zipIdx.foldl (λa (p,j)=>a.setIfInBounds (sa+j) p) (UN s2))
  return (Ww (<- get)).isNone):=rfl
structure cc (c:Ub->Ub->Bool):Prop where
 Kr:∀x y,c x y=true->c y x=false
 OQ:∀x y z,c x z=true->c x y=true\/c y z=true
def le (c:Ub->Ub->Bool)(x y:Ub):Prop:=c y x=false
section
variable {c:Ub->Ub->Bool}
theorem cc.refl (O:cc c)(x:Ub):le c x x:=by
 cases h:c x x
 ·exact h
 ·exact O.Kr _ _ h
theorem cc.trans (O:cc c){x y z:Ub}(h1:le c x y)(h2:le c y z):le c x z:=by
 cases h:c z x
 ·exact h
 ·rcases O.OQ _ y _ h with q|q
  ·exact absurd (q.symm.trans h2) (by simp)
  ·exact absurd (q.symm.trans h1) (by simp)
theorem cc.of_lt (O:cc c){x y:Ub}(h:c x y=true):le c x y:=O.Kr _ _ h
def el (a:Array Ub)(i:Nat):Ub:=a.getD i (Value.none,Value.none)
theorem h_ {a:Array Ub}{i:Nat}(h:i<a.size):a[i]?=some (el a i):=by
 rw[getElem?_pos a i h,el,Uu,getElem?_pos a i h];rfl
theorem uA {a:Array Ub}{i:Nat}{x:Ub}(h:a[i]?=some x):el a i=x:=by
 rw[el,Uu,h];rfl
theorem dF {a b:Array Ub}{i j:Nat}(h:a[i]?=b[j]?):el a i=el b j:=by
 rw[el,el,Uu,Uu,h]
def SR (c:Ub->Ub->Bool)(a:Array Ub)(lo hi:Nat):Prop:=∀i j,lo<=i->i<=j->j<hi->le c (el a i) (el a j)
def ff (prog:T7)(w:Ur)(A:U6)(E:TY->T3->Prop)(s:T3)(κ:Wj)(c:Ub->Ub->Bool)(S:Ub->Prop):Prop :=
 ∀(x y:Ub) (st:UH) (Q:Option Bool->UH->Prop),S x->S y->kindOf st=κ->Q (some (c x y)) st->wpS (model prog w) A E s (lt' x y) Q st
end
section
variable {prog:T7}{w:Ur}{A:U6}{E:TY->T3->Prop}{s:T3}{κ:Wj}{c:Ub->Ub->Bool}{S:Ub->Prop}
theorem aL {a:Array Ub}{i:Nat}{Q:Ub->UH->Prop}{st:UH}(h:i<a.size)(q:Q (el a i) st):wpS (model prog w) A E s (elem' a i) Q st:=by
 rw[elem'_eq,h_ h];exact Uo q
def dG (c:Ub->Ub->Bool)(left:Bool)(key:Ub)(a:Array Ub)(base i:Nat):Bool:=if left=true then c (el a (base+i)) key else !c key (el a (base+i))
theorem Cv (O:cc c){left:Bool}{key:Ub}{a:Array Ub}{base n i j:Nat}(hs:SR c a base (base+n))(aF:i<=j)(hj:j<n)(h:dG c left key a base j=true):dG c left key a base i=true:=by
 have hl:=hs (base+i) (base+j) (by lia) (by lia) (by lia)
 unfold dG at *
 cases left with
 |true =>
  rw[if_pos rfl]at *
  rcases O.OQ _ (el a (base+i)) _ h with q|q
  ·exact absurd (q.symm.trans hl) (by simp)
  ·exact q
 |false =>
  rw[if_neg (by simp)]at *
  rw[W6]at *
  exact O.trans hl h
theorem gO (L:ff prog w A E s κ c S){left:Bool}{key:Ub}{a:Array Ub}{base n i:Nat}{Q:Option Bool->UH->Prop}{st:UH}(hk:kindOf st=κ)(hK:S key)(hA:∀i,i<n->S (el a (base+i)))(hn:base+n<=a.size)(hi:i<n)
  (h:Q (some (dG c left key a base i)) st):wpS (model prog w) A E s (do
   let z <- elem' a (base+i)
   if left then lt' z key else return (<- lt' key z).map (!·):StateT UH Sem (Option Bool)) Q st:=by
 refine Ug (aL (by lia) ?_)
 unfold dG at h;cases left with
 |true =>
  rw[if_pos rfl]at *
  exact L _ _ st Q (hA i hi) hK hk h
 |false =>
  rw[if_neg (by simp)]at *
  exact Ug (L _ _ st _ hK (hA i hi) hk (Uo h))
theorem dj (O:cc c)(L:ff prog w A E s κ c S){left:Bool}{key:Ub}{a:Array Ub}{base n hint:Nat}{Q:Option Nat->UH->Prop}{st:UH}(hk:kindOf st=κ)(hK:S key)(hA:∀i,i<n->S (el a (base+i)))(hn:base+n<=a.size)
  (hs:SR c a base (base+n)) (hh:hint<n) (h:∀k,k<=n->(∀i,i<k->dG c left key a base i=true)->(∀i,k<=i->i<n->dG c left key a base i=false)->Q (some k) st) :
  wpS (model prog w) A E s (cg left key a base n hint) Q st:=by
 rw[sQ];dsimp only;have up:∀{i j},i<=j->j<n->dG c left key a base j=true->dG c left key a base i=true:=λh1 h2 h3=>Cv O hs h1 h2 h3;refine Ug (gO L hk hK hA hn hh ?_);dsimp only;have dn:∀{i j},i<=j->j<n->dG c left key a base i=false->dG c left key a base j=false:=λ{i j} h1 h2 h3=>by
  cases q:dG c left key a base j
  ·rfl
  ·rw[up h1 h2 q]at h3;exact absurd h3 (by simp)
 cases GL:dG c left key a base hint with
 |true =>
  rw[if_pos rfl];refine Ug (VB (U7 (I:=λx r aD=>aD=st/\∃be c7,r=(none,be,c7)/\hint+be<n/\be<c7/\x+1<=c7/\dG c left key a base (hint+be)=true)
   (Q:=λr aD=>aD=st/\∃be c7,r=(none,be,c7)/\hint+be<n/\be<c7/\dG c left key a base (hint+be)=true/\(n-hint<=c7\/(hint+c7<n/\dG c left key a base (hint+c7)=false))) ?_ ?_ ?_) ?_)
  ·rintro x r aD _ hx ⟨rfl,be,c7,rfl,h1,h2,h3,h4⟩;dsimp only
   by_cases hr:c7 >= n-hint
   ·rw[if_pos hr];exact Uo ⟨rfl,be,c7,rfl,h1,h2,h4,.inl hr⟩
   ·rw[if_neg hr];refine Ug (gO L hk hK hA hn (by omega) ?_)
    dsimp only;cases hb:dG c left key a base (hint+c7)with
    |true =>
     rw[if_neg (by simp)]
     exact Uo ⟨rfl,c7,_,rfl,by omega,by omega,by omega,hb⟩
    |false =>
     rw[if_pos (by simp)]
     exact Uo ⟨rfl,be,c7,rfl,h1,h2,h4,.inr ⟨by omega,hb⟩⟩
  ·rintro r aD ⟨rfl,be,c7,rfl,h1,h2,h3,h4⟩;exact⟨rfl,be,c7,rfl,h1,h2,h4,.inl (by omega)⟩
  ·exact⟨rfl,0,1,rfl,by omega,by omega,by omega,GL⟩
  rintro r aD ⟨e0,be,c7,rfl,h1,h2,h4,h5⟩;rw[e0];dsimp only;have g1:∀i,i<hint+be+1->dG c left key a base i=true:=λi hi=>up (j:=hint+be) (by omega) h1 h4
  have g2:∀i,hint+min c7 (n-hint)<=i->i<n->dG c left key a base i=false:=λi hi d_=>by
   rcases h5 with q|⟨q1,q2⟩
   ·omega
   ·exact dn (i:=hint+c7) (by omega) d_ q2
  refine Ug (VB (U7 (I:=λx r aD=>aD=st/\∃u v,r=(none,u,v)/\u<=v/\v<=n/\v-u<=n-x/\(∀i,i<u->dG c left key a base i=true)/\(∀i,v<=i->i<n->dG c left key a base i=false))
   (Q:=λr aD=>aD=st/\∃v,r=(none,v,v)/\v<=n/\(∀i,i<v->dG c left key a base i=true)/\(∀i,v<=i->i<n->dG c left key a base i=false)) ?_ ?_ ?_) ?_)
  ·rintro x r aD _ hx ⟨rfl,u,v,rfl,h1,h2,h3,h4,h5⟩;dsimp only
   by_cases IS:u >= v
   ·rw[if_pos IS];obtain rfl:u=v:=by omega
    exact Uo ⟨rfl,u,rfl,h2,h4,h5⟩
   ·rw[if_neg IS];refine Ug (gO L hk hK hA hn (by omega) ?_)
    dsimp only;cases hb:dG c left key a base (u+(v-u) / 2)with
    |true =>
     rw[if_pos rfl];exact Uo ⟨rfl,_,v,rfl,by omega,h2,by omega,λi hi=>up (j:=u+(v-u) / 2) (by omega) (by omega) hb,h5⟩
    |false =>
     rw[if_neg (by simp)]
     exact Uo ⟨rfl,u,_,rfl,by omega,by omega,by omega,h4,λi hi d_=>dn (i:=u+(v-u) / 2) (by omega) (by omega) hb⟩
  ·rintro r aD ⟨rfl,u,v,rfl,h1,h2,h3,h4,h5⟩;obtain rfl:u=v:=by omega
   exact⟨rfl,u,rfl,h2,h4,h5⟩
  ·exact⟨rfl,_,_,rfl,by omega,by omega,by omega,by assumption,by assumption⟩
  ·rintro r aD ⟨rfl,v,rfl,h2,h4,h5⟩;exact Uo (h v h2 h4 h5)
 |false =>
  rw[if_neg (by simp)]
  refine Ug (VB (U7 (I:=λx r aD=>aD=st/\∃be c7,r=(none,be,c7)/\be<=hint/\be<c7/\x+1<=c7/\dG c left key a base (hint-be)=false)
   (Q:=λr aD=>aD=st/\∃be c7,r=(none,be,c7)/\be<=hint/\be<c7/\dG c left key a base (hint-be)=false/\(hint+1<=c7\/(c7<=hint/\dG c left key a base (hint-c7)=true))) ?_ ?_ ?_) ?_)
  ·rintro x r aD _ hx ⟨rfl,be,c7,rfl,h1,h2,h3,h4⟩;dsimp only
   by_cases hr:c7 >= hint+1
   ·rw[if_pos hr];exact Uo ⟨rfl,be,c7,rfl,h1,h2,h4,.inl hr⟩
   ·rw[if_neg hr];refine Ug (gO L hk hK hA hn (by omega) ?_)
    dsimp only;cases hb:dG c left key a base (hint-c7)with
    |true =>
     rw[if_pos rfl];exact Uo ⟨rfl,be,c7,rfl,h1,h2,h4,.inr ⟨by omega,hb⟩⟩
    |false =>
     rw[if_neg (by simp)]
     exact Uo ⟨rfl,c7,_,rfl,by omega,by omega,by omega,hb⟩
  ·rintro r aD ⟨rfl,be,c7,rfl,h1,h2,h3,h4⟩;exact⟨rfl,be,c7,rfl,h1,h2,h4,.inl (by omega)⟩
  ·exact⟨rfl,0,1,rfl,by omega,by omega,by omega,GL⟩
  rintro r aD ⟨e0,be,c7,rfl,h1,h2,h4,h5⟩;rw[e0];dsimp only;have g1:∀i,i<hint+1-min c7 (hint+1)->dG c left key a base i=true:=λi hi=>by
   rcases h5 with q|⟨q1,q2⟩
   ·omega
   ·exact up (j:=hint-c7) (by omega) (by omega) q2
  have g2:∀i,hint-be<=i->i<n->dG c left key a base i=false:=λi hi d_=>dn (i:=hint-be) hi d_ h4;refine Ug (VB (U7 (I:=λx r aD=>aD=st/\∃u v,r=(none,u,v)/\u<=v/\v<=n/\v-u<=n-x/\(∀i,i<u->dG c left key a base i=true)/\(∀i,v<=i->i<n->dG c left key a base i=false))
   (Q:=λr aD=>aD=st/\∃v,r=(none,v,v)/\v<=n/\(∀i,i<v->dG c left key a base i=true)/\(∀i,v<=i->i<n->dG c left key a base i=false)) ?_ ?_ ?_) ?_)
  ·rintro x r aD _ hx ⟨rfl,u,v,rfl,h1,h2,h3,h4,h5⟩;dsimp only
   by_cases IS:u >= v
   ·rw[if_pos IS];obtain rfl:u=v:=by omega
    exact Uo ⟨rfl,u,rfl,h2,h4,h5⟩
   ·rw[if_neg IS];refine Ug (gO L hk hK hA hn (by omega) ?_)
    dsimp only;cases hb:dG c left key a base (u+(v-u) / 2)with
    |true =>
     rw[if_pos rfl];exact Uo ⟨rfl,_,v,rfl,by omega,h2,by omega,λi hi=>up (j:=u+(v-u) / 2) (by omega) (by omega) hb,h5⟩
    |false =>
     rw[if_neg (by simp)]
     exact Uo ⟨rfl,u,_,rfl,by omega,by omega,by omega,h4,λi hi d_=>dn (i:=u+(v-u) / 2) (by omega) (by omega) hb⟩
  ·rintro r aD ⟨rfl,u,v,rfl,h1,h2,h3,h4,h5⟩;obtain rfl:u=v:=by omega
   exact⟨rfl,u,rfl,h2,h4,h5⟩
  ·exact⟨rfl,_,_,rfl,by omega,by omega,by omega,by assumption,by assumption⟩
  ·rintro r aD ⟨rfl,v,rfl,h2,h4,h5⟩;exact Uo (h v h2 h4 h5)
end
section
variable {c:Ub->Ub->Bool}{p q:Array Ub}{t:List Ub}{i j:Nat}
theorem tx {a:Array Ub}{i:Nat}(h:i<a.size):a.toList.take (i+1)=a.toList.take i++[el a i]:=by
 have e:a.toList[i]?=some (el a i):=by rw[Uv];exact h_ h
 rw[YA,e];rfl
theorem uB {a:Array Ub}{i:Nat}(h:i<a.size):a.toList.drop i=el a i::a.toList.drop (i+1):=by
 have hl:i<a.toList.length:=by rw[Ue];exact h
 have e:a.toList[i]=el a i:=by
  have h1:=T5 hl;rw[Uv,h_ h]at h1;exact(UD h1).symm
 rw[Vy hl,e]
structure Mg (c:Ub->Ub->Bool)(p q:Array Ub)(t:List Ub)(i j:Nat):Prop where
 hi:i<=p.size
 hj:j<=q.size
 perm:t.Perm (p.toList.take i++q.toList.take j)
 gi:t.Pairwise (le c)
 ap:∀x∈t,∀k,i<=k->k<p.size->le c x (el p k)
 aq:∀x∈t,∀k,j<=k->k<q.size->le c x (el q k)
def Gd (c:Ub->Ub->Bool)(p q:Array Ub)(t:List Ub):Prop:=t.Perm (p.toList++q.toList)/\t.Pairwise (le c)
theorem pz {x:Ub}(h:t.Pairwise (le c))(hx:∀y∈t,le c y x):(t++[x]).Pairwise (le c):=by
 rw[List.pairwise_append];exact⟨h,List.pairwise_singleton _ _,λy hy z hz=>by rw[T_.mp hz];exact hx y hy⟩
theorem Mg.i_ (m:Mg c p q t i j)(hj:j<q.size)(sq:SR c q 0 q.size)(hle:∀k,i<=k->k<p.size->le c (el q j) (el p k)):Mg c p q (t++[el q j]) i (j+1) where
 hi:=m.hi
 hj:=hj
 perm:=by
  rw[tx hj,<- U4];exact m.perm.append_right _
 gi:=pz m.gi λy hy=>m.aq y hy j (T4 _) hj
 ap:=λx hx k h1 h2=>by
  rcases Uq.mp hx with h|h
  ·exact m.ap x h k h1 h2
  ·rw[T_.mp h];exact hle k h1 h2
 aq:=λx hx k h1 h2=>by
  rcases Uq.mp hx with h|h
  ·exact m.aq x h k (by lia) h2
  ·rw[T_.mp h];exact sq j k (by lia) (by lia) h2
theorem Mg.je (m:Mg c p q t i j)(hi:i<p.size)(sp:SR c p 0 p.size)(hle:∀k,j<=k->k<q.size->le c (el p i) (el q k)):Mg c p q (t++[el p i]) (i+1) j where
 hi:=hi
 hj:=m.hj
 perm:=by
  rw[tx hi];refine(m.perm.append_right _).trans ?_;rw[U4,U4];exact Xx _ List.perm_append_comm
 gi:=pz m.gi λy hy=>m.ap y hy i (T4 _) hi
 ap:=λx hx k h1 h2=>by
  rcases Uq.mp hx with h|h
  ·exact m.ap x h k (by lia) h2
  ·rw[T_.mp h];exact sp i k (by lia) (by lia) h2
 aq:=λx hx k h1 h2=>by
  rcases Uq.mp hx with h|h
  ·exact m.aq x h k h1 h2
  ·rw[T_.mp h];exact hle k h1 h2
theorem fP {a:Array Ub}{i k:Nat}(h:i+k<a.size):(a.toList.drop i).take (k+1)=(a.toList.drop i).take k++[el a (i+k)]:=by
 have e:(a.toList.drop i)[k]?=some (el a (i+k)):=by rw[WV,Uv];exact h_ h
 rw[YA,e];rfl
theorem Mg.dM (m:Mg c p q t i j)(sp:SR c p 0 p.size):∀(k:Nat),i+k<=p.size->(∀x,x<k->∀y,j<=y->y<q.size->le c (el p (i+x)) (el q y))->Mg c p q (t++(p.toList.drop i).take k) (i+k) j
 |0,_,_=>by simpa using m
 |k+1,h,hle=>by
  have m':=Mg.dM m sp k (by lia) λx hx=>hle x (by lia)
  rw[fP (by lia),<- U4,<- Nat.add_assoc]
  exact m'.je (by lia) sp (hle k (by lia))
theorem Mg.gS (m:Mg c p q t i j)(sq:SR c q 0 q.size):∀(k:Nat),j+k<=q.size->(∀x,x<k->∀y,i<=y->y<p.size->le c (el q (j+x)) (el p y))->Mg c p q (t++(q.toList.drop j).take k) i (j+k)
 |0,_,_=>by simpa using m
 |k+1,h,hle=>by
  have m':=Mg.gS m sq k (by lia) λx hx=>hle x (by lia)
  rw[fP (by lia),<- U4,<- Nat.add_assoc]
  exact m'.i_ (by lia) sq (hle k (by lia))
theorem Mg.full (m:Mg c p q t p.size q.size):Gd c p q t:=by
 refine⟨?_,m.gi⟩;have h:=m.perm;rw[Vi (by rw[Ue];lia),Vi (by rw[Ue];lia)]at h
 exact h
theorem cb (a:Array Ub)(i j:Nat):(a.extract i j).toList=(a.toList.drop i).take (j-i):=by
 rw[XD,WX]
theorem qL {a:Array Ub}{i j:Nat}(h:a.size<=i):(a.toList.drop i).take (j-i)=[]:=by
 rw[Xj (by rw[Ue];exact h)]
 simp
theorem Mg.done {to:Array Ub}(m:Mg c p q to.toList i j)(sp:SR c p 0 p.size)(sq:SR c q 0 q.size)(h:i=p.size\/j=q.size):Gd c p q (to++p.extract i p.size++q.extract j q.size).toList:=by
 rw[Vq,Vq,cb,cb];rcases h with rfl|rfl
 ·rw[qL (T4 _),Vo];have m':=m.gS sq (q.size-j) (by have:=m.hj;lia) λx hx y h1 h2=>by lia
  rw[show j+(q.size-j)=q.size by have:=m.hj;lia]at m'
  exact m'.full
 ·rw[qL (a:=q) (T4 _),Vo];have m':=m.dM sp (p.size-i) (by have:=m.hi;lia) λx hx y h1 h2=>by lia
  rw[show i+(p.size-i)=p.size by have:=m.hi;lia]at m'
  exact m'.full
theorem Mg.tail {to:Array Ub}(O:cc c)(m:Mg c p q to.toList i j)(sp:SR c p 0 p.size)(sq:SR c q 0 q.size)(h:i+1=p.size)(hl:∀y,y<q.size->c (el q y) (el p (p.size-1))=true):Gd c p q (to++q.extract j q.size++p.extract i p.size).toList:=by
 rw[Vq,Vq,cb,cb];have m':=m.gS sq (q.size-j) (by have:=m.hj;lia) λx hx y h1 h2=>by
  rw[show y=p.size-1 by lia]
  exact O.of_lt (hl _ (by lia))
 rw[show j+(q.size-j)=q.size by have:=m.hj;lia]at m'
 have m2:=m'.dM sp (p.size-i) (by have:=m.hi;lia) λx hx y h1 h2=>by lia
 rw[show i+(p.size-i)=p.size by have:=m.hi;lia]at m2
 exact m2.full
theorem uR (to a:Array Ub)(i k:Nat):(to++a.extract i (i+k)).toList=to.toList++(a.toList.drop i).take k:=by
 rw[Vq,cb,show i+k-i=k by lia]
theorem Mg.start (O:cc c)(sp:SR c p 0 p.size)(sq:SR c q 0 q.size)(hq:0<q.size)(hp:0<p.size)(h:c (el q 0) (el p 0)=true):Mg c p q [el q 0] 0 1:=by
 have m:Mg c p q [] 0 0:=⟨Uh _,Uh _,(by simp),.nil,(λx hx=>by cases hx),(λx hx=>by cases hx)⟩
 exact m.i_ hq sq λk _ hk=>O.trans (O.of_lt h) (sp 0 k (by lia) (by lia) hk)
end
structure i6 (st aD:UH):Prop where
 kind:kindOf aD=kindOf st
 arr:UN aD=UN st
 pend:UC aD=UC st
 fail:Ww aD=Ww st
theorem i6.refl (st:UH):i6 st st:=⟨rfl,rfl,rfl,rfl⟩
theorem i6.Dl {st aD:UH}(e:i6 st aD)(g:Nat):i6 st (cm aD g):=⟨e.kind,e.arr,e.pend,e.fail⟩
abbrev RI:=Array Ub×Nat×Nat×Nat×Nat
abbrev RG:=Array Ub×Nat×Nat×Nat×Nat×Nat
abbrev RO:=Array Ub×Nat×Nat×Nat
noncomputable def Mp (p q t:Array Ub)(i j mg m n:Nat):StateT UH Sem (ForInStep (Option (Array Ub)×RG)):=do
 let z <- elem' p i
 if (i+1+1==p.size)=true then pure (.done (some (t.push z++q.extract j++p.extract (i+1)),t.push z,i+1,j,mg,m,n))
 else if (decide (m<7)&&decide (n<7))=true then pure (.done (none,t.push z,i+1,j,mg,m,n)) else pure (.yield (none,t.push z,i+1,j,mg,m,n))
noncomputable def Mq (p q t:Array Ub)(i j mg m n:Nat):StateT UH Sem (ForInStep (Option (Array Ub)×RG)):=do
 let y <- elem' q j
 if (j+1==q.size)=true then pure (.done (some (t.push y++p.extract i++q.extract (j+1)),t.push y,i,j+1,mg,m,n))
 else do
  let x <- elem' p i
  let r <- cg true x q (j+1) (q.size-(j+1)) 0
  match r with
  |some k=>if k>0 then (if (j+1+k==q.size)=true then pure (.done (some (t.push y++q.extract (j+1) (j+1+k)++p.extract i++q.extract (j+1+k)),t.push y++q.extract (j+1) (j+1+k),i,j+1+k,mg,m,k))
    else Mp p q (t.push y++q.extract (j+1) (j+1+k)) i (j+1+k) mg m k) else Mp p q (t.push y) i (j+1) mg m k
  |_=>pure (.done (some (t.push y++p.extract i++q.extract (j+1)),t.push y,i,j+1,mg,m,n))
noncomputable def Ir (p q t:Array Ub)(i j mg m n:Nat):StateT UH Sem (ForInStep (Option (Array Ub)×RG)):=do
 modify λst=>cm st mg
 let y <- elem' q j
 let r <- cg false y p i (p.size-i) 0
 match r with
 |some k=>if k>0 then (if (i+k+1==p.size)=true then pure (.done (some (t++p.extract i (i+k)++q.extract j++p.extract (i+k)),t++p.extract i (i+k),i+k,j,mg,k,n))
   else if (i+k==p.size)=true then pure (.done (some (t++p.extract i (i+k)++p.extract (i+k)++q.extract j),t++p.extract i (i+k),i+k,j,mg,k,n))
   else Mq p q (t++p.extract i (i+k)) (i+k) j mg k n) else Mq p q t i j mg k n
 |_=>pure (.done (some (t++p.extract i++q.extract j),t,i,j,mg,m,n))
def QY (p q:Array Ub)(s:Option (Array Ub)×RG):StateT UH Sem (ForInStep (Option (Array Ub)×RG)):=if s.2.2.2.2.1>1 then Ir p q s.2.1 s.2.2.1 s.2.2.2.1 (s.2.2.2.2.1-1) s.2.2.2.2.2.1 s.2.2.2.2.2.2 else Ir p q s.2.1 s.2.2.1 s.2.2.2.1 s.2.2.2.2.1 s.2.2.2.2.2.1 s.2.2.2.2.2.2
noncomputable def Iq (p q:Array Ub)(mg:Nat)(s:Option (Array Ub)×RI):StateT UH Sem (ForInStep (Option (Array Ub)×RI)):=do
 let y <- elem' q s.2.2.2.1
 if (s.2.2.2.1+1==q.size)=true then pure (.done (some (s.2.1.push y++p.extract s.2.2.1++q.extract (s.2.2.2.1+1)),s.2.1.push y,s.2.2.1,s.2.2.2.1+1,0,s.2.2.2.2.2+1))
 else if s.2.2.2.2.2+1 >= mg then pure (.done (none,s.2.1.push y,s.2.2.1,s.2.2.2.1+1,0,s.2.2.2.2.2+1)) else pure (.yield (none,s.2.1.push y,s.2.2.1,s.2.2.2.1+1,0,s.2.2.2.2.2+1))
noncomputable def Ip (p q:Array Ub)(mg:Nat)(s:Option (Array Ub)×RI):StateT UH Sem (ForInStep (Option (Array Ub)×RI)):=do
 let x <- elem' p s.2.2.1
 if (s.2.2.1+1+1==p.size)=true then pure (.done (some (s.2.1.push x++q.extract s.2.2.2.1++p.extract (s.2.2.1+1)),s.2.1.push x,s.2.2.1+1,s.2.2.2.1,s.2.2.2.2.1+1,0))
 else if s.2.2.2.2.1+1 >= mg then pure (.done (none,s.2.1.push x,s.2.2.1+1,s.2.2.2.1,s.2.2.2.2.1+1,0)) else pure (.yield (none,s.2.1.push x,s.2.2.1+1,s.2.2.2.1,s.2.2.2.2.1+1,0))
noncomputable def Mo (p q:Array Ub)(mg:Nat)(s:Option (Array Ub)×RI):StateT UH Sem (ForInStep (Option (Array Ub)×RI)):=do
 let y <- elem' q s.2.2.2.1
 let x <- elem' p s.2.2.1
 let r <- lt' y x
 match r with
 |some DU=>if DU=true then Iq p q mg s else Ip p q mg s
 |_=>pure (.done (some (s.2.1++p.extract s.2.2.1++q.extract s.2.2.2.1),s.2.1,s.2.2.1,s.2.2.2.1,s.2.2.2.2.1,s.2.2.2.2.2))
noncomputable def OZ (p q:Array Ub)(s:Option (Array Ub)×RO):StateT UH Sem (ForInStep (Option (Array Ub)×RO)):=do
 let s1 <- forIn [:p.size+q.size] ((none,s.2.1,s.2.2.1,s.2.2.2.1,0,0):Option (Array Ub)×RI) λ_ r=>Mo p q s.2.2.2.2 r
 match s1.1 with
 |some r=>pure (.done (some r,s1.2.1,s1.2.2.1,s1.2.2.2.1,s.2.2.2.2))
 |none=>do
  liftM (rule "list.sort.gallop")
  let s2 <- forIn [:p.size+q.size] ((none,s1.2.1,s1.2.2.1,s1.2.2.2.1,s.2.2.2.2+1,s1.2.2.2.2.1,s1.2.2.2.2.2):Option (Array Ub)×RG) λ_ r=>QY p q r
  match s2.1 with
  |some r=>pure (.done (some r,s2.2.1,s2.2.2.1,s2.2.2.2.1,s2.2.2.2.2.1))
  |none=>do
   modify λst=>cm st (s2.2.2.2.2.1+1)
   pure (.yield (none,s2.2.1,s2.2.2.1,s2.2.2.2.1,s2.2.2.2.2.1+1))
theorem pZ (p q:Array Ub):gZ p q=(do
  liftM (rule "list.sort.merge-lo")
  let y <- elem' q 0
  if (1==q.size)=true then pure (#[y]++p.extract 0++q.extract 1)
  else if (0+1==p.size)=true then pure (#[y]++q.extract 1++p.extract 0)
  else do
   let st <- get
   let s <- forIn [:p.size+q.size] ((none,#[y],0,1,gallopOf st):Option (Array Ub)×RO) λ_ s=>OZ p q s
   match s.1 with
   |some r=>pure r
   |none=>liftM (unsupported "internal:list.sort.merge-bound" : Sem (Array Ub))):=by
 rw[pY];dsimp only;refine congrArg (bind _) (funext λ_=>?_);refine congrArg (bind _) (funext λy=>?_);refine congrArg (ite _ _) (congrArg (ite _ _) ?_);refine congrArg (bind _) (funext λy=>?_);refine congr (congrArg bind (congrArg _ (funext λ_=>funext λs=>?_))) (funext λs=>?_)
 ·refine congr (congrArg bind (congrArg _ (funext λ_=>funext λs=>?_))) (funext λs=>?_)
  ·rfl
  ·cases s.1
   ·refine congrArg (bind _) (funext λ_=>?_);refine congr (congrArg bind (congrArg _ (funext λ_=>funext λs=>?_))) (funext λs=>?_)
    ·rfl
    ·cases s.1 <;> rfl
   ·rfl
 ·cases s.1 <;> rfl
section
variable {prog:T7}{w:Ur}{A:U6}{E:TY->T3->Prop}{s:T3}{κ:Wj}{c:Ub->Ub->Bool}{S:Ub->Prop}{p q:Array Ub}
theorem w6 {st:UH}{Q:ForInStep (Option (Array Ub)×RG)->UH->Prop}{t:Array Ub}{i j mg m n:Nat}(O:cc c)(sp:SR c p 0 p.size)(sq:SR c q 0 q.size)(hl:∀y,y<q.size->c (el q y) (el p (p.size-1))=true)(m3:Mg c p q t.toList i j)(hi:i+1<p.size)(g3:∀y,j<=y->y<q.size->le c (el p i) (el q y))
  (hd:∀out r,Gd c p q out.toList->Q (.done (some out,r)) st) (hn:∀t' m n,Mg c p q t'.toList (i+1) j->i+1+1<p.size->Q (.done (none,t',i+1,j,mg,m,n)) st/\Q (.yield (none,t',i+1,j,mg,m,n)) st):wpS (model prog w) A E s (Mp p q t i j mg m n) Q st:=by
 refine Ug (aL (by lia) ?_)
 have m4:Mg c p q (t.push (el p i)).toList (i+1) j:=by
  rw[VF];exact m3.je (by lia) sp g3
 by_cases e5:(i+1+1==p.size)=true
 ·rw[if_pos e5];exact Uo (hd _ _ (m4.tail O sp sq (by simpa using e5) hl))
 rw[if_neg e5];have h5:i+1+1≠p.size:=by simpa using e5
 obtain⟨h6,h7⟩:=hn (t.push (el p i)) m n m4 (by lia)
 split
 ·exact Uo h6
 ·exact Uo h7
theorem w9 {st:UH}{Q:ForInStep (Option (Array Ub)×RG)->UH->Prop}{t:Array Ub}{i j mg m n:Nat}(O:cc c)(L:ff prog w A E s κ c S)(hk:kindOf st=κ)(Sp:∀i,i<p.size->S (el p i))(Sq:∀i,i<q.size->S (el q i))(sp:SR c p 0 p.size)(sq:SR c q 0 q.size)(hl:∀y,y<q.size->c (el q y) (el p (p.size-1))=true)(m1:Mg c p q t.toList i j)(hi:i+1<p.size)(hj:j<q.size)(g1:∀y,i<=y->y<p.size->le c (el q j) (el p y))
  (hd:∀out r,Gd c p q out.toList->Q (.done (some out,r)) st) (hn:∀t' j' m n,Mg c p q t'.toList (i+1) j'->i+1+1<p.size->j<j'->j'<q.size->Q (.done (none,t',i+1,j',mg,m,n)) st/\Q (.yield (none,t',i+1,j',mg,m,n)) st):wpS (model prog w) A E s (Mq p q t i j mg m n) Q st:=by
 refine Ug (aL hj ?_);have m2:Mg c p q (t.push (el q j)).toList i (j+1):=by
  rw[VF];exact m1.i_ hj sq g1
 by_cases e3:(j+1==q.size)=true
 ·rw[if_pos e3];exact Uo (hd _ _ (m2.done sp sq (.inr (by simpa using e3))))
 rw[if_neg e3];have h3:j+1≠q.size:=by simpa using e3
 refine Ug (aL (by lia) (Ug (dj O L hk (Sp _ (by lia)) (λx hx=>Sq _ (by lia)) (by lia) (λa b h1 h2 h3=>sq a b (by lia) h2 (by lia)) (by lia) λk k1 k2 k3=>?_)))
 have g3:∀y,j+1+k<=y->y<q.size->le c (el p i) (el q y):=λy h1 h2=>by
  have:=k3 (y-(j+1)) (by lia) (by lia)
  unfold dG at this;rw[if_pos rfl,show j+1+(y-(j+1))=y by lia]at this
  exact this
 dsimp only
 by_cases zi:k>0
 ·rw[if_pos zi];have m3:Mg c p q (t.push (el q j)++q.extract (j+1) (j+1+k)).toList i (j+1+k):=by
   rw[uR];exact m2.gS sq k (by lia) λx hx y h1 h2=>O.trans (O.of_lt (show c (el q (j+1+x)) (el p i)=true from k2 x hx)) (sp _ y (by lia) h1 h2)
  by_cases e4:(j+1+k==q.size)=true
  ·rw[if_pos e4];exact Uo (hd _ _ (m3.done sp sq (.inr (by simpa using e4))))
  rw[if_neg e4];have h4:j+1+k≠q.size:=by simpa using e4
  exact w6 O sp sq hl m3 hi g3 hd λt' m n h1 h2=>hn t' _ m n h1 h2 (by lia) (by lia)
 ·rw[if_neg zi];exact w6 O sp sq hl m2 hi (λy h1 h2=>g3 y (by lia) h2) hd λt' m n h1 h2=>hn t' _ m n h1 h2 (by lia) (by lia)
theorem DO {st:UH}{Q:ForInStep (Option (Array Ub)×RG)->UH->Prop}{t:Array Ub}{i j mg m n:Nat}(O:cc c)(L:ff prog w A E s κ c S)(hk:kindOf st=κ)(Sp:∀i,i<p.size->S (el p i))(Sq:∀i,i<q.size->S (el q i))(sp:SR c p 0 p.size)(sq:SR c q 0 q.size)(hl:∀y,y<q.size->c (el q y) (el p (p.size-1))=true)(m0:Mg c p q t.toList i j)(hi:i+1<p.size)(hj:j<q.size)
  (hd:∀out r,Gd c p q out.toList->Q (.done (some out,r)) (cm st mg)) (hn:∀t' i' j' m n,Mg c p q t'.toList i' j'->i'+1<p.size->j'<q.size->i+j<i'+j'->Q (.done (none,t',i',j',mg,m,n)) (cm st mg)/\Q (.yield (none,t',i',j',mg,m,n)) (cm st mg)):wpS (model prog w) A E s (Ir p q t i j mg m n) Q st:=by
 refine Ug (V6 (Ug (aL hj (Ug (dj O L hk (Sq _ hj) (λx hx=>Sp _ (by lia)) (by lia) (λa b h1 h2 h3=>sp a b (by lia) h2 (by lia)) (by lia) λk k1 k2 k3=>?_)))))
 have g0:∀x,x<k->le c (el p (i+x)) (el q j):=λx hx=>by
  have:=k2 x hx;unfold dG at this;rw[if_neg (by simp),W6]at this
  exact this
 have g1:∀y,i+k<=y->y<p.size->le c (el q j) (el p y):=λy h1 h2=>by
  have:=k3 (y-i) (by lia) (by lia)
  unfold dG at this;rw[if_neg (by simp),XY,show i+(y-i)=y by lia]at this
  exact O.of_lt this
 have Np:i+k<p.size:=by
  rcases Vt (i+k) p.size with d8|TC
  ·exact d8
  ·have h1:=g0 (p.size-1-i) (by lia)
   rw[show i+(p.size-1-i)=p.size-1 by lia]at h1
   exact absurd ((hl j hj).symm.trans h1) (by simp)
 dsimp only
 by_cases zi:k>0
 ·rw[if_pos zi];have m1:Mg c p q (t++p.extract i (i+k)).toList (i+k) j:=by
   rw[uR];exact m0.dM sp k (by lia) λx hx y h1 h2=>O.trans (g0 x hx) (sq j y (by lia) h1 h2)
  by_cases e1:(i+k+1==p.size)=true
  ·rw[if_pos e1];exact Uo (hd _ _ (m1.tail O sp sq (by simpa using e1) hl))
  rw[if_neg e1];have zt:i+k+1≠p.size:=by simpa using e1
  rw[if_neg (by simp;lia)]
  exact w9 O L hk Sp Sq sp sq hl m1 (by lia) hj g1 hd λt' j' m n h1 h2 h3 h4=>hn t' _ j' m n h1 h2 h4 (by lia)
 ·rw[if_neg zi];exact w9 O L hk Sp Sq sp sq hl m0 hi hj (λy h1 h2=>g1 y (by lia) h2) hd λt' j' m n h1 h2 h3 h4=>hn t' _ j' m n h1 h2 h4 (by lia)
theorem DM {st:UH}{Q:ForInStep (Option (Array Ub)×RI)->UH->Prop}{t:Array Ub}{i j mg ma na:Nat}(O:cc c)(L:ff prog w A E s κ c S)(hk:kindOf st=κ)(Sp:∀i,i<p.size->S (el p i))(Sq:∀i,i<q.size->S (el q i))(sp:SR c p 0 p.size)(sq:SR c q 0 q.size)(hl:∀y,y<q.size->c (el q y) (el p (p.size-1))=true)(m:Mg c p q t.toList i j)(hi:i+1<p.size)(hj:j<q.size)
  (hd:∀out r,Gd c p q out.toList->Q (.done (some out,r)) st) (hn:∀t' i' j' m n,Mg c p q t'.toList i' j'->i'+1<p.size->j'<q.size->i+j<i'+j'->Q (.done (none,t',i',j',m,n)) st/\Q (.yield (none,t',i',j',m,n)) st):wpS (model prog w) A E s (Mo p q mg (none,t,i,j,ma,na)) Q st:=by
 unfold Mo Iq Ip;dsimp only;refine Ug (aL hj (Ug (aL (by lia) (Ug (L _ _ st _ (Sq _ hj) (Sp _ (by lia)) hk ?_)))))
 dsimp only;cases hc:c (el q j) (el p i)with
 |true =>
  rw[if_pos rfl];refine Ug (aL hj ?_);have m1:Mg c p q (t.push (el q j)).toList i (j+1):=by
   rw[VF];exact m.i_ hj sq λk h1 h2=>O.trans (O.of_lt hc) (sp i k (by lia) h1 h2)
  by_cases e3:(j+1==q.size)=true
  ·rw[if_pos e3];exact Uo (hd _ _ (m1.done sp sq (.inr (by simpa using e3))))
  rw[if_neg e3];have h3:j+1≠q.size:=by simpa using e3
  obtain⟨h6,h7⟩:=hn _ _ _ 0 (na+1) m1 hi (by lia) (by lia)
  split
  ·exact Uo h6
  ·exact Uo h7
 |false =>
  rw[if_neg (by simp)]
  refine Ug (aL (by lia) ?_)
  have m1:Mg c p q (t.push (el p i)).toList (i+1) j:=by
   rw[VF];exact m.je (by lia) sp λk h1 h2=>O.trans (show le c (el p i) (el q j) from hc) (sq j k (by lia) h1 h2)
  by_cases e3:(i+1+1==p.size)=true
  ·rw[if_pos e3];exact Uo (hd _ _ (m1.tail O sp sq (by simpa using e3) hl))
  rw[if_neg e3];have h3:i+1+1≠p.size:=by simpa using e3
  obtain⟨h6,h7⟩:=hn _ _ _ (ma+1) 0 m1 (by lia) hj (by lia)
  split
  ·exact Uo h6
  ·exact Uo h7
theorem rC (O:cc c)(L:ff prog w A E s κ c S){Q:Array Ub->UH->Prop}{st:UH}(hk:kindOf st=κ)(Sp:∀i,i<p.size->S (el p i))(Sq:∀i,i<q.size->S (el q i))(sp:SR c p 0 p.size)(sq:SR c q 0 q.size)
  (hp:0<p.size) (hq:0<q.size) (hf:c (el q 0) (el p 0)=true) (hl:∀y,y<q.size->c (el q y) (el p (p.size-1))=true) (h:∀to aD,i6 st aD->Gd c p q to.toList->Q to aD) :
  wpS (model prog w) A E s (gZ p q) Q st:=by
 rw[pZ];refine Ug (Xz (WA ⟨rfl,?_⟩));refine Ug (aL hq ?_);have m0:Mg c p q (#[el q 0]:Array Ub).toList 0 1:=Mg.start O sp sq hq hp hf
 by_cases h1:(1==q.size)=true
 ·rw[if_pos h1];exact Uo (h _ st (i6.refl st) (m0.done sp sq (.inr (by simpa using h1))))
 rw[if_neg h1]
 by_cases h2:(0+1==p.size)=true
 ·rw[if_pos h2];exact Uo (h _ st (i6.refl st) (m0.tail O sp sq (by simpa using h2) hl))
 rw[if_neg h2];refine Ug (WY ?_);refine Ug (VB (U7
  (I:=λx r aD=>i6 st aD/\∃to i j mg,r=(none,to,i,j,mg)/\Mg c p q to.toList i j/\i+1<p.size/\j<q.size/\x<i+j)
  (Q:=λr aD=>i6 st aD/\∃out r',r=(some out,r')/\Gd c p q out.toList) ?_ ?_ ?_) ?_)
 ·rintro x r aD _ hx ⟨e,to,i,j,mg,rfl,m,hi,hj,hb⟩;unfold OZ;dsimp only;refine Ug (VB (U7
   (I:=λy r aD=>i6 st aD/\∃to i j m n,r=(none,to,i,j,m,n)/\Mg c p q to.toList i j/\i+1<p.size/\j<q.size/\x+min y 1<i+j)
   (Q:=λr aD=>i6 st aD/\((∃out r',r=(some out,r')/\Gd c p q out.toList)\/∃to i j m n,r=(none,to,i,j,m,n)/\Mg c p q to.toList i j/\i+1<p.size/\j<q.size/\x+1<i+j)) ?_ ?_ ?_) ?_)
  ·rintro y r fh _ hy ⟨e2,to,i,j,ma,na,rfl,m,hi,hj,hb⟩;exact DM O L (e2.kind.trans hk) Sp Sq sp sq hl m hi hj (λout r h=>⟨e2,.inl ⟨_,_,rfl,h⟩⟩) λt' i' j' m n h1 h2 h3 h4=>⟨⟨e2,.inr ⟨_,_,_,_,_,rfl,h1,h2,h3,by lia⟩⟩,⟨e2,_,_,_,_,_,rfl,h1,h2,h3,by lia⟩⟩
  ·rintro r fh ⟨e2,to,i,j,ma,na,rfl,m,hi,hj,hb⟩;exact⟨e2,.inr ⟨_,_,_,_,_,rfl,m,hi,hj,by lia⟩⟩
  ·exact⟨e,_,_,_,_,_,rfl,m,hi,hj,by lia⟩
  rintro r fh ⟨e2,⟨out,r',rfl,g⟩|⟨to,i,j,ma,na,rfl,m,hi,hj,hb⟩⟩
  ·exact Uo ⟨e2,_,_,rfl,g⟩
  dsimp only;refine Ug (Xz (WA ⟨rfl,?_⟩));refine Ug (VB (U7
   (I:=λy r aD=>i6 st aD/\∃to i j mg m n,r=(none,to,i,j,mg,m,n)/\Mg c p q to.toList i j/\i+1<p.size/\j<q.size/\x+1<i+j)
   (Q:=λr aD=>i6 st aD/\((∃out r',r=(some out,r')/\Gd c p q out.toList)\/∃to i j mg m n,r=(none,to,i,j,mg,m,n)/\Mg c p q to.toList i j/\i+1<p.size/\j<q.size/\x+1<i+j)) ?_ ?_ ?_) ?_)
  ·rintro y r fh _ hy ⟨e2,to,i,j,mg,ma,na,rfl,m,hi,hj,hb⟩;show wpS (model prog w) A E s (if mg>1 then Ir p q to i j (mg-1) ma na else Ir p q to i j mg ma na) _ fh
   split <;> exact DO O L (e2.kind.trans hk) Sp Sq sp sq hl m hi hj (λout r h=>⟨e2.Dl _,.inl ⟨_,_,rfl,h⟩⟩) λt' i' j' m n h1 h2 h3 h4=>⟨⟨e2.Dl _,.inr ⟨_,_,_,_,_,_,rfl,h1,h2,h3,by lia⟩⟩,⟨e2.Dl _,_,_,_,_,_,_,rfl,h1,h2,h3,by lia⟩⟩
  ·rintro r fh ⟨e2,to,i,j,mg,ma,na,rfl,m,hi,hj,hb⟩;exact⟨e2,.inr ⟨_,_,_,_,_,_,rfl,m,hi,hj,hb⟩⟩
  ·exact⟨e2,_,_,_,_,_,_,rfl,m,hi,hj,hb⟩
  rintro r fh ⟨e2,⟨out,r',rfl,g⟩|⟨to,i,j,mg,ma,na,rfl,m,hi,hj,hb⟩⟩
  ·exact Uo ⟨e2,_,_,rfl,g⟩
  dsimp only;refine Ug (V6 (Uo ⟨e2.Dl _,_,_,_,_,rfl,m,hi,hj,by lia⟩))
 ·rintro r aD ⟨e,to,i,j,mg,rfl,m,hi,hj,hb⟩
  exfalso
  rw[show max 0 (p.size+q.size)=p.size+q.size by lia]at hb
  lia
 ·exact⟨i6.refl st,_,_,_,_,rfl,m0,by simp at h2;lia,by simp at h1;lia,by lia⟩
 ·rintro r aD ⟨e,out,r',rfl,g⟩;exact Uo (h _ aD e g)
end
section
variable {c:Ub->Ub->Bool}{p q:Array Ub}{t:List Ub}{i j:Nat}
structure Mh (c:Ub->Ub->Bool)(p q:Array Ub)(t:List Ub)(i j:Nat):Prop where
 hi:i<=p.size
 hj:j<=q.size
 perm:t.Perm (p.toList.drop i++q.toList.drop j)
 gi:t.Pairwise (le c)
 ap:∀x∈t,∀k,k<i->le c (el p k) x
 aq:∀x∈t,∀k,k<j->le c (el q k) x
theorem nc {a:Array Ub}{i:Nat}(h0:0<i)(h:i<=a.size):a.toList.drop (i-1)=el a (i-1)::a.toList.drop i:=by
 rw[uB (by lia),show i-1+1=i by lia]
theorem Mh.je (m:Mh c p q t i j)(h0:0<i)(sp:SR c p 0 p.size)(hle:∀k,k<j->le c (el q k) (el p (i-1))):Mh c p q (el p (i-1)::t) (i-1) j where
 hi:=by have:=m.hi;lia
 hj:=m.hj
 perm:=by
  rw[nc h0 m.hi];exact m.perm.cons _
 gi:=VM.mpr ⟨λx hx=>m.ap x hx _ (by lia),m.gi⟩
 ap:=λx hx k hk=>by
  rcases Uc.mp hx with rfl|h
  ·exact sp k (i-1) (by lia) (by lia) (by have:=m.hi;lia)
  ·exact m.ap x h k (by lia)
 aq:=λx hx k hk=>by
  rcases Uc.mp hx with rfl|h
  ·exact hle k hk
  ·exact m.aq x h k hk
theorem Mh.i_ (m:Mh c p q t i j)(h0:0<j)(sq:SR c q 0 q.size)(hle:∀k,k<i->le c (el p k) (el q (j-1))):Mh c p q (el q (j-1)::t) i (j-1) where
 hi:=m.hi
 hj:=by have:=m.hj;lia
 perm:=by
  rw[nc h0 m.hj];exact(m.perm.cons _).trans Xf.symm
 gi:=VM.mpr ⟨λx hx=>m.aq x hx _ (by lia),m.gi⟩
 ap:=λx hx k hk=>by
  rcases Uc.mp hx with rfl|h
  ·exact hle k hk
  ·exact m.ap x h k hk
 aq:=λx hx k hk=>by
  rcases Uc.mp hx with rfl|h
  ·exact sq k (j-1) (by lia) (by lia) (by have:=m.hj;lia)
  ·exact m.aq x h k (by lia)
theorem mw {a:Array Ub}{i k:Nat}(h0:k<i)(h:i<=a.size):(a.toList.drop (i-(k+1))).take (k+1)=el a (i-(k+1))::(a.toList.drop (i-k)).take k:=by
 rw[uB (by lia),show i-(k+1)+1=i-k by lia,List.take_succ_cons]
theorem Mh.xl (m:Mh c p q t i j)(sp:SR c p 0 p.size):∀(k:Nat),k<=i->(∀x,i-k<=x->x<i->∀y,y<j->le c (el q y) (el p x))->Mh c p q ((p.toList.drop (i-k)).take k++t) (i-k) j
 |0,_,_=>by simpa using m
 |k+1,h,hle=>by
  have m':=Mh.xl m sp k (by lia) λx h1 h2=>hle x (by lia) h2
  rw[mw (by lia) m.hi,Ye]
  exact m'.je (by lia) sp λy hy=>hle _ (by lia) (by lia) y hy
theorem Mh.xk (m:Mh c p q t i j)(sq:SR c q 0 q.size):∀(k:Nat),k<=j->(∀x,j-k<=x->x<j->∀y,y<i->le c (el p y) (el q x))->Mh c p q ((q.toList.drop (j-k)).take k++t) i (j-k)
 |0,_,_=>by simpa using m
 |k+1,h,hle=>by
  have m':=Mh.xk m sq k (by lia) λx h1 h2=>hle x (by lia) h2
  rw[mw (by lia) m.hj,Ye]
  exact m'.i_ (by lia) sq λy hy=>hle _ (by lia) (by lia) y hy
theorem Mh.dM (m:Mh c p q t i j)(sp:SR c p 0 p.size){h:Nat}(hh:h<=i)(hle:∀x,h<=x->x<i->∀y,y<j->le c (el q y) (el p x)):Mh c p q ((p.toList.drop h).take (i-h)++t) h j:=by
 have m':=m.xl sp (i-h) (by lia) λx h1 h2=>hle x (by lia) h2
 rw[show i-(i-h)=h by lia]at m'
 exact m'
theorem Mh.gS (m:Mh c p q t i j)(sq:SR c q 0 q.size){h:Nat}(hh:h<=j)(hle:∀x,h<=x->x<j->∀y,y<i->le c (el p y) (el q x)):Mh c p q ((q.toList.drop h).take (j-h)++t) i h:=by
 have m':=m.xk sq (j-h) (by lia) λx h1 h2=>hle x (by lia) h2
 rw[show j-(j-h)=h by lia]at m'
 exact m'
theorem Mh.full (m:Mh c p q t 0 0):Gd c p q t:=⟨m.perm,m.gi⟩
theorem HN (a b to:Array Ub)(i j:Nat):(a.extract 0 i++b.extract 0 j++to.reverse).toList=(a.toList.drop 0).take (i-0)++((b.toList.drop 0).take (j-0)++to.toList.reverse):=by
 rw[Vq,Vq,cb,cb,Array.toList_reverse,U4]
theorem Mh.done {to:Array Ub}(m:Mh c p q to.toList.reverse i j)(sp:SR c p 0 p.size)(sq:SR c q 0 q.size)(h:i=0\/j=0):Gd c p q (p.extract 0 i++q.extract 0 j++to.reverse).toList:=by
 rw[HN];rcases h with rfl|rfl
 ·have m':=m.gS sq (h:=0) (Uh _) λx _ _ y hy=>by lia
  exact(m'.dM sp (h:=0) (Uh _) λx _ hx=>by lia).full
 ·have m':=m.gS sq (h:=0) (Uh _) λx _ hx=>by lia
  exact(m'.dM sp (h:=0) (Uh _) λx _ hx y hy=>by lia).full
theorem Mh.tail {to:Array Ub}(O:cc c)(m:Mh c p q to.toList.reverse i j)(sp:SR c p 0 p.size)(sq:SR c q 0 q.size)(h:j=1)(hf:c (el q 0) (el p 0)=true):Gd c p q (q.extract 0 j++p.extract 0 i++to.reverse).toList:=by
 rw[HN];subst h;have m':=m.dM sp (h:=0) (Uh _) λx _ hx y hy=>by
  obtain rfl:y=0:=by lia
  exact O.trans (O.of_lt hf) (sp 0 x (by lia) (by lia) (by have:=m.hi;lia))
 exact(m'.gS sq (h:=0) (Uh _) λx _ _ y hy=>by lia).full
theorem gU (to:Array Ub)(x:Ub):(to.push x).toList.reverse=x::to.toList.reverse:=by
 rw[VF,List.reverse_append];rfl
theorem uQ (to a:Array Ub)(h i:Nat):(to++(a.extract h i).reverse).toList.reverse=(a.toList.drop h).take (i-h)++to.toList.reverse:=by
 rw[Vq,List.reverse_append,Array.toList_reverse,List.reverse_reverse,cb]
theorem Mh.start (sp:SR c p 0 p.size)(O:cc c)(hp:0<p.size)(hl:∀y,y<q.size->c (el q y) (el p (p.size-1))=true):Mh c p q [el p (p.size-1)] (p.size-1) q.size:=by
 have m:Mh c p q [] p.size q.size:=⟨T4 _,T4 _,by rw[Xj (by simp),Xj (by simp)];exact .refl _,.nil,(λx hx=>by cases hx),(λx hx=>by cases hx)⟩
 exact m.je hp sp λk hk=>O.of_lt (hl k hk)
end
abbrev RJ:=Nat×Nat×Array Ub×Nat×Nat
abbrev RH:=Nat×Nat×Array Ub×Nat×Nat×Nat
abbrev RP:=Nat×Nat×Array Ub×Nat
noncomputable def NA (p q t:Array Ub)(i j mg m n:Nat):StateT UH Sem (ForInStep (Option (Array Ub)×RH)):=do
 let z <- elem' p (i-1)
 if (i-1==0)=true then pure (.done (some (p.extract 0 (i-1)++q.extract 0 j++(t.push z).reverse),i-1,j,t.push z,mg,m,n))
 else if (decide (m<7)&&decide (n<7))=true then pure (.done (none,i-1,j,t.push z,mg,m,n)) else pure (.yield (none,i-1,j,t.push z,mg,m,n))
noncomputable def NC (p q t:Array Ub)(i j mg m n:Nat):StateT UH Sem (ForInStep (Option (Array Ub)×RH)):=do
 let y <- elem' q (j-1)
 if (j-1==1)=true then pure (.done (some (q.extract 0 (j-1)++p.extract 0 i++(t.push y).reverse),i,j-1,t.push y,mg,m,n))
 else do
  let x <- elem' p (i-1)
  let r <- cg true x q 0 (j-1) (j-1-1)
  match r with
  |some h=>if j-1-h>0 then (if (h==1)=true then pure (.done (some (q.extract 0 h++p.extract 0 i++(t.push y++(q.extract h (j-1)).reverse).reverse),i,h,t.push y++(q.extract h (j-1)).reverse,mg,m,j-1-h))
    else if (h==0)=true then pure (.done (some (p.extract 0 i++q.extract 0 h++(t.push y++(q.extract h (j-1)).reverse).reverse),i,h,t.push y++(q.extract h (j-1)).reverse,mg,m,j-1-h))
    else NA p q (t.push y++(q.extract h (j-1)).reverse) i h mg m (j-1-h)) else NA p q (t.push y) i (j-1) mg m (j-1-h)
  |_=>pure (.done (some (p.extract 0 i++q.extract 0 (j-1)++(t.push y).reverse),i,j-1,t.push y,mg,m,n))
noncomputable def JX (p q t:Array Ub)(i j mg m n:Nat):StateT UH Sem (ForInStep (Option (Array Ub)×RH)):=do
 modify λst=>cm st mg
 let y <- elem' q (j-1)
 let r <- cg false y p 0 i (i-1)
 match r with
 |some h=>if i-h>0 then (if (h==0)=true then pure (.done (some (p.extract 0 h++q.extract 0 j++(t++(p.extract h i).reverse).reverse),h,j,t++(p.extract h i).reverse,mg,i-h,n))
   else NC p q (t++(p.extract h i).reverse) h j mg (i-h) n) else NC p q t i j mg (i-h) n
 |_=>pure (.done (some (p.extract 0 i++q.extract 0 j++t.reverse),i,j,t,mg,m,n))
def RT (p q:Array Ub)(s:Option (Array Ub)×RH):StateT UH Sem (ForInStep (Option (Array Ub)×RH)):=if s.2.2.2.2.1>1 then JX p q s.2.2.2.1 s.2.1 s.2.2.1 (s.2.2.2.2.1-1) s.2.2.2.2.2.1 s.2.2.2.2.2.2 else JX p q s.2.2.2.1 s.2.1 s.2.2.1 s.2.2.2.2.1 s.2.2.2.2.2.1 s.2.2.2.2.2.2
noncomputable def Nz (p q t:Array Ub)(mg i j m:Nat):StateT UH Sem (ForInStep (Option (Array Ub)×RJ)):=do
 let x <- elem' p (i-1)
 if (i-1==0)=true then pure (.done (some (p.extract 0 (i-1)++q.extract 0 j++(t.push x).reverse),i-1,j,t.push x,m+1,0))
 else if m+1 >= mg then pure (.done (none,i-1,j,t.push x,m+1,0)) else pure (.yield (none,i-1,j,t.push x,m+1,0))
noncomputable def Nw (p q t:Array Ub)(mg i j n:Nat):StateT UH Sem (ForInStep (Option (Array Ub)×RJ)):=do
 let y <- elem' q (j-1)
 if (j-1==1)=true then pure (.done (some (q.extract 0 (j-1)++p.extract 0 i++(t.push y).reverse),i,j-1,t.push y,0,n+1))
 else if n+1 >= mg then pure (.done (none,i,j-1,t.push y,0,n+1)) else pure (.yield (none,i,j-1,t.push y,0,n+1))
noncomputable def Pq (p q t:Array Ub)(mg i j m n:Nat):StateT UH Sem (ForInStep (Option (Array Ub)×RJ)):=do
 let y <- elem' q (j-1)
 let x <- elem' p (i-1)
 let r <- lt' y x
 match r with
 |some DU=>if DU=true then Nz p q t mg i j m else Nw p q t mg i j n
 |_=>pure (.done (some (p.extract 0 i++q.extract 0 j++t.reverse),i,j,t,m,n))
noncomputable def Pp (p q:Array Ub)(s:Option (Array Ub)×RP):StateT UH Sem (ForInStep (Option (Array Ub)×RP)):=do
 let s1 <- forIn [:p.size+q.size] ((none,s.2.1,s.2.2.1,s.2.2.2.1,0,0):Option (Array Ub)×RJ) λ_ r=>Pq p q r.2.2.2.1 s.2.2.2.2 r.2.1 r.2.2.1 r.2.2.2.2.1 r.2.2.2.2.2
 match s1.1 with
 |some r=>pure (.done (some r,s1.2.1,s1.2.2.1,s1.2.2.2.1,s.2.2.2.2))
 |none=>do
  liftM (rule "list.sort.gallop")
  let s2 <- forIn [:p.size+q.size] ((none,s1.2.1,s1.2.2.1,s1.2.2.2.1,s.2.2.2.2+1,s1.2.2.2.2.1,s1.2.2.2.2.2):Option (Array Ub)×RH) λ_ r=>RT p q r
  match s2.1 with
  |some r=>pure (.done (some r,s2.2.1,s2.2.2.1,s2.2.2.2.1,s2.2.2.2.2.1))
  |none=>do
   modify λst=>cm st (s2.2.2.2.2.1+1)
   pure (.yield (none,s2.2.1,s2.2.2.1,s2.2.2.2.1,s2.2.2.2.2.1+1))
theorem p_ (p q:Array Ub):g8 p q=(do
  liftM (rule "list.sort.merge-hi")
  let y <- elem' p (p.size-1)
  if (p.size-1==0)=true then pure (p.extract 0 (p.size-1)++q.extract 0++#[y].reverse)
  else if (q.size==1)=true then pure (q.extract 0++p.extract 0 (p.size-1)++#[y].reverse)
  else do
   let st <- get
   let s <- forIn [:p.size+q.size] ((none,p.size-1,q.size,#[y],gallopOf st):Option (Array Ub)×RP) λ_ s=>Pp p q s
   match s.1 with
   |some r=>pure r
   |none=>liftM (unsupported "internal:list.sort.merge-bound" : Sem (Array Ub))):=by
 rw[p0];dsimp only;refine congrArg (bind _) (funext λ_=>?_);refine congrArg (bind _) (funext λy=>?_);refine congrArg (ite _ _) (congrArg (ite _ _) ?_);refine congrArg (bind _) (funext λy=>?_);refine congr (congrArg bind (congrArg _ (funext λ_=>funext λs=>?_))) (funext λs=>?_)
 ·refine congr (congrArg bind (congrArg _ (funext λ_=>funext λs=>?_))) (funext λs=>?_)
  ·rfl
  ·cases s.1
   ·refine congrArg (bind _) (funext λ_=>?_);refine congr (congrArg bind (congrArg _ (funext λ_=>funext λs=>?_))) (funext λs=>?_)
    ·rfl
    ·cases s.1 <;> rfl
   ·rfl
 ·cases s.1 <;> rfl
section
variable {prog:T7}{w:Ur}{A:U6}{E:TY->T3->Prop}{s:T3}{κ:Wj}{c:Ub->Ub->Bool}{S:Ub->Prop}{p q:Array Ub}
theorem w_ {st:UH}{Q:ForInStep (Option (Array Ub)×RH)->UH->Prop}{t:Array Ub}{i j mg m n:Nat}(sp:SR c p 0 p.size)(sq:SR c q 0 q.size)(m3:Mh c p q t.toList.reverse i j)(hi:0<i)(g3:∀k,k<j->le c (el q k) (el p (i-1)))
  (hd:∀out r,Gd c p q out.toList->Q (.done (some out,r)) st) (hn:∀t' m n,Mh c p q t'.toList.reverse (i-1) j->0<i-1->Q (.done (none,i-1,j,t',mg,m,n)) st/\Q (.yield (none,i-1,j,t',mg,m,n)) st):wpS (model prog w) A E s (NA p q t i j mg m n) Q st:=by
 have d_:=m3.hi;refine Ug (aL (by lia) ?_)
 have m4:Mh c p q (t.push (el p (i-1))).toList.reverse (i-1) j:=by
  rw[gU];exact m3.je hi sp g3
 by_cases e5:(i-1==0)=true
 ·rw[if_pos e5];exact Uo (hd _ _ (m4.done sp sq (.inl (by simpa using e5))))
 rw[if_neg e5];have h5:i-1≠0:=by simpa using e5
 obtain⟨h6,h7⟩:=hn (t.push (el p (i-1))) m n m4 (by lia)
 split
 ·exact Uo h6
 ·exact Uo h7
theorem xa {st:UH}{Q:ForInStep (Option (Array Ub)×RH)->UH->Prop}{t:Array Ub}{i j mg m n:Nat}(O:cc c)(L:ff prog w A E s κ c S)(hk:kindOf st=κ)(Sp:∀i,i<p.size->S (el p i))(Sq:∀i,i<q.size->S (el q i))(sp:SR c p 0 p.size)(sq:SR c q 0 q.size)(hf:c (el q 0) (el p 0)=true)(m1:Mh c p q t.toList.reverse i j)(hi:0<i)(hj:1<j)(g1:∀x,x<i->le c (el p x) (el q (j-1)))
  (hd:∀out r,Gd c p q out.toList->Q (.done (some out,r)) st) (hn:∀t' j' m n,Mh c p q t'.toList.reverse (i-1) j'->0<i-1->1<j'->j'<j->Q (.done (none,i-1,j',t',mg,m,n)) st/\Q (.yield (none,i-1,j',t',mg,m,n)) st):wpS (model prog w) A E s (NC p q t i j mg m n) Q st:=by
 have mi:=m1.hi;have mj:=m1.hj;refine Ug (aL (by lia) ?_)
 have m2:Mh c p q (t.push (el q (j-1))).toList.reverse i (j-1):=by
  rw[gU];exact m1.i_ (by lia) sq g1
 by_cases e3:(j-1==1)=true
 ·rw[if_pos e3];exact Uo (hd _ _ (m2.tail O sp sq (by simpa using e3) hf))
 rw[if_neg e3];have h3:j-1≠1:=by simpa using e3
 refine Ug (aL (by lia) (Ug (dj O L hk (Sp _ (by lia)) (λx hx=>Sq _ (by lia)) (by lia) (λa b h1 h2 h3=>sq a b (by lia) h2 (by lia)) (by lia) λh k1 k2 k3=>?_)))
 have g2:∀x,x<h->c (el q x) (el p (i-1))=true:=λx hx=>by
  have:=k2 x hx;unfold dG at this;rw[if_pos rfl,We]at this;exact this
 have g4:∀x,h<=x->x<j-1->le c (el p (i-1)) (el q x):=λx h1 h2=>by
  have:=k3 x h1 h2;unfold dG at this;rw[if_pos rfl,We]at this;exact this
 have hh:0<h:=by
  rcases Nat.eq_zero_or_pos h with z|z
  ·subst z;have h2:=O.trans (sp 0 (i-1) (by lia) (by lia) (by lia)) (g4 0 (T4 _) (by lia))
   exact absurd (hf.symm.trans h2) (by simp)
  ·exact z
 dsimp only
 by_cases zi:j-1-h>0
 ·rw[if_pos zi];have m3:Mh c p q (t.push (el q (j-1))++(q.extract h (j-1)).reverse).toList.reverse i h:=by
   rw[uQ];exact m2.gS sq k1 λx h1 h2 y hy=>O.trans (sp y (i-1) (by lia) (by lia) (by lia)) (g4 x h1 h2)
  by_cases e4:(h==1)=true
  ·rw[if_pos e4];exact Uo (hd _ _ (m3.tail O sp sq (by simpa using e4) hf))
  rw[if_neg e4];have h4:h≠1:=by simpa using e4
  rw[if_neg (by simp;lia)]
  exact w_ sp sq m3 hi (λk hk=>O.of_lt (g2 k hk)) hd λt' m n h1 h2=>hn t' _ m n h1 h2 (by lia) (by lia)
 ·rw[if_neg zi];exact w_ sp sq m2 hi (λk hk=>O.of_lt (g2 k (by lia))) hd λt' m n h1 h2=>hn t' _ m n h1 h2 (by lia) (by lia)
theorem DQ {st:UH}{Q:ForInStep (Option (Array Ub)×RH)->UH->Prop}{t:Array Ub}{i j mg m n:Nat}(O:cc c)(L:ff prog w A E s κ c S)(hk:kindOf st=κ)(Sp:∀i,i<p.size->S (el p i))(Sq:∀i,i<q.size->S (el q i))(sp:SR c p 0 p.size)(sq:SR c q 0 q.size)(hf:c (el q 0) (el p 0)=true)(m0:Mh c p q t.toList.reverse i j)(hi:0<i)(hj:1<j)
  (hd:∀out r,Gd c p q out.toList->Q (.done (some out,r)) (cm st mg)) (hn:∀t' i' j' m n,Mh c p q t'.toList.reverse i' j'->0<i'->1<j'->i'+j'<i+j->Q (.done (none,i',j',t',mg,m,n)) (cm st mg)/\Q (.yield (none,i',j',t',mg,m,n)) (cm st mg)):wpS (model prog w) A E s (JX p q t i j mg m n) Q st:=by
 have mi:=m0.hi;have mj:=m0.hj;refine Ug (V6 (Ug (aL (by lia) (Ug (dj O L hk (Sq _ (by lia)) (λx hx=>Sp _ (by lia)) (by lia) (λa b h1 h2 h3=>sp a b (by lia) h2 (by lia)) (by lia) λh k1 k2 k3=>?_)))))
 have g0:∀x,x<h->le c (el p x) (el q (j-1)):=λx hx=>by
  have:=k2 x hx;unfold dG at this;rw[if_neg (by simp),W6,We]at this
  exact this
 have g5:∀x,h<=x->x<i->le c (el q (j-1)) (el p x):=λx h1 h2=>by
  have:=k3 x h1 h2;unfold dG at this;rw[if_neg (by simp),XY,We]at this
  exact O.of_lt this
 dsimp only
 by_cases zi:i-h>0
 ·rw[if_pos zi];have m1:Mh c p q (t++(p.extract h i).reverse).toList.reverse h j:=by
   rw[uQ];exact m0.dM sp k1 λx h1 h2 y hy=>O.trans (sq y (j-1) (by lia) (by lia) (by lia)) (g5 x h1 h2)
  by_cases e1:(h==0)=true
  ·rw[if_pos e1];exact Uo (hd _ _ (m1.done sp sq (.inl (by simpa using e1))))
  rw[if_neg e1];have zt:h≠0:=by simpa using e1
  exact xa O L hk Sp Sq sp sq hf m1 (by lia) hj g0 hd λt' j' m n h1 h2 h3 h4=>hn t' _ j' m n h1 h2 h3 (by lia)
 ·rw[if_neg zi];exact xa O L hk Sp Sq sp sq hf m0 hi hj (λx hx=>g0 x (by lia)) hd λt' j' m n h1 h2 h3 h4=>hn t' _ j' m n h1 h2 h3 (by lia)
theorem DP {st:UH}{Q:ForInStep (Option (Array Ub)×RJ)->UH->Prop}{t:Array Ub}{i j mg ma na:Nat}(O:cc c)(L:ff prog w A E s κ c S)(hk:kindOf st=κ)(Sp:∀i,i<p.size->S (el p i))(Sq:∀i,i<q.size->S (el q i))(sp:SR c p 0 p.size)(sq:SR c q 0 q.size)(hf:c (el q 0) (el p 0)=true)(m:Mh c p q t.toList.reverse i j)(hi:0<i)(hj:1<j)
  (hd:∀out r,Gd c p q out.toList->Q (.done (some out,r)) st) (hn:∀t' i' j' m n,Mh c p q t'.toList.reverse i' j'->0<i'->1<j'->i'+j'<i+j->Q (.done (none,i',j',t',m,n)) st/\Q (.yield (none,i',j',t',m,n)) st):wpS (model prog w) A E s (Pq p q t mg i j ma na) Q st:=by
 have d_:=m.hi;have TB:=m.hj;refine Ug (aL (by lia) (Ug (aL (by lia) (Ug (L _ _ st _ (Sq _ (by lia)) (Sp _ (by lia)) hk ?_)))))
 dsimp only;cases hc:c (el q (j-1)) (el p (i-1))with
 |true =>
  rw[if_pos rfl];refine Ug (aL (by lia) ?_)
  have m1:Mh c p q (t.push (el p (i-1))).toList.reverse (i-1) j:=by
   rw[gU];exact m.je hi sp λk hk=>O.trans (sq k (j-1) (by lia) (by lia) (by lia)) (O.of_lt hc)
  by_cases e3:(i-1==0)=true
  ·rw[if_pos e3];exact Uo (hd _ _ (m1.done sp sq (.inl (by simpa using e3))))
  rw[if_neg e3];have h3:i-1≠0:=by simpa using e3
  obtain⟨h6,h7⟩:=hn _ _ _ (ma+1) 0 m1 (by lia) hj (by lia)
  split
  ·exact Uo h6
  ·exact Uo h7
 |false =>
  rw[if_neg (by simp)]
  refine Ug (aL (by lia) ?_)
  have m1:Mh c p q (t.push (el q (j-1))).toList.reverse i (j-1):=by
   rw[gU];exact m.i_ (by lia) sq λk hk=>O.trans (sp k (i-1) (by lia) (by lia) (by lia)) (show le c (el p (i-1)) (el q (j-1)) from hc)
  by_cases e3:(j-1==1)=true
  ·rw[if_pos e3];exact Uo (hd _ _ (m1.tail O sp sq (by simpa using e3) hf))
  rw[if_neg e3];have h3:j-1≠1:=by simpa using e3
  obtain⟨h6,h7⟩:=hn _ _ _ 0 (na+1) m1 hi (by lia) (by lia)
  split
  ·exact Uo h6
  ·exact Uo h7
theorem rD (O:cc c)(L:ff prog w A E s κ c S){Q:Array Ub->UH->Prop}{st:UH}(hk:kindOf st=κ)(Sp:∀i,i<p.size->S (el p i))(Sq:∀i,i<q.size->S (el q i))(sp:SR c p 0 p.size)(sq:SR c q 0 q.size)
  (hp:0<p.size) (hq:0<q.size) (hf:c (el q 0) (el p 0)=true) (hl:∀y,y<q.size->c (el q y) (el p (p.size-1))=true) (h:∀to aD,i6 st aD->Gd c p q to.toList->Q to aD) :
  wpS (model prog w) A E s (g8 p q) Q st:=by
 rw[p_];refine Ug (Xz (WA ⟨rfl,?_⟩));refine Ug (aL (by lia) ?_)
 have m0:Mh c p q (#[el p (p.size-1)]:Array Ub).toList.reverse (p.size-1) q.size:=Mh.start sp O hp hl
 by_cases h1:(p.size-1==0)=true
 ·rw[if_pos h1];exact Uo (h _ st (i6.refl st) (m0.done sp sq (.inl (by simpa using h1))))
 rw[if_neg h1];have zt:p.size-1≠0:=by simpa using h1
 by_cases h2:(q.size==1)=true
 ·rw[if_pos h2];exact Uo (h _ st (i6.refl st) (m0.tail O sp sq (by simpa using h2) hf))
 rw[if_neg h2];have zr:q.size≠1:=by simpa using h2
 refine Ug (WY ?_);refine Ug (VB (U7
  (I:=λx r aD=>i6 st aD/\∃i j to mg,r=(none,i,j,to,mg)/\Mh c p q to.toList.reverse i j/\0<i/\1<j/\i+j+x<p.size+q.size)
  (Q:=λr aD=>i6 st aD/\∃out r',r=(some out,r')/\Gd c p q out.toList) ?_ ?_ ?_) ?_)
 ·rintro x r aD _ hx ⟨e,i,j,to,mg,rfl,m,hi,hj,hb⟩;unfold Pp;dsimp only;refine Ug (VB (U7
   (I:=λy r aD=>i6 st aD/\∃i j to m n,r=(none,i,j,to,m,n)/\Mh c p q to.toList.reverse i j/\0<i/\1<j/\i+j+x+min y 1<p.size+q.size)
   (Q:=λr aD=>i6 st aD/\((∃out r',r=(some out,r')/\Gd c p q out.toList)\/∃i j to m n,r=(none,i,j,to,m,n)/\Mh c p q to.toList.reverse i j/\0<i/\1<j/\i+j+x+1<p.size+q.size)) ?_ ?_ ?_) ?_)
  ·rintro y r fh _ hy ⟨e2,i,j,to,ma,na,rfl,m,hi,hj,hb⟩;exact DP O L (e2.kind.trans hk) Sp Sq sp sq hf m hi hj (λout r h=>⟨e2,.inl ⟨_,_,rfl,h⟩⟩) λt' i' j' m n h1 h2 h3 h4=>⟨⟨e2,.inr ⟨_,_,_,_,_,rfl,h1,h2,h3,by lia⟩⟩,⟨e2,_,_,_,_,_,rfl,h1,h2,h3,by lia⟩⟩
  ·rintro r fh ⟨e2,i,j,to,ma,na,rfl,m,hi,hj,hb⟩;exact⟨e2,.inr ⟨_,_,_,_,_,rfl,m,hi,hj,by lia⟩⟩
  ·exact⟨e,_,_,_,_,_,rfl,m,hi,hj,by lia⟩
  rintro r fh ⟨e2,⟨out,r',rfl,g⟩|⟨i,j,to,ma,na,rfl,m,hi,hj,hb⟩⟩
  ·exact Uo ⟨e2,_,_,rfl,g⟩
  dsimp only;refine Ug (Xz (WA ⟨rfl,?_⟩));refine Ug (VB (U7
   (I:=λy r aD=>i6 st aD/\∃i j to mg m n,r=(none,i,j,to,mg,m,n)/\Mh c p q to.toList.reverse i j/\0<i/\1<j/\i+j+x+1<p.size+q.size)
   (Q:=λr aD=>i6 st aD/\((∃out r',r=(some out,r')/\Gd c p q out.toList)\/∃i j to mg m n,r=(none,i,j,to,mg,m,n)/\Mh c p q to.toList.reverse i j/\0<i/\1<j/\i+j+x+1<p.size+q.size)) ?_ ?_ ?_) ?_)
  ·rintro y r fh _ hy ⟨e2,i,j,to,mg,ma,na,rfl,m,hi,hj,hb⟩;show wpS (model prog w) A E s (if mg>1 then JX p q to i j (mg-1) ma na else JX p q to i j mg ma na) _ fh
   split <;> exact DQ O L (e2.kind.trans hk) Sp Sq sp sq hf m hi hj (λout r h=>⟨e2.Dl _,.inl ⟨_,_,rfl,h⟩⟩) λt' i' j' m n h1 h2 h3 h4=>⟨⟨e2.Dl _,.inr ⟨_,_,_,_,_,_,rfl,h1,h2,h3,by lia⟩⟩,⟨e2.Dl _,_,_,_,_,_,_,rfl,h1,h2,h3,by lia⟩⟩
  ·rintro r fh ⟨e2,i,j,to,mg,ma,na,rfl,m,hi,hj,hb⟩;exact⟨e2,.inr ⟨_,_,_,_,_,_,rfl,m,hi,hj,hb⟩⟩
  ·exact⟨e2,_,_,_,_,_,_,rfl,m,hi,hj,hb⟩
  rintro r fh ⟨e2,⟨out,r',rfl,g⟩|⟨i,j,to,mg,ma,na,rfl,m,hi,hj,hb⟩⟩
  ·exact Uo ⟨e2,_,_,rfl,g⟩
  dsimp only;refine Ug (V6 (Uo ⟨e2.Dl _,_,_,_,_,rfl,m,hi,hj,by lia⟩))
 ·rintro r aD ⟨e,i,j,to,mg,rfl,m,hi,hj,hb⟩
  exfalso
  rw[show max 0 (p.size+q.size)=p.size+q.size by lia]at hb
  lia
 ·exact⟨i6.refl st,_,_,_,_,rfl,m0,by lia,by lia,by lia⟩
 ·rintro r aD ⟨e,out,r',rfl,g⟩;exact Uo (h _ aD e g)
end
section
variable {c:Ub->Ub->Bool}{a b:Array Ub}
structure Rg (a b:Array Ub)(lo hi:Nat):Prop where
 perm:b.Perm a
 out:∀k,(k<lo\/hi<=k)->el b k=el a k
theorem Rg.refl {lo hi:Nat}:Rg a a lo hi:=⟨Ys _,λ_ _=>rfl⟩
theorem Rg.trans {d:Array Ub}{lo hi:Nat}(x:Rg a b lo hi)(y:Rg b d lo hi):Rg a d lo hi:=⟨y.perm.trans x.perm,λk h=>(y.out k h).trans (x.out k h)⟩
theorem Rg.mono {lo hi C3 d_:Nat}(x:Rg a b lo hi)(h1:C3<=lo)(h2:hi<=d_):Rg a b C3 d_:=⟨x.perm,λk h=>x.out k (by lia)⟩
theorem Rg.size {lo hi:Nat}(x:Rg a b lo hi):b.size=a.size:=x.perm.size_eq
theorem SR.congr {lo hi:Nat}(h:SR c a lo hi)(e:∀k,lo<=k->k<hi->el b k=el a k):SR c b lo hi:=λi j h1 h2 h3=>by
 rw[e i h1 (by lia),e j (by lia) h3]
 exact h i j h1 h2 h3
def NI (c:Ub->Ub->Bool)(a:Array Ub)(lo hi:Nat):Prop:=∀i j,lo<=i->i<=j->j<hi->le c (el a j) (el a i)
theorem b5 {i j:Nat}(hj:j<=a.size)(k:Nat):el (mirror a i j ((j-i) / 2)) k=if i<=k/\k<j then el a (i+j-1-k) else el a k:=by
 have e:=getElem?_mirror_all (i:=i) hj k
 by_cases h:i<=k/\k<j
 ·rw[if_pos h]at e ⊢
  exact dF e
 ·rw[if_neg h]at e ⊢
  exact dF e
theorem eK {i j:Nat}(hj:j<=a.size):Rg a (mirror a i j ((j-i) / 2)) i j:=⟨mirror_perm _ _ _ _,λk h=>by rw[b5 hj,if_neg (by lia)]⟩
theorem mI {i j:Nat}(hj:j<=a.size)(h:NI c a i j):SR c (mirror a i j ((j-i) / 2)) i j:=λx y h1 h2 h3=>by
 rw[b5 hj,b5 hj,if_pos (by lia),if_pos (by lia)]
 exact h _ _ (by lia) (by lia) (by lia)
theorem iJ {lo i j:Nat}(K4:lo<=i)(hj:j<=a.size)(h:NI c a lo j)(he:∀x y,i<=x->x<j->i<=y->y<j->le c (el a x) (el a y)):NI c (mirror a i j ((j-i) / 2)) lo j:=λx y h1 h2 h3=>by
 rw[b5 hj,b5 hj]
 by_cases hx:i<=x/\x<j
 ·rw[if_pos hx,if_pos (by lia)]
  exact he _ _ (by lia) (by lia) (by lia) (by lia)
 ·rw[if_neg hx]
  by_cases hy:i<=y/\y<j
  ·rw[if_pos hy];exact h _ _ (by lia) (by lia) (by lia)
  ·rw[if_neg hy];exact h _ _ h1 h2 h3
theorem SR.snoc {lo n:Nat}(O:cc c)(h:SR c a lo (lo+n))(h1:0<n)(hn:le c (el a (lo+n-1)) (el a (lo+n))):SR c a lo (lo+(n+1)):=λi j h2 h3 h4=>by
 by_cases hj:j<lo+n
 ·exact h i j h2 h3 hj
 ·obtain rfl:j=lo+n:=by lia
  by_cases hi:i<lo+n
  ·exact O.trans (h i (lo+n-1) h2 (by lia) (by lia)) hn
  ·obtain rfl:i=lo+n:=by lia
   exact O.refl _
theorem NI.snoc {lo n:Nat}(O:cc c)(h:NI c a lo (lo+n))(h1:0<n)(hn:le c (el a (lo+n)) (el a (lo+n-1))):NI c a lo (lo+(n+1)):=λi j h2 h3 h4=>by
 by_cases hj:j<lo+n
 ·exact h i j h2 h3 hj
 ·obtain rfl:j=lo+n:=by lia
  by_cases hi:i<lo+n
  ·exact O.trans hn (h i (lo+n-1) h2 (by lia) (by lia))
  ·obtain rfl:i=lo+n:=by lia
   exact O.refl _
theorem SR.one {lo:Nat}(O:cc c):SR c a lo (lo+1):=λi j h1 h2 h3=>by
 obtain rfl:i=j:=by lia
 exact O.refl _
end
structure i5 (κ:Wj)(a₀:Array Ub)(st:UH):Prop where
 kind:kindOf st=κ
 fail:Ww st=none
 perm:(UN st).Perm a₀
section
variable {prog:T7}{w:Ur}{A:U6}{E:TY->T3->Prop}{s:T3}{κ:Wj}{c:Ub->Ub->Bool}{a₀:Array Ub}
theorem i5.size {st:UH}(h:i5 κ a₀ st):(UN st).size=a₀.size:=h.perm.size_eq
theorem i5.mem {st:UH}(h:i5 κ a₀ st){i:Nat}(hi:i<a₀.size):el (UN st) i∈a₀.toList:=by
 have h1:i<(UN st).size:=by rw[h.size];exact hi
 refine(Wa.mp h.perm).mem_iff.mp ?_;have:=h_ h1;rw[<- Uv]at this;exact UO this
theorem i5.set {st:UH}{b:Array Ub}{lo hi:Nat}(h:i5 κ a₀ st)(r:Rg (UN st) b lo hi):i5 κ a₀ (Vk st b):=⟨h.kind,h.fail,r.perm.trans h.perm⟩
theorem nC (L:ff prog w A E s κ c (·∈a₀.toList)){st:UH}{i j:Nat}{Q:Option Bool->UH->Prop}(h:i5 κ a₀ st)(hi:i<a₀.size)(hj:j<a₀.size)(q:Q (some (c (el (UN st) i) (el (UN st) j))) st):
  wpS (model prog w) A E s (ltAt' i j) Q st:=by
 rw[ltAt'_eq];refine Ug (WY ?_);exact Ug (aL (by rw[h.size];exact hi) (Ug (aL (by rw[h.size];exact hj) (L _ _ st Q (h.mem hi) (h.mem hj) h.kind q))))
theorem gN (L:ff prog w A E s κ c (·∈a₀.toList)){st:UH}{b:Array Ub}{i j lo hi:Nat}{Q:Option Bool->UH->Prop}(h:i5 κ a₀ st)(R:Rg (UN st) b lo hi)(hi:i<a₀.size)(hj:j<a₀.size)(q:Q (some (c (el b i) (el b j))) (Vk st b)):
  wpS (model prog w) A E s (ltAt' i j) Q (Vk st b):=nC L (h.set R) hi hj q
theorem gM {st:UH}{i j:Nat}{Q:Unit->UH->Prop}(q:Q () (Vk st (mirror (UN st) i j ((j-i) / 2)))):wpS (model prog w) A E s (reverseSlice' i j) Q st:=by
 rw[reverseSlice'_eq];exact V6 q
theorem xb (O:cc c)(L:ff prog w A E s κ c (·∈a₀.toList)){st:UH}{lo eG:Nat}{Q:Option Nat->UH->Prop}(h0:i5 κ a₀ st)(h1:1<=eG)(hn:lo+eG<=a₀.size)
  (h:∀n b,1<=n->n<=eG->Rg (UN st) b lo (lo+eG)->SR c b lo (lo+n)->Q (some n) (Vk st b)):wpS (model prog w) A E s (countRun' lo eG) Q st:=by
 rw[countRun'_eq];dsimp only;refine Ug (VB (U7 (I:=λx r aD=>aD=st/\∃n,r=(none,n)/\n=x/\SR c (UN st) lo (lo+n))
  (Q:=λr aD=>aD=st/\∃n,r=(none,n)/\1<=n/\n<=eG/\SR c (UN st) lo (lo+n)/\(n=eG\/(n<eG/\c (el (UN st) (lo+n)) (el (UN st) (lo+n-1))=true))) ?_ ?_ ?_) ?_)
 ·rintro x r aD Dc hx ⟨rfl,n,rfl,rfl,hs⟩;dsimp only;refine Ug (nC L h0 (by lia) (by lia) ?_)
  dsimp only;cases hc:c (el (UN aD) (lo+n)) (el (UN aD) (lo+n-1))with
  |true =>
   rw[if_pos rfl];exact Uo ⟨rfl,n,rfl,Dc,by lia,hs,.inr ⟨by lia,hc⟩⟩
  |false =>
   rw[if_neg (by simp)]
   exact Uo ⟨rfl,n+1,rfl,rfl,hs.snoc O Dc hc⟩
 ·rintro r aD ⟨rfl,n,rfl,hx,hs⟩;exact⟨rfl,n,rfl,by lia,by lia,hs,.inl (by lia)⟩
 ·exact⟨rfl,1,rfl,rfl,SR.one O⟩
 rintro r aD ⟨e0,n,rfl,Pg,GF,hs,hc⟩;rw[e0];dsimp only
 by_cases Nf:(n==eG)=true
 ·rw[if_pos Nf];exact Uo (h n (UN st) Pg GF Rg.refl hs)
 rw[if_neg Nf];have Ry:n≠eG:=by simpa using Nf
 have hc:c (el (UN st) (lo+n)) (el (UN st) (lo+n-1))=true:=by
  rcases hc with q|q
  ·lia
  ·exact q.2
 refine(λ(key:∀b,Rg (UN st) b lo (lo+eG)->NI c b lo (lo+(n+1))->wpS (model prog w) A E s ?cont Q (Vk st b))=>?main) ?key
 case main =>
  by_cases h2:n>1
  ·rw[if_pos h2];refine Ug (nC L h0 (by lia) (by lia) ?_)
   dsimp only;cases hr:c (el (UN st) lo) (el (UN st) (lo+n-1))with
   |true =>
    rw[if_pos rfl];exact Uo (h n (UN st) Pg GF Rg.refl hs)
   |false =>
    rw[if_neg (by simp)]
    refine Ug (gM ?_);have hz:lo+n<=(UN st).size:=by have:=h0.size;lia
    have R0:Rg (UN st) (mirror (UN st) lo (lo+n) ((lo+n-lo) / 2)) lo (lo+eG):=(eK hz).mono (T4 _) (by lia)
    have all:∀u v,lo<=u->u<lo+n->lo<=v->v<lo+n->le c (el (UN st) u) (el (UN st) v):=λu v h1 h2 h3 h4 =>
     O.trans (hs u (lo+n-1) h1 (by lia) (by lia)) (O.trans hr (hs lo v (T4 _) h3 h4))
    have N0:NI c (mirror (UN st) lo (lo+n) ((lo+n-lo) / 2)) lo (lo+(n+1)):=by
     refine NI.snoc O (iJ (T4 _) hz (λu v h1 h2 h3=>all v u (by lia) (by lia) h1 (by lia)) λu v h1 h2 h3 h4=>all u v h1 h2 h3 h4) (by lia) ?_
     rw[b5 hz,b5 hz,if_neg (by lia),if_pos (by lia)]
     exact O.trans (O.of_lt hc) (all _ _ (by lia) (by lia) (by lia) (by lia))
    exact key _ R0 N0
  ·rw[if_neg h2];have N0:NI c (UN st) lo (lo+(n+1)):=NI.snoc O (λu v h1 h2 h3=>by
    obtain rfl:u=v:=by lia
    exact O.refl _) (by lia) (O.of_lt hc)
   show wpS _ _ _ _ _ Q (Vk st (UN st));exact key _ Rg.refl N0
 case key =>
  intro b0 R0 N0;refine Ug (Xz (WA ⟨rfl,?_⟩));refine Ug (VB (U7 (I:=λx r aD=>∃b n jg,aD=Vk st b/\r=(none,n,jg)/\n=x/\Rg (UN st) b lo (lo+eG)/\NI c b lo (lo+n)/\jg<n/\(∀u v,lo+n-1-jg<=u->u<lo+n->lo+n-1-jg<=v->v<lo+n->le c (el b u) (el b v)))
   (Q:=λr aD=>∃b n jg,aD=Vk st b/\r=(none,n,jg)/\1<=n/\n<=eG/\Rg (UN st) b lo (lo+eG)/\NI c b lo (lo+n)/\jg<n/\(∀u v,lo+n-1-jg<=u->u<lo+n->lo+n-1-jg<=v->v<lo+n->le c (el b u) (el b v))) ?_ ?_ ?_) ?_)
  ·rintro x r aD Dc hx ⟨b,n',jg,rfl,rfl,rfl,R,N,hq,he⟩;dsimp only;refine Ug (gN L h0 R (by lia) (by lia) ?_)
   dsimp only;cases l7:c (el b (lo+n')) (el b (lo+n' - 1))with
   |true =>
    rw[if_pos rfl]
    by_cases zg:jg>0
    ·rw[if_pos zg];refine Ug (gM (Uo ?_));have hz:lo+n'<=b.size:=by have:=R.size;have:=h0.size;lia
     refine⟨mirror b (lo+n' - (jg+1)) (lo+n') ((lo+n' - (lo+n' - (jg+1))) / 2),n'+1,0,rfl,rfl,rfl,R.trans ((eK hz).mono (by lia) (by lia)),?_,by lia,?_⟩
     ·refine NI.snoc O (iJ (by lia) hz N λu v h1 h2 h3 h4=>he u v (by lia) h2 (by lia) h4) (by lia) ?_
      rw[b5 hz,b5 hz,if_neg (by lia),if_pos (by lia)]
      exact O.trans (O.of_lt l7) (he _ _ (by lia) (by lia) (by lia) (by lia))
     ·intro u v h1 h2 h3 h4;obtain rfl:u=v:=by lia
      exact O.refl _
    ·rw[if_neg zg];refine Uo ⟨b,n'+1,0,rfl,rfl,rfl,R,N.snoc O (by lia) (O.of_lt l7),by lia,?_⟩
     intro u v h1 h2 h3 h4;obtain rfl:u=v:=by lia
     exact O.refl _
   |false =>
    rw[if_neg (by simp)]
    refine Ug (gN L h0 R (by lia) (by lia) ?_)
    dsimp only;cases sO:c (el b (lo+n' - 1)) (el b (lo+n'))with
    |true =>
     rw[if_pos rfl];exact Uo ⟨b,n',jg,rfl,rfl,by lia,by lia,R,N,hq,he⟩
    |false =>
     rw[if_neg (by simp)]
     refine Uo ⟨b,n'+1,jg+1,rfl,rfl,rfl,R,N.snoc O (by lia) sO,by lia,?_⟩
     have hl:∀u,lo+n' - 1-jg<=u->u<lo+(n'+1)->le c (el b u) (el b (lo+n'))/\le c (el b (lo+n')) (el b u):=λu h1 h2=>by
      by_cases hu:u<lo+n'
      ·exact⟨O.trans (he u (lo+n' - 1) h1 hu (by lia) (by lia)) l7,O.trans sO (he (lo+n' - 1) u (by lia) (by lia) h1 hu)⟩
      ·obtain rfl:u=lo+n':=by lia
       exact⟨O.refl _,O.refl _⟩
     intro u v h1 h2 h3 h4;exact O.trans (hl u (by lia) h2).1 (hl v (by lia) h4).2
  ·rintro r aD ⟨b,n',jg,rfl,rfl,hx,R,N,hq,he⟩;exact⟨b,n',jg,rfl,rfl,by lia,by lia,R,N,hq,he⟩
  ·refine⟨_,n+1,0,rfl,rfl,rfl,R0,N0,by lia,?_⟩
   intro u v h1 h2 h3 h4;obtain rfl:u=v:=by lia
   exact O.refl _
  rintro r aD ⟨b,n',jg,rfl,rfl,RC,RA,RB,NB,hq,he⟩;dsimp only
  by_cases zg:jg>0
  ·rw[if_pos zg];refine Ug (gM ?_);have hz:lo+n'<=b.size:=by have:=RB.size;have:=h0.size;lia
   have NB:=iJ (c:=c) (i:=lo+n' - (jg+1)) (by lia) hz NB λu v h1 h2 h3 h4=>he u v (by lia) h2 (by lia) h4
   have RB:=RB.trans ((eK (i:=lo+n' - (jg+1)) hz).mono (by lia) (by lia:lo+n'<=lo+eG))
   show wpS _ _ _ _ _ Q (Vk st (mirror b (lo+n' - (jg+1)) (lo+n') ((lo+n' - (lo+n' - (jg+1))) / 2)));generalize mirror b (lo+n' - (jg+1)) (lo+n') ((lo+n' - (lo+n' - (jg+1))) / 2)=b1 at NB RB;refine Ug (gM ?_);have R2:Rg (UN st) (mirror b1 lo (lo+n') ((lo+n' - lo) / 2)) lo (lo+eG):=RB.trans ((eK (by have:=RB.size;have:=h0.size;lia)).mono (T4 _) (by lia))
   have S2:SR c (mirror b1 lo (lo+n') ((lo+n' - lo) / 2)) lo (lo+n'):=mI (by have:=RB.size;have:=h0.size;lia) NB
   show wpS _ _ _ _ _ Q (Vk st (mirror b1 lo (lo+n') ((lo+n' - lo) / 2)));generalize mirror b1 lo (lo+n') ((lo+n' - lo) / 2)=b2 at R2 S2;refine Ug (VB (U7 (I:=λx r aD=>aD=Vk st b2/\∃m,r=(none,m)/\m=x/\SR c b2 lo (lo+m))
    (Q:=λr aD=>aD=Vk st b2/\∃m,r=(none,m)/\1<=m/\m<=eG/\SR c b2 lo (lo+m)) ?_ ?_ ?_) ?_)
   ·rintro x r aD Dc hx ⟨rfl,m,rfl,rfl,hs⟩;dsimp only;refine Ug (gN L h0 R2 (by lia) (by lia) ?_)
    dsimp only;cases hc:c (el b2 (lo+m)) (el b2 (lo+m-1))with
    |true =>
     rw[if_pos rfl];exact Uo ⟨rfl,m,rfl,by lia,by lia,hs⟩
    |false =>
     rw[if_neg (by simp)]
     exact Uo ⟨rfl,m+1,rfl,rfl,hs.snoc O (by lia) hc⟩
   ·rintro r aD ⟨rfl,m,rfl,hx,hs⟩;exact⟨rfl,m,rfl,by lia,by lia,hs⟩
   ·exact⟨rfl,n',rfl,rfl,S2⟩
   rintro r aD ⟨rfl,m,rfl,Nj,FT,hs⟩;exact Uo (h m b2 Nj FT R2 hs)
  ·rw[if_neg zg];refine Ug (gM ?_);have R2:Rg (UN st) (mirror b lo (lo+n') ((lo+n' - lo) / 2)) lo (lo+eG):=RB.trans ((eK (by have:=RB.size;have:=h0.size;lia)).mono (T4 _) (by lia))
   have S2:SR c (mirror b lo (lo+n') ((lo+n' - lo) / 2)) lo (lo+n'):=mI (by have:=RB.size;have:=h0.size;lia) NB
   show wpS _ _ _ _ _ Q (Vk st (mirror b lo (lo+n') ((lo+n' - lo) / 2)));generalize mirror b lo (lo+n') ((lo+n' - lo) / 2)=b2 at R2 S2;refine Ug (VB (U7 (I:=λx r aD=>aD=Vk st b2/\∃m,r=(none,m)/\m=x/\SR c b2 lo (lo+m))
    (Q:=λr aD=>aD=Vk st b2/\∃m,r=(none,m)/\1<=m/\m<=eG/\SR c b2 lo (lo+m)) ?_ ?_ ?_) ?_)
   ·rintro x r aD Dc hx ⟨rfl,m,rfl,rfl,hs⟩;dsimp only;refine Ug (gN L h0 R2 (by lia) (by lia) ?_)
    dsimp only;cases hc:c (el b2 (lo+m)) (el b2 (lo+m-1))with
    |true =>
     rw[if_pos rfl];exact Uo ⟨rfl,m,rfl,by lia,by lia,hs⟩
    |false =>
     rw[if_neg (by simp)]
     exact Uo ⟨rfl,m+1,rfl,rfl,hs.snoc O (by lia) hc⟩
   ·rintro r aD ⟨rfl,m,rfl,hx,hs⟩;exact⟨rfl,m,rfl,by lia,by lia,hs⟩
   ·exact⟨rfl,n',rfl,rfl,S2⟩
   rintro r aD ⟨rfl,m,rfl,Nj,FT,hs⟩;exact Uo (h m b2 Nj FT R2 hs)
end
section
variable {c:Ub->Ub->Bool}{a:Array Ub}
theorem iU {src d:Nat}(hs:src<a.size)(hd:d<=src)(k:Nat):el (bubble a src d) k=if k=src-d then el a src else if src-d<k/\k<=src then el a (k-1) else el a k:=by
 have e:=getElem?_bubble hs d hd k
 by_cases h1:k=src-d
 ·rw[if_pos h1]at e ⊢
  exact dF e
 ·rw[if_neg h1]at e ⊢
  by_cases h2:src-d<k/\k<=src
  ·rw[if_pos h2]at e ⊢
   exact dF e
  ·rw[if_neg h2]at e ⊢
   exact dF e
theorem wF {lo k l:Nat}(O:cc c)(hk:lo+k<a.size)(hl:l<=k)(h:SR c a lo (lo+k))(h1:∀i,i<l->le c (el a (lo+i)) (el a (lo+k)))(h2:∀i,l<=i->i<k->le c (el a (lo+k)) (el a (lo+i))):
  SR c (bubble a (lo+k) (lo+k-(lo+l))) lo (lo+(k+1)):=λi j g1 g2 g3=>by
 rw[iU hk (by lia),iU hk (by lia),show lo+k-(lo+k-(lo+l))=lo+l by lia]
 have q1:∀i,lo<=i->i<lo+l->le c (el a i) (el a (lo+k)):=λi x y=>by
  have:=h1 (i-lo) (by lia)
  rwa [show lo+(i-lo)=i by lia]at this
 have q2:∀i,lo+l<=i->i<lo+k->le c (el a (lo+k)) (el a i):=λi x y=>by
  have:=h2 (i-lo) (by lia) (by lia)
  rwa [show lo+(i-lo)=i by lia]at this
 by_cases ei:i=lo+l
 ·rw[if_pos ei]
  by_cases ej:j=lo+l
  ·rw[if_pos ej];exact O.refl _
  ·rw[if_neg ej,if_pos (by lia)]
   exact q2 _ (by lia) (by lia)
 ·rw[if_neg ei]
  by_cases ej:j=lo+l
  ·rw[if_pos ej,if_neg (by lia)]
   exact q1 _ (by lia) (by lia)
  ·rw[if_neg ej]
   by_cases fi:lo+l<i/\i<=lo+k
   ·rw[if_pos fi,if_pos (by lia)]
    exact h _ _ (by lia) (by lia) (by lia)
   ·rw[if_neg fi]
    by_cases fj:lo+l<j/\j<=lo+k
    ·rw[if_pos fj];exact h _ _ (by lia) (by lia) (by lia)
    ·rw[if_neg fj];exact h _ _ (by lia) (by lia) (by lia)
theorem wG {src d:Nat}(hs:src<a.size)(hd:d<=src):Rg a (bubble a src d) (src-d) (src+1):=⟨bubble_perm _ _ _,λk h=>by
 rw[iU hs hd,if_neg (by lia),if_neg (by lia)]⟩
end
section
variable {prog:T7}{w:Ur}{A:U6}{E:TY->T3->Prop}{s:T3}{κ:Wj}{c:Ub->Ub->Bool}{a₀:Array Ub}
theorem DS (O:cc c)(L:ff prog w A E s κ c (·∈a₀.toList)){st:UH}{lo n ok:Nat}{Q:Bool->UH->Prop}(h0:i5 κ a₀ st)(bM:ok<=n)(h1:1<=n)(hn:lo+n<=a₀.size)(hs:SR c (UN st) lo (lo+ok))
  (h:∀b,Rg (UN st) b lo (lo+n)->SR c b lo (lo+n)->Q true (Vk st b)):wpS (model prog w) A E s (binarySort' lo n ok) Q st:=by
 rw[binarySort'_eq];refine Ug (VB (U7 (I:=λk r aD=>r=(none,())/\k<=n/\∃b,aD=Vk st b/\Rg (UN st) b lo (lo+n)/\SR c b lo (lo+k))
  (Q:=λr aD=>r=(none,())/\∃b,aD=Vk st b/\Rg (UN st) b lo (lo+n)/\SR c b lo (lo+n)) ?_ ?_ ?_) ?_)
 ·rintro k r aD Nr hk ⟨rfl,_,b,rfl,R,vW⟩;dsimp only;have hz:b.size=a₀.size:=R.size.trans h0.size;refine Ug (VB (U7 (I:=λx r aD=>aD=Vk st b/\∃l u,r=(none,l,u)/\l<=u/\u<=k/\u-l<=k-x/\(∀i,i<l->le c (el b (lo+i)) (el b (lo+k)))/\(∀i,u<=i->i<k->le c (el b (lo+k)) (el b (lo+i))))
   (Q:=λr aD=>aD=Vk st b/\∃l,r=(none,l,l)/\l<=k/\(∀i,i<l->le c (el b (lo+i)) (el b (lo+k)))/\(∀i,l<=i->i<k->le c (el b (lo+k)) (el b (lo+i)))) ?_ ?_ ?_) ?_)
  ·rintro x r aD _ hx ⟨rfl,l,u,rfl,g1,g2,g3,g4,g5⟩;dsimp only
   by_cases JR:l >= u
   ·rw[if_pos JR];obtain rfl:l=u:=by lia
    exact Uo ⟨rfl,l,rfl,g2,g4,g5⟩
   ·rw[if_neg JR];refine Ug (gN L h0 R (by lia) (by lia) ?_)
    dsimp only;cases hc:c (el b (lo+k)) (el b (lo+(l+u) / 2))with
    |true =>
     rw[if_pos rfl];exact Uo ⟨rfl,l,_,rfl,by lia,by lia,by lia,g4,λi h1 h2=>O.trans (O.of_lt hc) (vW _ _ (by lia) (by lia) (by lia))⟩
    |false =>
     rw[if_neg (by simp)]
     exact Uo ⟨rfl,_,u,rfl,by lia,by lia,by lia,λi h1=>O.trans (vW _ _ (by lia) (by lia) (by lia)) (show le c (el b (lo+(l+u) / 2)) (el b (lo+k)) from hc),g5⟩
  ·rintro r aD ⟨rfl,l,u,rfl,g1,g2,g3,g4,g5⟩;obtain rfl:l=u:=by lia
   exact⟨rfl,l,rfl,g2,g4,g5⟩
  ·exact⟨rfl,0,k,rfl,Uh _,T4 _,by lia,λi hi=>by lia,λi h1 h2=>by lia⟩
  rintro r aD ⟨rfl,l,rfl,g2,g4,g5⟩;dsimp only;rw[moveDown'_eq];refine Ug (V6 (Uo ⟨rfl,by lia,_,rfl,R.trans ((wG (a:=b) (by lia) (by lia)).mono (by lia) (by lia)),wF (a:=b) O (by lia) g2 vW g4 g5⟩))
 ·rintro r aD ⟨rfl,hx,b,rfl,R,vW⟩;rw[show max (max ok 1) n=n by lia]at vW
  exact⟨rfl,b,rfl,R,vW⟩
 ·refine⟨rfl,by lia,UN st,rfl,Rg.refl,?_⟩
  by_cases h2:ok=0
  ·subst h2;exact SR.one O
  ·rw[show max ok 1=ok by lia]
   exact hs
 ·rintro r aD ⟨rfl,b,rfl,R,vW⟩;exact Uo (h b R vW)
theorem qo (base:Nat):∀(l:List Ub) (off:Nat) (a:Array Ub),base+off+l.length<=a.size->∀k:Nat,
  ((l.zipIdx off).foldl (λx (z:Ub×Nat)=>x.setIfInBounds (base+z.2) z.1) a)[k]?=if base+off<=k/\k<base+off+l.length then l[k-(base+off)]? else a[k]?
 |[],off,a,_,k=>by
  rw[if_neg (by rw[List.length_nil];lia)]
  rfl
 |x::l,off,a,h,k=>by
  rw[Um]at h;rw[List.zipIdx_cons,VO,qo base l (off+1) _ (by rw[Xb];lia)]
  by_cases h1:base+(off+1)<=k/\k<base+(off+1)+l.length
  ·rw[if_pos h1,if_pos (by rw[Um];lia),show k-(base+off)=k-(base+(off+1))+1 by lia,VY]
  ·rw[if_neg h1,Array.getElem?_setIfInBounds]
   by_cases h2:base+off=k
   ·subst h2;rw[if_pos rfl,if_pos (by lia),if_pos (by rw[Um];lia),WO]
    rfl
   ·rw[if_neg h2,if_neg (by rw[Um];lia)]
def Au (a:Array Ub)(base:Nat)(l:List Ub):Array Ub:=l.zipIdx.foldl (λx (z:Ub×Nat)=>x.setIfInBounds (base+z.2) z.1) a
theorem nB {a:Array Ub}{base:Nat}{l:List Ub}(h:base+l.length<=a.size)(k:Nat):(Au a base l)[k]?=if base<=k/\k<base+l.length then l[k-base]? else a[k]?:=qo base l 0 a h k
theorem wZ {a:Array Ub}{base:Nat}{l:List Ub}(h:base+l.length<=a.size):(Au a base l).toList=a.toList.take base++(l++a.toList.drop (base+l.length)):=by
 apply Vm;intro k;rw[Uv,nB h];have hz:a.toList.length=a.size:=Ue
 by_cases h1:base<=k/\k<base+l.length
 ·rw[if_pos h1,UZ (by rw[Ut];lia),Ut,Vh (by lia)]
  congr 1
  lia
 ·rw[if_neg h1]
  by_cases h2:k<base
  ·rw[Vh (by rw[Ut];lia),Wm h2,Uv]
  ·rw[UZ (by rw[Ut];lia),Ut,UZ (by lia),WV,Uv]
   congr 1
   lia
theorem Eh (a:Array Ub)(base m:Nat):a.toList=a.toList.take base++((a.toList.drop base).take m++a.toList.drop (base+m)):=by
 have h1:=(VN base a.toList).symm;have h2:=(VN m (a.toList.drop base)).symm;rw[List.drop_drop]at h2;rw[<- h2];exact h1
theorem DL {a:Array Ub}{base:Nat}{l:List Ub}(h:base+l.length<=a.size)(hp:l.Perm ((a.toList.drop base).take l.length)):Rg a (Au a base l) base (base+l.length) where
 perm:=by
  rw[Wa,wZ h];refine List.Perm.trans ?_ (Xs (Eh a base l.length).symm);exact Xx _ (hp.append_right _)
 out:=λk hk=>dF (by rw[nB h,if_neg (by lia)])
end
section
variable {prog:T7}{w:Ur}{A:U6}{E:TY->T3->Prop}{s:T3}{κ:Wj}{c:Ub->Ub->Bool}{a₀:Array Ub}
theorem Ay {σ:Type}{M:Model}{Q:PUnit->σ->Prop}{st aD:σ}(h:Q ⟨⟩ aD):wpS M A E s (set aD:StateT σ Sem PUnit) Q st:=by
 unfold wpS;rw[StateT.run_set];exact Uj ⟨rfl,h⟩
theorem sW {a:Array Ub}{lo hi i:Nat}(h:i<hi-lo)(hh:hi<=a.size):el (a.extract lo hi) i=el a (lo+i) :=
 dF (by rw[Array.getElem?_extract,if_pos (by lia)])
theorem lB {a:Array Ub}{lo hi:Nat}(hh:hi<=a.size):(a.extract lo hi).size=hi-lo:=by
 rw[Array.size_extract];lia
theorem uf {a:Array Ub}{lo hi:Nat}(hh:hi<=a.size){z:Ub}(h:z∈(a.extract lo hi).toList):∃u,lo<=u/\u<hi/\z=el a u:=by
 obtain⟨i,d_⟩:=V9 h;rw[Uv]at d_;have d8:i<(a.extract lo hi).size:=by
  rcases Vt i (a.extract lo hi).size with q|q
  ·exact q
  ·rw[VH q]at d_;cases d_
 rw[lB hh]at d8;exact⟨lo+i,by lia,by lia,by rw[<- sW d8 hh,uA d_]⟩
theorem rE (O:cc c)(L:ff prog w A E s κ c (·∈a₀.toList)){st:UH}{i sa na pw sb nb L6:Nat}{Q:Bool->UH->Prop}(h0:i5 κ a₀ st)(p1:(UC st)[i]?=some (sa,na,pw))(p2:(UC st)[i+1]?=some (sb,nb,L6))
  (vW:sb=sa+na) (Tw:1<=na) (Tv:1<=nb) (hz:sb+nb<=a₀.size) (s1:SR c (UN st) sa sb) (s2:SR c (UN st) sb (sb+nb))
  (h:∀aD,kindOf aD=κ->Ww aD=none->UC aD=((UC st).setIfInBounds i (sa,na+nb,pw)).eraseIdxIfInBounds (i+1)->Rg (UN st) (UN aD) sa (sb+nb)->SR c (UN aD) sa (sb+nb)->Q true aD) :
  wpS (model prog w) A E s (mergeAt' i) Q st:=by
 rw[qa];refine Ug (WY ?_);rw[p1,p2];dsimp only;refine Ug (Ay ?_);have hsz:=h0.size;have hm:∀{j},j<a₀.size->el (UN st) j∈a₀.toList:=λhj=>h0.mem hj;generalize ha:UN st=a at *
 have u6:kindOf (WB st (((UC st).setIfInBounds i (sa,na+nb,pw)).eraseIdxIfInBounds (i+1)))=κ:=h0.kind;have Ef:Ww (WB st (((UC st).setIfInBounds i (sa,na+nb,pw)).eraseIdxIfInBounds (i+1)))=none:=h0.fail;have Eg:UN (WB st (((UC st).setIfInBounds i (sa,na+nb,pw)).eraseIdxIfInBounds (i+1)))=a:=ha;have Hm:UC (WB st (((UC st).setIfInBounds i (sa,na+nb,pw)).eraseIdxIfInBounds (i+1)))=((UC st).setIfInBounds i (sa,na+nb,pw)).eraseIdxIfInBounds (i+1):=rfl;generalize hP:((UC st).setIfInBounds i (sa,na+nb,pw)).eraseIdxIfInBounds (i+1)=P at *
 generalize WB st P=Hn at *
 refine Ug (aL (by lia) ?_)
 refine Ug (dj O L u6 (hm (by lia)) (λx hx=>hm (by lia)) (by lia) (λx y h1 h2 h3=>s1 x y h1 h2 (by lia)) (by lia) λk k1 k2 k3=>?_)
 dsimp only;have g0:∀x,sa<=x->x<sa+k->le c (el a x) (el a sb):=λx h1 h2=>by
  have:=k2 (x-sa) (by lia)
  unfold dG at this;rw[if_neg (by simp),W6,show sa+(x-sa)=x by lia]at this
  exact this
 by_cases e1:(na-k==0)=true
 ·rw[if_pos e1];have e1:na-k=0:=by simpa using e1
  refine Uo (h Hn u6 Ef Hm (by rw[Eg];exact Rg.refl) ?_)
  rw[Eg];intro x y h1 h2 h3
  by_cases hx:x<sb
  ·by_cases hy:y<sb
   ·exact s1 x y h1 h2 hy
   ·exact O.trans (g0 x h1 (by lia)) (s2 sb y (T4 _) (by lia) h3)
  ·exact s2 x y (by lia) h2 h3
 rw[if_neg e1];have e1:na-k≠0:=by simpa using e1
 have g1:c (el a sb) (el a (sa+k))=true:=by
  have:=k3 k (T4 _) (by lia)
  unfold dG at this;rw[if_neg (by simp),XY]at this
  exact this
 refine Ug (aL (by lia) ?_)
 refine Ug (dj O L u6 (hm (by lia)) (λx hx=>hm (by lia)) (by lia) (λx y h1 h2 h3=>s2 x y h1 h2 (by lia)) (by lia) λm m1 m2 m3=>?_)
 dsimp only;rw[show sa+k+(na-k)-1=sb-1 by lia]at m2 m3
 have g2:∀x,sb<=x->x<sb+m->c (el a x) (el a (sb-1))=true:=λx h1 h2=>by
  have:=m2 (x-sb) (by lia)
  unfold dG at this;rw[if_pos rfl,show sb+(x-sb)=x by lia]at this
  exact this
 have g3:∀x,sb+m<=x->x<sb+nb->le c (el a (sb-1)) (el a x):=λx h1 h2=>by
  have:=m3 (x-sb) (by lia) (by lia)
  unfold dG at this;rw[if_pos rfl,show sb+(x-sb)=x by lia]at this
  exact this
 by_cases e2:(m==0)=true
 ·exfalso
  have e2:m=0:=by simpa using e2
  have:=O.trans (s1 (sa+k) (sb-1) (by lia) (by lia) (by lia)) (g3 sb (by lia) (by lia))
  exact absurd (g1.symm.trans this) (by simp)
 rw[if_neg e2];have e2:m≠0:=by simpa using e2
 have zx:(a.extract (sa+k) sb).size=sb-(sa+k):=lB (by lia)
 have zy:(a.extract sb (sb+m)).size=m:=by rw[lB (by lia)];lia
 have ex:∀{t},t<sb-(sa+k)->el (a.extract (sa+k) sb) t=el a (sa+k+t):=λht=>sW ht (by lia)
 have ey:∀{t},t<m->el (a.extract sb (sb+m)) t=el a (sb+t):=λht=>sW (by lia) (by lia)
 have fin:∀(out:Array Ub) (fh:UH),i6 Hn fh->Gd c (a.extract (sa+k) sb) (a.extract sb (sb+m)) out.toList ->
   wpS (model prog w) A E s (do
    modify λs2=>Vk s2 (out.toList.zipIdx.foldl (λx z=>match z with|(p,j)=>x.setIfInBounds (sa+k+j) p) (UN s2))
    let y <- get
    pure (Ww y).isNone:StateT UH Sem Bool) Q fh:=by
  rintro out fh e ⟨gp,gs⟩;refine Ug (V6 (Ug (WY (Uo ?_))));show Q (Ww fh).isNone (Vk fh (Au (UN fh) (sa+k) out.toList));rw[e.fail,Ef,e.arr,Eg];have zo:out.toList.length=sb-(sa+k)+m:=by
   rw[gp.length_eq,Ui,Ue,Ue,zx,zy]
  have hb:sa+k+out.toList.length<=a.size:=by lia
  have xy:(a.toList.drop (sa+k)).take out.toList.length=(a.extract (sa+k) sb).toList++(a.extract sb (sb+m)).toList:=by
   rw[cb,cb,zo,show sb+m-sb=m by lia,List.take_add,List.drop_drop,show sa+k+(sb-(sa+k))=sb by lia]
  have R:Rg a (Au a (sa+k) out.toList) (sa+k) (sa+k+out.toList.length):=DL hb (by rw[xy];exact gp)
  refine h _ (e.kind.trans u6) (e.fail.trans Ef) (e.pend.trans Hm) (R.mono (by lia) (by lia)) ?_
  show SR c (Au a (sa+k) out.toList) sa (sb+nb);have FR:∀t,sa+k<=t->t<sb+m->∃z,out.toList[t-(sa+k)]?=some z/\el (Au a (sa+k) out.toList) t=z/\((∃u,sa+k<=u/\u<sb/\z=el a u)\/∃u,sb<=u/\u<sb+m/\z=el a u):=by
   intro t h1 h2;have hl:t-(sa+k)<out.toList.length:=by lia
   refine⟨out.toList[t-(sa+k)],T5 hl,uA (by rw[nB hb,if_pos (by lia)];exact T5 hl),?_⟩
   have sM:=gp.mem_iff.mp (Vz hl);rcases Uq.mp sM with q|q
   ·exact .inl (uf (by lia) q)
   ·exact .inr (uf (by lia) q)
  have PL:∀t,t<sa+k->el (Au a (sa+k) out.toList) t=el a t:=λt ht=>R.out t (.inl ht);have Lg:∀t,sb+m<=t->el (Au a (sa+k) out.toList) t=el a t:=λt ht=>R.out t (.inr (by lia))
  intro x y h1 h2 h3
  by_cases hx:x<sa+k
  ·rw[PL x hx]
   by_cases hy:y<sa+k
   ·rw[PL y hy];exact s1 x y h1 h2 (by lia)
   ·by_cases MF:y<sb+m
    ·obtain⟨z,_,ez,MD⟩:=FR y (by lia) MF
     rw[ez];rcases MD with⟨u,u1,u2,rfl⟩|⟨u,u1,u2,rfl⟩
     ·exact s1 x u h1 (by lia) u2
     ·exact O.trans (g0 x h1 hx) (s2 sb u (T4 _) u1 (by lia))
    ·rw[Lg y (by lia)]
     exact O.trans (g0 x h1 hx) (s2 sb y (T4 _) (by lia) h3)
  ·by_cases IP:x<sb+m
   ·obtain⟨z,iz,ez,MD⟩:=FR x (by lia) IP
    rw[ez]
    by_cases MF:y<sb+m
    ·obtain⟨z',Q_,NW,_⟩:=FR y (by lia) MF
     rw[NW]
     by_cases IL:x=y
     ·subst IL;rw[ez]at NW;rw[NW];exact O.refl _
     ·obtain⟨q1,q2⟩:=Ua.mp iz;obtain⟨q3,q4⟩:=Ua.mp Q_;have:=WW.mp gs _ _ q1 q3 (by lia)
      rw[q2,q4]at this;exact this
    ·rw[Lg y (by lia)]
     rcases MD with⟨u,u1,u2,rfl⟩|⟨u,u1,u2,rfl⟩
     ·exact O.trans (s1 u (sb-1) (by lia) (by lia) (by lia)) (g3 y (by lia) h3)
     ·exact s2 u y (by lia) (by lia) h3
   ·rw[Lg x (by lia),Lg y (by lia)]
    exact s2 x y (by lia) h2 h3
 have go:∀(out:Array Ub) (fh:UH),i6 Hn fh->Gd c (a.extract (sa+k) sb) (a.extract sb (sb+m)) out.toList->wpS (model prog w) A E s (do
    modify λs2=>Vk s2 (out.toList.zipIdx.foldl (λx z=>match z with|(p,j)=>x.setIfInBounds (sa+k+j) p) (UN s2))
    let y <- get
    pure (Ww y).isNone:StateT UH Sem Bool) Q fh:=fin
 have O8:0<(a.extract (sa+k) sb).size:=by lia
 have O7:0<(a.extract sb (sb+m)).size:=by lia
 have Sx:∀t,t<(a.extract (sa+k) sb).size->el (a.extract (sa+k) sb) t∈a₀.toList:=λt ht=>by rw[ex (by lia)];exact hm (by lia)
 have Sy:∀t,t<(a.extract sb (sb+m)).size->el (a.extract sb (sb+m)) t∈a₀.toList:=λt ht=>by rw[ey (by lia)];exact hm (by lia)
 have OA:SR c (a.extract (sa+k) sb) 0 (a.extract (sa+k) sb).size:=λx y h1 h2 h3=>by
  rw[ex (by lia),ex (by lia)]
  exact s1 _ _ (by lia) (by lia) (by lia)
 have Oz:SR c (a.extract sb (sb+m)) 0 (a.extract sb (sb+m)).size:=λx y h1 h2 h3=>by
  rw[ey (by lia),ey (by lia)]
  exact s2 _ _ (by lia) (by lia) (by lia)
 have hf:c (el (a.extract sb (sb+m)) 0) (el (a.extract (sa+k) sb) 0)=true:=by
  rw[ex (by lia),ey (by lia)]
  exact g1
 have hl:∀y,y<(a.extract sb (sb+m)).size->c (el (a.extract sb (sb+m)) y) (el (a.extract (sa+k) sb) ((a.extract (sa+k) sb).size-1))=true:=λy hy=>by
  rw[ey (by lia),ex (by lia),show sa+k+((a.extract (sa+k) sb).size-1)=sb-1 by lia]
  exact g2 _ (by lia) (by lia)
 by_cases e3:na-k<=m
 ·rw[if_pos e3];exact Ug (rC O L u6 Sx Sy OA Oz O8 O7 hf hl go)
 ·rw[if_neg e3];exact Ug (rD O L u6 Sx Sy OA Oz O8 O7 hf hl go)
end
section
variable {c:Ub->Ub->Bool}{a b:Array Ub}
def Runs (c:Ub->Ub->Bool)(a:Array Ub):List (Nat×Nat×Nat)->Nat->Nat->Prop
 |[],lo,hi=>lo=hi
 |z::r,lo,hi=>z.1=lo/\1<=z.2.1/\SR c a lo (lo+z.2.1)/\Runs c a r (lo+z.2.1) hi
theorem Runs.app:∀{l r:List (Nat×Nat×Nat)} {lo hi:Nat},Runs c a (l++r) lo hi->∃m,Runs c a l lo m/\Runs c a r m hi
 |[],r,lo,hi,h=>⟨lo,rfl,h⟩
 |z::l,r,lo,hi,⟨h1,h2,h3,h4⟩=>by
  obtain⟨m,g1,g2⟩:=Runs.app h4;exact⟨m,⟨h1,h2,h3,g1⟩,g2⟩
theorem Runs.join:∀{l r:List (Nat×Nat×Nat)} {lo m hi:Nat},Runs c a l lo m->Runs c a r m hi->Runs c a (l++r) lo hi
 |[],r,lo,m,hi,h,g=>by
  obtain rfl:lo=m:=h;exact g
 |z::l,r,lo,m,hi,⟨h1,h2,h3,h4⟩,g=>⟨h1,h2,h3,Runs.join h4 g⟩
theorem Runs.len:∀{l:List (Nat×Nat×Nat)} {lo hi:Nat},Runs c a l lo hi->lo+l.length<=hi
 |[],lo,hi,h=>Nat.le_of_eq h
 |z::l,lo,hi,⟨h1,h2,h3,h4⟩=>by
  have:=Runs.len h4;rw[Um];lia
theorem Runs.congr:∀{l:List (Nat×Nat×Nat)} {lo hi:Nat},Runs c a l lo hi->(∀k,lo<=k->k<hi->el b k=el a k)->Runs c b l lo hi
 |[],lo,hi,h,_=>h
 |z::l,lo,hi,⟨h1,h2,h3,h4⟩,e=>by
  have hl:=Runs.len h4;exact⟨h1,h2,h3.congr λk g1 g2=>e k g1 (by lia),Runs.congr h4 λk g1 g2=>e k (by lia) g2⟩
theorem Runs.pow:∀{l l':List (Nat×Nat×Nat)} {lo hi:Nat},Runs c a l lo hi->l'.map (λz=>(z.1,z.2.1))=l.map (λz=>(z.1,z.2.1))->Runs c a l' lo hi
 |[],[],_,_,h,_=>h
 |[],z::l',_,_,_,e=>by cases e
 |z::l,[],_,_,_,e=>by cases e
 |z::l,z'::l',lo,hi,⟨h1,h2,h3,h4⟩,e=>by
  rw[Uy,Uy]at e;injection e with e1 e2
  injection e1 with e3 e4
  exact⟨e3.trans h1,by rw[e4];exact h2,by rw[e4];exact h3,by rw[e4];exact Runs.pow h4 e2⟩
end
section
variable {prog:T7}{w:Ur}{A:U6}{E:TY->T3->Prop}{s:T3}{κ:Wj}{c:Ub->Ub->Bool}{a₀:Array Ub}
theorem Ei {α:Type}{l:List α}{i:Nat}(h:i+1<l.length):∃l1 x y l2,l=l1++x::y::l2/\l1.length=i:=by
 refine⟨l.take i,l[i],l[i+1],l.drop (i+2),?_,by rw[Ut];lia⟩
 rw[<- Vy h,<- Vy (by lia),VN]
theorem mn (O:cc c)(L:ff prog w A E s κ c (·∈a₀.toList)){st:UH}{i hi:Nat}{Q:Bool->UH->Prop}(h0:i5 κ a₀ st)(hr:Runs c (UN st) (UC st).toList 0 hi)(hh:hi<=a₀.size)(Pt:i+1<(UC st).size)
  (h:∀aD,i5 κ a₀ aD->Rg (UN st) (UN aD) 0 hi->Runs c (UN aD) (UC aD).toList 0 hi->(UC aD).size+1=(UC st).size->Q true aD) :
  wpS (model prog w) A E s (mergeAt' i) Q st:=by
 obtain⟨l1,⟨sa,na,pw⟩,⟨sb,nb,L6⟩,l2,el,hl⟩:=Ei (l:=(UC st).toList) (i:=i) (by rw[Ue];exact Pt)
 rw[el]at hr;obtain⟨m,r1,r2⟩:=hr.app;obtain⟨x1,x2,x3,y1,y2,y3,r3⟩:=r2;dsimp only at x1 x2 x3 y1 y2 y3 r3;have hlen:=r3.len;have Pj:=r1.len;have p1:(UC st)[i]?=some (sa,na,pw):=by
  rw[<- Uv,el,UZ (by lia),hl,WO]
  rfl
 have p2:(UC st)[i+1]?=some (sb,nb,L6):=by
  rw[<- Uv,el,UZ (by lia),hl,show i+1-i=1 by lia]
  rfl
 subst x1;refine rE O L h0 p1 p2 y1 x2 y2 (by lia) (by rw[y1];exact x3) (by rw[y1];exact y3) λaD k1 k2 k3 R S=>?_
 have ep:(UC aD).toList=l1++(sa,na+nb,pw)::l2:=by
  rw[k3];have hz:i+1<((UC st).setIfInBounds i (sa,na+nb,pw)).size:=by rw[Xb];exact Pt
  have e1:(((UC st).setIfInBounds i (sa,na+nb,pw)).eraseIdxIfInBounds (i+1)).toList=((UC st).toList.set i (sa,na+nb,pw)).eraseIdx (i+1):=by
   unfold Array.eraseIdxIfInBounds;rw[dif_pos hz,Array.toList_eraseIdx,Array.toList_setIfInBounds]
  rw[e1,el,<- hl,List.set_append_right _ _ (T4 _),WO,List.set_cons_zero,List.eraseIdx_append_of_length_le (by lia),show l1.length+1-l1.length=1 by lia]
  rfl
 have out:∀k,(k<sa\/sb+nb<=k)->TS.el (UN aD) k=TS.el (UN st) k:=R.out;refine h aD ⟨k1,k2,R.perm.trans h0.perm⟩ (R.mono (Uh _) (by lia)) ?_ ?_
 ·rw[ep];refine Runs.join (r1.congr λk g1 g2=>out k (.inl (by lia))) ⟨rfl,by show 1<=na+nb;lia,?_,?_⟩
  ·show SR c (UN aD) sa (sa+(na+nb));rw[show sa+(na+nb)=sb+nb by lia]
   exact S
  ·show Runs c (UN aD) l2 (sa+(na+nb)) hi;rw[show sa+(na+nb)=sa+na+nb by lia]
   exact r3.congr λk g1 g2=>out k (.inr (by lia))
 ·have e2:(UC aD).size=l1.length+(l2.length+1):=by rw[<- Ue,ep,Ui,Um]
  have e3:(UC st).size=l1.length+(l2.length+1+1):=by rw[<- Ue,el,Ui,Um,Um]
  lia
theorem kX:∀(f n r:Nat),1<=n->1<=minRun' f n r
 |0,n,r,h=>by show 1<=n+r;lia
 |f+1,n,r,h=>by
  rw[minRun'_succ]
  split
  ·lia
  ·exact kX f _ _ (by lia)
theorem A_ (p:Array (Nat×Nat×Nat))(i w:Nat):(p.modify i λx=>(x.1,x.2.1,w)).toList.map (λz=>(z.1,z.2.1))=p.toList.map (λz=>(z.1,z.2.1)):=by
 apply Vm;intro k;rw[T6,T6,Uv,Uv,Array.getElem?_modify]
 split
 ·rw[Option.map_map];rfl
 ·rfl
theorem oV (O:cc c)(L:ff prog w A E s κ c (·∈a₀.toList)){st:UH}{Q:Unit->UH->Prop}(h0:i5 κ a₀ st)(hp:UC st=#[])(h2:2<=a₀.size)
  (h:∀aD,i5 κ a₀ aD->SR c (UN aD) 0 a₀.size->Q () aD):wpS (model prog w) A E s sortRuns' Q st:=by
 rw[sortRuns'_eq];refine Ug (WY ?_);dsimp only;rw[h0.size];have RD:=kX a₀.size a₀.size 0 (by lia)
 generalize minRun' a₀.size a₀.size 0=mr at RD;refine Ug (VB (U7 (I:=λx r aD=>i5 κ a₀ aD/\∃lo,r=(none,lo)/\lo<=a₀.size/\(a₀.size<=lo\/x<=lo)/\Runs c (UN aD) (UC aD).toList 0 lo)
  (Q:=λr aD=>i5 κ a₀ aD/\r=(none,a₀.size)/\Runs c (UN aD) (UC aD).toList 0 a₀.size) ?_ ?_ ?_) ?_)
 ·rintro x r aD _ hx ⟨hS,lo,rfl,K4,RK,hr⟩;dsimp only
  by_cases hl:lo >= a₀.size
  ·rw[if_pos hl];obtain rfl:lo=a₀.size:=by lia
   exact Uo ⟨hS,rfl,hr⟩
  rw[if_neg hl];refine Ug (xb O L hS (by lia) (by lia) λn b n1 n2 R Sb=>?_)
  dsimp only;have rp:i5 κ a₀ (Vk aD b):=hS.set R;have l5:Runs c (UN (Vk aD b)) (UC (Vk aD b)).toList 0 lo:=Runs.congr (b:=b) hr λk q1 q2=>R.out k (.inl q2);refine(λ(key:∀(N:Nat) (stx:UH),1<=N->lo+N<=a₀.size->Runs c (UN stx) (UC stx).toList 0 lo->i5 κ a₀ stx->SR c (UN stx) lo (lo+N)->(?G:Nat->UH->Prop) N stx)=>?main) ?key
  case main =>
   by_cases Pf:n<mr
   ·rw[if_pos Pf];refine Ug (Xz (WA ⟨rfl,?_⟩));refine Ug (DS O L rp (by lia) (by lia) (by lia) Sb λb' R' SM=>?_)
    rw[if_neg (by simp)]
    have Lb:1<=min (a₀.size-lo) mr:=by lia
    have NN:lo+min (a₀.size-lo) mr<=a₀.size:=by lia
    have l5:Runs c (UN (Vk (Vk aD b) b')) (UC (Vk (Vk aD b) b')).toList 0 lo:=Runs.congr (b:=b') l5 λk q1 q2=>R'.out k (.inl q2);have rp:i5 κ a₀ (Vk (Vk aD b) b'):=rp.set R';have DF:SR c (UN (Vk (Vk aD b) b')) lo (lo+(min (a₀.size-lo) mr)):=SM;generalize Vk (Vk aD b) b'=stx at l5 rp DF ⊢
    generalize min (a₀.size-lo) mr=N at Lb NN DF ⊢
    exact key N stx Lb NN l5 rp DF
   ·rw[if_neg Pf];have DF:SR c (UN (Vk aD b)) lo (lo+n):=Sb;exact key n _ n1 (by lia) l5 rp DF
  case key =>
   intro N stx Lb NN l5 rp DF;refine Ug (WY ?_);have Kv:∀(j9:UH),i5 κ a₀ j9->SR c (UN j9) lo (lo+N)->Runs c (UN j9) (UC j9).toList 0 lo->i5 κ a₀ (WB j9 ((UC j9).push (lo,N,0)))/\∃C3,((none,lo+N):Option Unit×Nat)=(none,C3)/\C3<=a₀.size/\(a₀.size<=C3\/x+1<=C3)/\Runs c (UN j9) ((UC j9).push (lo,N,0)).toList 0 C3:=λj9 g1 g2 g3 =>
    ⟨⟨g1.kind,g1.fail,g1.perm⟩,_,rfl,by lia,by lia,by rw[VF];exact g3.join ⟨rfl,Lb,g2,rfl⟩⟩
   cases hb:(UC stx).back? with
   |none =>
    dsimp only;exact Ug (V6 (Uo (Kv stx rp DF l5)))
   |some z =>
    obtain⟨s1,n1,p1⟩:=z;dsimp only;refine Ug (VB (U7 (I:=λx r aD=>r=(none,())/\i5 κ a₀ aD/\SR c (UN aD) lo (lo+N)/\Runs c (UN aD) (UC aD).toList 0 lo)
     (Q:=λr aD=>r=(none,())/\i5 κ a₀ aD/\SR c (UN aD) lo (lo+N)/\Runs c (UN aD) (UC aD).toList 0 lo) ?_ ?_ ?_) ?_)
    ·rintro y r j9 _ _ ⟨rfl,g1,g2,g3⟩;refine Ug (WY ?_)
     by_cases JN:(UC j9).size>1
     ·rw[if_pos JN];cases hq:(UC j9)[(UC j9).size-2]? with
      |none =>
       dsimp only;exact Uo ⟨rfl,g1,g2,g3⟩
      |some z =>
       obtain⟨u,v,ON⟩:=z;dsimp only
       split
       ·exact Uo ⟨rfl,g1,g2,g3⟩
       ·refine Ug (mn O L g1 g3 (by lia) (by lia) λHl f1 f2 f3 f4=>?_)
        exact Uo ⟨rfl,f1,g2.congr λk q1 q2=>f2.out k (.inr q1),f3⟩
     ·rw[if_neg JN];dsimp only;exact Uo ⟨rfl,g1,g2,g3⟩
    ·rintro r j9 ⟨rfl,g1,g2,g3⟩;exact⟨rfl,g1,g2,g3⟩
    ·exact⟨rfl,rp,DF,l5⟩
    rintro r j9 ⟨rfl,g1,g2,g3⟩;dsimp only;refine Ug (V6 (Ug (V6 (Uo ?_))));exact Kv (WB j9 _) ⟨g1.kind,g1.fail,g1.perm⟩ g2 (g3.pow (A_ _ _ _))
 ·rintro r aD ⟨hS,lo,rfl,K4,RK,hr⟩;obtain rfl:lo=a₀.size:=by lia
  exact⟨hS,rfl,hr⟩
 ·exact⟨h0,0,rfl,Uh _,.inr (T4 _),by rw[hp];rfl⟩
 rintro r aD ⟨hS,rfl,hr⟩;dsimp only;refine Ug (VB (U7 (I:=λx r aD=>r=(none,())/\i5 κ a₀ aD/\Runs c (UN aD) (UC aD).toList 0 a₀.size/\((UC aD).size<=1\/(UC aD).size+x<=a₀.size))
  (Q:=λr aD=>r=(none,())/\i5 κ a₀ aD/\Runs c (UN aD) (UC aD).toList 0 a₀.size/\(UC aD).size<=1) ?_ ?_ ?_) ?_)
 ·rintro x r fh _ hx ⟨rfl,rp,l5,hz⟩;refine Ug (WY ?_)
  by_cases h1:(UC fh).size<=1
  ·rw[if_pos h1];exact Uo ⟨rfl,rp,l5,h1⟩
  rw[if_neg h1];refine Ug (mn O L rp l5 (T4 _) ?_ λj9 R8 R3 Ro Tr=>?_)
  ·split
   ·split <;> lia
   ·rw[if_neg (by simp)]
    lia
  ·exact Uo ⟨rfl,R8,Ro,.inr (by lia)⟩
 ·rintro r fh ⟨rfl,rp,l5,hz⟩;exact⟨rfl,rp,l5,by lia⟩
 ·refine⟨rfl,hS,hr,.inr ?_⟩;have:=hr.len;rw[Ue]at this;lia
 ·rintro r fh ⟨rfl,rp,l5,hz⟩;refine Uo (h fh rp ?_)
  match hq:(UC fh).toList,l5 with
  |[],e=>
   have:(0:Nat)=a₀.size:=e;lia
  |[z],e =>
   obtain⟨e1,e2,e3,e4⟩:=e;have e4:0+z.2.1=a₀.size:=e4;rw[e4]at e3;exact e3
  |z::y::l,e =>
   have:(UC fh).toList.length<=1:=by rw[Ue];exact hz
   rw[hq]at this;simp at this
end
theorem lex_nil {y:List Int}:HT.lexLt [] y=decide (0<y.length):=by cases y <;> rfl
theorem hE {a b:Int}{x y:List Int}:HT.lexLt (a::x) (b::y)=if a=b then HT.lexLt x y else decide (a<b):=rfl
theorem qe:∀{x y:List Int},HT.lexLt x y=true->HT.lexLt y x=false
 |[],[],_=>rfl
 |[],_::_,_=>rfl
 |_::_,[],h=>by cases h
 |a::x,b::y,h=>by
  rw[hE]at h ⊢
  by_cases e:a=b
  ·rw[if_pos e]at h;rw[if_pos e.symm];exact qe h
  ·rw[if_neg e]at h;rw[if_neg λz=>e z.symm];have:=of_decide_eq_true h;exact decide_eq_false (by lia)
theorem ug:∀{x z:List Int} (y:List Int),HT.lexLt x z=true->HT.lexLt x y=true\/HT.lexLt y z=true
 |[],[],_,h=>by cases h
 |[],_::_,[],h=>.inr rfl
 |[],_::_,_::_,h=>.inl rfl
 |_::_,[],_,h=>by cases h
 |a::x,b::z,[],h=>.inr rfl
 |a::x,b::z,d::y,h=>by
  rw[hE]at h ⊢
  rw[hE]
  by_cases e:a=b
  ·subst e;rw[if_pos rfl]at h
   by_cases e2:a=d
   ·subst e2;rw[if_pos rfl,if_pos rfl];exact ug y h
   ·rw[if_neg e2,if_neg λq=>e2 q.symm]
    by_cases e3:a<d
    ·exact .inl (decide_eq_true e3)
    ·exact .inr (decide_eq_true (by lia))
  ·rw[if_neg e]at h;have h:=of_decide_eq_true h
   by_cases e2:a=d
   ·subst e2;rw[if_neg e];exact .inr (decide_eq_true h)
   ·rw[if_neg e2]
    by_cases e3:a<d
    ·exact .inl (decide_eq_true e3)
    ·rw[if_neg (by lia)]
     exact .inr (decide_eq_true (by lia))
def byKey (kf:TY->List Int)(x y:Ub):Bool:=HT.lexLt (kf x.1) (kf y.1)
theorem Bi (kf:TY->List Int):cc (byKey kf):=⟨λ_ _ h=>qe h,λ_ y _ h=>ug (kf y.1) h⟩
section
variable {prog:T7}{w:Ur}{A:U6}{E:TY->T3->Prop}{s:T3}
theorem qd {b:Bool}{Q:Bool->T3->Prop}:∀{ns ms:List Int} {us vs:List TY} (i:Nat),Xk us ns->Xk vs ms->Q (HT.lexLt ns ms) s->PySem.W.KatLex prog w A b (decide (ns.length<ms.length)) Q (us.zip vs) i s
 |[],ms,us,vs,i,hu,hv,q=>by
  cases hu;rw[X9];rw[lex_nil]at q;exact PySem.W.kat_nil q
 |n::ns,[],us,vs,i,hu,hv,q=>by
  cases hv;rw[List.zip_nil_right];exact PySem.W.kat_nil q
 |n::ns,m::ms,us,vs,i,hu,hv,q=>by
  cases hu with
  |cons _ t hu =>
   cases hv with
   |cons _ t' hv =>
    rw[WT];refine PySem.W.kat_cons (wpAny_eqBool_int ?_);rw[hE]at q
    by_cases e:n=m
    ·subst e;rw[if_pos rfl]at q;rw[beq_self_eq_true];have:=qd (b:=b) (Q:=Q) (i+1) hu hv q;rw[show decide ((n::ns).length<(n::ms).length)=decide (ns.length<ms.length) by rw[Um,Um];congr 1;simp]
     exact PySem.W.kat_yes this
    ·rw[if_neg e]at q;rw[show (n==m)=false from beq_eq_false_iff_ne.mpr e]
     refine PySem.W.kat_no ?_;cases b&&i==0 with
     |true=>exact oneLt_int q
     |false=>exact PySem.W.kat_one _ _ (lt_int q)
def ml (h:Heap)(kf:TY->List Int)(a:Addr)(vs:List TY):Prop :=
 ∀v∈vs,∃t o xs k,v=.ref t/\t≠a/\h.get? t=some o/\o.cls=.type "tuple" /\ o.data=.seq xs k/\Xk xs.toList (kf v)/\kf v≠[]
theorem vH {kf:TY->List Int}{a:Addr}{vs:List TY}{b:Bool}{a₀:Array Ub}(T:ml s.heap kf a vs)(hm:∀z∈a₀.toList,z.1∈vs):ff prog w A E s (tuples' b) (byKey kf) (·∈a₀.toList):=by
 intro x y st Q hx hy hk q;obtain⟨t,o,xs,n,e1,_,e2,_,e3,e4,_⟩:=T _ (hm _ hx);obtain⟨t',o',Oq,n',f1,_,f2,_,f3,f4,_⟩:=T _ (hm _ hy);rw[lt'_eq];refine Ug (WY ?_);rw[hk,e1,f1];have z1:xs.size=(kf x.1).length:=by rw[<- Ue];exact e4.length
 have z2:Oq.size=(kf y.1).length:=by rw[<- Ue];exact f4.length
 refine Ug (Xz (wpAny_attempt (PySem.W.kat_lt e2 e3 f2 f3 ?_)));rw[z1,z2];exact qd 0 e4 f4 ⟨rfl,Uo q⟩
theorem j6 {kf:TY->List Int}{a:Addr}{h:Heap}:∀{vs:List TY},ml h kf a vs->∃fs:List TY,PySem.W.KatTups h vs fs/\fs.length=vs.length/\∀f∈fs,∃n t,f=Value.int n t
 |[],_=>⟨[],trivial,rfl,λf hf=>by cases hf⟩
 |v::vs,T=>by
  obtain⟨fs,h1,h2,h3⟩:=j6 (vs:=vs) λu hu=>T u (UA _ hu);obtain⟨t,o,xs,k,rfl,_,e2,e3,e4,e5,e6⟩:=T v Uz;obtain⟨f,r,ef,n,tk,hn⟩:∃f r,xs.toList=f::r/\∃n tk,f=Value.int n tk:=by
   generalize kf (.ref t)=ks at e5 e6;generalize xs.toList=us at e5;cases e5 with
   |nil=>exact absurd rfl e6
   |cons n tk r=>exact⟨_,_,rfl,_,_,rfl⟩
  have e:xs[0]?=some f:=by rw[<- Uv,ef];rfl
  exact⟨f::fs,PySem.W.KatTups.cons e2 e3 e4 e h1,by rw[Um,Um,h2],λg hg=>by
   rcases Uc.mp hg with rfl|hg
   ·exact⟨_,_,hn⟩
   ·exact h3 g hg⟩
theorem vN {kf:TY->List Int}{a:Addr}{vs:List TY}{Q:Wj->T3->Prop}(T:ml s.heap kf a vs)(h0:0<vs.length)(q:Q (tuples' true) s):UQ (model prog w) A (keyKind' vs.toArray) Q E s:=by
 obtain⟨fs,h1,h2,h3⟩:=j6 T;refine PySem.W.kat_kind (T:=.type "int") h1 (by lia) (λv hv=>?_) (by decide) q
 obtain⟨n,t,rfl⟩:=h3 v hv;exact .now
theorem xJ {α:Type}{R:α->α->Prop}:∀{l:List α},l.length<2->l.Pairwise R
 |[],_=>.nil
 |[x],_=>List.pairwise_singleton _ _
 |_::_::_,h=>by
  rw[Um,Um]at h;lia
theorem sC {a:Addr} {vs:List TY} {n:Nat} {κ:Wj} {c:TY->TY->Bool} {P:PySem.Fin->T3->Prop} (ho:s.heap.get? a=some (VV "list" vs.toArray n)) (hz:vs.length<=1000000) (O:cc λx y=>c x.1 y.1)
  (T:∀s':T3,(∀t o,t≠a->s.heap.get? t=some o->s'.heap.get? t=some o)->(2<=vs.length->∀(Q:Wj->T3->Prop),Q κ s'->UQ (model prog w) A (keyKind' vs.toArray) Q E s')/\ff prog w A E s' κ (λx y=>c x.1 y.1) (·∈(vs.toArray.zip vs.toArray).toList))
  (h:∀out:List TY,out.Perm vs->out.Pairwise (λx y=>c y x=false)->P (.done (.ret .none)) {s with heap:=sortedHeap s.heap a vs out.toArray}) :
  UQ (model prog w) A (Wr.«list.sort» ⟨[.ref a],[]⟩) P E s:=by
 have la:a<s.heap.objs.size:=Us ho;obtain⟨ep,hc⟩:∃ep,(s.heap.update a (V8 λ_=>#[])).get? a=some (VV "list" #[] ep):=⟨_,get?_update_seq ho (λ_=>#[])⟩;have old:∀t o,t≠a->s.heap.get? t=some o->(((s.heap.update a (V8 λ_=>#[])).push (VV "tuple" vs.toArray 0)).push (VV "list" #[] 0)).get? t=some o:=λt o ht e =>
  Ud _ (Ud _ (by rw[Heap.get?_update_ne _ _ _ _ ht];exact e))
 have qk:(((s.heap.update a (V8 λ_=>#[])).push (VV "tuple" vs.toArray 0)).push (VV "list" #[] 0)).get? a=some (VV "list" #[] ep):=Ud _ (Ud _ hc);have big:∀m:Nat,m<=vs.length->m<=Ul:=λm hm=>by rw[U8];lia
 have zz:vs.toArray.size=vs.length:=by simp
 rw[list_sort_plain];refine TZ (listItems_at ho rfl ?_);refine TZ (listUpdate_at ho rfl ?_ (big _ (Nat.le_of_eq zz)) (Uh _));refine TZ (seqEpoch_at hc rfl ?_);refine TZ (wpAny_newTuple ?_ (big _ (T4 _)));refine TZ (wpAny_newList ?_ (Uh _));refine Vs ?_;show UQ (model prog w) A _ P E {s with heap:=((s.heap.update a (V8 λ_=>#[])).push (VV "tuple" vs.toArray 0)).push (VV "list" #[] 0)}
 dsimp only;have done:∀aD:UH,(UN aD).Perm (vs.toArray.zip vs.toArray)->(UN aD).toList.Pairwise (le λx y=>c x.1 y.1)->P (.done (.ret .none)) {s with heap:=sortedHeap s.heap a vs ((UN aD).map (·.2))}:=λaD hp hs=>by
  have h1:∀z∈(UN aD).toList,z.1=z.2:=λz hz=>by
   have:=(Wa.mp hp).mem_iff.mp hz;rw[Yh]at this;obtain⟨i,hi⟩:=V9 this;rw[List.getElem?_zip_eq_some]at hi;exact UD (hi.1.symm.trans hi.2)
  have e2:(UN aD).map (·.2)=((UN aD).toList.map (·.2)).toArray:=by
   apply Array.toList_inj.mp;rw[Array.toList_map]
  rw[e2];refine h _ ?_ ?_
  ·have:=(Wa.mp hp).map (λz:Ub=>z.2);rw[Yh]at this;refine this.trans (Xs ?_);exact List.map_snd_zip (by simp)
  ·rw[VP];refine hs.imp_of_mem λ{x y} hx hy hl=>?_;rw[<- h1 x hx,<- h1 y hy];exact hl
 by_cases h2:vs.toArray.size<2
 ·rw[if_pos h2,if_pos h2];refine TZ (Uj ?_);rw[StateT.run_pure];refine TZ (Uj ?_);dsimp only;refine TZ (seqEpoch_at qk rfl ?_);refine TZ (listUpdate_at qk rfl ?_ (Uh _) (by rw[YF,YE];exact U3 (big _ (by lia)) (Nat.le_succ _)))
  simp only[bne_self_eq_false,XZ,if_false];refine Uj (done (SortSt.mk' general' (vs.toArray.zip vs.toArray) #[] 7 none) (Ys _) ?_);refine xJ ?_;show (vs.toArray.zip vs.toArray).toList.length<2;rw[Ue,YE];lia
 ·rw[if_neg h2,if_neg h2];obtain⟨hK,L⟩:=T {s with heap:=((s.heap.update a (V8 λ_=>#[])).push (VV "tuple" vs.toArray 0)).push (VV "list" #[] 0)} old
  refine TZ (hK (by lia) _ ?_)
  have zp:(vs.toArray.zip vs.toArray).size=vs.length:=by rw[YE];lia
  refine TZ (WQ (oV (Q:=λ_ aD=>(UN aD).Perm (vs.toArray.zip vs.toArray)/\Ww aD=none/\SR (λx y=>c x.1 y.1) (UN aD) 0 vs.length) O L
   (st:=SortSt.mk' κ (vs.toArray.zip vs.toArray) #[] 7 none) ⟨rfl,rfl,Ys _⟩ rfl (by lia) λaD g1 g2=>⟨g1.perm,g1.fail,by rw[zp]at g2;exact g2⟩) ?_ λ_ _ e=>e)
  rintro⟨⟨⟩,aD⟩ s' ⟨rfl,hp,hf,hs⟩;dsimp only;have zs:(UN aD).size=vs.length:=hp.size_eq.trans zp;refine TZ (seqEpoch_at qk rfl ?_);refine TZ (listUpdate_at qk rfl ?_ (Uh _) (by rw[YF,zs];exact U3 (big _ (T4 _)) (Nat.le_succ _)))
  rw[hf];simp only[bne_self_eq_false,XZ,if_false];refine Uj (done aD hp ?_);rw[WW];intro i j hi hj aF;rw[Ue]at hi hj;have:=hs i j (Uh _) (by lia) (by lia)
  have ei:el (UN aD) i=(UN aD).toList[i]:=uA (by rw[<- Uv];exact T5 _)
  have ej:el (UN aD) j=(UN aD).toList[j]:=uA (by rw[<- Uv];exact T5 _)
  rw[ei,ej]at this;exact this
theorem k7 {a:Addr} {vs:List TY} {n:Nat} {kf:TY->List Int} {P:PySem.Fin->T3->Prop} (ho:s.heap.get? a=some (VV "list" vs.toArray n)) (hz:vs.length<=1000000) (T:ml s.heap kf a vs)
  (h:∀out:List TY,out.Perm vs->out.Pairwise (λx y=>HT.lexLt (kf y) (kf x)=false)->P (.done (.ret .none)) {s with heap:=sortedHeap s.heap a vs out.toArray}) :
  UQ (model prog w) A (Wr.«list.sort» ⟨[.ref a],[]⟩) P E s:=by
 refine sC (κ:=tuples' true) (c:=λx y=>HT.lexLt (kf x) (kf y)) ho hz (Bi kf) (λs' kp=>?_) h;have T':ml s'.heap kf a vs:=λv hv=>by
  obtain⟨t,o,xs,k,e1,e2,e3,r⟩:=T v hv;exact⟨t,o,xs,k,e1,e2,kp t o e2 e3,r⟩
 exact⟨λh2 Q q=>vN T' (by lia) q,vH T' λz hz=>by
  rw[Yh]at hz;exact(Xq hz).1⟩
end
end TS
namespace ST
open PySem PyProof.Rows
section
variable {prog:T7}{w:Ur}{A:U6}{E:TY->T3->Prop}{s:T3}
abbrev TK (prog:T7)(w:Ur):=Xd (intKind prog w)
abbrev kH (prog:T7)(w:Ur)(k:List Int):Int:=(TK prog w).hash k
abbrev ent (prog:T7)(w:Ur)(x:Addr×List Int):Int×TY:=(kH prog w x.2,.ref x.1)
structure cH (prog:T7)(w:Ur)(o:Obj)(ts:List (Addr×List Int))(es:Array (Int×TY))(ep:Nat)(t:SetTable):Prop where
 ex:o.ExactSet
 dat:o.data=.set es ep t
 F6:es.toList=ts.map (ent prog w)
 wf:WF t (ts.map λx=>kH prog w x.2)
 LO:t.place.size*5<t.mask*3
 C1:t.mask<=8191
 led:t.led=!w.params.followText "set-order"
 GB:t.plain=true
 Mm:(ts.map (·.2)).Nodup
def CC (prog:T7)(w:Ur)(h:Heap)(ts:List (Addr×List Int)):Prop:=∀x∈ts,(TK prog w).is h x.2 x.1
theorem cH.fits {o:Obj}{ts:List (Addr×List Int)}{es:Array (Int×TY)}{ep:Nat}{t:SetTable}(S:cH prog w o ts es ep t):t.fits es.size=true:=by
 have h1:=S.wf.sz;have h2:es.size=ts.length:=by rw[<- Ue,S.F6,TX]
 rw[TX]at h1;unfold SetTable.fits SetTable.fill;rw[S.wf.GW,h2,h1];have:=S.LO;simp;lia
theorem cH.size {o:Obj}{ts:List (Addr×List Int)}{es:Array (Int×TY)}{ep:Nat}{t:SetTable}(S:cH prog w o ts es ep t):es.size=ts.length/\t.place.size=ts.length:=by
 have h1:=S.wf.sz;rw[TX]at h1;exact⟨by rw[<- Ue,S.F6,TX],h1⟩
theorem wq (d:Nat)(n:Int)(tk:Tok):ofAClassStatement d (.int n tk)=pure false:=by
 cases d <;> rfl
theorem oX {k:List Int}{b:Addr}{Q:Bool->T3->Prop}(hk:(TK prog w).is s.heap k b)(q:Q false s):UQ (model prog w) A (ofAClassStatement 8 (.ref b)) Q E s:=by
 obtain⟨o,items,n,ho,hc,hd,hi⟩:=hk;have hT:s.TypeIs (.ref b) "tuple" := ⟨o,ho,hc⟩;unfold ofAClassStatement;refine TZ (wpAny_typeOf hT ?_);dsimp only;rw[if_pos (by rfl)]
 refine TZ (Uj ?_);rw[if_neg (by simp)]
 refine TZ (wpAny_seqItems ho hd ?_);dsimp only;rw[<- Array.forIn_toList];refine TZ (Yb _ (λrest r s'=>r=(none,())/\s'=s/\∀v∈rest,∃n tk,v=Value.int n tk) _ ?_ ?_ _ _ ⟨rfl,rfl,?_⟩)
 ·rintro v rest r s' ⟨rfl,rfl,eN⟩;obtain⟨n,tk,rfl⟩:=eN v Uz;rw[wq];refine TZ (Uj ?_);rw[if_neg (by simp)]
  exact Uj ⟨rfl,rfl,λu hu=>eN u (UA _ hu)⟩
 ·rintro r s' ⟨rfl,rfl,_⟩;exact Uj q
 ·generalize items.toList=vs at hi
  induction hi with
  |nil=>intro v hv;cases hv
  | @cons k v ks vs h1 h2 ih =>
   intro u hu;rcases Uc.mp hu with rfl|hu
   ·obtain⟨t,rfl⟩:=X4 h1;exact⟨_,_,rfl⟩
   ·exact ih u hu
theorem Av {k:List Int}{b:Addr}(hk:(TK prog w).is s.heap k b)(l:List (Addr×List Int)){Q:Bool->T3->Prop}(T:CC prog w s.heap l)(q:Q false s):UQ (model prog w) A (searchCouldBeSeen (.ref b) (l.map λx=>Value.ref x.1)) Q E s:=by
 unfold searchCouldBeSeen;refine TZ (Yb _ (λrest r s'=>r=(none,())/\s'=s/\∀v∈rest,∃x∈l,v=Value.ref x.1) _ ?_ ?_ _ _ ⟨rfl,rfl,?_⟩)
 ·rintro v rest r s' ⟨rfl,rfl,eN⟩;obtain⟨x,hx,rfl⟩:=eN v Uz;have Dk:∀v∈rest,∃x∈l,v=Value.ref x.1:=λu hu=>eN u (UA _ hu);dsimp only
  split
  ·exact Uj ⟨rfl,rfl,Dk⟩
  ·refine TZ ((TK prog w).quiet hk ?_);rw[if_neg (by simp)]
   refine TZ ((TK prog w).quiet (T x hx) ?_);rw[if_neg (by simp)]
   refine TZ (oX hk ?_);rw[if_neg (by simp)]
   refine TZ (oX (T x hx) ?_);rw[if_neg (by simp)]
   exact Uj ⟨rfl,rfl,Dk⟩
 ·rintro r s' ⟨rfl,rfl,_⟩;exact Uj q
 ·intro v hv;obtain⟨x,hx,rfl⟩:=UG.mp hv;exact⟨x,hx,rfl⟩
end
end ST
namespace L2
open PySem PySem.Spec PyProof.Rows
inductive D where
 |cE|bl (b:Bool)|int (i:Int)|str (x:Str)|obj (a:Addr)
 |tup (ds:List D)|lst (ds:List D)
 |dT (ks:List (List Key)) (ds:List D)|dK (ks:List Key) (ds:List D)
 |sT (ts:List (List Int))
 |ob (φ:Addr->HO)
def Em (P:T7)(w:Ur)(a:Addr)(ts:List (Addr×List Int))(h:Heap):Prop:=∃o es ep t,h.get? a=some o/\ST.cH P w o ts es ep t
abbrev CF (P:T7)(w:Ur)(a:Addr)(ts:List (Addr×List Int)):HO:=.ext (Em P w a ts)
def CD (P:T7)(w:Ur)(H:Hp)(a:Addr)(ts:List (List Int)):Prop :=
 ∃c8:List (Addr×List Int),H a=some (CF P w a c8)/\(∀x∈c8,H x.1=some (.tup (x.2.map V.int)))/\(c8.map (·.2)).Perm ts
section
variable (P:T7)(w:Ur)(W:Addr->Prop)(H:Hp)
mutual
def aA:D->V->Prop
 |.cE,v=>v=.cE
 |.bl b,v=>v=.bl b
 |.int i,v=>v=.int i
 |.str x,v=>v=.str x
 |.obj a,v=>v=.ref a
 |.tup ds,v=>∃a vs,v=.ref a/\H a=some (.tup vs)/\ai ds vs
 |.lst ds,v=>∃a vs,v=.ref a/\H a=some (.lst vs)/\¬ W a/\ai ds vs
 |.dT ks ds,v=>∃a vs,v=.ref a/\H a=some (.dT (ks.zip vs))/\ks.length=vs.length/\¬ W a/\ai ds vs
 |.dK ks ds,v=>∃a vs,v=.ref a/\H a=some (.dK (ks.zip vs))/\ks.length=vs.length/\¬ W a/\ai ds vs
 |.sT ts,v=>∃a,v=.ref a/\CD P w H a ts/\¬ W a
 |.ob φ,v=>∃a,v=.ref a/\(H a=some (φ a)/\∀xs,φ a≠.tup xs)/\¬ W a
def ai:List D->List V->Prop
 |[],vs=>vs=[]
 |d::ds,vs=>∃v r,vs=v::r/\aA d v/\ai ds r
end
end
mutual
def D.flat:D->Bool
 |.tup ds=>D.bW ds
 |.lst _=>false
 |.dT _ _=>false
 |.dK _ _=>false
 |.sT _=>false
 |.ob _=>false
 |_=>true
def D.bW:List D->Bool
 |[]=>true
 |d::ds=>D.flat d&&D.bW ds
end
structure Kp (W:Addr->Prop)(H H':Hp):Prop where
 out:∀b o,H b=some o->¬ W b->H' b=some o
 tup:∀b xs,H b=some (.tup xs)->H' b=some (.tup xs)
theorem Kp.refl {W:Addr->Prop}{H:Hp}:Kp W H H:=⟨λ_ _ e _=>e,λ_ _ e=>e⟩
theorem Kp.trans {W:Addr->Prop}{H H1 H2:Hp}(a:Kp W H H1)(b:Kp W H1 H2):Kp W H H2:=⟨λc o e n=>b.out c o (a.out c o e n) n,λc xs e=>b.tup c xs (a.tup c xs e)⟩
theorem az.kp {W:Addr->Prop}{H H':Hp}(h:az H H'):Kp W H H':=⟨λb o e _=>h b o e,λb xs e=>h b _ e⟩
theorem Kp.mono {W W':Addr->Prop}{H H':Hp}(h:Kp W H H')(s:∀a,W a->W' a):Kp W' H H':=⟨λb o e n=>h.out b o e λz=>n (s b z),h.tup⟩
section
variable {P:T7}{w:Ur}{W W':Addr->Prop}{H H':Hp}
mutual
theorem aA.keep (k:Kp W H H'):∀{d:D} {v:V},aA P w W H d v->aA P w W H' d v
 |.cE,_,h=>h
 |.bl _,_,h=>h
 |.int _,_,h=>h
 |.str _,_,h=>h
 |.obj _,_,h=>h
 |.tup ds,_,⟨a,vs,e,t,r⟩=>⟨a,vs,e,k.tup a vs t,ai.keep k r⟩
 |.lst ds,_,⟨a,vs,e,t,n,r⟩=>⟨a,vs,e,k.out a _ t n,n,ai.keep k r⟩
 |.dT ks ds,_,⟨a,vs,e,t,l,n,r⟩=>⟨a,vs,e,k.out a _ t n,l,n,ai.keep k r⟩
 |.dK ks ds,_,⟨a,vs,e,t,l,n,r⟩=>⟨a,vs,e,k.out a _ t n,l,n,ai.keep k r⟩
 |.sT ts,_,⟨a,e,⟨c8,t,r,z⟩,n⟩=>⟨a,e,⟨c8,k.out a _ t n,λx hx=>k.tup _ _ (r x hx),z⟩,n⟩
 |.ob φ,_,⟨a,e,⟨t,z⟩,n⟩=>⟨a,e,⟨k.out a _ t n,z⟩,n⟩
theorem ai.keep (k:Kp W H H'):∀{ds:List D} {vs:List V},ai P w W H ds vs->ai P w W H' ds vs
 |[],_,h=>h
 |d::ds,_,⟨v,r,e,h1,h2⟩=>⟨v,r,e,aA.keep k h1,ai.keep k h2⟩
end
mutual
theorem aA.aT (s:∀a,W' a->W a):∀{d:D} {v:V},aA P w W H d v->aA P w W' H d v
 |.cE,_,h=>h
 |.bl _,_,h=>h
 |.int _,_,h=>h
 |.str _,_,h=>h
 |.obj _,_,h=>h
 |.tup ds,_,⟨a,vs,e,t,r⟩=>⟨a,vs,e,t,ai.aT s r⟩
 |.lst ds,_,⟨a,vs,e,t,n,r⟩=>⟨a,vs,e,t,λz=>n (s a z),ai.aT s r⟩
 |.dT ks ds,_,⟨a,vs,e,t,l,n,r⟩=>⟨a,vs,e,t,l,λz=>n (s a z),ai.aT s r⟩
 |.dK ks ds,_,⟨a,vs,e,t,l,n,r⟩=>⟨a,vs,e,t,l,λz=>n (s a z),ai.aT s r⟩
 |.sT ts,_,⟨a,e,t,n⟩=>⟨a,e,t,λz=>n (s a z)⟩
 |.ob φ,_,⟨a,e,t,n⟩=>⟨a,e,t,λz=>n (s a z)⟩
theorem ai.aT (s:∀a,W' a->W a):∀{ds:List D} {vs:List V},ai P w W H ds vs->ai P w W' H ds vs
 |[],_,h=>h
 |d::ds,_,⟨v,r,e,h1,h2⟩=>⟨v,r,e,aA.aT s h1,ai.aT s h2⟩
end
mutual
theorem aA.flat:∀{d:D} {v:V},d.flat=true->aA P w W H d v->aA P w W' H d v
 |.cE,_,_,h=>h
 |.bl _,_,_,h=>h
 |.int _,_,_,h=>h
 |.str _,_,_,h=>h
 |.obj _,_,_,h=>h
 |.tup ds,_,f,⟨a,vs,e,t,r⟩=>⟨a,vs,e,t,ai.flat (by simpa[D.flat] using f) r⟩
 |.lst ds,_,f,_=>by simp[D.flat]at f
 |.dT ks ds,_,f,_=>by simp[D.flat]at f
 |.dK ks ds,_,f,_=>by simp[D.flat]at f
 |.sT ts,_,f,_=>by simp[D.flat]at f
 |.ob φ,_,f,_=>by simp[D.flat]at f
theorem ai.flat:∀{ds:List D} {vs:List V},D.bW ds=true->ai P w W H ds vs->ai P w W' H ds vs
 |[],_,_,h=>h
 |d::ds,_,f,⟨v,r,e,h1,h2⟩=>by
  have f':(d.flat&&D.bW ds)=true:=f;rw[Vf]at f';exact⟨v,r,e,aA.flat f'.1 h1,ai.flat f'.2 h2⟩
end
theorem aA.same (s:az H H'){d:D}{v:V}(h:aA P w W H d v):aA P w W H' d v:=h.keep s.kp
theorem ai.same (s:az H H'){ds:List D}{vs:List V}(h:ai P w W H ds vs):ai P w W H' ds vs:=h.keep s.kp
theorem ai.length:∀{ds:List D} {vs:List V},ai P w W H ds vs->vs.length=ds.length
 |[],_,h=>by rw[show _=[] from h];rfl
 |d::ds,_,⟨v,r,e,h1,h2⟩=>by rw[e,Um,Um,ai.length h2]
theorem ai.get:∀{ds:List D} {vs:List V} {i:Nat} {d:D},ai P w W H ds vs->ds[i]?=some d->∃v,vs[i]?=some v/\aA P w W H d v
 |[],_,_,_,_,e=>by simp at e
 |d::ds,_,0,_,⟨v,r,e,h1,h2⟩,e'=>by simp at e';subst e' e;exact⟨v,by simp,h1⟩
 |d::ds,_,i+1,_,⟨v,r,e,h1,h2⟩,e'=>by
  subst e;obtain⟨u,e1,e2⟩:=ai.get (i:=i) h2 (by simpa using e')
  exact⟨u,by simpa using e1,e2⟩
theorem ai.append:∀{ds ds':List D} {vs vs':List V},ai P w W H ds vs->ai P w W H ds' vs'->ai P w W H (ds++ds') (vs++vs')
 |[],_,_,_,h,h'=>by rw[show _=[] from h];exact h'
 |d::ds,_,_,_,⟨v,r,e,h1,h2⟩,h'=>by subst e;exact⟨v,_,rfl,h1,ai.append h2 h'⟩
theorem ai.take:∀{ds:List D} {vs:List V} (n:Nat),ai P w W H ds vs->ai P w W H (ds.take n) (vs.take n)
 |[],_,n,h=>by rw[show _=[] from h];simp[ai]
 |d::ds,_,0,_=>by simp[ai]
 |d::ds,_,n+1,⟨v,r,e,h1,h2⟩=>by subst e;exact⟨v,_,rfl,h1,ai.take n h2⟩
theorem ai.drop:∀{ds:List D} {vs:List V} (n:Nat),ai P w W H ds vs->ai P w W H (ds.drop n) (vs.drop n)
 |[],_,n,h=>by rw[show _=[] from h];simp[ai]
 |d::ds,_,0,h=>h
 |d::ds,_,n+1,⟨v,r,e,h1,h2⟩=>by subst e;exact ai.drop n h2
theorem ai.set {d:D}{v:V}(hd:aA P w W H d v):∀{ds:List D} {vs:List V} (i:Nat),ai P w W H ds vs->ai P w W H (ds.set i d) (vs.set i v)
 |[],_,_,h=>by rw[show _=[] from h];simp[ai]
 |_::ds,_,0,⟨v,r,e,h1,h2⟩=>by subst e;exact⟨_,_,rfl,hd,h2⟩
 |_::ds,_,i+1,⟨v,r,e,h1,h2⟩=>by subst e;exact⟨_,_,rfl,h1,ai.set hd i h2⟩
end
open PySem.SeqAt
abbrev Dm (W:Addr->Prop)(H:Hp):Prop:=∀a,W a->H a≠none
theorem Dm.same {W:Addr->Prop}{H H':Hp}(d:Dm W H)(s:az H H'):Dm W H':=λa h e=>d a h (s.free e)
abbrev Rp (X:Cx)(W:Addr->Prop)(H:Hp)(d:D)(v:V):Prop:=aA X.prog X.w W H d v
abbrev jv (X:Cx)(W:Addr->Prop)(H:Hp)(ds:List D)(vs:List V):Prop:=ai X.prog X.w W H ds vs
def OH (X:Cx)(f:D->Option D):V->Hp->VK->Prop:=λx H Q=>∃W d1 d,Dm W H/\Rp X W H d1 x/\f d1=some d/\∀v H',az H H'->Rp X W H' d v->Q v H'
def OG (X:Cx)(f:D->D->Option D):R2:=λx y H Q=>∃W d1 d2 d,Dm W H/\Rp X W H d1 x/\Rp X W H d2 y/\f d1 d2=some d/\∀v H',az H H'->Rp X W H' d v->Q v H'
def QE (X:Cx)(f:List D->Option D):List V->Hp->VK->Prop:=λxs H Q=>∃W ds d,Dm W H/\jv X W H ds xs/\f ds=some d/\∀v H',az H H'->Rp X W H' d v->Q v H'
abbrev bR (X:Cx)(f:TY->TY->Sem TY)(g:D->D->Option D):Prop:=jV X f (OG X g)
abbrev bE (X:Cx)(f:TY)(g:List D->Option D):Prop:=fv X f (QE X g)
section
variable {X:Cx}{W:Addr->Prop}{H:Hp}
theorem ue {p:Addr}(d:Dm W H)(n:H p=none):¬ W p:=λz=>d p z n
theorem Rp.gD {p:Addr}{vs:List V}{ds:List D}(d:Dm W H)(n:H p=none)(r:jv X W H ds vs):Rp X W (upd H p (.lst vs)) (.lst ds) (.ref p) :=
 ⟨p,vs,rfl,ar,ue d n,r.same (az.new n)⟩
theorem Rp.D_ {p:Addr}{vs:List V}{ds:List D}(n:H p=none)(r:jv X W H ds vs):Rp X W (upd H p (.tup vs)) (.tup ds) (.ref p) :=
 ⟨p,vs,rfl,ar,r.same (az.new n)⟩
theorem jv.nil:jv X W H [] []:=rfl
theorem jv.cons {d:D}{ds:List D}{v:V}{vs:List V}(h:Rp X W H d v)(r:jv X W H ds vs):jv X W H (d::ds) (v::vs):=⟨v,vs,rfl,h,r⟩
end
def D.Fn:D->Option Int
 |.int i=>some i
 |_=>none
def D.Fl:D->Option (List D)
 |.lst a=>some a
 |_=>none
def D.IE:D->Option (List D)
 |.tup a=>some a
 |_=>none
theorem D.hV {d:D}{i:Int}(h:d.Fn=some i):d=.int i:=by cases d <;> first|(cases h;rfl)|cases h
theorem D.lg {d:D}{i:List D}(h:d.Fl=some i):d=.lst i:=by cases d <;> first|(cases h;rfl)|cases h
theorem D.yT {d:D}{i:List D}(h:d.IE=some i):d=.tup i:=by cases d <;> first|(cases h;rfl)|cases h
def lh (f:Int->Int->Option D)(a b:D):Option D:=match a.Fn,b.Fn with
 |some i,some j=>f i j
 |_,_=>none
theorem iQ {f:Int->Int->Option D}{a b d:D}(h:lh f a b=some d):∃i j,a=.int i/\b=.int j/\f i j=some d:=by
 unfold lh at h;cases ha:a.Fn with
 |none=>rw[ha]at h;cases h
 |some i =>
  cases hb:b.Fn with
  |none=>rw[ha,hb]at h;cases h
  |some j=>rw[ha,hb]at h;exact⟨i,j,D.hV ha,D.hV hb,h⟩
def E4 (f:D->D->Option D)(g:List D->List D->Option D)(a b:D):Option D:=match a.Fl,b.Fl with
 |some i,some j=>g i j
 |_,_=>f a b
theorem vJ {f:D->D->Option D}{g:List D->List D->Option D}{a b d:D}(h:E4 f g a b=some d):(∃i j,a=.lst i/\b=.lst j/\g i j=some d)\/f a b=some d:=by
 unfold E4 at h;cases ha:a.Fl with
 |none=>rw[ha]at h;exact .inr h
 |some i =>
  cases hb:b.Fl with
  |none=>rw[ha,hb]at h;exact .inr h
  |some j=>rw[ha,hb]at h;exact .inl ⟨i,j,D.lg ha,D.lg hb,h⟩
def wj:D->D->Option D:=E4 (lh λi j=>some (.int (i+j))) λa b=>if a.length+b.length<=Ul then some (.lst (a++b)) else none
def N5:D->D->Option D:=lh λi j=>some (.int (i-j))
instance (i j:Int):Decidable (oQ i j):=by unfold oQ;infer_instance
instance (i j:Int):Decidable (tq i j):=by unfold tq;infer_instance
def Kf:D->D->Option D:=lh λi j=>if oQ i j then some (.int (i*j)) else none
def Kg:D->D->Option D:=lh λi j=>if 0<j then some (.int (i % j)) else none
def N8:D->D->Option D:=lh λi j=>if 0<j/\j<2 ^ 200 then some (.int (i / j)) else none
def Ke:D->D->Option D:=lh λi j=>if tq i j then some (.int (i ^ j.toNat)) else none
def N6:D->Option D
 |.int i=>some (.int (-i))
 |_=>none
section
variable {X:Cx}
theorem dC {c:Prop}[Decidable c]{α:Type}{a b:α}(h:(if c then some a else none)=some b):c/\b=a:=by
 by_cases hc:c
 ·rw[if_pos hc]at h;cases h;exact⟨hc,rfl⟩
 ·rw[if_neg hc]at h;cases h
theorem uc {f:TY->TY->Sem TY}{C:Int->Int->Prop}{g:Int->Int->V}{h:Int->Int->D}{F:Int->Int->Option D}(ho:jV X f (rI C g))(hF:∀i j d,F i j=some d->C i j/\d=h i j)
  (hg:∀(W:Addr->Prop) (H:Hp) i j,Rp X W H (h i j) (g i j)):bR X f (lh F):=by
 intro pins s σ H x y v u Q I rx ry hh;obtain⟨W,d1,d2,d,hd,r1,r2,e,q⟩:=hh;obtain⟨i,j,rfl,rfl,e⟩:=iQ e;obtain⟨c,rfl⟩:=hF _ _ _ e;cases r1;cases r2;exact ho pins s σ H _ _ v u Q I rx ry ⟨i,j,rfl,rfl,c,q _ _ (az.refl _) (hg W H i j)⟩
theorem yr {f:TY->TY->Sem TY}{g:Int->Int->V}{h:Int->Int->D}(ho:jV X f (AX g))
  (hg:∀(W:Addr->Prop) (H:Hp) i j,Rp X W H (h i j) (g i j)):bR X f (lh λi j=>some (h i j)):=by
 intro pins s σ H x y v u Q I rx ry hh;obtain⟨W,d1,d2,d,hd,r1,r2,e,q⟩:=hh;obtain⟨i,j,rfl,rfl,e⟩:=iQ e;cases e;cases r1;cases r2;exact ho pins s σ H _ _ v u Q I rx ry ⟨i,j,rfl,rfl,q _ _ (az.refl _) (hg W H i j)⟩
theorem a3:bR X (VL .Sub) N5:=yr (h:=λi j=>.int (i-j)) yp λ_ _ _ _=>rfl
theorem ub:bR X (VL .Mult) Kf:=uc (h:=λi j=>.int (i*j)) r_ (λ_ _ _ e=>dC e) λ_ _ _ _=>rfl
theorem Bj:bR X (VL .Mod) Kg:=uc (h:=λi j=>.int (i % j)) kQ (λ_ _ _ e=>dC e) λ_ _ _ _=>rfl
theorem Bk:bR X (VL .FloorDiv) N8:=uc (h:=λi j=>.int (i / j)) kR (λ_ _ _ e=>let ⟨c,e⟩:=dC e;⟨nz.of c.1 c.2,e⟩) λ_ _ _ _=>rfl
theorem ua:bR X (VL .Pow) Ke:=uc (h:=λi j=>.int (i ^ j.toNat)) kP (λ_ _ _ e=>dC e) λ_ _ _ _=>rfl
theorem eS:Kt X (unaryOp .USub) (OH X N6):=by
 intro pins s σ H x v Q I rx h;obtain⟨W,d1,d,hd,r1,e,q⟩:=h;cases d1 with
 |int i=>cases e;cases r1;exact DZ pins s σ H _ v Q I rx ⟨i,rfl,q _ _ (az.refl _) rfl⟩
 |_=>cases e
end
def Co (p:Int->Int->Bool):D->D->Option D:=lh λi j=>some (.bl (p i j))
abbrev SG:D->D->Option D:=Co λi j=>decide (i<j)
abbrev SH:D->D->Option D:=Co λi j=>decide (j<i)
abbrev SI:D->D->Option D:=Co λi j=>decide (j<=i)
section
variable {X:Cx}
theorem n9 {p:Int->Int->Bool}{f:TY->TY->Sem TY}(ho:jV X f (AX λi j=>.bl (p i j))):bR X f (Co p):=yr (h:=λi j=>.bl (p i j)) ho λ_ _ _ _=>rfl
theorem fI:bR X (VW .Lt) SG:=n9 HQ
theorem yt:bR X (VW .Gt) SH:=n9 CW
theorem EL:bR X (VW .GtE) SI:=n9 HR
end
mutual
def D.pd:D->PyData
 |.cE=>.none
 |.bl b=>.bool b
 |.int i=>.int i
 |.str x=>.str x
 |.tup ds=>.tuple (D.rj ds)
 |.lst ds=>.list (D.rj ds)
 |_=>.dict []
def D.rj:List D->List PyData
 |[]=>[]
 |d::ds=>d.pd::D.rj ds
end
abbrev D.xI (d:D):Bool:=shaped d.pd
mutual
theorem fD {X:Cx}{pins:List (Addr×Obj)}{σ:St}{H:Hp}{s:T3}(I:Inv X pins σ H s){W:Addr->Prop}:∀{d:D} {v:V} {u:TY},Rp X W H d v->RelV v u->d.pd.canLay0=true->∃as,Reads s.heap u d.pd as
 |.cE,_,_,h,r,_=>by cases h;cases r;exact⟨_,.none⟩
 |.bl b,_,_,h,r,_=>by cases h;cases r;exact⟨_,.bool b⟩
 |.int i,_,_,h,r,_=>by cases h;obtain⟨t,rfl⟩:=r;exact⟨_,.int i t⟩
 |.str x,_,_,h,r,_=>by cases h;obtain⟨t,rfl⟩:=r;exact⟨_,.str x t⟩
 |.tup ds,_,_,h,r,c=>by
  obtain⟨a,vs,rfl,e,q⟩:=h;cases r;obtain⟨its,rv,⟨o,ho,hc,n,hd⟩,hz⟩:=I.tuple (uS.of e);obtain⟨as,ha⟩:=fE I q rv (by simpa[D.pd,Vw] using c)
  exact⟨_,.tuple ho hc hd (by simpa using ha)⟩
 |.lst ds,_,_,h,r,c=>by
  obtain⟨a,vs,rfl,e,_,q⟩:=h;cases r;obtain⟨z,its,n,rv,e'⟩:=I.bM a _ e;obtain⟨as,ha⟩:=fE I q rv (by simpa[D.pd,Vw] using c)
  exact⟨_,.list e' rfl rfl (by simpa using ha)⟩
 |.obj _,_,_,_,_,c=>by simp[D.pd,Vw]at c
 |.dT _ _,_,_,_,_,c=>by simp[D.pd,Vw]at c
 |.dK _ _,_,_,_,_,c=>by simp[D.pd,Vw]at c
 |.sT _,_,_,_,_,c=>by simp[D.pd,Vw]at c
 |.ob _,_,_,_,_,c=>by simp[D.pd,Vw]at c
theorem fE {X:Cx}{pins:List (Addr×Obj)}{σ:St}{H:Hp}{s:T3}(I:Inv X pins σ H s){W:Addr->Prop}:∀{ds:List D} {vs:List V} {us:List TY},jv X W H ds vs->Vals vs us->Wy (D.rj ds)=true->∃as,ReadsAll s.heap us (D.rj ds) as
 |[],_,_,h,r,_=>by
  rw[show _=[] from h]at r
  cases r;exact⟨_,.nil⟩
 |d::ds,_,_,⟨v,vr,e,h1,h2⟩,r,c=>by
  subst e;have c':(d.pd.canLay0&&Wy (D.rj ds))=true:=c;rw[Vf]at c';cases r with
  |cons r1 r2 =>
   obtain⟨as,ha⟩:=fD I h1 r1 c'.1;obtain⟨bs,hb⟩:=fE I h2 r2 c'.2;exact⟨_,.cons ha hb⟩
end
def GZ (a b:D):Option D:=if a.xI=true/\b.xI=true then some (.bl (V7 a.pd b.pd)) else none
def Dz (a b:D):Option D:=if a.xI=true/\b.xI=true then some (.bl (!V7 a.pd b.pd)) else none
section
variable {X:Cx}
theorem cP (hu:X.A.units+64<WN):bR X (VW .Eq) GZ:=by
 intro pins s σ H x y v u Q I rx ry h;obtain⟨W,d1,d2,d,hd,r1,r2,e,q⟩:=h;obtain⟨⟨s1,s2⟩,rfl⟩:=dC e;obtain⟨as,ra⟩:=fD I r1 rx (Xe s1);obtain⟨bs,rb⟩:=fD I r2 ry (Xe s2);exact compareEq_shaped ra rb s1 s2 hu ⟨.bl _,H,I,rfl,q _ _ (az.refl _) rfl⟩
theorem iI (hu:X.A.units+64<WN):bR X (VW .NotEq) Dz:=by
 intro pins s σ H x y v u Q I rx ry h;obtain⟨W,d1,d2,d,hd,r1,r2,e,q⟩:=h;obtain⟨⟨s1,s2⟩,rfl⟩:=dC e;obtain⟨as,ra⟩:=fD I r1 rx (Xe s1);obtain⟨bs,rb⟩:=fD I r2 ry (Xe s2);exact compareNe_shaped ra rb s1 s2 hu ⟨.bl _,H,I,rfl,q _ _ (az.refl _) rfl⟩
end
section
variable {X:Cx}
def lS (a b:D):Option D:=match b.Fn with
 |some i=>match a.Fl with
  |some ds=>jB ds i
  |none=>match a.IE with
   |some ds=>jB ds i
   |none=>none
 |none=>none
theorem zQ {a b d:D}(h:lS a b=some d):∃ds i,(a=.lst ds\/a=.tup ds)/\b=.int i/\jB ds i=some d:=by
 unfold lS at h;cases hb:b.Fn with
 |none=>rw[hb]at h;cases h
 |some i =>
  rw[hb]at h;cases ha:a.Fl with
  |some ds=>rw[ha]at h;exact⟨ds,i,.inl (D.lg ha),D.hV hb,h⟩
  |none =>
   rw[ha]at h;cases ht:a.IE with
   |some ds=>rw[ht]at h;exact⟨ds,i,.inr (D.yT ht),D.hV hb,h⟩
   |none=>rw[ht]at h;cases h
theorem jv.jB {W:Addr->Prop}{H:Hp}{ds:List D}{vs:List V}{i:Int}{d:D}(h:jv X W H ds vs)(e:L2.jB ds i=some d):∃v,L2.jB vs i=some v/\Rp X W H d v:=by
 unfold L2.jB at *
 rw[h.length];cases q:rl ds.length i with
 |none=>rw[q]at e;cases e
 |some j =>
  rw[q]at e;exact ai.get h e
theorem Fi:DJ X (OG X lS):=by
 intro value slice pins s σ H x y v u Q I rx ry h hs;obtain⟨W,d1,d2,d,hd,r1,r2,e,q⟩:=h;obtain⟨ds,i,h,rfl,e⟩:=zQ e;cases r2;rcases h with rfl|rfl
 ·obtain⟨p,vs,rfl,h1,n1,q1⟩:=r1;obtain⟨z,hz,rz⟩:=jv.jB (X:=X) q1 e;exact cX value slice pins s σ H _ _ v u Q I rx ry ⟨p,vs,i,z,rfl,rfl,cQ.of h1,hz,q _ _ (az.refl _) rz⟩ hs
 ·obtain⟨p,vs,rfl,h1,q1⟩:=r1;obtain⟨z,hz,rz⟩:=jv.jB (X:=X) q1 e;exact yO value slice pins s σ H _ _ v u Q I rx ry ⟨p,vs,i,z,rfl,rfl,uS.of h1,hz,q _ _ (az.refl _) rz⟩ hs
def cutD (xs:List D)(lo hi:Option Int):List D:=(xs.drop (HT.ku xs.length 0 lo)).take (HT.ku xs.length xs.length hi-HT.ku xs.length 0 lo)
def Ao:D->Option Int->Option Int->Option D
 |.lst ds,lo,hi=>some (.lst (cutD ds lo hi))
 |_,_,_=>none
def wg:List D->Option D
 |[.lst ds]=>some (.int ds.length)
 |[.tup ds]=>some (.int ds.length)
 |_=>none
theorem dt:bE X (.builtin "len") wg:=by
 intro pins s σ H xs us Q I r h;obtain⟨W,ds,d,hd,r1,e,q⟩:=h
 match ds,e with
 |[.lst es],e =>
  cases e;obtain⟨v,r',rfl,⟨p,vs,rfl,h1,n1,q1⟩,hr⟩:=r1;cases hr;refine ib pins s σ H _ us Q I r ⟨p,vs,rfl,.inl (cQ.of h1),?_⟩;rw[q1.length];exact q _ _ (az.refl _) rfl
 |[.tup es],e =>
  cases e;obtain⟨v,r',rfl,⟨p,vs,rfl,h1,q1⟩,hr⟩:=r1;cases hr;refine ib pins s σ H _ us Q I r ⟨p,vs,rfl,.inr (uS.of h1),?_⟩;rw[q1.length];exact q _ _ (az.refl _) rfl
def dList:List D->Option D
 |[.lst ds]=>some (.lst ds)
 |[.tup ds]=>some (.lst ds)
 |_=>none
def Ki:List D->Option D
 |[.int i,.int j]=>some (.int (if j>i then j else i))
 |_=>none
def Kh:List D->Option D
 |[.int i,.int j]=>some (.int (if j<i then j else i))
 |_=>none
theorem uP {W:Addr->Prop}{H:Hp}{a b:D}{xs:List V}(h:jv X W H [a,b] xs):∃x y,xs=[x,y]/\Rp X W H a x/\Rp X W H b y:=by
 obtain⟨x,r,rfl,hx,y,r',rfl,hy,hr⟩:=h;cases hr;exact⟨x,y,rfl,hx,hy⟩
theorem fT {W:Addr->Prop}{H:Hp}{a:D}{xs:List V}(h:jv X W H [a] xs):∃x,xs=[x]/\Rp X W H a x:=by
 obtain⟨x,r,rfl,hx,hr⟩:=h;cases hr;exact⟨x,rfl,hx⟩
theorem s9 (hc:X.calm=true):bE X (.builtin "max") Ki:=by
 intro pins s σ H xs us Q I r h;obtain⟨W,ds,d,hd,r1,e,q⟩:=h
 match ds,e with
 |[.int i,.int j],e =>
  cases e;obtain⟨x,y,rfl,hx,hy⟩:=uP r1;cases hx;cases hy;exact ng hc pins s σ H _ us Q I r ⟨i,j,rfl,q _ _ (az.refl _) rfl⟩
theorem gK (hc:X.calm=true):bE X (.builtin "min") Kh:=by
 intro pins s σ H xs us Q I r h;obtain⟨W,ds,d,hd,r1,e,q⟩:=h
 match ds,e with
 |[.int i,.int j],e =>
  cases e;obtain⟨x,y,rfl,hx,hy⟩:=uP r1;cases hx;cases hy;exact wu hc pins s σ H _ us Q I r ⟨i,j,rfl,q _ _ (az.refl _) rfl⟩
def N7:List D->Option D
 |[.int i]=>some (.int i)
 |[.bl k]=>some (.int (if k then 1 else 0))
 |_=>none
theorem wB:bE X (.type "int") N7:=by
 intro pins s σ H xs us Q I r h;obtain⟨W,ds,d,hd,r1,e,q⟩:=h
 match ds,e with
 |[.int i],e =>
  cases e;obtain⟨x,rfl,hx⟩:=fT r1;cases hx;exact iY pins s σ H _ us Q I r (.inl ⟨i,rfl,q _ _ (az.refl _) rfl⟩)
 |[.bl k],e =>
  cases e;obtain⟨x,rfl,hx⟩:=fT r1;cases hx;exact iY pins s σ H _ us Q I r (.inr ⟨k,rfl,q _ _ (az.refl _) rfl⟩)
end
abbrev wW:=List (Option D)
abbrev Gs:=wW->(D->Prop)->Prop
abbrev qZ:=wW->(List D->Prop)->Prop
def tm (P:T7)(w:Ur)(W:Addr->Prop)(H:Hp)(σ:St)(ρ:wW):Prop:=∀(i:Nat) (d:D),ρ[i]?=some (some d)->∃v,σ[i]?=some (some v)/\aA P w W H d v
theorem tm.keep {P:T7}{w:Ur}{W:Addr->Prop}{H H':Hp}{σ:St}{ρ:wW}(e:tm P w W H σ ρ)(k:Kp W H H'):tm P w W H' σ ρ:=λi d h=>by
 obtain⟨v,h1,h2⟩:=e i d h;exact⟨v,h1,h2.keep k⟩
theorem tm.same {P:T7}{w:Ur}{W:Addr->Prop}{H H':Hp}{σ:St}{ρ:wW}(e:tm P w W H σ ρ)(s:az H H'):tm P w W H' σ ρ:=e.keep s.kp
theorem PE.pre {X:Cx}{e:Expr}{t t':TE}(h:PE X e t)(k:∀σ H Q,t' σ H Q->t σ H Q):PE X e t':=λpins s σ H Q I q=>h pins s σ H Q I (k σ H Q q)
theorem PT.pre {X:Cx}{e:Expr}{t t':TT}(h:PT X e t)(k:∀σ H Q,t' σ H Q->t σ H Q):PT X e t':=λpins s σ H Q I q=>h pins s σ H Q I (k σ H Q q)
theorem PA.pre {X:Cx}{es:List Expr}{t t':TA}(h:PA X es t)(k:∀σ H Q,t' σ H Q->t σ H Q):PA X es t':=λpos pins s σ H Q I q=>h pos pins s σ H Q I (k σ H Q q)
structure G3 (P:T7)(w:Ur)(W:Addr->Prop)(σ:St)(H:Hp)(ρ:wW):Prop where
 dm:Dm W H
 env:tm P w W H σ ρ
abbrev SE (X:Cx):(Addr->Prop)->St->Hp->wW->Prop:=G3 X.prog X.w
theorem G3.same {P:T7}{w:Ur}{W:Addr->Prop}{σ:St}{H H':Hp}{ρ:wW}(e:G3 P w W σ H ρ)(s:az H H'):G3 P w W σ H' ρ:=⟨e.dm.same s,e.env.same s⟩
def tD (X:Cx)(φ:Gs):TE:=λσ H Q=>∃W ρ,SE X W σ H ρ/\φ ρ λd=>∀v H',az H H'->Rp X W H' d v->Q v H'
def Hh (X:Cx)(φ:qZ):TA:=λσ H Q=>∃W ρ,SE X W σ H ρ/\φ ρ λds=>∀vs H',az H H'->jv X W H' ds vs->Q vs H'
structure PV (X:Cx)(e:Expr)(φ:Gs):Prop where
 mono:∀ρ R R',(∀d,R d->R' d)->φ ρ R->φ ρ R'
 pe:PE X e (tD X φ)
structure Ku (X:Cx)(es:List Expr)(φ:qZ):Prop where
 mono:∀ρ R R',(∀d,R d->R' d)->φ ρ R->φ ρ R'
 pa:PA X es (Hh X φ)
section
variable {X:Cx}{a e:Expr}{es:List Expr}{φ:Gs}{φs:qZ}{pos:Pos}{W:Addr->Prop}{σ:St}{H:Hp}{ρ:wW}
theorem tD.of (h:PV X e φ)(se:SE X W σ H ρ){R:D->Prop}{Q:VK}(hr:φ ρ R)(k:∀d v H',R d->az H H'->Rp X W H' d v->Q v H'):tD X φ σ H Q :=
 ⟨W,ρ,se,h.mono ρ _ _ (λd hd v H' s r=>k d v H' hd s r) hr⟩
theorem Hh.of (h:Ku X es φs)(se:SE X W σ H ρ){R:List D->Prop}{Q:List V->Hp->Prop}(hr:φs ρ R)(k:∀ds vs H',R ds->az H H'->jv X W H' ds vs->Q vs H'):Hh X φs σ H Q :=
 ⟨W,ρ,se,h.mono ρ _ _ (λd hd v H' s r=>k d v H' hd s r) hr⟩
def NU (i:Nat):Gs:=λρ R=>∃d,ρ[i]?=some (some d)/\R d
theorem xU {i:Nat}{x:Str}(hN:X.N[i]?=some x:=by rfl)(hv:lT X.env.scope x:=by first|exact .inl rfl|exact .inr (.inl rfl)|exact .inr (.inr rfl))(hd:(x==("__debug__" : Str))=false:=by decide)(dJ:(x==("__classdict__" : Str))=false:=by decide):
  PV X (.Name x pos) (NU i):=⟨λρ R R' k MS=> by obtain⟨d,e,h⟩ := MS;exact⟨d,e,k d h⟩,(br hN hv hd dJ).pre λσ H Q Fy=> by
 obtain⟨W,ρ,se,d,e,q⟩ := Fy;obtain⟨v,h1,h2⟩:=se.env i d e;exact⟨v,h1,q v H (az.refl _) h2⟩⟩
theorem PW.pre {t t':TT}(h:PW X e t)(k:∀σ H Q,t' σ H Q->t σ H Q):PW X e t':=λw pins s σ H Q I q=>h w pins s σ H Q I (k σ H Q q)
def NV:qZ:=λ_ R=>R []
def Kb (φ:Gs)(φs:qZ):qZ:=λρ R=>φ ρ λd=>φs ρ λds=>R (d::ds)
theorem AZ:Ku X [] NV:=⟨λρ R R' k h=>k _ h,cO.pre λσ H Q MR=> by obtain⟨W,ρ,se,q⟩ := MR;exact q [] H (az.refl _) rfl⟩
theorem xT (ha:PV X a φ)(hr:Ku X es φs)(hs:Up (a::es) X.env=(false,eval a X.env)::Up es X.env:=by rfl):Ku X (a::es) (Kb φ φs) :=
 ⟨λρ R R' k h=>ha.mono ρ _ _ (λd q=>hr.mono ρ _ _ (λds q2=>k _ q2) q) h,(bu ha.pe hr.pa hs).pre λσ H Q ⟨W,ρ,se,h⟩ =>
  tD.of ha se h λd1 v1 H1 h1 s1 r1=>Hh.of hr (se.same s1) h1 λds vs H2 q s2 r2=>q (v1::vs) H2 (s1.trans s2) (.cons (r1.same s2) r2)⟩
end
abbrev FD:=List D->(D->Prop)->Prop
def d9 (F:FD):Prop:=∀ds R R',(∀d,R d->R' d)->F ds R->F ds R'
section
end
section
variable {X:Cx}{e:Expr}{σ:St}{H:Hp}
theorem PO.pre {e:Option Expr}{t t':TO}(h:PO X e t)(k:∀σ H Q,t' σ H Q->t σ H Q):PO X e t':=λpins s σ H Q I q=>h pins s σ H Q I (k σ H Q q)
end
abbrev NF:D->Prop:=λd=>d.flat=true
section
abbrev NL:D->Prop:=λd=>match d with | .lst ds=>D.bW ds=true|d=>d.flat=true
end
section
variable {P:T7}{w:Ur}{W W':Addr->Prop}{H:Hp}
mutual
theorem aA.grow (s:∀a,W' a->W a\/H a=none):∀{d:D} {v:V},aA P w W H d v->aA P w W' H d v
 |.cE,_,h=>h
 |.bl _,_,h=>h
 |.int _,_,h=>h
 |.str _,_,h=>h
 |.obj _,_,h=>h
 |.tup ds,_,⟨a,vs,e,t,r⟩=>⟨a,vs,e,t,ai.grow s r⟩
 |.lst ds,_,⟨a,vs,e,t,n,r⟩=>⟨a,vs,e,t,λz=>(s a z).elim n λq=>(by rw[t]at q;cases q),ai.grow s r⟩
 |.dT ks ds,_,⟨a,vs,e,t,l,n,r⟩=>⟨a,vs,e,t,l,λz=>(s a z).elim n λq=>(by rw[t]at q;cases q),ai.grow s r⟩
 |.dK ks ds,_,⟨a,vs,e,t,l,n,r⟩=>⟨a,vs,e,t,l,λz=>(s a z).elim n λq=>(by rw[t]at q;cases q),ai.grow s r⟩
 |.sT ts,_,⟨a,e,⟨c8,t,r,z⟩,n⟩=>⟨a,e,⟨c8,t,r,z⟩,λz=>(s a z).elim n λq=>(by rw[t]at q;cases q)⟩
 |.ob φ,_,⟨a,e,⟨t,z⟩,n⟩=>⟨a,e,⟨t,z⟩,λz=>(s a z).elim n λq=>(by rw[t]at q;cases q)⟩
theorem ai.grow (s:∀a,W' a->W a\/H a=none):∀{ds:List D} {vs:List V},ai P w W H ds vs->ai P w W' H ds vs
 |[],_,h=>h
 |d::ds,_,⟨v,r,e,h1,h2⟩=>⟨v,r,e,aA.grow s h1,ai.grow s h2⟩
end
end
def SN (X:Cx)(W:Addr->Prop)(J:It)(ds:List D)(H0:Hp):Prop:=∀(i:Nat) (H:Hp),Kp W H0 H ->
 (∀d,ds[i]?=some d->J.go i H/\∀x H1,J.G5 i H x H1->az H H1/\Rp X W H1 d x)/\(ds.length<=i->J.stop i H)
def uU (X:Cx)(W:Addr->Prop)(J:It)(ds:List D)(H0:Hp):Prop:=∀W':Addr->Prop,(∀b,W' b->W b\/H0 b=none)->SN X W' J ds H0
abbrev Gr:=wW->(List D->Prop)->Prop
structure PZ (X:Cx)(tg iter:Expr)(ι:Gr):Prop where
 mono:∀ρ R R',(∀d,R d->R' d)->ι ρ R->ι ρ R'
 pi:PI X tg iter λσ H R=>∃W ρ,SE X W σ H ρ/\ι ρ λds=>∀J H',az H H'->uU X W J ds H'->R J H'
section
variable {X:Cx}{tg e:Expr}
theorem PI.pre {iter:Expr}{t t':TI}(h:PI X tg iter t)(k:∀σ H R,t' σ H R->t σ H R):PI X tg iter t':=λpins s σ H R I q=>h pins s σ H R I (k σ H R q)
theorem lb {W:Addr->Prop}{H:Hp}{p:Addr}{vs:List V}{ds:List D}(h1:H p=some (.lst vs))(n1:¬ W p)(q1:jv X W H ds vs):uU X W (Lm X.K p) ds H:=λW' hW i H' k=>by
 have h2:=k.out p _ h1 λz=>(hW p z).elim n1 λq=>by rw[h1]at q;cases q
 replace q1:=ai.grow hW q1;constructor
 ·intro d hd;obtain⟨v,hv,rv⟩:=ai.get q1 hd;refine⟨⟨vs,v,cQ.of h2,hv⟩,λx H1 y=>?_⟩;obtain⟨rfl,y⟩:=y;have e:=y vs (cQ.of h2);rw[hv]at e;cases e;exact⟨az.refl _,rv.keep k⟩
 ·intro hl;exact⟨vs,cQ.of h2,by rw[q1.length];exact hl⟩
def lY (lo:Int)(n:Nat):List D:=(T8 n).map λ(k:Nat)=>D.int (lo+(k:Int))
theorem iP {W:Addr->Prop}{H:Hp}{lo:Int}{n:Nat}:uU X W (Kz lo n) (lY lo n) H:=λ_ _ i H' k=>by
 constructor
 ·intro d hd;unfold lY at hd;rw[T6]at hd;have hi:i<n:=by
   by_cases h:i<n
   ·exact h
   ·rw[UK (by simpa using h)]at hd;cases hd
  rw[VG hi]at hd;cases hd;refine⟨hi,λx H1 y=>?_⟩;obtain⟨rfl,rfl⟩:=y;exact⟨az.refl _,rfl⟩
 ·intro hl;unfold lY at hl;rw[TX,Uw]at hl;exact hl
end
section
variable {X:Cx}{tg:Expr}{uY:List Expr}
theorem PG.pre {t t':TG}(h:PG X tg t)(k:∀v σ H Q,t' v σ H Q->t v σ H Q):PG X tg t':=λpins s σ H v u Q I r q=>h pins s σ H v u Q I r (k v σ H Q q)
theorem DI.pre {t t':DE}(h:DI X uY t)(k:∀v σ H Q,t' v σ H Q->t v σ H Q):DI X uY t':=λpins s σ H v u Q I r q=>h pins s σ H v u Q I r (k v σ H Q q)
end
theorem iM {H:Hp}{a:Addr}{o o':HO}(h:H a=some o)(ht:∀xs,o≠.tup xs):Kp (·=a) H (upd H a o') :=
 ⟨λb u e n=>by rw[aw n];exact e,λb xs e=>by rw[aw (CZ e h (λz=>ht xs z.symm))];exact e⟩
section
end
section
end
section
end
section
variable {σ:St}{β:bb}{own:Nat->List Addr}
def aG (own:Nat->List Addr)(i:Nat)(as:List Addr):Nat->List Addr:=λj=>if j=i then as else own j
theorem bL {own:Nat->List Addr}{i j:Nat}{a:Addr}(h:a∈aG own i [] j):a∈own j/\j≠i:=by
 unfold aG at h
 by_cases e:j=i
 ·rw[if_pos e]at h;cases h
 ·rw[if_neg e]at h;exact⟨h,e⟩
theorem aU {α:Type}{β:List α}{i j:Nat}{x:α}(h:i≠j):(β.set i x)[j]?=β[j]?:=by rw[VQ,if_neg h]
theorem a9 {α:Type}{β:List α}{i:Nat}{x y:α}(h:(β.set i x)[i]?=some y):y=x/\i<β.length:=by
 rw[VQ,if_pos rfl]at h
 by_cases hi:i<β.length
 ·rw[if_pos hi]at h;cases h;exact⟨rfl,hi⟩
 ·rw[if_neg hi]at h;cases h
theorem get_set {α:Type}{σ:List α}{i:Nat}{x:α}(h:i<σ.length):(σ.set i x)[i]?=some x:=by rw[VQ,if_pos rfl,if_pos h]
end
structure Sn (Z:Hp×(Addr->Prop))(H:Hp)(W:Addr->Prop):Prop where
 w:∀b,W b->Z.2 b\/Z.1 b=none
 k:Kp (λb=>Z.2 b\/Z.1 b=none) Z.1 H
 d:∀b,Z.1 b≠none->H b≠none
theorem Sn.refl {H:Hp}{W:Addr->Prop}:Sn (H,W) H W:=⟨λ_ z=>.inl z,Kp.refl,λ_ z=>z⟩
theorem Sn.same {Z:Hp×(Addr->Prop)}{H H':Hp}{W:Addr->Prop}(n:Sn Z H W)(s:az H H'):Sn Z H' W:=⟨n.w,n.k.trans s.kp,λb z e=>n.d b z (s.free e)⟩
theorem Sn.free {Z:Hp×(Addr->Prop)}{H:Hp}{W:Addr->Prop}(n:Sn Z H W){a:Addr}(h:H a=none):Z.1 a=none:=by
 cases q:Z.1 a with
 |none=>rfl
 |some o=>exact absurd h (n.d a (by rw[q];intro z;cases z))
theorem Sn.upd {Z:Hp×(Addr->Prop)}{H:Hp}{W:Addr->Prop}(n:Sn Z H W){a:Addr}{o o':HO}(h:H a=some o)(ht:∀xs,o≠.tup xs)(wa:W a):Sn Z (L2.upd H a o') W :=
 ⟨n.w,n.k.trans ((iM h ht).mono λb z=>by rw[z];exact n.w a wa),λb z e=>by
  by_cases hb:b=a
  ·subst hb;rw[ar]at e;cases e
  ·rw[aw hb]at e;exact n.d b z e⟩
theorem Sn.trans {Z:Hp×(Addr->Prop)}{H1 H:Hp}{W1 W:Addr->Prop}(n1:Sn Z H1 W1)(n:Sn (H1,W1) H W):Sn Z H W:=by
 have big:∀b,W1 b\/H1 b=none->Z.2 b\/Z.1 b=none:=λb z=>z.elim (n1.w b) λq=>.inr (n1.free q);exact⟨λb z=>big b (n.w b z),n1.k.trans (n.k.mono big),λb z=>n.d b (n1.d b z)⟩
section
variable {X:Cx}{st:Stmt}{rest:List Stmt}{σ:St}{H:Hp}
theorem PS.pre {t t':TS}(h:PS X st t)(k:∀D σ H,t' D σ H->t D σ H):PS X st t':=λpins s σ H D I q=>h pins s σ H D I (k D σ H q)
theorem rq.pre {t t':TS}(h:rq X rest t)(k:∀D σ H,t' D σ H->t D σ H):rq X rest t':=λpins s σ H D I q=>h pins s σ H D I (k D σ H q)
end
section
variable {b:Expr}{H:Hp}
theorem held {P:T7}{w:Ur}{W W2:Addr->Prop}{H2:Hp}{d:D}{v:V}(r:aA P w W H d v)(n:Sn (H,W) H2 W2):aA P w W2 H2 d v :=
 aA.aT n.w (aA.keep n.k (aA.grow (λb z=>z) r))
end
theorem Sn.kp {Z:Hp×(Addr->Prop)}{H H':Hp}{W:Addr->Prop}(n:Sn Z H W)(k:Kp W H H')(dn:∀c,H c≠none->H' c≠none):Sn Z H' W:=⟨n.w,n.k.trans (k.mono n.w),λb z=>dn b (n.d b z)⟩
section
end
section
end
end L2
namespace SO
open PySem PySem.Spec PyProof.Rows
section
open PySem.SeqAt
open PySem.AutoSeq1 (wpAny_loadPart')
open PySem.MeetsSeq PySem.MeetsSeq2 PySem.MeetsSeq3
end
section
end
section
open PySem.SeqAt
open PySem.AutoSeq1 (wpAny_loadPart')
open PySem.MeetsSeq PySem.MeetsSeq2 PySem.MeetsSeq3
end
section
end
end SO
namespace L2
open PySem PySem.Spec PySem.SeqAt PyProof.Rows
noncomputable def bz:List D->Option (List Int)
 |[]=>some []
 |.int i::ds=>(bz ds).map (i::·)
 |_::_=>none
theorem qh:∀{ds:List D} {ns:List Int},bz ds=some ns->ds=ns.map D.int
 |[],_,h=>by cases h;rfl
 |.int i::ds,_,h=>by
  obtain⟨ns,h1,rfl⟩:=Uk.mp h;rw[Uy,<- qh h1]
 |.cE::_,_,h=>by cases h
 |.bl _::_,_,h=>by cases h
 |.str _::_,_,h=>by cases h
 |.obj _::_,_,h=>by cases h
 |.tup _::_,_,h=>by cases h
 |.lst _::_,_,h=>by cases h
 |.dT _ _::_,_,h=>by cases h
 |.dK _ _::_,_,h=>by cases h
 |.sT _::_,_,h=>by cases h
 |.ob _::_,_,h=>by cases h
theorem mP:∀(ns:List Int),bz (ns.map D.int)=some ns
 |[]=>rfl
 |n::ns=>by rw[Uy];show (bz (ns.map D.int)).map _=_;rw[mP ns];rfl
theorem bO {P:T7}{w:Ur}{W:Addr->Prop}{H:Hp}:∀{ns:List Int} {vs:List V},ai P w W H (ns.map D.int) vs->vs=ns.map V.int
 |[],_,h=>h
 |n::ns,_,⟨v,r,e,h1,h2⟩=>by rw[e,bO h2,show v=V.int n from h1];rfl
theorem mO {P:T7}{w:Ur}{W:Addr->Prop}{H:Hp}:∀(ns:List Int),ai P w W H (ns.map D.int) (ns.map V.int)
 |[]=>rfl
 |n::ns=>⟨_,_,rfl,rfl,mO ns⟩
section
end
end L2
namespace TS
open PySem PyProof.Rows
section
variable {prog:T7}{w:Ur}{A:U6}{E:TY->T3->Prop}{s:T3}
theorem rQ {x:TY}{vs:List TY}{kf:TY->List Int}{Q:TY->T3->Prop}(hz:vs.length<=1000000)
  (col:∀(B:U6) (R:List TY->T3->Prop),B.units<=A.units+1->(∀(h':Heap) (tk:Nat),(∀b o,s.heap.get? b=some o->h'.get? b=some o)->s.heap.objs.size<=h'.objs.size->R vs {s with heap:=h',toks:=tk})->UQ (model prog w) B (collect x) R E s)
  (T:ml s.heap kf s.heap.objs.size vs)
  (h:∀(out:List TY) (l:Addr) (h':Heap) (tk:Nat) (n:Nat),out.Perm vs->out.Pairwise (λx y=>HT.lexLt (kf y) (kf x)=false)->s.heap.objs.size<=l->(∀b o,s.heap.get? b=some o->h'.get? b=some o)->h'.get? l=some (VV "list" out.toArray n)->Q (.ref l) {s with heap:=h',toks:=tk}) :
  UQ (model prog w) A (call (.builtin "sorted") [x]) Q E s:=by
 refine YK kind_sorted plain_sorted entry_sorted (args_sorted1 _) ?_;unfold Wr.«sorted»
 refine TZ (m:=checkCount "sorted" 1 1 _) (Uj ?_);refine TZ (col A.in1 _ (T4 _) λh' tk kp Q3=>?_);have nl:vs.length<=Ul:=by rw[U8];lia
 refine TZ (wpAny_newList ?_ nl);have hl:(h'.push (VV "list" vs.toArray 0)).get? h'.objs.size=some (VV "list" vs.toArray 0):=UT _ rfl;have T':ml (h'.push (VV "list" vs.toArray 0)) kf h'.objs.size vs:=λv hv=>by
  obtain⟨t,o,xs,k,e1,_,e3,r⟩:=T v hv;exact⟨t,o,xs,k,e1,UI (Us (kp _ _ e3)),Ud _ (kp _ _ e3),r⟩
 refine TZ (Vs (Wc slot_list_sort ⟨_,hl,rfl⟩ entry_list_sort (k7 (s:={s with heap:=h'.push (VV "list" vs.toArray 0),toks:=tk}) hl hz T' λout hp hs=>⟨_,rfl,?_⟩) (args_list_sort _)))
 obtain⟨n,hn⟩:=sortedHeap_at (out:=out.toArray) hl;refine Uj ⟨_,rfl,h out h'.objs.size _ tk n hp hs Q3 (λb o e=>?_) hn⟩;have hb:=Us (kp _ _ e);rw[sortedHeap_old (UI hb) (by rw[size_push'];exact Wz hb)]
 exact Ud _ (kp _ _ e)
end
end TS
namespace L2
open PySem PySem.Spec PyProof.Rows
def sD (H:Hp):TY->List Int
 |.ref t=>match H t with
  |some (.tup xs)=>xs.filterMap fun
   |.int i=>some i
   |_=>none
  |_=>[]
 |_=>[]
theorem qt:∀ns:List Int,((ns.map V.int).filterMap fun
   |.int i=>some i
   |_=>none)=ns
 |[]=>rfl
 |n::ns=>by
  rw[Uy,Vb];dsimp only;rw[qt ns]
theorem k9 {H:Hp}{t:Addr}{ns:List Int}(h:H t=some (.tup (ns.map V.int))):sD H (.ref t)=ns:=by
 unfold sD;dsimp only;rw[h];exact qt ns
def Dn (H:Hp):TY->Addr×List Int
 |.ref t=>(t,sD H (.ref t))
 |_=>(0,[])
abbrev wI (H:Hp)(ts:List (Addr×List Int)):Prop:=∀t∈ts,H t.1=some (.tup (t.2.map V.int))/\t.2≠[]
abbrev o9 (t:Addr×List Int):V:=.ref t.1
theorem iq:∀{ts:List (Addr×List Int)} {us:List TY},Vals (ts.map o9) us->us=ts.map λt=>Value.ref t.1
 |[],_,.nil=>rfl
 |t::ts,_,.cons r q=>by
  rw[Uy,<- iq q];cases r;rfl
theorem iD:∀(ts:List (Addr×List Int)),Vals (ts.map o9) (ts.map λt=>Value.ref t.1)
 |[]=>.nil
 |t::ts=>.cons rfl (iD ts)
theorem mE {H:Hp}{ts:List (Addr×List Int)}(T:wI H ts){out:List TY}(hp:out.Perm (ts.map λt=>Value.ref t.1)):out=(out.map (Dn H)).map (λt=>Value.ref t.1)/\(out.map (Dn H)).Perm ts:=by
 constructor
 ·rw[Va];refine(U5 (g:=id) λv hv=>?_).trans (List.map_id _) |>.symm
  obtain⟨t,ht,rfl⟩:=UG.mp (hp.mem_iff.mp hv);rfl
 ·refine(hp.map (Dn H)).trans (Xs ?_);rw[Va];refine(U5 (g:=id) λt ht=>?_).trans (List.map_id _);show (t.1,sD H (.ref t.1))=t;rw[k9 (T t ht).1]
theorem tw {P:T7}{w:Ur}{H:Hp}{h:Heap}{ts:List (Addr×List Int)}(ok:gL P w H h)(T:wI H ts){a:Addr}(ha:h.objs.size<=a):TS.ml h (sD H) a (ts.map λt=>Value.ref t.1):=λv hv=>by
 obtain⟨t,ht,rfl⟩:=UG.mp hv;obtain⟨h1,h2⟩:=T t ht;obtain⟨_,its,r,o,ho,hc,n,hd⟩:=(show bD P w H h t.1 (.tup (t.2.map V.int)) from ok _ _ h1)
 exact⟨t.1,o,_,n,rfl,UI (US (Us ho) ha),ho,hc,hd,by rw[k9 h1];exact intsAre_of (by simpa using r),by rw[k9 h1];exact h2⟩
section
variable {X:Cx}
theorem oF:fv X (.builtin "sorted") (λxs H Q=>∃(p:Addr) (ts:List (Addr×List Int)),xs=[.ref p]/\cQ X.K H p (ts.map o9)/\wI H ts/\ts.length<=1000000 /\
  ∀(l:Addr) (c8:List (Addr×List Int)),H l=none->c8.Perm ts->c8.Pairwise (λx y=>HT.lexLt y.2 x.2=false)->Q (.ref l) (upd H l (.lst (c8.map o9)))):=by
 intro pins s σ H xs us Q I r h;obtain⟨p,ts,rfl,hq,T,hz,q⟩:=h;obtain⟨u,rfl,rx⟩:=vals1 r;cases rx;obtain⟨its,r',pl,hl⟩:=I.list hq;obtain rfl:=iq r';have nl:(ts.map λt=>Value.ref t.1).length<=Ul:=by rw[TX,U8];lia
 refine TS.rQ (kf:=sD H) (by rw[TX];exact hz) (λB R _ hR=>?_) (tw I.bM T (T4 _)) λout l h' tk n hp hs hle kp ho=>?_
 ·refine collect_list pl.isList (hR _ s.toks (λb o e=>?_) ?_) nl
  ·have hb:=Us e;rw[Heap.get?_update_ne _ _ _ _ (UI hb)];exact Ud _ e
  ·rw[Heap.size_update,size_push'];exact Nat.le_succ _
 ·obtain⟨e1,e2⟩:=mE T hp;have zl:out.length=ts.length:=by rw[hp.length_eq,TX]
  refine⟨.ref l,_,I.laid (t':=tk) (o:=.lst ((out.map (Dn H)).map o9)) kp hle ?_,rfl,q l _ (I.bM.fresh hle) e2 ?_⟩
  ·refine⟨by rw[TX,TX,zl,U8];lia,out,n,?_,ho⟩
   have:=iD (out.map (Dn H));rw[<- e1]at this;exact this
  ·rw[VP];refine hs.imp_of_mem λ{x y} hx hy hh=>?_;obtain⟨t,ht,rfl⟩:=UG.mp (hp.mem_iff.mp hx);obtain⟨t',Rk,rfl⟩:=UG.mp (hp.mem_iff.mp hy);exact hh
end
end L2
namespace ST
open PySem PyProof.Rows
section
variable {prog:T7}{w:Ur}{A:U6}{E:TY->T3->Prop}{s:T3}
variable {a b:Addr}{o:Obj}{ts:List (Addr×List Int)}{es:Array (Int×TY)}{ep:Nat}{t:SetTable}{k:List Int}
theorem cH.at (S:cH prog w o ts es ep t){i:Nat}(hi:i<t.place.size):∃x,ts[i]?=some x/\es[i]?=some (ent prog w x):=by
 have hl:i<ts.length:=by rw[<- S.size.2];exact hi
 exact⟨ts[i],T5 hl,by rw[<- Uv,S.F6,T6,T5 hl];rfl⟩
theorem yA (S:cH prog w o ts es ep t):t.gaveWay=false:=by
 obtain⟨j,hj,e⟩:=S.wf.C1;unfold SetTable.gaveWay;rw[e];obtain⟨i,rfl⟩:∃i,j=i+1:=⟨j-1,by lia⟩
 have:0<2 ^ i:=XB (by decide)
 rw[Xh];have:(2 ^ i*2-1) % 2=1:=by lia
 rw[this];rfl
theorem lU (ho:s.heap.get? a=some o)(S:cH prog w o ts es ep t)(T:CC prog w s.heap ts)(hk:(TK prog w).is s.heap k b)(hu:A.units<WN){i4:Bool}{N:Nat}{Q:SetFound->T3->Prop}
  (hN:¬ oP t (cv t.mask (kH prog w k) N)) (hO:∀x,x<N->oP t (cv t.mask (kH prog w k) x)) (TJ:N<10*SetTable.turns t.mask)
  (Qf:(∀x∈ts,x.2≠k)->Q (.free (cv t.mask (kH prog w k) N) false) s) (Qt:∀i:Option Nat,(∃x∈ts,x.2=k)->(i4=false->i.isSome=true)->Q (.there i) s) :
  ∀(d n f:Nat) (xr:Option SetTable.Probe),xr.getD (LG t.mask (kH prog w k))=fy t.mask (kH prog w k) n->n+d=N->d<f ->
   (∀m,m<n->∀i x,i<t.place.size->g t.place i=cv t.mask (kH prog w k) m->ts[i]?=some x->x.2≠k) ->
   UQ (model prog w) A (setSearchFrom a (.ref b) (kH prog w k) i4 f xr) Q E s:=by
 intro d
 induction d using Nat.strongRecOn with
 |_ d ih =>
  intro n f xr Ft jl K7 J6;obtain⟨f,rfl⟩:∃f',f=f'+1:=⟨f-1,by lia⟩
  unfold setSearchFrom;refine TZ (VD ho S.dat S.fits ?_);dsimp only;rw[yA S,if_neg (by simp)]
  rw[Ee,Ft];generalize Pe:SetTable.probe t _ (kH prog w k) (fy t.mask (kH prog w k) n)=pr;have hash:∀i x,i<t.place.size->ts[i]?=some x->(es[i]?.map (·.1)).getD 0=kH prog w x.2:=λi x hi hx=>by
   obtain⟨y,h1,h2⟩:=S.at hi;rw[hx]at h1;obtain rfl:=UD h1;rw[h2];rfl
  rcases pK S.wf (λi=>(es[i]?.map (·.1)).getD 0) (kH prog w k) hN hO d n (10*SetTable.turns t.mask) jl (by lia)with⟨q1,q2⟩|⟨m,i,q1,q2,q3,q4,q5,q6,q7⟩
  ·have e:pr=some (.empty (cv t.mask (kH prog w k) N) none):=Pe.symm.trans q1;rw[e];dsimp only;refine Uj (Qf λx hx BS=>?_);obtain⟨i,hi⟩:=V9 hx;have l6:i<t.place.size:=by
    rw[S.size.2];exact(Ua.mp hi).1
   obtain⟨n',g1,g2⟩:=S.wf.OE i (kH prog w x.2) (by rw[T6,hi];rfl)
   rw[BS]at g1 g2;have BZ:n'<N:=by
    rcases Vt n' N with z|z
    ·exact z
    ·rcases Vt N n' with z2|z2
     ·exact absurd (g2 N z2) hN
     ·obtain rfl:N=n':=by lia
      exact absurd ⟨i,l6,g1.symm⟩ hN
   rcases Vt n' n with z|z
   ·exact J6 n' z i x l6 g1.symm hi BS
   ·exact q2 n' z BZ i l6 g1.symm (by rw[hash i x l6 hi,BS])
  ·have e:pr=some (.candidate (cv t.mask (kH prog w k) m) i (fy t.mask (kH prog w k) (m+1))):=Pe.symm.trans q6;rw[e];dsimp only;obtain⟨x,Dc,IP⟩:=S.at q3;have IM:x∈ts:=UO Dc;have Dd:t.slot (cv t.mask (kH prog w k) m)=.live i:=by rw[<- q4];exact mB S.wf.vg q3
   refine(λ(key:?G)=>?main) ?key
   case main =>
    cases hl:t.led with
    |true =>
     rw[if_neg (by simp)]
     exact key
    |false =>
     rw[if_pos (by simp)]
     have MJ:(es.filter (·.1==kH prog w k)).toList.map (·.2)=(ts.filter λx=>kH prog w x.2==kH prog w k).map λx=>Value.ref x.1:=by
      rw[Array.toList_filter,S.F6,List.filter_map,Va];rfl
     rw[MJ];refine TZ (Av hk _ (λy hy=>T y (UX.mp hy).1) ?_);rw[if_neg (by simp)]
     exact key
   case key =>
    rw[IP];dsimp only;refine TZ (Vs ((TK prog w).eqBool hu (T x IM) hk ?_));refine TZ (VD ho S.dat S.fits ?_);dsimp only;have GC:t.sameMemory t.moves t.mask=some true:=by
     unfold SetTable.sameMemory;rw[if_pos (beq_self_eq_true _)]
    by_cases BS:x.2=k
    ·rw[decide_eq_true BS];cases i4 with
     |true =>
      rw[if_pos (by rfl)]
      exact Uj (Qt none ⟨x,IM,BS⟩ (λz=>by cases z))
     |false =>
      rw[if_neg (by simp),GC]
      dsimp only;rw[if_pos rfl,Dd];dsimp only;rw[IP];dsimp only;refine TZ (wpAny_isSame_ref_self ?_);rw[if_pos rfl];refine TZ (Uj ?_);exact Uj (Qt (some i) ⟨x,IM,BS⟩ (λ_=>rfl))
    ·rw[decide_eq_false BS,if_neg (by simp),GC]
     dsimp only;rw[if_pos rfl,Dd];dsimp only;rw[IP];dsimp only;refine TZ (wpAny_isSame_ref_self ?_);rw[if_pos rfl];refine TZ (Uj ?_);dsimp only;rw[if_neg (by simp)]
     refine ih (N-(m+1)) (by lia) (m+1) f _ rfl (by lia) (by lia) λm' Tz i' x' h1 h2 h3=>?_
     rcases Vt m' n with z|z
     ·exact J6 m' z i' x' h1 h2 h3
     ·by_cases e2:m'=m
      ·subst e2;obtain rfl:=S.wf.vg.inj h1 q3 (h2.trans q4.symm);rw[Dc]at h3;obtain rfl:=UD h3;exact BS
      ·intro z2;exact q7 m' z (by lia) i' h1 h2 (by rw[hash i' x' h1 h3,z2])
end
theorem qX (n:Nat):∀(f j:Nat),n<2 ^ (j+f)->∃j',j<=j'/\SetTable.sizeAbove.go n f (2 ^ j)=2 ^ j'/\n<2 ^ j'/\(j'=j\/2 ^ (j' - 1)<=n)
 |0,j,h=>⟨j,T4 _,rfl,h,.inl rfl⟩
 |f+1,j,h=>by
  unfold SetTable.sizeAbove.go
  by_cases hc:2 ^ j<=n
  ·rw[if_pos hc,<- Xh];obtain⟨j',h1,h2,h3,h4⟩:=qX n f (j+1) (by rw[show j+1+f=j+(f+1) by lia];exact h)
   refine⟨j',by lia,h2,h3,.inr ?_⟩
   rcases h4 with rfl|h4
   ·exact hc
   ·exact h4
  ·rw[if_neg hc];exact⟨j,T4 _,rfl,by lia,.inl rfl⟩
theorem Ab {n:Nat}(h:n<=4000):∃j,3<=j/\SetTable.sizeAbove n=2 ^ j/\n<2 ^ j/\2 ^ j<=8192:=by
 obtain⟨j,h1,h2,h3,h4⟩:=qX n 64 3 (Nat.lt_of_le_of_lt h (by decide))
 refine⟨j,h1,h2,h3,?_⟩;rcases h4 with rfl|h4
 ·decide
 ·have:j-1<12:=by
   rcases Vt (j-1) 12 with z|z
   ·exact z
   ·have:2 ^ 12<=2 ^ (j-1):=WH (by decide) z
    lia
  have:2 ^ j<=2 ^ 12:=WH (by decide) (by lia)
  lia
theorem B6 (d:Nat)(n:Int)(tk:Tok):hashByValue d (.int n tk)=pure true:=by
 cases d <;> rfl
section
variable {prog:T7}{w:Ur}{A:U6}{E:TY->T3->Prop}{s:T3}
variable {a b:Addr}{o:Obj}{ts:List (Addr×List Int)}{es:Array (Int×TY)}{ep:Nat}{t:SetTable}{k:List Int}
theorem DR {Q:Bool->T3->Prop}(hk:(TK prog w).is s.heap k b)(q:Q true s):UQ (model prog w) A (hashByValue 8 (.ref b)) Q E s:=by
 obtain⟨o,items,n,ho,hc,hd,hi⟩:=hk;have hT:s.TypeIs (.ref b) "tuple" := ⟨o,ho,hc⟩;unfold hashByValue;refine TZ (wpAny_specialOf hT F.slot_tuple_hash.lookup ?_);dsimp only;refine TZ (wpAny_seqItems ho hd ?_);dsimp only[Option.getD_some];rw[<- Array.forIn_toList];refine TZ (Yb _ (λrest r s'=>r=(none,())/\s'=s/\∀v∈rest,∃n tk,v=Value.int n tk) _ ?_ ?_ _ _ ⟨rfl,rfl,?_⟩)
 ·rintro v rest r s' ⟨rfl,rfl,eN⟩;obtain⟨n,tk,rfl⟩:=eN v Uz;rw[B6];refine TZ (Uj ?_);rw[if_neg (by simp)]
  exact Uj ⟨rfl,rfl,λu hu=>eN u (UA _ hu)⟩
 ·rintro r s' ⟨rfl,rfl,_⟩;exact Uj q
 ·generalize items.toList=vs at hi
  induction hi with
  |nil=>intro v hv;cases hv
  | @cons k v ks vs h1 h2 ih =>
   intro u hu;rcases Uc.mp hu with rfl|hu
   ·obtain⟨t,rfl⟩:=X4 h1;exact⟨_,_,rfl⟩
   ·exact ih u hu
theorem uV (ho:s.heap.get? a=some o)(S:cH prog w o ts es ep t)(T:CC prog w s.heap ts)(hk:(TK prog w).is s.heap k b)(hu:A.units<WN){i4:Bool}{Q:SetFound->T3->Prop}
  (Qf:∀N,(∀x∈ts,x.2≠k)->¬ oP t (cv t.mask (kH prog w k) N)->(∀x,x<N->oP t (cv t.mask (kH prog w k) x))->Q (.free (cv t.mask (kH prog w k) N) false) s)
  (Qt:∀i:Option Nat,(∃x∈ts,x.2=k)->(i4=false->i.isSome=true)->Q (.there i) s) :
  UQ (model prog w) A (setSearch a (.ref b) (kH prog w k) i4) Q E s:=by
 obtain⟨N,h1,h2,h3⟩:=S.wf.first (kH prog w k)
 have hm:=S.C1;unfold setSearch;exact lU ho S T hk hu h2 h3 h1 (λq=>Qf N q h2 h3) Qt N 0 100000 none rfl (We N) (by unfold SetTable.turns at h1;lia) λm hm=>by lia
theorem um {h:Heap}(ho:h.get? a=some o)(hd:o.data=.set es ep t)(dX:Array (Int×TY))(t':SetTable):(h.update a (XW dX t')).get? a=some {o with data:=.set dX (ep+1) t'}:=by
 have e:=Heap.get?_update_self (XW dX t') ho (by rw[putSet_of dX t' hd];rfl)
 rw[e,putSet_of dX t' hd]
theorem yf {α:Type}(l:List α)(p:Nat)(x:α):(l.take p++x::l.drop p).Perm (x::l):=by
 refine Xf.trans (List.Perm.cons x ?_);rw[VN]
theorem w5 (ho:s.heap.get? a=some o)(hx:o.ExactSet)(hd:o.data=.set es ep t)(he:es.toList=ts.map (ent prog w))(hw:WF t (ts.map λx=>kH prog w x.2))(Tx:0<ts.length)(hn:ts.length<=1000)
  (Nn:t.led=!w.params.followText "set-order") (hpl:t.plain=true) (jl:(ts.map (·.2)).Nodup) {Q:Unit->T3->Prop}
  (q:∀(c8:List (Addr×List Int)) (dX:Array (Int×TY)) (t':SetTable),c8.Perm ts->cH prog w {o with data:=.set dX (ep+1) t'} c8 dX (ep+1) t'->Q () {s with heap:=s.heap.update a (XW dX t')}) :
  UQ (model prog w) A (setRelay a (SetTable.grown ts.length)) Q E s:=by
 have hz:es.size=ts.length:=by rw[<- Ue,he,TX]
 have hp:t.place.size=ts.length:=by have:=hw.sz;rw[TX]at this;exact this
 have hf:t.fits es.size=true:=by
  unfold SetTable.fits SetTable.fill;rw[hw.GW,hz,hp];have:=hw.room;simp;lia
 unfold setRelay;refine TZ (VD ho hd hf ?_);dsimp only;have hg:SetTable.grown ts.length=ts.length*4:=by unfold SetTable.grown;rw[if_neg (by lia)]
 rw[hg];obtain⟨j,j3,ja,jb,jc⟩:=Ab (n:=ts.length*4) (by lia)
 rw[ja,if_neg (by rw[U8];lia)]
 have hs:(es.map (·.1)).size=ts.length:=by rw[YF,hz]
 obtain⟨t',order,e1,e2,e3,e4,e5,e6,e7,e8⟩:=BM (hs:=es.map (·.1)) j3 (by lia) t.finger (t.movedTo (2 ^ j-1)) t.led t.plain
 rw[hs]at e6 e8;have er:t.relaid (es.map (·.1)) (ts.length*4)=some (t',order):=by
  unfold SetTable.relaid;rw[ja];exact e1
 rw[er];have gd:∀i,i<ts.length->es[i]?=some (ent prog w (ts.getD i (0,[]))):=λi hi=>by
  rw[<- Uv,he,T6,T5 hi,UE,T5 hi];rfl
 have jm:(order.filterMap (es[·]?)).toList=(order.toList.map λi=>ts.getD i (0,[])).map (ent prog w):=by
  rw[Array.toList_filterMap,Va];have:∀l:List Nat,(∀i∈l,i<ts.length)->l.filterMap (es[·]?)=l.map (ent prog w ∘ λi=>ts.getD i (0,[])):=λl=>by
   induction l with
   |nil=>intro _;rfl
   |cons i l ih =>
    intro h;rw[Vb,gd i (h i Uz),Uy,ih λy hy=>h y (UA _ hy)];rfl
  exact this _ λi hi=>U_.mp (e6.mem_iff.mp hi)
 have zd:(order.toList.map λi=>ts.getD i (0,[])).Perm ts:=by
  refine(e6.map _).trans (Xs ?_);apply Vm;intro i;rw[T6]
  by_cases hi:i<ts.length
  ·rw[VG hi,T5 hi];show some (ts.getD i (0,[]))=_;rw[UE,T5 hi];rfl
  ·rw[UK (by rw[Uw];lia),UK (by lia)]
   rfl
 have hsz:(order.filterMap (es[·]?)).size=es.size:=by
  rw[<- Ue,jm,TX,zd.length_eq,hz]
 refine TZ ?_;show UQ _ _ (if (order.filterMap (es[·]?)).size != es.size then _ else _) _ _ _
 rw[hsz,if_neg (by simp)]
 refine Uj ?_;dsimp only;refine wpAny_storeSet_of ho hd (q _ _ t' zd ⟨hx,rfl,jm,?_,?_,by lia,e3.trans Nn,e4.trans hpl,?_⟩) (by rw[hsz,hz,U8];lia)
 ·rw[Va];have:(order.toList.map λi=>(es.map (·.1)).getD i 0)=order.toList.map ((λx=>kH prog w x.2) ∘ λi=>ts.getD i (0,[])):=by
   refine U5 λi hi=>?_;have hi:=U_.mp (e6.mem_iff.mp hi);rw[Uu,Array.getElem?_map,gd i hi];rfl
  rw[<- this];exact e7
 ·rw[e8,e2];lia
 ·exact((zd.map (·.2)).nodup_iff).mpr jl
theorem xc (ho:s.heap.get? a=some o)(S:cH prog w o ts es ep t)(T:CC prog w s.heap ts)(hk:(TK prog w).is s.heap k b)(hu:A.units<WN)(hn:ts.length<1000)(f:Nat){Q:Bool->T3->Prop}
  (q:∀(h':Heap) (o':Obj) (c8:List (Addr×List Int)) (dX:Array (Int×TY)) (oB:Nat) (t':SetTable) (added:Bool),VS a s.heap h'->h'.get? a=some o'->cH prog w o' c8 dX oB t' ->
   ((∃x∈ts,x.2=k)->c8=ts)->((∀x∈ts,x.2≠k)->c8.Perm ((b,k)::ts))->Q added {s with heap:=h'}) :
  UQ (model prog w) A (setAddHashedIn a (.ref b) (kH prog w k) (f+1)) Q E s:=by
 unfold setAddHashedIn;refine TZ (VD ho S.dat S.fits ?_);dsimp only;rw[if_neg (by simp[byScan,Value.scannable])]
 refine TZ (uV ho S T hk hu (λN g1 g2 g3=>?_) λi g1 g2=>?_)
 ·dsimp only;refine TZ (VD ho S.dat S.fits ?_);dsimp only;have hr:t.place.size+1<=t.mask:=by
   have:=S.LO;obtain⟨j,hj,e⟩:=S.wf.C1;have:2 ^ 3<=2 ^ j:=WH (by decide) hj
   lia
  obtain⟨W,hp⟩:=S.wf.put (jC _ _ _) g2 g3 hr;have pe:(t.put (cv t.mask (kH prog w k) N)).1.plain=t.plain/\(t.put (cv t.mask (kH prog w k) N)).1.led=t.led/\(t.put (cv t.mask (kH prog w k) N)).1.mask=t.mask:=⟨rfl,rfl,rfl⟩;have pf:(t.put (cv t.mask (kH prog w k) N)).1.dummies=#[]:=W.GW;generalize (t.put (cv t.mask (kH prog w k) N)).1=t1 at *
  generalize (t.put (cv t.mask (kH prog w k) N)).2=p at *
  obtain⟨Mb,OL,QM⟩:=pe;rw[Mb,S.GB,if_pos rfl];refine TZ (DR hk ?_);rw[if_pos rfl];have hz:=S.size;have F5:(SetTable.insertAt es p (kH prog w k,Value.ref b)).toList=(ts.take p++(b,k)::ts.drop p).map (ent prog w):=by
   rw[lj,S.F6,Ux,Uy,WE,W_]
  have W1:WF t1 ((ts.take p++(b,k)::ts.drop p).map λx=>kH prog w x.2):=by
   rw[Ux,Uy,WE,W_];exact W
  have pm:(ts.take p++(b,k)::ts.drop p).Perm ((b,k)::ts):=yf ts p (b,k);have jy:(ts.take p++(b,k)::ts.drop p).length=ts.length+1:=pm.length_eq;have BD:((ts.take p++(b,k)::ts.drop p).map (·.2)).Nodup:=by
   refine((pm.map (·.2)).nodup_iff).mpr ?_;rw[Uy,UM];exact⟨λhm=>by
    obtain⟨x,hx,e⟩:=UG.mp hm;exact g1 x hx e,S.Mm⟩
  have uZ:(SetTable.insertAt es p (kH prog w k,Value.ref b)).size=ts.length+1:=by rw[<- Ue,F5,TX,jy]
  have Tj:t1.place.size=ts.length+1:=by have:=W1.sz;rw[TX,jy]at this;exact this
  refine TZ (wpAny_storeSet_of ho S.dat ?_ (by rw[uZ,U8];lia))
  have JO:=um ho S.dat (SetTable.insertAt es p (kH prog w k,Value.ref b)) t1;have Hr:VS a s.heap (s.heap.update a (XW (SetTable.insertAt es p (kH prog w k,Value.ref b)) t1)):=XN _ _ _;have fin:∀(h':Heap) (o':Obj) (c8:List (Addr×List Int)) (dX:Array (Int×TY)) (oB:Nat) (t':SetTable),VS a s.heap h'->h'.get? a=some o'->cH prog w o' c8 dX oB t'->c8.Perm (ts.take p++(b,k)::ts.drop p)->Q true {s with heap:=h'} :=
   λh' o' c8 dX oB t' q1 q2 q3 q4=>q h' o' c8 dX oB t' true q1 q2 q3 (λyZ=>by obtain⟨x,hx,e⟩:=yZ;exact absurd e (g1 x hx)) λ_=>q4.trans pm
  by_cases qi:t1.tooFull=true
  ·rw[qi,if_pos (by rfl)]
   have JZ:SetTable.grown (es.size+1)=SetTable.grown (ts.take p++(b,k)::ts.drop p).length:=by rw[jy,hz.1]
   rw[JZ];refine TZ (w5 (s:={s with heap:=s.heap.update a (XW (SetTable.insertAt es p (kH prog w k,Value.ref b)) t1)}) JO S.ex rfl F5 W1 (by lia) (by lia) (OL.trans S.led) (Mb.trans S.GB) BD λc8 dX t' r1 r2=>Uj ?_)
   have Rw:=um JO rfl dX t';exact fin _ _ c8 dX _ t' (Hr.trans (XN _ _ _)) Rw r2 r1
  ·rw[if_neg (by simpa using qi)]
   refine Uj (fin _ _ _ _ _ _ Hr JO ⟨S.ex,rfl,F5,W1,?_,by rw[QM];exact S.C1,OL.trans S.led,Mb.trans S.GB,BD⟩ (.refl _))
   unfold SetTable.tooFull SetTable.fill at qi;rw[pf]at qi;simp at qi;lia
 ·dsimp only;exact Uj (q s.heap o ts es ep t false (Heap.SameBut.refl _ _) ho S (λ_=>rfl) λg=>absurd g1 λBW=>by obtain⟨x,hx,e⟩:=BW;exact g x hx e)
theorem DT (ho:s.heap.get? a=some o)(S:cH prog w o ts es ep t)(T:CC prog w s.heap ts)(hk:(TK prog w).is s.heap k b)(hu:A.units<WN)(hn:ts.length<1000){Q:Bool->T3->Prop}
  (q:∀(h':Heap) (o':Obj) (c8:List (Addr×List Int)) (dX:Array (Int×TY)) (oB:Nat) (t':SetTable) (added:Bool) (tk:Nat),s.toks<=tk->VS a s.heap h'->h'.get? a=some o'->cH prog w o' c8 dX oB t' ->
   ((∃x∈ts,x.2=k)->c8=ts)->((∀x∈ts,x.2≠k)->c8.Perm ((b,k)::ts))->Q added {s with heap:=h',toks:=tk}) :
  UQ (model prog w) A (setAdd a (.ref b)) Q E s:=by
 unfold setAdd;refine Vs ?_;refine TZ ((TK prog w).pyHash hu hk ?_);unfold setAddHashed;refine Vs ?_;exact xc (s:={s with toks:=s.toks+(TK prog w).draws k}) ho S T hk hu hn 99999 λh' o' c8 dX oB t' added r1 r2 r3 r4 r5=>q h' o' c8 dX oB t' added _ (Nat.le_add_right _ _) r1 r2 r3 r4 r5
end
theorem lI {α:Type}:∀{l:List α} {i:Nat} (h:i<l.length),(l[i]::l.eraseIdx i).Perm l
 |[],_,h=>absurd h (Yr _)
 |x::l,0,_=>.refl _
 |x::l,i+1,h=>by
  have h':i<l.length:=by rw[Um]at h;lia
  show (l[i]::x::l.eraseIdx i).Perm (x::l);exact(List.Perm.swap _ _ _).trans ((lI h').cons x)
theorem tZ {α:Type}(next:Nat->Nat):∀(f k:Nat) (left:List α) (out:Array α),f=left.length->(pickOrder.go next f k left out).toList.Perm (out.toList++left)
 |0,k,left,out,e=>by
  obtain rfl:left=[]:=List.length_eq_zero_iff.mp e.symm;unfold pickOrder.go;rw[Vo]
 |f+1,k,left,out,e=>by
  unfold pickOrder.go;have hi:next k % left.length<left.length:=WS _ (by lia)
  rw[T5 hi];dsimp only;refine(tZ next f (k+1) _ _ (by rw[List.length_eraseIdx_of_lt hi];lia)).trans ?_
  rw[VF,U4];exact Xx _ (lI hi)
theorem vp {α:Type}(next:Nat->Nat)(xs:Array α):(pickOrder next xs).toList.Perm xs.toList:=by
 have:=tZ next xs.size 0 xs.toList #[] (by rw[Ue])
 exact this
theorem bN:Slot "set_iterator" "__next__" "set_iterator.__next__" :=
 .of (owner:="set_iterator") (n:="__next__") (by rw[typeLookup_type,builtinLookup_eq_fast];kernel_rfl) (by decide +kernel) (by decide +kernel) (by decide +kernel)
  (by first|exact .inl (by decide +kernel)|exact .inr (by decide +kernel)) (by rw[Yu];kernel_rfl)
theorem gj:Slot "set_iterator" "__iter__" "set_iterator.__iter__" :=
 .of (owner:="set_iterator") (n:="__iter__") (by rw[typeLookup_type,builtinLookup_eq_fast];kernel_rfl) (by decide +kernel) (by decide +kernel) (by decide +kernel)
  (by first|exact .inl (by decide +kernel)|exact .inr (by decide +kernel)) (by rw[Yu];kernel_rfl)
theorem fO:entryFor table "set_iterator.__next__" = some Wr.«set_iterator.__next__»:=entryFor_of_tree (by kernel_rfl)
theorem lD:entryFor table "set_iterator.__iter__" = some Wr.«dict_keyiterator.__iter__» :=
 entryFor_alias (id':="dict_keyiterator.__iter__") (by kernel_rfl) rfl (by decide +kernel) (by kernel_rfl)
theorem lE:entryFor table "set.__iter__" = some Wr.«frozenset.__iter__» :=
 entryFor_alias (id':="frozenset.__iter__") (by kernel_rfl) rfl (by decide +kernel) (by kernel_rfl)
theorem gA (a:TY):argsOk "set_iterator.__next__" ⟨[a],[]⟩:=by unfold argsOk;kernel_rfl
theorem mh (a:TY):argsOk "set_iterator.__iter__" ⟨[a],[]⟩:=by unfold argsOk;kernel_rfl
section
variable {prog:T7}{w:Ur}{A:U6}{E:TY->T3->Prop}{s:T3}
variable {a:Addr}{o:Obj}{ts:List (Addr×List Int)}{es:Array (Int×TY)}{ep:Nat}{t:SetTable}
abbrev zV (w:Ur):Bool:=w.params.followText "set-order"
theorem ip {Q:Bool->T3->Prop}(q:Q (zV w) s):UQ (model prog w) A setsByText Q E s:=by
 unfold setsByText;exact TZ (Xc (Uj q))
def bP (w:Ur)(a:Addr)(ep:Nat)(es:Array (Int×TY)):Array (Int×TY):=if zV w=true then pickOrder (w.params.setOrder a ep) es else es
theorem fV (w:Ur)(a:Addr)(ep:Nat)(es:Array (Int×TY)):(bP w a ep es).toList.Perm es.toList:=by
 unfold bP
 split
 ·exact vp _ _
 ·exact .refl _
theorem vC (S:cH prog w o ts es ep t){Q:Bool->T3->Prop}(ho:s.heap.get? a=some o)(q:Q false s):UQ (model prog w) A (setDrawn a) Q E s:=by
 unfold setDrawn;refine TZ (VD ho S.dat S.fits ?_);dsimp only;refine TZ (ip (Uj ?_));have:(!zV w&&(!t.plain&&decide (es.size>1)))=false:=by rw[S.GB];simp
 show Q (!zV w&&(!t.plain&&decide (es.size>1))) s;rw[this];exact q
theorem jX (ho:s.heap.get? a=some o)(S:cH prog w o ts es ep t){sl i:Nat}{Q:Option (TY×Nat)->T3->Prop}(GD:zV w=false->SetTable.below t.place sl=i)
  (q1:∀e,(bP w a ep es)[i]?=some e->∀Ej:Nat,(zV w=false->SetTable.below t.place Ej=i+1)->Q (some (e.2,Ej)) s) (q2:(bP w a ep es)[i]?=none->Q none s) :
  UQ (model prog w) A (setNext a sl i ep) Q E s:=by
 unfold setNext;refine TZ (VD ho S.dat S.fits ?_);dsimp only;refine TZ (ip ?_);cases hb:zV w with
 |true =>
  rw[if_pos rfl,if_neg (by simp)]
  unfold setWalk;refine TZ (TZ (VD ho S.dat S.fits ?_));dsimp only;refine TZ (ip ?_);rw[hb,if_pos rfl];refine TZ (Xc (Uj (Uj ?_)));have e:bP w a ep es=pickOrder (w.params.setOrder a ep) es:=by unfold bP;rw[hb,if_pos rfl]
  rw[e]at q1 q2;show Q (((pickOrder (w.params.setOrder a ep) es)[i]?).map λe=>(e.2,sl)) s;cases hx:(pickOrder (w.params.setOrder a ep) es)[i]? with
  |none=>exact q2 hx
  |some x=>exact q1 x hx sl (λz=>by rw[hb]at z;cases z)
 |false =>
  rw[if_neg (by simp)]
  have e:bP w a ep es=es:=by unfold bP;rw[hb,if_neg (by simp)]
  rw[e]at q1 q2;have hd:(!t.plain&&decide (es.size>1))=false:=by rw[S.GB];rfl
  show UQ _ _ (if (!t.plain&&decide (es.size>1))=true then _ else _) _ _ _
  rw[hd,if_neg (by simp)]
  have hl:t.led=true:=by
   rw[S.led];show (!zV w)=true;rw[hb];rfl
  refine TZ ?_;show UQ _ _ (if (!t.led&&!es.isEmpty)=true then _ else _) _ _ _
  rw[hl,if_neg (by simp)]
  refine Uj (Uj ?_);rw[GD hb];have hz:=S.size
  by_cases hi:i<t.place.size
  ·have h1:es[i]?=some es[i]:=getElem?_pos es i (by omega)
   rw[h1,sR hi];refine q1 _ h1 _ λ_=>?_;obtain⟨b1,b2,b3⟩:=fe S.wf.vg (g t.place i+1);rcases X8 (SetTable.below t.place (g t.place i+1)) (i+1)with z|z|z
   ·have:=b3 i (by omega) hi
    omega
   ·exact z
   ·have:=b2 (i+1) z;have:=S.wf.vg i (i+1) (by omega) (by omega)
    omega
  ·have h1:es[i]?=none:=VH (by omega)
   rw[h1];exact q2 h1
end
section
variable {prog:T7}{w:Ur}{A:U6}{E:TY->T3->Prop}{s:T3}
variable {a b it:Addr}{o:Obj}{ts:List (Addr×List Int)}{es:Array (Int×TY)}{ep:Nat}{t:SetTable}
def nJ (sl i:Nat)(a:Addr)(n ep:Nat):Obj:={cls:=.type "set_iterator",dict:=none,data:=.fields #[.int sl 0,.int i 0,.ref a,.int n 0,.int ep 0],slots:=#[]}
theorem kc {sl i n:Nat} (h:s.heap.get? it=some (nJ sl i a n ep)):s.TypeIs (.ref it) "set_iterator" := ⟨_,h,rfl⟩
def G2 (prog:T7)(w:Ur)(it a:Addr)(ts:List (Addr×List Int))(es:Array (Int×TY))(ep:Nat)(i:Nat)(h:Heap):Prop :=
 ∃sl o t,h.get? it=some (nJ sl i a es.size ep)/\h.get? a=some o/\cH prog w o ts es ep t/\(zV w=false->SetTable.below t.place sl=i)
theorem xH (vX:a≠it){i:Nat}{e:Int×TY}{Q:Option TY->T3->Prop}(st:G2 prog w it a ts es ep i s.heap)(he:(bP w a ep es)[i]?=some e)
  (q:∀h',G2 prog w it a ts es ep (i+1) h'->VS it s.heap h'->Q (some e.2) {s with heap:=h'}):UQ (model prog w) A (XR (.ref it)) Q E s:=by
 obtain⟨sl,o,t,hi,ho,S,hb⟩:=st;have hT:=kc hi;unfold XR;refine TZ (wpAny_attempt (wpAny_callSpecial?_slot (name:=Str.ofString "__next__") hT bN (Wc bN hT fO ?_ (gA _))));unfold Wr.«set_iterator.__next__»
 refine TZ (Uj ?_);refine TZ (wpAny_fieldsOf hi rfl ?_);dsimp only;refine TZ (XH ho S.dat S.fits ?_);rw[if_neg (by simp)]
 refine TZ (jX (i:=i) ho S (λz=>by simpa using hb z) (λe' J1 Ej IW=>?_) λhn=>?_)
 ·rw[he]at J1;obtain rfl:=UD J1;dsimp only;refine TZ (wpAny_setField_rec hi (by simp) λh1 g1 Hr=>?_)
  refine TZ (wpAny_setField_rec (s:={s with heap:=h1}) g1 (by simp) λh2 g2 OD=>?_)
  refine Uj ⟨_,rfl,Uj (q h2 ⟨Ej,o,t,?_,?_,S,IW⟩ (Hr.trans OD))⟩
  ·rw[g2];rfl
  ·rw[(Hr.trans OD).2 a vX];exact ho
 ·rw[he]at hn;cases hn
theorem AK (hh:A.handled=none)(vX:a≠it){i:Nat}{Q:Option TY->T3->Prop}(st:G2 prog w it a ts es ep i s.heap)(he:(bP w a ep es)[i]?=none)
  (q:∀h',Heap.ExtBut it s.heap h'->Q none {s with heap:=h'}):UQ (model prog w) A (XR (.ref it)) Q E s:=by
 obtain⟨sl,o,t,hi,ho,S,hb⟩:=st;have hT:=kc hi;unfold XR;refine TZ (wpAny_attempt (wpAny_callSpecial?_slot (name:=Str.ofString "__next__") hT bN (Wc bN hT fO ?_ (gA _))));unfold Wr.«set_iterator.__next__»
 refine TZ (Uj ?_);refine TZ (wpAny_fieldsOf hi rfl ?_);dsimp only;refine TZ (XH ho S.dat S.fits ?_);rw[if_neg (by simp)]
 refine TZ (jX (i:=i) ho S (λz=>by simpa using hb z) (λe' J1 Ej IW=>?_) λhn=>?_)
 ·rw[he]at J1;cases J1
 ·dsimp only;refine TZ (wpAny_setField hi rfl (by simp) ?_)
  refine TZ ?_;simp only[newExc,newTuple];refine TZ (Wv ?_ (by size_fits))
  refine TZ (m:=firstArgMember _ _) (wpAny_of_eq (a:=Value.none) (by first|rfl|(simp only[firstArgMember];rfl)) ?_)
  refine Wv ?_ (by size_fits)
  simp only[raiseNew];refine TZ (wpAny_handled ?_);rw[show A.in1.handled=none from hh]
  refine TZ (Uj (wpAny_throw ?_));refine TZ (wpAny_isInstance (T:="StopIteration") (b:=true) ⟨_,UT _ rfl,rfl⟩ isSubtype_stop ?_);exact Uj (q _ (((XN ..).extBut.push _).push _))
theorem xG {i:Nat}{Q:TY->T3->Prop}(st:G2 prog w it a ts es ep i s.heap)(q:Q (.ref it) s):UQ (model prog w) A (XS (.ref it)) Q E s:=by
 obtain⟨sl,o,t,hi,ho,S,hb⟩:=st;have hT:=kc hi;refine wpAny_pyIter_slot hT gj (Wc gj hT lD ?_ (mh _));show UQ _ _ (ret (.ref it)) _ _ s;exact Uj ⟨_,rfl,"set_iterator",_,hT,bN.lookup,q⟩
theorem vb (hh:A.handled=none)(vX:a≠it):Walks prog w A it [it,a] [it] es.size (λi v=>∃e,(bP w a ep es)[i]?=some e/\v=e.2) (G2 prog w it a ts es ep) where
 sub:=λb hb=>by rw[T_.mp hb];exact Uz
 frame:=λi h h' ⟨sl,o,t,h1,h2,h3⟩ hk=>⟨sl,o,t,hk it Uz _ h1,hk a (UA _ Uz) _ h2,h3⟩
 item:=λi s Q E hi st hQ=>by
  have hz:(bP w a ep es).size=es.size:=by
   have:=(fV w a ep es).length_eq;rw[Ue,Ue]at this;exact this
  have he:(bP w a ep es)[i]?=some (bP w a ep es)[i]:=getElem?_pos _ i (by lia)
  exact xH vX st he λh' aD sb=>hQ _ h' s.toks ⟨_,he,rfl⟩ aD λb o hb e=>sb.extBut b o (λz=>hb (by rw[z];exact T_.mpr rfl)) e
 done:=λs Q E st hQ=>by
  have hz:(bP w a ep es).size=es.size:=by
   have:=(fV w a ep es).length_eq;rw[Ue,Ue]at this;exact this
  exact AK hh vX st (VH (by lia)) λh' eb=>hQ h' s.toks λb o hb e=>eb b o (λz=>hb (by rw[z];exact T_.mpr rfl)) e
 self:=λi s Q E st hQ=>xG st hQ
theorem kg (ho:s.heap.get? a=some o) (S:cH prog w o ts es ep t):s.TypeIs (.ref a) "set" := ⟨o,ho,S.ex.1⟩
theorem Aw (ho:s.heap.get? a=some o)(S:cH prog w o ts es ep t){Q:TY->T3->Prop}(q:Q (.ref s.heap.objs.size) {s with heap:=s.heap.push (nJ 0 0 a es.size ep)}):
  UQ (model prog w) A (XS (.ref a)) Q E s:=by
 have hT:=kg ho S;refine wpAny_pyIter_slot hT F.slot_set_iter (Wc F.slot_set_iter hT lE ?_ (F.args_set_iter_1 _));unfold Wr.«frozenset.__iter__» Builtin.Frozenset.slot0 Builtin.Frozenset.sizeOf;refine TZ (TZ (Uj (Uj ?_)));refine TZ (TZ (XH ho S.dat S.fits (Uj ?_)));refine TZ (vC S ho ?_);rw[if_neg (by simp)]
 refine TZ (Uj ?_);refine TZ (wpAny_setEpoch_of ho S.dat S.fits ?_);unfold newFields;refine TZ (Wv (Uj ⟨_,rfl,"set_iterator",_,⟨_,UT _ rfl,rfl⟩,bN.lookup,?_⟩) (by size_fits))
 exact q
theorem Ax (ho:s.heap.get? a=some o)(S:cH prog w o ts es ep t){Q:Bool->T3->Prop}(q:Q false s):UQ (model prog w) A (Yt (.ref a)) Q E s:=by
 have hT:=kg ho S;unfold Yt;refine TZ (wpAny_specialOf hT PySem.F.slot_set_len.lookup ?_);generalize Po:("set.__len__" : String)=Rc
 wp_delta
 rw[show splitId Rc=some ("set","__len__") from by subst Po;decide +kernel]
 subst Po;refine TZ (wpAny_isInstance (T:="set") (b:=true) hT (by rw[Yu];kernel_rfl) ?_)
 refine wpAny_ite_split (λGO=>absurd GO (by decide)) (λ_=>?_)
 refine wpAny_ite_split (λ_=>?_) (λGO=>absurd (by decide +kernel) GO)
 refine TZ (wpAny_typeOf hT ?_);exact Uj q
theorem AL (prog:T7)(w:Ur)(a:Addr)(o:Obj)(ts:List (Addr×List Int))(es:Array (Int×TY))(ep:Nat)(t:SetTable)(S:cH prog w o ts es ep t):
  PySem.W.KdlSrc prog w "set" a a es.size (λi v=>∃e,(bP w a ep es)[i]?=some e/\v=e.2) (λh=>h.get? a=some o) where
 type:=λs ho=>kg ho S
 there:=λh ho=>⟨Us ho,Us ho⟩
 keep:=λh h' ho hk=>hk a (.inl rfl) _ ho
 notList:=by decide
 notTuple:=by decide
 hint:=λA E s Q ho q=>Ax ho S q
 iter:=λA s hh ho=>⟨nJ 0 0 a es.size ep,G2 prog w s.heap.objs.size a ts es ep,λE Q q=>Aw ho S q,vb hh (UI (Us ho)),
  0,o,t,UT _ rfl,Ud _ ho,S,λ_=>by
   obtain⟨b1,b2,b3⟩:=fe S.wf.vg 0;rcases Nat.eq_zero_or_pos (SetTable.below t.place 0)with z|z
   ·exact z
   ·have:=b2 0 z;lia⟩
theorem pN {α β:Type}{f:α->β}:∀{ts:List α} {l:List β},l.Perm (ts.map f)->∃us:List α,us.Perm ts/\l=us.map f
 |[],l,h=>⟨[],.refl _,List.perm_nil.mp h⟩
 |x::ts,l,h=>by
  obtain⟨l1,l2,rfl⟩:=List.append_of_mem (h.mem_iff.mpr (show f x∈(x::ts).map f from Uz))
  have h':(l1++l2).Perm (ts.map f):=(Xf.symm.trans h).cons_inv;obtain⟨us,h1,h2⟩:=pN h';obtain⟨u1,u2,rfl,e1,e2⟩:=List.map_eq_append_iff.mp h2.symm;refine⟨u1++x::u2,Xf.trans (h1.cons x),?_⟩;rw[Ux,Uy,e1,e2]
end
section
variable {prog:T7}{w:Ur}{A:U6}{E:TY->T3->Prop}{s:T3}
variable {o:Obj}{ts:List (Addr×List Int)}{es:Array (Int×TY)}{ep:Nat}{t:SetTable}
def kS (w:Ur):Obj:={cls:=.type "set",dict:=none,data:=.set #[] 0 (.fresh 0 0 (!zV w))}
theorem BA (prog:T7)(w:Ur):cH prog w (kS w) [] #[] 0 (.fresh 0 0 (!zV w)) where
 ex:=⟨rfl,rfl,rfl⟩
 dat:=rfl
 F6:=rfl
 wf:=⟨rfl,rfl,λi j _ hj=>absurd hj (Yr _),λi hi=>absurd hi (Yr _),⟨3,T4 _,rfl⟩,Uh _,λi h hi=>by simp at hi⟩
 LO:=by show 0*5<7*3;decide
 C1:=by show 7<=8191;decide
 led:=rfl
 GB:=rfl
 Mm:=Ve
theorem yH {xs:List TY} {R:TY->T3->Prop} (hc:checkBuiltinCall "set.__new__" ⟨.type "set" :: xs,[]⟩=pure ()) (hx:xs=[]\/∃v,xs=[v]) (q:R (.ref s.heap.objs.size) {s with heap:=s.heap.push (kS w)}) :
  WZ (model prog w) A (.call (.builtin "set.__new__") ⟨.type "set" :: xs,[]⟩) (wants R E) s:=by
 refine Yq ?_;show UQ _ A.in1 (checkBuiltinCall "set.__new__" ⟨.type "set" :: xs,[]⟩ >>= λ_=>again (.builtin "set.__new__" ⟨.type "set" :: xs,[]⟩)) _ _ s;refine TZ (wpAny_of_eq hc (Uj ⟨plainId_quiet F.plain_set_new _,Xo F.entry_set_new ?_⟩));rw[XE F.plain_set_new _];unfold Wr.«set.__new__» Builtin.Frozenset.newClass;have Qu:=sub_set_self;obtain⟨hp,gs,dr,tk,os⟩:=s;rcases hx with rfl|⟨v,rfl⟩
 all_goals
  dsimp only
  wp_walk
  refine Xc (Uj ?_);dsimp only;simp only[newObj];exact TZ (wpAny_alloc (Uj (Uj q)))
theorem vK {I:Addr}{fp wr:List Addr}{G:Array YB->Array YB->Prop}{vs:List (Addr×List Int)}{St:Nat->T3->Prop}{R:Result->T3->Prop}(hu:A.in1.units<WN)
  {n:Nat} {P:Nat->TY->Prop} (W:WalksS prog w A.in1 I fp wr G n P St) (JQ:n=vs.length) (R9:∀(i:Nat) (v:TY),P i v->∃x,vs[i]?=some x/\v=.ref x.1) (sa:Addr) (Pd:sa∉fp) (hn:vs.length<1000) (hv:∀x∈vs,x.1∉wr/\x.1≠sa) :
  ∀(d i:Nat) (s:T3) (o:Obj) (ts:List (Addr×List Int)) (es:Array (Int×TY)) (ep:Nat) (t:SetTable),vs.length-i=d->i<=vs.length->St i s->CC prog w s.heap vs->s.heap.get? sa=some o->cH prog w o ts es ep t ->
   (∀x∈ts,x∈vs.take i)->(∀x∈vs.take i,∃y∈ts,y.2=x.2)->ts.length<=i ->
   (∀s' o' c8 dX oB t',Moved (sa::wr) G s s'->s'.heap.get? sa=some o'->cH prog w o' c8 dX oB t'->(∀x∈c8,x∈vs)->(∀x∈vs,∃y∈c8,y.2=x.2)->R (.ok (.ret .none)) s') ->
   WZ (model prog w) A (.builtin "set.update.loop" ⟨[.ref sa,.ref I],[]⟩) R s:=by
 subst JQ;have oS:sa∉wr:=λz=>Pd (W.sub _ z);have up:∀x∈wr,x∈sa::wr:=λx hx=>UA _ hx;intro d
 induction d with
 |zero =>
  intro i s o ts es ep t hd hi st T ho S k1 k2 k3 hR;obtain rfl:i=vs.length:=by lia
  refine Xo F.entry_set_update_loop ?_;rw[XE F.plain_set_update_loop _];show UQ _ A.in1 (XR (.ref I) >>= _) _ _ s;refine TZ (W.done s _ _ st λs' mv=>?_);rw[Vd]at k1 k2;exact Uj (hR s' o ts es ep t (mv.mono up) (mv.heap sa _ oS ho) S k1 k2)
 |succ d ih =>
  intro i s o ts es ep t hd hi st T ho S k1 k2 k3 hR;have lt:i<vs.length:=by lia
  refine Xo F.entry_set_update_loop ?_;rw[XE F.plain_set_update_loop _];show UQ _ A.in1 (XR (.ref I) >>= _) _ _ s;refine TZ (W.item i s _ _ lt st λv s1 hP Hn mv=>?_);obtain⟨x,hx,rfl⟩:=R9 i v hP;have IM:x∈vs:=UO hx;have T1:CC prog w s1.heap vs:=λy hy=>by
   obtain⟨oy,its,n,g1,g2⟩:=T y hy;exact⟨oy,its,n,mv.heap _ _ (hv y hy).1 g1,g2⟩
  have JO:=mv.heap sa _ oS ho;refine TZ (Vs (DT JO S (λy hy=>T1 y (WJ (k1 y hy))) (T1 x IM) hu (by lia) λh' o' c8 dX oB t' added tk r0 r1 r2 r3 r4 r5=>?_))
  have Qi:vs.take (i+1)=vs.take i++[x]:=by rw[YA,hx];rfl
  have keep:∀c oc,c≠sa->s1.heap.get? c=some oc->h'.get? c=some oc:=λc oc hc e=>by rw[r1.2 c hc];exact e
  have step:(∀y∈c8,y∈vs.take (i+1))/\(∀y∈vs.take (i+1),∃z∈c8,z.2=y.2)/\c8.length<=i+1:=by
   rw[Qi]
   by_cases B0:∃y∈ts,y.2=x.2
   ·rw[r4 B0];refine⟨λy hy=>Vg _ (k1 y hy),λy hy=>?_,by lia⟩
    rcases Uq.mp hy with z|z
    ·exact k2 y z
    ·rw[T_.mp z];exact B0
   ·have pm:=r5 λy hy e=>B0 ⟨y,hy,e⟩;refine⟨λy hy=>?_,λy hy=>?_,by rw[pm.length_eq,Um];lia⟩
    ·rcases Uc.mp (pm.mem_iff.mp hy)with rfl|z
     ·exact UP _ (T_.mpr rfl)
     ·exact Vg _ (k1 y z)
    ·rcases Uq.mp hy with z|z
     ·obtain⟨u,hu,e⟩:=k2 y z;exact⟨u,pm.mem_iff.mpr (UA _ hu),e⟩
     ·rw[T_.mp z];exact⟨x,pm.mem_iff.mpr Uz,rfl⟩
  have QW:Moved (sa::wr) G s {s1 with heap:=h',toks:=tk} :=
   (mv.mono up).then_heap r0 λc oc hc e=>keep c oc (λz=>hc (by rw[z];exact Uz)) e
  refine Uj ⟨plainId_quiet F.plain_set_update_loop _,ih (i+1) _ o' c8 dX oB t' (by lia) lt (W.frame _ s1 _ _ Hn r0 λc hc oc e=>keep c oc (λz=>Pd (by rw[<- z];exact hc)) e) (λy hy=>?_) r2 r3 step.1 step.2.1 step.2.2 λs' o2 Qg So Ss t2 m1 m2 m3 m4 m5=>hR s' o2 Qg So Ss t2 (Moved.trans W.gtrans QW m1) m2 m3 m4 m5⟩
  obtain⟨oy,its,n,g1,g2⟩:=T1 y hy;exact⟨oy,its,n,keep _ _ (hv y hy).2 g1,g2⟩
end
section
variable {prog:T7}{w:Ur}{A:U6}{E:TY->T3->Prop}{s:T3}
theorem wt {l:Addr}{vs:List (Addr×List Int)}{Q:TY->T3->Prop}(hh:A.handled=none)(hu:A.units+16<WN)(hl:s.heap.IsList l (vs.map λx=>Value.ref x.1).toArray)(hn:vs.length<1000)(T:CC prog w s.heap vs)
  (q:∀(h':Heap) (tk:Nat) (o':Obj) (ts:List (Addr×List Int)) (es:Array (Int×TY)) (ep:Nat) (t:SetTable),(∀c oc,s.heap.get? c=some oc->h'.get? c=some oc)->h'.get? s.heap.objs.size=some o'->cH prog w o' ts es ep t ->
   (∀x∈ts,x∈vs)->(∀x∈vs,∃y∈ts,y.2=x.2)->Q (.ref s.heap.objs.size) {s with heap:=h',toks:=tk}) :
  UQ (model prog w) A (call (.type "set") [.ref l]) Q E s:=by
 obtain⟨cx,Te,QX⟩:=F.called_set.mro;have OX:=F.called_set.made;have Qs:=F.called_set.sub;refine wpAny_call (Yq ?_);show UQ _ _ (callAny (.type "set") _) _ _ _;refine Uj ⟨Code.quiet_builtin _ (by decide +kernel),Xo F.entry_type_call ?_⟩
 rw[Around.under_plain (weight_type_call_type "set" [.ref l] []) rfl];have t1:=F.called_set.notType;have t2:=F.called_set.canCreate;have t3:=F.typeCall_set_1 (.ref l)
 repeat (any_goals (first|assumption|wp_step))
 have ls:l<s.heap.objs.size:=by obtain⟨ol,M9,_⟩:=hl;exact Us M9
 refine Wx (yH (w:=w) (E:=E) (xs:=[.ref l]) (R:=λob sx=>ob=.ref s.heap.objs.size/\sx={s with heap:=s.heap.push (kS w)}) (F.newCall_set_1 _) (.inr ⟨_,rfl⟩) ⟨rfl,rfl⟩) λr sx hr=>?_
 cases r with
 |error e=>exact hr
 |ok fl =>
  cases fl with
  |ret ob =>
   obtain⟨rfl,rfl⟩:=hr;have hS:(s.heap.push (kS w)).get? s.heap.objs.size=some (kS w):=UT _ rfl;have hT:Shared.TypeIs {s with heap:=s.heap.push (kS w)} (.ref s.heap.objs.size) "set" := ⟨_,hS,rfl⟩
   have i1:=F.called_set.init.lookup;have i2:=F.called_set.init.bind (.ref s.heap.objs.size)
   repeat (any_goals (first|assumption|wp_step))
   refine Wx (codeAny_call_builtin (R:=wants (λr s2=>r=.none/\Q (.ref s.heap.objs.size) s2) E) F.called_set.init.plain F.entry_set_init (check_set_init_1 hT ?_)) λr2 s2 l5=>?_
   ·obtain⟨ol,M9,zm,nl,J2⟩:=hl;obtain⟨c1,c2,c3,c4⟩:=ol;simp only at zm J2;subst zm J2;have M8:(s.heap.push (kS w)).get? l=some {cls:=.type "list",dict:=c2,data:=.seq (vs.map λx=>Value.ref x.1).toArray nl,slots:=c4}:=Ud _ M9;have u1:=F.sub_list_set;have u2:=F.sub_list_frozenset;have u3:(Value.type "list" == Value.type "dict")=false:=by decide
    have JT:(s.heap.push (kS w)).IsList l (vs.map λx=>Value.ref x.1).toArray:=⟨_,M8,rfl,nl,rfl⟩;unfold Wr.«set.__init__» noKeywords Builtin.Frozenset.updateFrom;generalize R_:XS=PI
    wp_walk
    subst R_;refine X1 JT ?_;refine TZ (wpAny_runValue ?_);have Ri:A.in1.in1.in1.handled=none:=by simp[hh]
    have uu:A.in1.in1.in1.units<WN:=by
     have e1:∀B:U6,B.in1.units=B.units+1:=λB=>rfl;rw[e1,e1,e1];lia
    have nI:l≠(s.heap.push (kS w)).objs.size:=by rw[XC];exact UI (Wz ls)
    have hf:s.heap.objs.size∉[(s.heap.push (kS w)).objs.size,l]:=by
     rw[XC];simp only[Uc,VJ,or_false,not_or];exact⟨UI (Nat.lt_succ_self _),Nat.ne_of_gt ls⟩
    have old:∀x∈vs,x.1<s.heap.objs.size:=λx hx=>by
     obtain⟨oy,its,n,g1,g2⟩:=T x hx;exact Us g1
    refine vK (vs:=vs) uu ((Walks.list Ri _ l nI _).toS) (by simp) (λi v hv=>?_) s.heap.objs.size hf hn (λx hx=>?_) vs.length 0 _ (kS w) [] #[] 0 _ (by lia) (Uh _) ⟨⟨_,UT _ rfl,rfl,rfl⟩,JT.push _⟩ (λx hx=>?_) (Ud _ hS) (BA prog w) (λx hx=>by cases hx) (λx hx=>by simp at hx) (Uh _) λs' o' c8 dX oB t' m1 m2 m3 m4 m5=>?_
    ·have hv:(vs.map λx=>Value.ref x.1).toArray[i]?=some v:=hv;rw[Xv,T6]at hv;obtain⟨x,e1,e2⟩:=Uk.mp hv;exact⟨x,e1,e2.symm⟩
    ·have:=old x hx;refine⟨λz=>?_,UI this⟩;have z:=T_.mp z;rw[XC]at z;exact absurd z (UI (Wz this))
    ·obtain⟨oy,its,n,g1,g2⟩:=T x hx;exact⟨oy,its,n,Ud _ (Ud _ g1),g2⟩
    ·obtain⟨h',g',d',Qj,Mf⟩:=s';have eg:g'=s.gens:=m1.gens;have ed:d'=s.drawn:=m1.drawn;have eo:Mf=s.os:=m1.os;subst eg ed eo;refine Uj (Uj ⟨rfl,q h' Qj o' c8 dX oB t' (λc oc e=>?_) m2 m3 m4 m5⟩);have hc:=Us e;refine m1.heap c oc (λz=>?_) (Ud _ (Ud _ e));rcases Uc.mp z with z|z
     ·exact absurd z (UI hc)
     ·have z:=T_.mp z;rw[XC]at z;exact absurd z (UI (Wz hc))
   ·cases r2 with
    |error e=>exact l5
    |ok Sf =>
     cases Sf with
     |ret r =>
      obtain⟨rfl,hq⟩:=l5
      repeat (any_goals (first|assumption|wp_step))
     |_=>exact l5.elim
  |_=>exact hr.elim
end
end ST
namespace TS
open PySem PyProof.Rows
section
variable {prog:T7}{w:Ur}{A:U6}{E:TY->T3->Prop}{s:T3}
theorem rP {x:TY}{vs:List TY}{kf:TY->List Int}{Q:TY->T3->Prop}(hz:vs.length<=1000000)
  (col:∀(R:List TY->T3->Prop),(∀(h':Heap) (tk:Nat),(∀b o,s.heap.get? b=some o->h'.get? b=some o)->R vs {s with heap:=h',toks:=tk})->UQ (model prog w) A.in1 (collect x) R E s)
  (T:ml s.heap kf s.heap.objs.size vs)
  (h:∀(out:List TY) (h1 h':Heap) (tk:Nat) (n:Nat),out.Perm vs->out.Pairwise (λx y=>HT.lexLt (kf y) (kf x)=false)->(∀b o,s.heap.get? b=some o->h1.get? b=some o)->(∀b o,h1.get? b=some o->h'.get? b=some o)->h'.get? h1.objs.size=some (VV "list" out.toArray n)->Q (.ref h1.objs.size) {s with heap:=h',toks:=tk}) :
  UQ (model prog w) A (call (.builtin "sorted") [x]) Q E s:=by
 refine YK kind_sorted plain_sorted entry_sorted (args_sorted1 _) ?_;unfold Wr.«sorted»
 refine TZ (m:=checkCount "sorted" 1 1 _) (Uj ?_);refine TZ (col _ λh' tk kp=>?_);have nl:vs.length<=Ul:=by rw[U8];lia
 refine TZ (wpAny_newList ?_ nl);have hl:(h'.push (VV "list" vs.toArray 0)).get? h'.objs.size=some (VV "list" vs.toArray 0):=UT _ rfl;have T':ml (h'.push (VV "list" vs.toArray 0)) kf h'.objs.size vs:=λv hv=>by
  obtain⟨t,o,xs,k,e1,_,e3,r⟩:=T v hv;exact⟨t,o,xs,k,e1,UI (Us (kp _ _ e3)),Ud _ (kp _ _ e3),r⟩
 refine TZ (Vs (Wc slot_list_sort ⟨_,hl,rfl⟩ entry_list_sort (k7 (s:={s with heap:=h'.push (VV "list" vs.toArray 0),toks:=tk}) hl hz T' λout hp hs=>⟨_,rfl,?_⟩) (args_list_sort _)))
 obtain⟨n,hn⟩:=sortedHeap_at (out:=out.toArray) hl;refine Uj ⟨_,rfl,h out h' _ tk n hp hs kp (λb o e=>?_) hn⟩;have hb:=Us e;rw[sortedHeap_old (UI hb) (by rw[size_push'];exact Wz hb)]
 exact Ud _ e
end
end TS
namespace ST
open PySem PyProof.Rows
section
variable {prog:T7}{w:Ur}{s:T3}
theorem oW {a:Addr}{o:Obj}{ts:List (Addr×List Int)}{es:Array (Int×TY)}{ep:Nat}{t:SetTable}(ho:s.heap.get? a=some o)(S:cH prog w o ts es ep t)(hn:ts.length<=1000):
  ∃us:List (Addr×List Int),us.Perm ts/\∀(A:U6) (E:TY->T3->Prop) (R:List TY->T3->Prop),A.handled=none->(∀(h':Heap) (tk:Nat),(∀b o,s.heap.get? b=some o->h'.get? b=some o)->R (us.map λx=>Value.ref x.1) {s with heap:=h',toks:=tk}) ->
  UQ (model prog w) A (collect (.ref a)) R E s:=by
 have hw:=fV w a ep es;rw[S.F6]at hw;obtain⟨us,h1,h2⟩:=pN hw;refine⟨us,h1,λA E R hh q=>?_⟩;refine PySem.W.kdu_collect (AL prog w a o ts es ep t S) hh ho (by rw[S.size.1,U8];lia) λh' tk acc hk J7=>?_
 have e:acc.toList=us.map λx=>Value.ref x.1:=by
  have hz:(bP w a ep es).size=es.size:=by
   have:=(fV w a ep es).length_eq;rw[Ue,Ue]at this;exact this
  have e2:us.map (λx=>Value.ref x.1)=(bP w a ep es).toList.map (·.2):=by
   rw[h2,Va];rfl
  rw[e2];apply Vm;intro i;rw[T6,Uv,Uv]
  by_cases hi:i<acc.size
  ·obtain⟨x,g1,g2⟩:=J7.2 i acc[i] (getElem?_pos acc i hi);rw[getElem?_pos acc i hi,g1,g2];rfl
  ·have:=J7.1;rw[VH (by lia),VH (by lia)]
   rfl
 rw[e];exact q h' tk hk
end
end ST
namespace L2
open PySem PySem.Spec PySem.SeqAt PyProof.Rows HT
theorem gG:∀{a b:List Int},lexLt a b=false->lexLt b a=false->a=b
 |[],[],_,_=>rfl
 |[],_::_,h,_=>by cases h
 |_::_,[],_,h=>by cases h
 |x::xs,y::ys,h1,h2=>by
  rw[gF]at h1 h2
  by_cases e:x=y
  ·subst e;rw[if_pos rfl]at h1 h2;rw[gG h1 h2]
  ·rw[if_neg e]at h1;rw[if_neg (λz=>e z.symm)]at h2;have:=of_decide_eq_false h1;have:=of_decide_eq_false h2;omega
theorem k8:∀{a b:List Int},lexLt a b=true->lexLt b a=false
 |[],[],h=>by cases h
 |[],_::_,_=>rfl
 |_::_,[],h=>by cases h
 |x::xs,y::ys,h=>by
  rw[gF]at h ⊢
  by_cases e:x=y
  ·subst e;rw[if_pos rfl]at h ⊢
   exact k8 h
  ·rw[if_neg e]at h;rw[if_neg (λz=>e z.symm)];have:=of_decide_eq_true h;exact decide_eq_false (by lia)
theorem jj:∀{a b c:List Int},lexLt a b=true->lexLt b c=true->lexLt a c=true
 |[],[],_,h,_=>by cases h
 |[],_::_,[],_,h=>by cases h
 |[],_::_,_::_,_,_=>rfl
 |_::_,[],_,h,_=>by cases h
 |x::xs,y::ys,[],_,h=>by cases h
 |x::xs,y::ys,z::zs,h1,h2=>by
  rw[gF]at h1 h2 ⊢
  by_cases e:x=y
  ·subst e;rw[if_pos rfl]at h1
   by_cases e2:x=z
   ·subst e2;rw[if_pos rfl]at h2 ⊢
    exact jj h1 h2
   ·rw[if_neg e2]at h2 ⊢
    exact h2
  ·rw[if_neg e]at h1;have q1:=of_decide_eq_true h1
   by_cases e2:y=z
   ·subst e2;rw[if_neg e];exact h1
   ·rw[if_neg e2]at h2;have q2:=of_decide_eq_true h2;rw[if_neg (by omega)]
    exact decide_eq_true (by omega)
noncomputable def sJ (k:List Int):List (List Int)->List (List Int)
 |[]=>[k]
 |x::xs=>if lexLt x k=true then x::sJ k xs else k::x::xs
def gi:List (List Int)->List (List Int)
 |[]=>[]
 |k::ks=>sJ k (gi ks)
theorem iR (k:List Int):∀xs,(sJ k xs).Perm (k::xs)
 |[]=>.refl _
 |x::xs=>by
  unfold sJ
  split
  ·exact((iR k xs).cons x).trans (List.Perm.swap _ _ _)
  ·exact .refl _
theorem eD:∀ks,(gi ks).Perm ks
 |[]=>.refl _
 |k::ks=>(iR k (gi ks)).trans ((eD ks).cons k)
abbrev td (ks:List (List Int)):Prop:=ks.Pairwise λx y=>HT.lexLt y x=false
theorem le_trans' {a b c:List Int}(h1:lexLt b a=false)(h2:lexLt c b=false):lexLt c a=false:=by
 cases h:lexLt c a with
 |false=>rfl
 |true =>
  cases hb:lexLt a b with
  |true=>rw[jj h hb]at h2;cases h2
  |false =>
   have:=gG hb h1;subst this;rw[h]at h2;cases h2
theorem mQ (k:List Int):∀xs,td xs->td (sJ k xs)
 |[],_=>by simp[sJ]
 |x::xs,h=>by
  obtain⟨h1,h2⟩:=VM.mp h;unfold sJ
  split
  ·rename_i hx
   refine VM.mpr ⟨λy hy=>?_,mQ k xs h2⟩;rcases Uc.mp ((iR k xs).mem_iff.mp hy)with rfl|hy
   ·exact k8 hx
   ·exact h1 y hy
  ·rename_i hx
   have BU:lexLt x k=false:=by cases q:lexLt x k <;> simp_all
   refine VM.mpr ⟨λy hy=>?_,h⟩;rcases Uc.mp hy with rfl|hy
   ·exact BU
   ·exact le_trans' BU (h1 y hy)
theorem j_:∀ks,td (gi ks)
 |[]=>.nil
 |k::ks=>mQ k _ (j_ ks)
theorem i7:∀{a b:List (List Int)},a.Perm b->td a->td b->a=b
 |[],b,p,_,_=>by rw[List.nil_perm.mp p]
 |x::a,[],p,_,_=>by have:=p.length_eq;simp at this
 |x::a,y::b,p,ha,hb=>by
  obtain⟨a1,a2⟩:=VM.mp ha;obtain⟨b1,b2⟩:=VM.mp hb;have IL:x=y:=by
   rcases Uc.mp (p.mem_iff.mp (Uz (a:=x) (l:=a)))with h|h
   ·exact h
   ·rcases Uc.mp (p.mem_iff.mpr (Uz (a:=y) (l:=b)))with h' | h'
    ·exact h'.symm
    ·exact gG (b1 x h) (a1 y h')
  subst IL;rw[i7 (List.perm_cons x |>.mp p) a2 b2]
theorem xv {a b:List (List Int)}(p:a.Perm b)(h:td a):a=gi b:=i7 (p.trans (eD b).symm) h (j_ b)
def mf:List (List Int)->List (List Int)
 |[]=>[]
 |k::ks=>if k∈mf ks then mf ks else k::mf ks
theorem fQ:∀l:List (List Int),(mf l).Nodup/\∀x,x∈mf l↔x∈l
 |[]=>⟨Ve,λ_=>Iff.rfl⟩
 |k::ks=>by
  obtain⟨h1,h2⟩:=fQ ks;unfold mf
  split
  ·rename_i h
   refine⟨h1,λx=>?_⟩;rw[h2 x,Uc];exact⟨.inr,λz=>z.elim (λe=>by rw[e];exact(h2 k).mp h) id⟩
  ·rename_i h
   refine⟨UM.mpr ⟨h,h1⟩,λx=>?_⟩;rw[Uc,Uc,h2 x]
theorem uD:∀l:List (List Int),(mf l).length<=l.length
 |[]=>T4 _
 |k::ks=>by
  have:=uD ks;unfold mf
  split
  ·exact Nat.le_succ_of_le this
  ·simpa using this
abbrev kD (k:List Int):D:=.tup (k.map D.int)
noncomputable def dW:List D->Option (List (List Int))
 |[]=>some []
 |.tup a::ds=>match bz a,dW ds with
  |some k,some ks=>if k=[] then none else some (k::ks)
  |_,_=>none
 |_::_=>none
theorem k_:∀{ds:List D} {ks:List (List Int)},dW ds=some ks->ds=ks.map kD/\∀k∈ks,k≠[]
 |[],_,h=>by cases h;exact⟨rfl,λ_ z=>nomatch z⟩
 |.tup a::ds,ks,h=>by
  have h':(match bz a,dW ds with|some k,some ks=>if k=[] then none else some (k::ks)|_,_=>none)=some ks:=h
  cases ea:bz a with
  |none=>rw[ea]at h';cases h'
  |some k =>
   cases eb:dW ds with
   |none=>rw[ea,eb]at h';cases h'
   |some kr =>
    rw[ea,eb]at h'
    by_cases hk:k=[]
    ·simp[hk]at h'
    ·simp only[hk,if_false,X7]at h';subst h';obtain⟨h1,h2⟩:=k_ eb;rw[Uy,<- h1,qh ea];refine⟨rfl,λx hx=>?_⟩;rcases Uc.mp hx with rfl|hx
     ·exact hk
     ·exact h2 x hx
 |.cE::_,_,h=>by cases h
 |.bl _::_,_,h=>by cases h
 |.str _::_,_,h=>by cases h
 |.obj _::_,_,h=>by cases h
 |.int _::_,_,h=>by cases h
 |.lst _::_,_,h=>by cases h
 |.dT _ _::_,_,h=>by cases h
 |.dK _ _::_,_,h=>by cases h
 |.sT _::_,_,h=>by cases h
 |.ob _::_,_,h=>by cases h
theorem iO:∀{ks:List (List Int)},(∀k∈ks,k≠[])->dW (ks.map kD)=some ks
 |[],_=>rfl
 |k::ks,h=>by
  show (match bz (k.map D.int),dW (ks.map kD)with|some k,some ks=>if k=[] then none else some (k::ks)|_,_=>none)=_
  rw[mP,iO λx hx=>h x (UA _ hx)];simp[h k (Uz ..)]
section
variable {P:T7}{w:Ur}{W:Addr->Prop}{H:Hp}
theorem iN:∀{ks:List (List Int)} {vs:List V},(∀k∈ks,k≠[])->ai P w W H (ks.map kD) vs->∃ts:List (Addr×List Int),vs=ts.map o9/\wI H ts/\ts.map (·.2)=ks
 |[],_,_,h=>⟨[],h,(λ_ z=>nomatch z),rfl⟩
 |k::ks,_,hk,⟨v,r,e,⟨a,us,e1,e2,e3⟩,h2⟩=>by
  obtain⟨ts,q1,q2,q3⟩:=iN (λx hx=>hk x (UA _ hx)) h2;refine⟨(a,k)::ts,by rw[e,e1,q1];rfl,λt ht=>?_,by rw[Uy,q3]⟩
  rcases Uc.mp ht with rfl|ht
  ·rw[bO e3]at e2;exact⟨e2,hk k (Uz ..)⟩
  ·exact q2 t ht
theorem fY:∀{ts:List (Addr×List Int)},(∀t∈ts,H t.1=some (.tup (t.2.map V.int)))->ai P w W H ((ts.map (·.2)).map kD) (ts.map o9)
 |[],_=>rfl
 |t::ts,h=>⟨_,_,rfl,⟨t.1,_,rfl,h t (Uz ..),mO t.2⟩,fY λx hx=>h x (UA _ hx)⟩
noncomputable def oC:List D->Option D
 |[.lst ds]=>match dW ds with
  |some ks=>if ks.length<=1000000 then some (.lst ((gi ks).map kD)) else none
  |none=>none
 |[.sT ts]=>if ts.length<=1000/\(∀k∈ts,k≠[]) then some (.lst ((gi ts).map kD)) else none
 |_=>none
theorem yS:∀{ns:List Int} {its:List TY},Vals (ns.map V.int) its->ItemsAre (intKind P w) ns its
 |[],_,.nil=>.nil
 |n::ns,_,.cons r t=>by
  obtain⟨tk,rfl⟩:=r;exact .cons (by show Yi n (.int n tk)=true;simp[Yi]) (yS t)
theorem Ea {h:Heap}{ts:List (Addr×List Int)}(ok:gL P w H h)(T:∀t∈ts,H t.1=some (.tup (t.2.map V.int))):ST.CC P w h ts:=λt ht=>by
 obtain⟨_,its,r,o,ho,hc,n,hd⟩:=(show bD P w H h t.1 (.tup (t.2.map V.int)) from ok _ _ (T t ht))
 refine⟨o,its.toArray,n,ho,hc,hd,?_⟩;exact yS r
def Dy:List D->Option D
 |[.lst ds]=>match dW ds with
  |some ks=>if ks.length<1000 then some (.sT (mf ks)) else none
  |none=>none
 |_=>none
end
section
end
theorem wz {X:Cx} (hc:X.calm=true) (hu:X.A.units+16<WN):bE X (.type "set") Dy:=by
 intro pins s σ H xs us Q I r h;obtain⟨W,ds,d,hd,r1,e,q⟩:=h
 match ds,e with
 |[.lst es],e =>
  have e':(match dW es with|some ks=>if ks.length<1000 then some (D.sT (mf ks)) else none|none=>none)=some d:=e
  cases ek:dW es with
  |none=>rw[ek]at e';cases e'
  |some ks =>
   rw[ek]at e';obtain⟨hl,rfl⟩:=dC e';obtain⟨rfl,hk⟩:=k_ ek;obtain⟨x,rfl,p,vs,rfl,hp,n1,q1⟩:=fT r1;obtain⟨ts,rfl,T,rfl⟩:=iN hk q1;obtain⟨u,rfl,rx⟩:=vals1 r;cases rx;obtain⟨its,r',pl,hz⟩:=I.list (cQ.of hp);obtain rfl:=iq r';refine ST.wt (w:=X.w) (I.ok.hd hc) hu pl.isList (by simpa using hl) (Ea I.bM λt ht=>(T t ht).1) λh' tk o' c8 es ep t kp ho S m1 m2=>?_
   have FW:H s.heap.objs.size=none:=I.bM.fresh (T4 _);have nd:=fQ (ts.map (·.2));refine⟨.ref s.heap.objs.size,_,I.laid (t':=tk) (o:=CF X.prog X.w s.heap.objs.size c8) kp (T4 _) ?_,rfl,q _ _ (az.new FW) ⟨_,rfl,⟨c8,ar,λx hx=>?_,?_⟩,ue hd FW⟩⟩
   ·refine⟨⟨o',es,ep,t,ho,S⟩,⟨o',ho⟩,λh1 h2 BX k=>by obtain⟨o1,e1,Su,t1,g1,g2⟩:=BX;exact⟨o1,e1,Su,t1,k _ g1,g2⟩⟩
   ·exact(az.new FW) _ _ (T x (m1 x hx)).1
   ·refine(List.perm_ext_iff_of_nodup S.Mm nd.1).mpr λk=>?_;rw[nd.2 k,UG,UG];constructor
    ·rintro⟨x,hx,rfl⟩;exact⟨x,m1 x hx,rfl⟩
    ·rintro⟨x,hx,rfl⟩;obtain⟨y,hy,e⟩:=m2 x hx;exact⟨y,hy,e⟩
def fq (ns:List Int):Prop:=∃x y:Int,ns=[x,y]/\0<=x/\0<=y/\y<2147483647
theorem Hand.ok {H:Hp}{h:Addr}(d:Hand H h):∃ns,H h=some (.lst (ns.map V.int))/\fq ns:=by
 obtain⟨x,y,e,h1,h2,h3⟩:=d;exact⟨[x,y],e,x,y,rfl,h1,h2,h3⟩
theorem fq.hand {H:Hp}{h:Addr}{ns:List Int}(e:H h=some (.lst (ns.map V.int)))(o:fq ns):Hand H h:=by
 obtain⟨x,y,rfl,h1,h2,h3⟩:=o;exact⟨x,y,e,h1,h2,h3⟩
def bC:FD:=λds R=>∃n:Int,ds=[.int n]/\0<n/\n<2 ^ 200/\∀r:Int,0<=r->r<n->R (.int r)
theorem bC.mono:d9 bC:=λds R R' k ⟨n,e,h1,h2,q⟩=>⟨n,e,h1,h2,λr a b=>k _ (q r a b)⟩
section
end
section
variable {X:Cx}{W:Addr->Prop}{H:Hp}
theorem sj {p:Addr}{vs:List V}{ds:List D}(n:H p=none)(f:NL (.lst ds))(r:jv X W H ds vs):Rp X (λa=>H a≠none) (upd H p (.lst vs)) (.lst ds) (.ref p) :=
 ⟨p,vs,rfl,ar,λz=>z n,ai.flat f (r.same (az.new n))⟩
def LW (X:Cx)(f:D->D->Option D):R2:=λx y H Q=>∃W d1 d2 d,Dm W H/\Rp X W H d1 x/\Rp X W H d2 y/\f d1 d2=some d/\∀v H',az H H'->Rp X W H' d v->(NL d->Rp X (λa=>H a≠none) H' d v)->Q v H'
def LV (X:Cx)(f:List D->Option D):List V->Hp->VK->Prop:=λxs H Q=>∃W ds d,Dm W H/\jv X W H ds xs/\f ds=some d/\∀v H',az H H'->Rp X W H' d v->(NL d->Rp X (λa=>H a≠none) H' d v)->Q v H'
def HB (X:Cx)(f:D->Option Int->Option Int->Option D):V->Option Int->Option Int->Hp->VK->Prop:=λx lo hi H Q=>∃W d1 d,Dm W H/\Rp X W H d1 x/\f d1 lo hi=some d/\∀v H',az H H'->Rp X W H' d v->(NL d->Rp X (λa=>H a≠none) H' d v)->Q v H'
abbrev Kx (X:Cx)(f:TY->TY->Sem TY)(g:D->D->Option D):Prop:=jV X f (LW X g)
abbrev tp (X:Cx)(f:TY)(g:List D->Option D):Prop:=fv X f (LV X g)
theorem aj:Kx X (VL .Add) wj:=by
 intro pins s σ H x y v u Q I rx ry h;obtain⟨W,d1,d2,d,hd,r1,r2,e,q⟩:=h;rcases vJ e with⟨a,b,rfl,rfl,e⟩|e
 ·obtain⟨hl,rfl⟩:=dC e;obtain⟨p,vs,rfl,h1,n1,q1⟩:=r1;obtain⟨p',vs',rfl,h2,n2,q2⟩:=r2;exact sd pins s σ H _ _ v u Q I rx ry ⟨p,p',vs,vs',rfl,rfl,h1,h2,by rw[q1.length,q2.length];exact hl,λl sN=>q _ _ (az.new sN) (Rp.gD hd sN (q1.append q2)) λf=>sj sN f (q1.append q2)⟩
 ·obtain⟨i,j,rfl,rfl,e⟩:=iQ e;cases e;cases r1;cases r2;exact sf pins s σ H _ _ v u Q I rx ry ⟨i,j,rfl,rfl,q _ _ (az.refl _) rfl λ_=>rfl⟩
theorem AJ:Oc X (HB X Ao):=by
 intro pins s σ H x v vl vu lo hi sl Q I rx hs pl pu h;obtain⟨W,d1,d,hd,r1,e,q⟩:=h;cases d1 with
 |lst ds =>
  cases e;obtain⟨p,vs,rfl,h1,n1,q1⟩:=r1;have rr:jv X W H (cutD ds lo hi) (qT vs lo hi):=by
   unfold qT cutD;rw[q1.length];exact(ai.drop _ q1).take _
  exact tK pins s σ H _ v vl vu lo hi sl Q I rx hs pl pu ⟨p,vs,rfl,cQ.of h1,λl hl=>q _ _ (az.new hl) (Rp.gD hd hl rr) λf=>sj hl f rr⟩
 |_=>cases e
theorem ju:tp X (.type "list") dList:=by
 intro pins s σ H xs us Q I r h;obtain⟨W,ds,d,hd,r1,e,q⟩:=h
 match ds,e with
 |[.lst es],e =>
  cases e;obtain⟨v,r',rfl,⟨p,vs,rfl,h1,n1,q1⟩,hr⟩:=r1;cases hr;exact fc pins s σ H _ us Q I r ⟨p,vs,rfl,.inl (cQ.of h1),λl hl=>q _ _ (az.new hl) (Rp.gD hd hl q1) λf=>sj hl f q1⟩
 |[.tup es],e =>
  cases e;obtain⟨v,r',rfl,⟨p,vs,rfl,h1,q1⟩,hr⟩:=r1;cases hr;exact fc pins s σ H _ us Q I r ⟨p,vs,rfl,.inr (uS.of h1),λl hl=>q _ _ (az.new hl) (Rp.gD hd hl q1) λf=>sj hl f q1⟩
theorem oH:tp X (.builtin "sorted") (λds=>match ds with | [.lst ds]=>oC [.lst ds]|_=>none):=by
 intro pins s σ H xs us Q I r h;obtain⟨W,ds,d,hd,r1,e,q⟩:=h
 match ds,e with
 |[.lst es],e =>
  have e':(match dW es with|some ks=>if ks.length<=1000000 then some (D.lst ((gi ks).map kD)) else none|none=>none)=some d:=e
  cases ek:dW es with
  |none=>rw[ek]at e';cases e'
  |some ks =>
   rw[ek]at e';obtain⟨hl,rfl⟩:=dC e';obtain⟨rfl,hk⟩:=k_ ek;obtain⟨x,rfl,p,vs,rfl,hp,n1,q1⟩:=fT r1;obtain⟨ts,rfl,T,rfl⟩:=iN hk q1;refine oF pins s σ H _ us Q I r ⟨p,ts,rfl,cQ.of hp,T,by simpa using hl,λl c8 sN Dg Rr=>?_⟩
   have eq:c8.map (·.2)=gi (ts.map (·.2)):=xv (Dg.map _) (VP.mpr Rr);rw[<- eq]at q;have rk:=fY (P:=X.prog) (w:=X.w) (W:=W) (H:=H) (ts:=c8) λt ht=>(T t (Dg.mem_iff.mp ht)).1;exact q _ _ (az.new sN) (Rp.gD hd sN rk) λf=>sj sN f rk
theorem oG (hc:X.calm=true):tp X (.builtin "sorted") (λds=>match ds with | [.sT ts]=>oC [.sT ts]|_=>none):=by
 intro pins s σ H xs us Q I r h;obtain⟨W,ds,d,hd,r1,e,q⟩:=h
 match ds,e with
 |[.sT ks],e =>
  obtain⟨⟨hl,hk⟩,rfl⟩:=dC (show (if ks.length<=1000/\(∀k∈ks,k≠[]) then some (D.lst ((gi ks).map kD)) else none)=some d from e)
  obtain⟨x,rfl,p,rfl,⟨ts,hp,T,pm⟩,nW⟩:=fT r1;obtain⟨u,rfl,rx⟩:=vals1 r;cases rx;obtain⟨⟨o,es,ep,t,ho,S⟩,_,_⟩:=(show bD X.prog X.w H s.heap p (CF X.prog X.w p ts) from I.bM p _ hp)
  have tl:ts.length=ks.length:=by rw[<- pm.length_eq,TX]
  have T':wI H ts:=λt ht=>⟨T t ht,hk _ (pm.mem_iff.mp (UG.mpr ⟨t,ht,rfl⟩))⟩;obtain⟨us,yX,col⟩:=ST.oW (s:=s) ho S (by omega)
  have T2:wI H us:=λt ht=>T' t (yX.mem_iff.mp ht);refine TS.rP (vs:=us.map λx=>Value.ref x.1) (kf:=sD H) (by rw[TX,yX.length_eq];omega) (λR hR=>col _ _ R (by simp[I.ok.hd hc]) λh' tk kp=>hR h' tk kp) (tw I.bM T2 (T4 _)) λout h1 h' tk n An hs k1 kp zf=>?_
  ·obtain⟨e1,e2⟩:=mE T2 An;have zl:out.length=us.length:=by rw[An.length_eq,TX]
   have eq:(out.map (Dn H)).map (·.2)=gi ks:=by
    refine xv ((e2.trans yX).map _ |>.trans pm) ?_
    refine VP.mpr (VP.mpr ?_);refine hs.imp_of_mem λ{x y} hx hy hh=>?_;obtain⟨t,ht,rfl⟩:=UG.mp (An.mem_iff.mp hx);obtain⟨t',Rk,rfl⟩:=UG.mp (An.mem_iff.mp hy);exact hh
   have I1:Inv X pins σ H {s with heap:=h1,toks:=s.toks}:=I.kept k1
   have FW:H h1.objs.size=none:=I1.bM.fresh (T4 _);refine⟨.ref h1.objs.size,_,I1.laid (t':=tk) (o:=.lst ((out.map (Dn H)).map o9)) kp (T4 _) ?_,rfl,q _ _ (az.new FW) ?_ ?_⟩
   ·refine⟨by rw[TX,TX,zl,yX.length_eq,U8];omega,out,n,?_,zf⟩
    have:=iD (out.map (Dn H));rw[<- e1]at this;exact this
   ·rw[<- eq];exact Rp.gD hd FW (fY λt ht=>(T2 t (e2.mem_iff.mp ht)).1)
   ·rw[<- eq];exact λf=>sj (W:=W) FW f (fY λt ht=>(T2 t (e2.mem_iff.mp ht)).1)
end
section
end
end L2
namespace L2.Q
open PySem PySem.Spec PySem.SeqAt PyProof.Rows
section
variable (P:T7)(w:Ur)(H:Hp)
mutual
def Own:D->V->List Addr->Prop
 |.tup ds,v,A=>∃a vs,v=.ref a/\H a=some (.tup vs)/\aI ds vs A
 |.lst ds,v,A=>∃a vs A',v=.ref a/\H a=some (.lst vs)/\A=a::A'/\aI ds vs A'
 |.dT ks ds,v,A=>∃a vs A',v=.ref a/\H a=some (.dT (ks.zip vs))/\ks.length=vs.length/\A=a::A'/\aI ds vs A'
 |.dK ks ds,v,A=>∃a vs A',v=.ref a/\H a=some (.dK (ks.zip vs))/\ks.length=vs.length/\A=a::A'/\aI ds vs A'
 |.sT ts,v,A=>∃a,v=.ref a/\CD P w H a ts/\A=[a]
 |.ob φ,v,A=>∃a,v=.ref a/\(H a=some (φ a)/\∀xs,φ a≠.tup xs)/\A=[a]
 |.cE,v,A=>v=.cE/\A=[]
 |.bl b,v,A=>v=.bl b/\A=[]
 |.int i,v,A=>v=.int i/\A=[]
 |.str x,v,A=>v=.str x/\A=[]
 |.obj a,v,A=>v=.ref a/\A=[]
def aI:List D->List V->List Addr->Prop
 |[],vs,A=>vs=[]/\A=[]
 |d::ds,vs,A=>∃v r A1 A2,vs=v::r/\A=A1++A2/\Own d v A1/\aI ds r A2
end
end
section
variable {P:T7}{w:Ur}{W:Addr->Prop}{H H':Hp}
theorem vc {a:Addr}{ts:List (List Int)}(k:∀b xs,H b=some (.tup xs)->H' b=some (.tup xs))(ha:∀o,H a=some o->H' a=some o)(h:CD P w H a ts):CD P w H' a ts :=
 let ⟨c8,e,r,z⟩:=h;⟨c8,ha _ e,λx hx=>k _ _ (r x hx),z⟩
mutual
theorem Own.keep (k:∀b xs,H b=some (.tup xs)->H' b=some (.tup xs)):∀{d:D} {v:V} {A:List Addr},(∀c∈A,∀o,H c=some o->H' c=some o)->Own P w H d v A->Own P w H' d v A
 |.tup ds,_,_,ha,⟨a,vs,e,t,r⟩=>⟨a,vs,e,k a vs t,aI.keep k ha r⟩
 |.lst ds,_,_,ha,⟨a,vs,A',e,t,eA,r⟩=>⟨a,vs,A',e,ha a (by rw[eA];simp) _ t,eA,aI.keep k (λc hc=>ha c (by rw[eA];simp[hc])) r⟩
 |.dT ks ds,_,_,ha,⟨a,vs,A',e,t,l,eA,r⟩=>⟨a,vs,A',e,ha a (by rw[eA];simp) _ t,l,eA,aI.keep k (λc hc=>ha c (by rw[eA];simp[hc])) r⟩
 |.dK ks ds,_,_,ha,⟨a,vs,A',e,t,l,eA,r⟩=>⟨a,vs,A',e,ha a (by rw[eA];simp) _ t,l,eA,aI.keep k (λc hc=>ha c (by rw[eA];simp[hc])) r⟩
 |.sT ts,_,_,ha,⟨a,e,r,eA⟩=>⟨a,e,vc k (λo ho=>ha a (by rw[eA];simp) o ho) r,eA⟩
 |.ob φ,_,_,ha,⟨a,e,r,eA⟩=>⟨a,e,⟨ha a (by rw[eA];simp) _ r.1,r.2⟩,eA⟩
 |.cE,_,_,_,h=>h
 |.bl _,_,_,_,h=>h
 |.int _,_,_,_,h=>h
 |.str _,_,_,_,h=>h
 |.obj _,_,_,_,h=>h
theorem aI.keep (k:∀b xs,H b=some (.tup xs)->H' b=some (.tup xs)):∀{ds:List D} {vs:List V} {A:List Addr},(∀c∈A,∀o,H c=some o->H' c=some o)->aI P w H ds vs A->aI P w H' ds vs A
 |[],_,_,_,h=>h
 |d::ds,_,_,ha,⟨v,r,A1,A2,e,eA,h1,h2⟩=>⟨v,r,A1,A2,e,eA,Own.keep k (λc hc=>ha c (by rw[eA];simp[hc])) h1,aI.keep k (λc hc=>ha c (by rw[eA];simp[hc])) h2⟩
end
mutual
theorem Own.rep:∀{d:D} {v:V} {A:List Addr},(∀c∈A,¬ W c)->Own P w H d v A->aA P w W H d v
 |.tup ds,_,_,ha,⟨a,vs,e,t,r⟩=>⟨a,vs,e,t,aI.rep ha r⟩
 |.lst ds,_,_,ha,⟨a,vs,A',e,t,eA,r⟩=>⟨a,vs,e,t,ha a (by rw[eA];simp),aI.rep (λc hc=>ha c (by rw[eA];simp[hc])) r⟩
 |.dT ks ds,_,_,ha,⟨a,vs,A',e,t,l,eA,r⟩=>⟨a,vs,e,t,l,ha a (by rw[eA];simp),aI.rep (λc hc=>ha c (by rw[eA];simp[hc])) r⟩
 |.dK ks ds,_,_,ha,⟨a,vs,A',e,t,l,eA,r⟩=>⟨a,vs,e,t,l,ha a (by rw[eA];simp),aI.rep (λc hc=>ha c (by rw[eA];simp[hc])) r⟩
 |.sT ts,_,_,ha,⟨a,e,r,eA⟩=>⟨a,e,r,ha a (by rw[eA];simp)⟩
 |.ob φ,_,_,ha,⟨a,e,r,eA⟩=>⟨a,e,r,ha a (by rw[eA];simp)⟩
 |.cE,_,_,_,h=>h.1
 |.bl _,_,_,_,h=>h.1
 |.int _,_,_,_,h=>h.1
 |.str _,_,_,_,h=>h.1
 |.obj _,_,_,_,h=>h.1
theorem aI.rep:∀{ds:List D} {vs:List V} {A:List Addr},(∀c∈A,¬ W c)->aI P w H ds vs A->ai P w W H ds vs
 |[],_,_,_,h=>h.1
 |d::ds,_,_,ha,⟨v,r,A1,A2,e,eA,h1,h2⟩=>⟨v,r,e,Own.rep (λc hc=>ha c (by rw[eA];simp[hc])) h1,aI.rep (λc hc=>ha c (by rw[eA];simp[hc])) h2⟩
end
mutual
theorem Own.lR:∀{d:D} {v:V} {A:List Addr},Own P w H d v A->∀c∈A,H c≠none/\∀xs,H c≠some (.tup xs)
 |.tup ds,_,_,⟨a,vs,e,t,r⟩,c,hc=>aI.lR r c hc
 |.lst ds,_,_,⟨a,vs,A',e,t,eA,r⟩,c,hc=>by
  rw[eA]at hc;rcases Uc.mp hc with rfl|hc
  ·rw[t];exact⟨λz=>(nomatch z),λxs z=>by cases z⟩
  ·exact aI.lR r c hc
 |.dT ks ds,_,_,⟨a,vs,A',e,t,l,eA,r⟩,c,hc=>by
  rw[eA]at hc;rcases Uc.mp hc with rfl|hc
  ·rw[t];exact⟨λz=>(nomatch z),λxs z=>by cases z⟩
  ·exact aI.lR r c hc
 |.dK ks ds,_,_,⟨a,vs,A',e,t,l,eA,r⟩,c,hc=>by
  rw[eA]at hc;rcases Uc.mp hc with rfl|hc
  ·rw[t];exact⟨λz=>(nomatch z),λxs z=>by cases z⟩
  ·exact aI.lR r c hc
 |.sT ts,_,_,⟨a,e,⟨c8,t,r,z⟩,eA⟩,c,hc=>by
  rw[eA]at hc;rw[T_.mp hc,t];exact⟨λz=>(nomatch z),λxs z=>by cases z⟩
 |.ob φ,_,_,⟨a,e,⟨t,z⟩,eA⟩,c,hc=>by
  rw[eA]at hc;rw[T_.mp hc,t];exact⟨λz=>(nomatch z),λxs q=>z xs (UD q)⟩
 |.cE,_,_,h,c,hc=>by rw[h.2]at hc;cases hc
 |.bl _,_,_,h,c,hc=>by rw[h.2]at hc;cases hc
 |.int _,_,_,h,c,hc=>by rw[h.2]at hc;cases hc
 |.str _,_,_,h,c,hc=>by rw[h.2]at hc;cases hc
 |.obj _,_,_,h,c,hc=>by rw[h.2]at hc;cases hc
theorem aI.lR:∀{ds:List D} {vs:List V} {A:List Addr},aI P w H ds vs A->∀c∈A,H c≠none/\∀xs,H c≠some (.tup xs)
 |[],_,_,h,c,hc=>by rw[h.2]at hc;cases hc
 |d::ds,_,_,⟨v,r,A1,A2,e,eA,h1,h2⟩,c,hc=>by
  rw[eA]at hc;rcases Uq.mp hc with hc|hc
  ·exact Own.lR h1 c hc
  ·exact aI.lR h2 c hc
end
mutual
theorem c0:∀{d:D} {v:V},d.flat=true->aA P w W H d v->Own P w H d v []
 |.tup ds,_,f,⟨a,vs,e,t,r⟩=>⟨a,vs,e,t,f6 (by simpa[D.flat] using f) r⟩
 |.lst ds,_,f,_=>by simp[D.flat]at f
 |.dT ks ds,_,f,_=>by simp[D.flat]at f
 |.dK ks ds,_,f,_=>by simp[D.flat]at f
 |.sT ts,_,f,_=>by simp[D.flat]at f
 |.ob φ,_,f,_=>by simp[D.flat]at f
 |.cE,_,_,h=>⟨h,rfl⟩
 |.bl _,_,_,h=>⟨h,rfl⟩
 |.int _,_,_,h=>⟨h,rfl⟩
 |.str _,_,_,h=>⟨h,rfl⟩
 |.obj _,_,_,h=>⟨h,rfl⟩
theorem f6:∀{ds:List D} {vs:List V},D.bW ds=true->ai P w W H ds vs->aI P w H ds vs []
 |[],_,_,h=>⟨h,rfl⟩
 |d::ds,_,f,⟨v,r,e,h1,h2⟩=>by
  have f':(d.flat&&D.bW ds)=true:=f;rw[Vf]at f';exact⟨v,r,[],[],e,rfl,c0 f'.1 h1,f6 f'.2 h2⟩
end
theorem aI.length:∀{ds:List D} {vs:List V} {A:List Addr},aI P w H ds vs A->vs.length=ds.length
 |[],_,_,h=>by rw[h.1];rfl
 |d::ds,_,_,⟨v,r,A1,A2,e,eA,h1,h2⟩=>by rw[e,Um,Um,aI.length h2]
theorem aI.append:∀{ds ds':List D} {vs vs':List V} {A A':List Addr},aI P w H ds vs A->aI P w H ds' vs' A'->aI P w H (ds++ds') (vs++vs') (A++A')
 |[],_,_,_,_,_,h,h'=>by rw[h.1,h.2];exact h'
 |d::ds,_,_,_,_,_,⟨v,r,A1,A2,e,eA,h1,h2⟩,h'=>by
  subst e eA;exact⟨v,_,A1,_,rfl,by rw[U4],h1,aI.append h2 h'⟩
theorem aI.one {d:D}{v:V}{A:List Addr}(h:Own P w H d v A):aI P w H [d] [v] A:=⟨v,[],A,[],rfl,by simp,h,rfl,rfl⟩
theorem aI.split:∀{ds:List D} {vs:List V} {A:List Addr} {i:Nat} {d:D},aI P w H ds vs A->ds[i]?=some d->∃v A1 A2 A3,vs[i]?=some v/\A=A1++(A2++A3)/\aI P w H (ds.take i) (vs.take i) A1/\Own P w H d v A2/\aI P w H (ds.drop (i+1)) (vs.drop (i+1)) A3
 |[],_,_,_,_,_,e=>by simp at e
 |d::ds,_,_,0,_,⟨v,r,A1,A2,e,eA,h1,h2⟩,e'=>by
  simp at e';subst e' e eA;exact⟨v,[],A1,A2,by simp,by simp,⟨rfl,rfl⟩,h1,by simpa using h2⟩
 |d::ds,_,_,i+1,_,⟨v,r,A1,A2,e,eA,h1,h2⟩,e'=>by
  subst e eA;obtain⟨u,B1,B2,B3,g1,g2,g3,g4,g5⟩:=aI.split (i:=i) h2 (by simpa using e')
  exact⟨u,A1++B1,B2,B3,by simpa using g1,by rw[g2];simp[U4],by simpa using ⟨v,_,A1,B1,rfl,rfl,h1,g3⟩,g4,by simpa using g5⟩
end
inductive Kd where
 |own|cF|old|bor
inductive B where
 |val (y:Bool) (d:D)|own (d:D)|hand (ok:List Int->Prop)|shl (y:Bool) (d:D)
abbrev bb:=List (Option B)
structure Cfg where
 H0:Hp
 IO:Addr->Prop
 ro:Bool
 U:Addr->Prop:=λ_=>False
abbrev Wn (own:Nat->List Addr):Addr->Prop:=λa=>∃i,a∈own i
def av (C:Cfg)(W:Addr->Prop):Kd->Addr->Prop
 |.own,a=>W a\/C.H0 a≠none
 |.cF,a=>W a\/C.H0 a≠none
 |.old,a=>W a
 |.bor,_=>False
def eQ (C:Cfg)(W:Addr->Prop)(k:Kd)(a:Addr):Prop:=av C W k a\/C.U a
abbrev yk (y:Bool):Kd:=match y with|true=>.cF|false=>.old
def Gx:D->HO->List V->Prop
 |.lst _,o,vs=>o=.lst vs
 |.dT ks _,o,vs=>o=.dT (ks.zip vs)/\ks.length=vs.length
 |.dK ks _,o,vs=>o=.dK (ks.zip vs)/\ks.length=vs.length
 |_,_,_=>False
def Hq:D->List D
 |.lst ds=>ds
 |.dT _ ds=>ds
 |.dK _ ds=>ds
 |_=>[]
def Gp (P:T7)(w:Ur)(W:Addr->Prop)(H:Hp)(d:D)(v:V)(A:List Addr):Prop:=∃a o vs,v=.ref a/\A=[a]/\H a=some o/\Gx d o vs/\ai P w W H (Hq d) vs
theorem Gp.map {P:T7}{w:Ur}{W W':Addr->Prop}{H H':Hp}{d:D}{v:V}{A:List Addr}(h:Gp P w W H d v A)(ha:∀c∈A,∀o,H c=some o->H' c=some o)(hr:∀ds vs,ai P w W H ds vs->ai P w W' H' ds vs):Gp P w W' H' d v A :=
 let ⟨a,o,vs,e1,e2,e3,e4,r⟩:=h;⟨a,o,vs,e1,e2,ha a (by rw[e2];simp) o e3,e4,hr _ _ r⟩
theorem Gp.rep {P:T7}{w:Ur}{W W':Addr->Prop}{H:Hp}{d:D}{v:V}{A:List Addr}(h:Gp P w W H d v A)(ha:∀c∈A,¬ W' c)(hs:∀ds vs,ai P w W H ds vs->ai P w W' H ds vs):aA P w W' H d v:=by
 obtain⟨a,o,vs,rfl,rfl,e,sh,r⟩:=h;have na:=ha a (by simp)
 replace r:=hs _ _ r;cases d with
 |lst ds=>cases sh;exact⟨a,vs,rfl,e,na,r⟩
 |dT ks ds=>obtain⟨rfl,l⟩:=sh;exact⟨a,vs,rfl,e,l,na,r⟩
 |dK ks ds=>obtain⟨rfl,l⟩:=sh;exact⟨a,vs,rfl,e,l,na,r⟩
 |_=>exact sh.elim
structure bG (P:T7)(w:Ur)(C:Cfg)(σ:St)(H:Hp)(β:bb)(own:Nat->List Addr):Prop where
 len:β.length=σ.length
 val:∀(i:Nat) (y:Bool) (d:D),β[i]?=some (some (.val y d))->∃v,σ[i]?=some (some v)/\aA P w (eQ C (Wn own) (yk y)) H d v
 ow:∀(i:Nat) (d:D),β[i]?=some (some (.own d))->∃v,σ[i]?=some (some v)/\Own P w H d v (own i)/\∀c∈own i,C.H0 c=none
 jl:∀(i:Nat) (ok:List Int->Prop),β[i]?=some (some (.hand ok))->∃a ns,σ[i]?=some (some (.ref a))/\H a=some (.lst (ns.map V.int))/\ok ns/\own i=[a]/\((∀b,¬ C.IO b)\/C.IO a)
 dm:∀(i:Nat) (a:Addr),a∈own i->H a≠none/\(∀xs,H a≠some (.tup xs))/\(C.H0 a=none\/C.IO a)/\¬ C.U a
 jr:∀(i j:Nat) (a:Addr),a∈own i->a∈own j->i=j
 jM:∀i,(own i).Nodup
 kp:Kp C.IO C.H0 H
 gc:∀a,C.H0 a≠none->H a≠none
 shl:∀(i:Nat) (y:Bool) (d:D),β[i]?=some (some (.shl y d))->∃v,σ[i]?=some (some v)/\Gp P w (eQ C (Wn own) (yk y)) H d v (own i)/\∀c∈own i,C.H0 c=none
abbrev SQ (X:Cx):=bG X.prog X.w
section
variable {P:T7}{w:Ur}{C:Cfg}{σ:St}{H H':Hp}{β:bb}{own:Nat->List Addr}{W W':Addr->Prop}
theorem bG.uC (b:bG P w C σ H β own):Dm (Wn own) H:=λa ⟨i,h⟩=>(b.dm i a h).1
theorem bG.F7 (b:bG P w C σ H β own)(k:Kd):Dm (av C (Wn own) k) H:=λa h=>by
 cases k with
 |own=>exact h.elim (b.uC a) (b.gc a)
 |cF=>exact h.elim (b.uC a) (b.gc a)
 |old=>exact b.uC a h
 |bor=>exact h.elim
theorem ic (s:∀a,W' a->W a)(k:Kd):∀a,av C W' k a->av C W k a:=λa h=>by
 cases k with
 |own=>exact h.imp (s a) id
 |cF=>exact h.imp (s a) id
 |old=>exact s a h
 |bor=>exact h
theorem fS (s:∀a,W' a->W a)(k:Kd):∀a,eQ C W' k a->eQ C W k a:=λa h=>h.imp (ic s k a) id
theorem bG.keep (b:bG P w C σ H β own)(k:Kp (λa=>H a=none) H H')(kp:Kp C.IO H H')(dn:∀a,H a≠none->H' a≠none):bG P w C σ H' β own:=by
 have ko:∀c o,H c=some o->H' c=some o:=λc o e=>k.out c o e (by rw[e];exact λz=>(nomatch z))
 have same:az H H':=ko;exact⟨b.len,λi y d e=>let ⟨v,h1,h2⟩:=b.val i y d e;⟨v,h1,h2.same same⟩,λi d e=>let ⟨v,h1,h2,h3⟩:=b.ow i d e;⟨v,h1,h2.keep (λ_ _ e=>same _ _ e) (λc _ o e=>same c o e),h3⟩,
  λi ok e=>let ⟨a,ns,h1,h2,h3⟩:=b.jl i ok e;⟨a,ns,h1,same _ _ h2,h3⟩,λi a h=>by
   obtain⟨h1,h2,h3⟩:=b.dm i a h;cases q:H a with
   |none=>exact absurd q h1
   |some o=>rw[same a o q];exact⟨λz=>(nomatch z),λxs z=>h2 xs (by rw[q];exact z),h3⟩,b.jr,b.jM,b.kp.trans kp,λa z=>dn a (b.gc a z),λi y d e=>let ⟨v,h1,h2,h3⟩:=b.shl i y d e;⟨v,h1,h2.map (λc _ o e=>same c o e) (λ_ _ r=>r.same same),h3⟩⟩
theorem bG.same (b:bG P w C σ H β own)(s:az H H'):bG P w C σ H' β own:=b.keep s.kp s.kp λa z e=>z (s.free e)
theorem cJ {own:Nat->List Addr}{i:Nat}{a:Addr}(h:Wn (aG own i []) a):Wn own a:=let ⟨j,q⟩:=h;⟨j,(bL q).1⟩
theorem bg {own:Nat->List Addr}{i j:Nat}{A:List Addr}(h:i≠j):aG own i A j=own j:=by unfold aG;rw[if_neg (Wd h)]
theorem os_eq {own:Nat->List Addr}{i:Nat}{A:List Addr}:aG own i A i=A:=by unfold aG;rw[if_pos rfl]
theorem bG.dY {i:Nat}{d:D}{v:V}{y:Bool}(b:bG P w C σ H β own)(r:aA P w (eQ C (Wn own) (yk y)) H d v):bG P w C (σ.set i (some v)) H (β.set i (some (.val y d))) (aG own i []):=by
 have sub:∀y a,eQ C (Wn (aG own i [])) (yk y) a->eQ C (Wn own) (yk y) a:=λy=>fS (λa h=>cJ h) _;refine⟨by simp[b.len],λj y' d' e=>?_,λj d' e=>?_,λj ok e=>?_,λj a h=>b.dm j a (bL h).1,λj k a h1 h2=>b.jr j k a (bL h1).1 (bL h2).1,λj=>?_,b.kp,b.gc,λj y' d' e=>?_⟩
 ·by_cases aF:i=j
  ·subst aF;obtain⟨e',hl⟩:=a9 e;cases e';exact⟨v,get_set (by rw[<- b.len];exact hl),r.aT (sub _)⟩
  ·rw[aU aF]at e ⊢
   obtain⟨u,h1,h2⟩:=b.val j y' d' e;exact⟨u,h1,h2.aT (sub _)⟩
 ·by_cases aF:i=j
  ·subst aF;obtain⟨e',hl⟩:=a9 e;cases e'
  ·rw[aU aF]at e ⊢
   rw[bg aF];exact b.ow j d' e
 ·by_cases aF:i=j
  ·subst aF;obtain⟨e',hl⟩:=a9 e;cases e'
  ·rw[aU aF]at e ⊢
   rw[bg aF];exact b.jl j ok e
 ·by_cases aF:i=j
  ·rw[aF,os_eq];exact Ve
  ·rw[bg aF];exact b.jM j
 ·by_cases aF:i=j
  ·subst aF;obtain⟨e',hl⟩:=a9 e;cases e'
  ·rw[aU aF]at e ⊢
   rw[bg aF];obtain⟨u,h1,h2,h3⟩:=b.shl j y' d' e;exact⟨u,h1,h2.map (λ_ _ _ z=>z) (λ_ _ r=>ai.aT (sub _) r),h3⟩
theorem bG.nL {i:Nat}{d:D}{v:V}{A:List Addr}(b:bG P w C σ H β own)(r:Own P w H d v A)(nd:A.Nodup)(nw:∀c∈A,C.H0 c=none/\¬ Wn own c/\C.U c):
  bG P w {C with U:=λ_=>False} (σ.set i (some v)) H (β.set i (some (.own d))) (aG own i A):=by
 have sub:∀y a,eQ {C with U:=λ_=>False} (Wn (aG own i A)) (yk y) a->eQ C (Wn own) (yk y) a:=λy a h=>by
  have q:∀a,Wn (aG own i A) a->Wn own a\/a∈A:=λa yZ=>by
   obtain⟨j,q⟩:=yZ
   by_cases aF:i=j
   ·rw[aF,os_eq]at q;exact .inr q
   ·rw[bg aF]at q;exact .inl ⟨j,q⟩
  have q':∀a,Wn (aG own i A) a->Wn own a\/C.U a:=λa z=>(q a z).imp id λz=>(nw a z).2.2;rcases h with h|h
  ·cases y with
   |true=>exact h.elim (λz=>(q' a z).imp .inl id) λz=>.inl (.inr z)
   |false=>exact q' a h
  ·exact h.elim
 have mem:∀{j c},c∈aG own i A j->(i=j/\c∈A)\/(i≠j/\c∈own j):=λ{j c} h=>by
  by_cases aF:i=j
  ·subst aF;rw[os_eq]at h;exact .inl ⟨rfl,h⟩
  ·rw[bg aF]at h;exact .inr ⟨aF,h⟩
 refine⟨by simp[b.len],λj y' d' e=>?_,λj d' e=>?_,λj ok e=>?_,λj a h=>?_,λj k a h1 h2=>?_,λj=>?_,b.kp,b.gc,λj y' d' e=>?_⟩
 ·by_cases aF:i=j
  ·subst aF;obtain⟨e',hl⟩:=a9 e;cases e'
  ·rw[aU aF]at e ⊢
   obtain⟨u,h1,h2⟩:=b.val j y' d' e;exact⟨u,h1,h2.aT (sub _)⟩
 ·by_cases aF:i=j
  ·subst aF;obtain⟨e',hl⟩:=a9 e;cases e';rw[os_eq];exact⟨v,get_set (by rw[<- b.len];exact hl),r,λc hc=>(nw c hc).1⟩
  ·rw[aU aF]at e ⊢
   rw[bg aF];exact b.ow j d' e
 ·by_cases aF:i=j
  ·subst aF;obtain⟨e',hl⟩:=a9 e;cases e'
  ·rw[aU aF]at e ⊢
   rw[bg aF];exact b.jl j ok e
 ·rcases mem h with⟨_,h⟩|⟨_,h⟩
  ·exact⟨(r.lR a h).1,(r.lR a h).2,.inl (nw a h).1,λz=>z⟩
  ·exact⟨(b.dm j a h).1,(b.dm j a h).2.1,(b.dm j a h).2.2.1,λz=>z⟩
 ·rcases mem h1 with⟨e1,h1⟩|⟨n1,h1⟩
  ·rcases mem h2 with⟨e2,h2⟩|⟨n2,h2⟩
   ·rw[<- e1,<- e2]
   ·exact absurd ⟨k,h2⟩ (nw a h1).2.1
  ·rcases mem h2 with⟨e2,h2⟩|⟨n2,h2⟩
   ·exact absurd ⟨j,h1⟩ (nw a h2).2.1
   ·exact b.jr j k a h1 h2
 ·by_cases aF:i=j
  ·rw[<- aF,os_eq];exact nd
  ·rw[bg aF];exact b.jM j
 ·by_cases aF:i=j
  ·subst aF;obtain⟨e',hl⟩:=a9 e;cases e'
  ·rw[aU aF]at e ⊢
   rw[bg aF];obtain⟨u,h1,h2,h3⟩:=b.shl j y' d' e;exact⟨u,h1,h2.map (λ_ _ _ z=>z) (λ_ _ r=>ai.aT (sub _) r),h3⟩
theorem bG.freeze {i:Nat}{d:D}(b:bG P w C σ H β own)(h:β[i]?=some (some (.own d))):bG P w C σ H (β.set i (some (.val true d))) (aG own i []):=by
 obtain⟨v,h1,h2,h3⟩:=b.ow i d h;have e:σ.set i (some v)=σ:=by
  apply Vm;intro j;rw[VQ]
  by_cases aF:i=j
  ·subst aF;rw[if_pos rfl,h1];have:i<σ.length:=(Ua.mp h1).1;rw[if_pos this]
  ·rw[if_neg aF]
 have q:=bG.dY (i:=i) (d:=d) (v:=v) (y:=true) (own:=aG own i []) (C:=C) (P:=P) (w:=w) (σ:=σ) (H:=H) (β:=β.set i none);have b':bG P w C σ H (β.set i none) (aG own i []):=by
  have sub:∀y a,eQ C (Wn (aG own i [])) (yk y) a->eQ C (Wn own) (yk y) a:=λy=>fS (λa h=>cJ h) _;refine⟨by simp[b.len],λj y' d' e=>?_,λj d' e=>?_,λj ok e=>?_,λj a h=>b.dm j a (bL h).1,λj k a h1 h2=>b.jr j k a (bL h1).1 (bL h2).1,λj=>?_,b.kp,b.gc,λj y' d' e=>?_⟩
  ·by_cases aF:i=j
   ·subst aF;obtain⟨e',hl⟩:=a9 e;cases e'
   ·rw[aU aF]at e;obtain⟨u,h1,h2⟩:=b.val j y' d' e;exact⟨u,h1,h2.aT (sub _)⟩
  ·by_cases aF:i=j
   ·subst aF;obtain⟨e',hl⟩:=a9 e;cases e'
   ·rw[aU aF]at e;rw[bg aF];exact b.ow j d' e
  ·by_cases aF:i=j
   ·subst aF;obtain⟨e',hl⟩:=a9 e;cases e'
   ·rw[aU aF]at e;rw[bg aF];exact b.jl j ok e
  ·by_cases aF:i=j
   ·rw[aF,os_eq];exact Ve
   ·rw[bg aF];exact b.jM j
  ·by_cases aF:i=j
   ·subst aF;obtain⟨e',hl⟩:=a9 e;cases e'
   ·rw[aU aF]at e;rw[bg aF];obtain⟨u,h1,h2,h3⟩:=b.shl j y' d' e;exact⟨u,h1,h2.map (λ_ _ _ z=>z) (λ_ _ r=>ai.aT (sub _) r),h3⟩
 have q:=bG.dY (i:=i) (d:=d) (v:=v) (y:=true) b' (h2.rep λc hc z=>by
  rcases z with (z|z)|z
  ·obtain⟨j,hj⟩:=z;obtain⟨hj,ne⟩:=bL hj;exact ne (b.jr j i c hj hc)
  ·exact z (h3 c hc)
  ·exact(b.dm i c hc).2.2.2 z)
 rw[e,V0]at q;have eo:aG (aG own i []) i []=aG own i []:=by
  funext j
  by_cases aF:i=j
  ·rw[<- aF,os_eq,os_eq]
  ·rw[bg aF,bg aF]
 rwa [eo]at q
abbrev Cfg.u (C:Cfg)(U:Addr->Prop):Cfg:={C with U:=U}
theorem bG.gP {U:Addr->Prop}(b:bG P w C σ H β own)(hU:∀a,U a->H a=none):bG P w (C.u U) σ H β own :=
 ⟨b.len,λi y d e=>let ⟨v,h1,h2⟩:=b.val i y d e;⟨v,h1,aA.grow (λa z=>z.elim (λz=>.inl (.inl z)) λz=>.inr (hU a z)) h2⟩,b.ow,b.jl,λi a h=>let ⟨h1,h2,h3,_⟩:=b.dm i a h;⟨h1,h2,h3,λz=>h1 (hU a z)⟩,b.jr,b.jM,b.kp,b.gc,λi y d e=>let ⟨v,h1,h2,h3⟩:=b.shl i y d e;⟨v,h1,h2.map (λ_ _ _ z=>z) (λ_ _ r=>ai.grow (λa z=>z.elim (λz=>.inl (.inl z)) λz=>.inr (hU a z)) r),h3⟩⟩
theorem bG.QO {U:Addr->Prop}(b:bG P w (C.u U) σ H β own):bG P w (C.u λ_=>False) σ H β own :=
 ⟨b.len,λi y d e=>let ⟨v,h1,h2⟩:=b.val i y d e;⟨v,h1,aA.aT (λa z=>z.elim .inl λz=>z.elim) h2⟩,b.ow,b.jl,λi a h=>let ⟨h1,h2,h3,_⟩:=b.dm i a h;⟨h1,h2,h3,λz=>z⟩,b.jr,b.jM,b.kp,b.gc,λi y d e=>let ⟨v,h1,h2,h3⟩:=b.shl i y d e;⟨v,h1,h2.map (λ_ _ _ z=>z) (λ_ _ r=>ai.aT (λa z=>z.elim .inl λz=>z.elim) r),h3⟩⟩
theorem bG.ir {i:Nat}{y:Bool}{d:D}(b:bG P w C σ H β own)(e:β[i]?=some (some (.val y d))):∃v,σ[i]?=some (some v)/\aA P w (av C (Wn own) (yk y)) H d v:=let ⟨v,h1,h2⟩:=b.val i y d e;⟨v,h1,aA.aT (λa z=>.inl z) h2⟩
end
def KV (P:T7)(w:Ur)(C:Cfg)(Z:Hp×(Addr->Prop))(own:Nat->List Addr)(H:Hp):Kd->D->V->Prop
 |.own,d,v=>∃A,Own P w H d v A/\A.Nodup/\∀c∈A,Z.1 c=none/\¬ Wn own c/\C.H0 c=none
 |.cF,d,v=>aA P w (av C (Wn own) .cF) H d v
 |.old,d,v=>aA P w (av C (Wn own) .old) H d v
 |.bor,d,v=>aA P w (av C (Wn own) .bor) H d v
structure Oe (P:T7)(w:Ur)(C:Cfg)(σ:St)(H:Hp)(own:Nat->List Addr)(p:Bool)(β':bb)(H':Hp)(aN:Nat->List Addr):Prop where
 sq:bG P w C σ H' β' aN
 sn:Sn (H,Wn own) H' (Wn aN)
 pu:p=true->az H H'/\aN=own
 le:∀a,Wn aN a->Wn own a
abbrev Out (X:Cx):=Oe X.prog X.w
section
variable {X:Cx}{C:Cfg}{σ:St}{H H1 H2 H':Hp}{own aE bI:Nat->List Addr}{p p':Bool}{β β1 β2 β':bb}{Z:Hp×(Addr->Prop)}{d:D}{v:V}{k:Kd}{P:T7}{w:Ur}
theorem Out.refl (s:SQ X C σ H β own)(p:Bool):Out X C σ H own p β H own:=⟨s,Sn.refl,λ_=>⟨az.refl _,rfl⟩,λ_ z=>z⟩
theorem Out.trans (a:Out X C σ H own p β1 H1 aE)(b:Out X C σ H1 aE p' β2 H2 bI):Out X C σ H own (p&&p') β2 H2 bI:=⟨b.sq,a.sn.trans b.sn,λh=>by
 rw[Vf]at h;obtain⟨s1,e1⟩:=a.pu h.1;obtain⟨s2,e2⟩:=b.pu h.2;exact⟨s1.trans s2,e2.trans e1⟩,λc z=>a.le c (b.le c z)⟩
theorem Out.same (a:Out X C σ H own p β1 H1 aE)(s:az H1 H2):Out X C σ H own p β1 H2 aE:=⟨a.sq.same s,a.sn.same s,λh=>let ⟨s1,e1⟩:=a.pu h;⟨s1.trans s,e1⟩,a.le⟩
theorem Out.wk (a:Out X C σ H own p β1 H1 aE)(h:p'=true->p=true):Out X C σ H own p' β1 H1 aE:=⟨a.sq,a.sn,λz=>a.pu (h z),a.le⟩
theorem Out.Qh {q:Bool}(a:Out X C σ H own p β1 H1 aE)(b:Out X C σ H1 aE p' β2 H2 bI)(h:q=true->p=true/\p'=true):Out X C σ H own q β2 H2 bI:=(a.trans b).wk λz=>by rw[(h z).1,(h z).2];rfl
theorem KV.rep (h:KV P w C Z own H k d v):aA P w (av C (Wn own) k) H d v:=by
 cases k with
 |own=>obtain⟨A,h1,h2,h3⟩:=h;exact h1.rep λc hc z=>z.elim (h3 c hc).2.1 λz=>z (h3 c hc).2.2
 |_=>exact h
theorem KV.cF (h:KV P w C Z own H .own d v):KV P w C Z own H .cF d v:=KV.rep (k:=.own) h
theorem KV.flat {W:Addr->Prop}(f:d.flat=true)(h:aA P w W H d v):KV P w C Z own H .own d v:=⟨[],c0 f h,Ve,λc hc=>(nomatch hc)⟩
noncomputable abbrev Kd.wk:Kd->Kd
 |.own=>.cF
 |.cF=>.cF
 |.old=>.old
 |.bor=>.bor
abbrev Kd.max:Kd->Kd->Kd
 |.bor,_=>.bor
 |_,.bor=>.bor
 |.old,_=>.old
 |_,.old=>.old
 |_,_=>.cF
theorem gf {W:Addr->Prop}{a b:Kd}:∀c,av C W (a.max b) c->av C W a c:=λc h=>by
 cases a <;> cases b <;> first|exact h|exact h.elim|exact .inl h
theorem oM {W:Addr->Prop}{a b:Kd}:∀c,av C W (a.max b) c->av C W b c:=λc h=>by
 cases a <;> cases b <;> first|exact h|exact h.elim|exact .inl h
theorem KV.of (h:aA P w (av C (Wn own) k.wk) H d v):KV P w C Z own H k.wk d v:=by
 cases k <;> exact h
theorem KV.Ht (h:KV P w C Z own H k d v)(s:az H H'):KV P w C Z own H' k d v:=by
 cases k with
 |own=>obtain⟨A,h1,h2⟩:=h;exact⟨A,h1.keep (λb xs e=>s _ _ e) (λc _ o e=>s c o e),h2⟩
 |cF=>exact aA.same s h
 |old=>exact aA.same s h
 |bor=>exact aA.same s h
theorem KV.held (hk:k≠.bor)(h:KV P w C Z own H k d v)(n:Sn (H,Wn own) H2 (Wn bI)):KV P w C Z bI H2 k d v:=by
 cases k with
 |own =>
  obtain⟨A,h1,h2,h3⟩:=h;refine⟨A,h1.keep n.k.tup (λc hc o e=>n.k.out c o e λz=>z.elim (h3 c hc).2.1 λz=>(h1.lR c hc).1 z),h2,λc hc=>⟨(h3 c hc).1,λz=>(n.w c z).elim (h3 c hc).2.1 λz=>(h1.lR c hc).1 z,(h3 c hc).2.2⟩⟩
 |cF =>
  have g:aA P w (λa=>av C (Wn own) .cF a\/H a=none) H d v:=aA.grow (λb z=>z) h;exact aA.aT (λb z=>z.elim (λz=>(n.w b z).imp .inl id) λz=>.inl (.inr z)) (aA.keep (n.k.mono λb z=>z.imp .inl id) g)
 |old=>exact held (W:=Wn own) h n
 |bor=>exact absurd rfl hk
theorem KV.J0 (h:KV P w C Z own H k d v)(s:az H H2)(e:bI=own):KV P w C Z bI H2 k d v:=by rw[e];exact h.Ht s
abbrev hold (k:Kd)(p:Bool):Prop:=match k,p with
 |.bor,false=>False
 |_,_=>True
theorem KV.ho (h:KV P w C Z own H k d v)(o:Out X C σ H own p β' H2 bI)(hh:hold k p):KV P w C Z bI H2 k d v:=by
 cases p with
 |true=>obtain⟨s,e⟩:=o.pu rfl;exact h.J0 s e
 |false=>exact h.held (by rintro rfl;exact hh) o.sn
theorem KV.later (h:KV P w C (H1,Wn aE) own H k d v)(n:Sn Z H1 (Wn aE)):KV P w C Z own H k d v:=by
 cases k with
 |own=>obtain⟨A,h1,h2,h3⟩:=h;exact⟨A,h1,h2,λc hc=>⟨n.free (h3 c hc).1,(h3 c hc).2⟩⟩
 |_=>exact h
end
abbrev a6:=bb->(D->Kd->bb->Prop)->Prop
abbrev a5:=bb->(Bool->bb->Prop)->Prop
abbrev bQ:=bb->(List D->List Kd->bb->Prop)->Prop
def tQ (X:Cx)(C:Cfg)(p:Bool)(φ:a6):TE:=λσ H Q=>∃β own,SQ X C σ H β own/\φ β λd k β'=>∀v H' aN,Out X C σ H own p β' H' aN->KV X.prog X.w C (H,Wn own) aN H' k d v->Q v H'
def ij (X:Cx)(C:Cfg)(p:Bool)(φ:a5):TT:=λσ H Q=>∃β own,SQ X C σ H β own/\φ β λb β'=>∀H' aN,Out X C σ H own p β' H' aN->Q b H'
def KF (P:T7)(w:Ur)(C:Cfg)(own:Nat->List Addr)(H:Hp):List Kd->List D->List V->List Addr->Prop
 |[],ds,vs,A=>ds=[]/\vs=[]/\A=[]
 |k::ks,ds,vs,A=>∃d dr v vr A1 A2,ds=d::dr/\vs=v::vr/\A=A1++A2/\(match k with | .own=>Own P w H d v A1|k=>A1=[]/\aA P w (av C (Wn own) k) H d v)/\KF P w C own H ks dr vr A2
def rg (P:T7)(w:Ur)(C:Cfg)(Z:Hp×(Addr->Prop))(own:Nat->List Addr)(H:Hp)(ks:List Kd)(ds:List D)(vs:List V):Prop :=
 ∃A,KF P w C own H ks ds vs A/\A.Nodup/\∀c∈A,Z.1 c=none/\¬ Wn own c/\C.H0 c=none
def o_ (X:Cx)(C:Cfg)(p:Bool)(φ:bQ):TA:=λσ H Q=>∃β own,SQ X C σ H β own/\φ β λds ks β'=>∀vs H' aN,Out X C σ H own p β' H' aN->rg X.prog X.w C (H,Wn own) aN H' ks ds vs->Q vs H'
section
variable {C:Cfg}{H H1:Hp}{own aE:Nat->List Addr}{Z:Hp×(Addr->Prop)}{d:D}{v:V}{k:Kd}{P:T7}{w:Ur}{ks:List Kd}{ds:List D}{vs:List V}
theorem rg.nil:rg P w C Z own H [] [] []:=⟨[],⟨rfl,rfl,rfl⟩,Ve,λc hc=>(nomatch hc)⟩
theorem KF.lR:∀{ks:List Kd} {ds:List D} {vs:List V} {A:List Addr},KF P w C own H ks ds vs A->∀c∈A,H c≠none
 |[],_,_,_,⟨_,_,e⟩,c,hc=>by rw[e]at hc;cases hc
 |k::ks,_,_,_,⟨d,dr,v,vr,A1,A2,rfl,rfl,rfl,h1,h2⟩,c,hc=>by
  rcases Uq.mp hc with hc|hc
  ·cases k with
   |own=>exact(Own.lR h1 c hc).1
   |_=>rw[h1.1]at hc;cases hc
  ·exact KF.lR h2 c hc
theorem rg.cons (h1:KV P w C Z aE H1 k d v)(n:Sn (H1,Wn aE) H (Wn own))(zt:KV P w C Z own H k d v)(h2:rg P w C (H1,Wn aE) own H ks ds vs)(n0:Sn Z H1 (Wn aE)):rg P w C Z own H (k::ks) (d::ds) (v::vs):=by
 obtain⟨A2,f2,EV,q2⟩:=h2;have z2:∀c∈A2,Z.1 c=none/\¬ Wn own c/\C.H0 c=none:=λc hc=>⟨n0.free (q2 c hc).1,(q2 c hc).2⟩;cases k with
 |own =>
  obtain⟨A1,o1,BD,q1⟩:=h1;obtain⟨TV,Tn,QR,OI⟩:=(show KV P w C Z own H .own d v from KV.held (k:=.own) (λz=>(nomatch z)) (⟨A1,o1,BD,q1⟩:KV P w C Z aE H1 .own d v) n)
  have Mi:Own P w H d v A1:=o1.keep n.k.tup (λc hc o e=>n.k.out c o e λz=>z.elim (q1 c hc).2.1 λz=>(o1.lR c hc).1 z);refine⟨A1++A2,⟨d,ds,v,vs,A1,A2,rfl,rfl,rfl,Mi,f2⟩,U9.mpr ⟨BD,EV,λa ha b hb e=>?_⟩,λc hc=>?_⟩
  ·subst e;exact(o1.lR a ha).1 (q2 a hb).1
  ·rcases Uq.mp hc with hc|hc
   ·exact⟨(q1 c hc).1,λz=>(n.w c z).elim (q1 c hc).2.1 λz=>(o1.lR c hc).1 z,(q1 c hc).2.2⟩
   ·exact z2 c hc
 |cF=>exact⟨A2,⟨d,ds,v,vs,[],A2,rfl,rfl,rfl,⟨rfl,zt⟩,f2⟩,EV,z2⟩
 |old=>exact⟨A2,⟨d,ds,v,vs,[],A2,rfl,rfl,rfl,⟨rfl,zt⟩,f2⟩,EV,z2⟩
 |bor=>exact⟨A2,⟨d,ds,v,vs,[],A2,rfl,rfl,rfl,⟨rfl,zt⟩,f2⟩,EV,z2⟩
abbrev d7:List Kd->Kd
 |[]=>.cF
 |k::ks=>Kd.max k (d7 ks)
theorem KF.gh:∀{ks:List Kd} {ds:List D} {vs:List V} {A:List Addr},KF P w C own H ks ds vs A->(∀c∈A,¬ Wn own c/\C.H0 c=none)->ai P w (av C (Wn own) (d7 ks)) H ds vs
 |[],_,_,_,⟨e1,e2,e⟩,_=>by rw[e1,e2];rfl
 |k::ks,_,_,_,⟨d,dr,v,vr,A1,A2,rfl,rfl,rfl,h1,h2⟩,hA=>by
  refine⟨v,vr,rfl,?_,ai.aT oM (KF.gh h2 λc hc=>hA c (UP _ hc))⟩;cases k with
  |own=>exact aA.aT gf (Own.rep (W:=av C (Wn own) .own) (λc hc z=>z.elim (hA c (Vg _ hc)).1 λz=>z (hA c (Vg _ hc)).2) h1)
  |cF=>exact aA.aT (gf (a:=.cF)) h1.2
  |old=>exact aA.aT (gf (a:=.old)) h1.2
  |bor=>exact aA.aT (gf (a:=.bor)) h1.2
theorem rg.gh (h:rg P w C Z own H ks ds vs):ai P w (av C (Wn own) (d7 ks)) H ds vs:=let ⟨A,h1,_,h3⟩:=h;h1.gh λc hc=>(h3 c hc).2
theorem rg.bor (h:rg P w C Z own H ks ds vs):ai P w (λ_=>False) H ds vs:=ai.aT (λ_ z=>z.elim) h.gh
def uT:List Kd->List D->Prop
 |k::ks,d::ds=>(match k with | .own=>True|_=>d.flat=true)/\uT ks ds
 |_,_=>True
theorem KF.EF:∀{ks:List Kd} {ds:List D} {vs:List V} {A:List Addr},KF P w C own H ks ds vs A->uT ks ds->aI P w H ds vs A
 |[],_,_,_,⟨e1,e2,e⟩,_=>by rw[e1,e2,e];exact⟨rfl,rfl⟩
 |k::ks,_,_,_,⟨d,dr,v,vr,A1,A2,rfl,rfl,rfl,h1,h2⟩,⟨f1,f2⟩=>by
  refine⟨v,vr,A1,A2,rfl,rfl,?_,KF.EF h2 f2⟩;cases k with
  |own=>exact h1
  |cF=>rw[h1.1];exact c0 f1 h1.2
  |old=>rw[h1.1];exact c0 f1 h1.2
  |bor=>rw[h1.1];exact c0 f1 h1.2
theorem e9:∀{ks:List Kd},(d7 ks).wk=d7 ks
 |[]=>rfl
 |k::ks=>by cases k <;> cases h:d7 ks <;> simp[d7,Kd.max,h]
def yN (ks:List Kd)(ds:List D)(K:Kd->Prop):Prop:=match ks.all (λk=>match k with | .own=>true|_=>false)with
 |true=>K .own
 |false=>(uT ks ds/\K .own)\/K (d7 ks)
theorem yN.mono {ks:List Kd}{ds:List D}{K K':Kd->Prop}(k:∀x,K x->K' x)(h:yN ks ds K):yN ks ds K':=by
 unfold yN at *
 split
 ·next e=>rw[e]at h;exact k _ h
 ·next e=>rw[e]at h;exact h.imp (λz=>⟨z.1,k _ z.2⟩) (k _)
theorem yN.of {ks:List Kd}{ds:List D}{K:Kd->Prop}(h:yN ks ds K):(uT ks ds/\K .own)\/K (d7 ks):=by
 unfold yN at h
 split at h
 ·next e =>
  refine .inl ⟨?_,h⟩
  clear h
  induction ks generalizing ds with
  |nil=>cases ds <;> trivial
  |cons k ks ih =>
   cases ds with
   |nil=>trivial
   |cons d ds =>
    rw[List.all_cons,Vf]at e;refine⟨?_,ih e.2⟩;have e1:=e.1;cases k <;> first|trivial|cases e1
 ·exact h
end
structure PQ (X:Cx)(C:Cfg)(p:Bool)(e:Expr)(φ:a6):Prop where
 mono:∀β R R',(∀d k β,R d k β->R' d k β)->φ β R->φ β R'
 pe:PE X e (tQ X C p φ)
structure wJ (X:Cx)(C:Cfg)(p:Bool)(e:Expr)(φ:a5):Prop where
 mono:∀β R R',(∀d β,R d β->R' d β)->φ β R->φ β R'
 pt:PT X e (ij X C p φ)
structure wX (X:Cx)(C:Cfg)(p:Bool)(e:Expr)(φ:a5):Prop where
 mono:∀β R R',(∀d β,R d β->R' d β)->φ β R->φ β R'
 pw:PW X e (ij X C p φ)
structure oN (X:Cx)(C:Cfg)(p:Bool)(es:List Expr)(φ:bQ):Prop where
 mono:∀β R R',(∀d k β,R d k β->R' d k β)->φ β R->φ β R'
 pa:PA X es (o_ X C p φ)
section
variable {X:Cx}{C:Cfg}{a b c e:Expr}{es:List Expr}{φ φa φb:a6}{τ τa τb:a5}{φs:bQ}{pos:Pos}{σ:St}{H H':Hp}{β:bb}{own:Nat->List Addr}{p p':Bool}
theorem tQ.of (h:PQ X C p e φ)(s:SQ X C σ H β own){R:D->Kd->bb->Prop}{Q:VK}(hr:φ β R)(k:∀d kd β' v H' aN,R d kd β'->Out X C σ H own p β' H' aN->KV X.prog X.w C (H,Wn own) aN H' kd d v->Q v H'):tQ X C p φ σ H Q :=
 ⟨β,own,s,h.mono β _ _ (λd kd β' hd v H' aN o r=>k d kd β' v H' aN hd o r) hr⟩
theorem ij.of (h:wJ X C p e τ)(s:SQ X C σ H β own){R:Bool->bb->Prop}{Q:Bool->Hp->Prop}(hr:τ β R)(k:∀t β' H' aN,R t β'->Out X C σ H own p β' H' aN->Q t H'):ij X C p τ σ H Q :=
 ⟨β,own,s,h.mono β _ _ (λt β' hd H' aN o=>k t β' H' aN hd o) hr⟩
theorem o_.of (h:oN X C p es φs)(s:SQ X C σ H β own){R:List D->List Kd->bb->Prop}{Q:List V->Hp->Prop}(hr:φs β R)(k:∀ds ks β' vs H' aN,R ds ks β'->Out X C σ H own p β' H' aN->rg X.prog X.w C (H,Wn own) aN H' ks ds vs->Q vs H'):o_ X C p φs σ H Q :=
 ⟨β,own,s,h.mono β _ _ (λd kd β' hd v H' aN o r=>k d kd β' v H' aN hd o r) hr⟩
theorem wX.t (h:wX X C p e τ):wJ X C p e τ:=⟨h.mono,h.pw.pt⟩
noncomputable abbrev vk (y:Bool):D->Kd
 |.int _=>.own
 |.bl _=>.own
 |.cE=>.own
 |.str _=>.own
 |_=>yk y
def qB:B->(D->Kd->Prop)->Prop
 |.val y d,K=>K d (vk y d)
 |.own d,K=>K d .bor
 |.hand _,_=>False
 |.shl _ _,_=>False
def LY (i:Nat):a6:=λβ R=>∃b,β[i]?=some (some b)/\qB b λd k=>R d k β
theorem E9 {P:T7}{w:Ur}{Z:Hp×(Addr->Prop)}{y:Bool}{d:D}{v:V}(h:aA P w (av C (Wn own) (yk y)) H d v):KV P w C Z own H (vk y d) d v:=by
 cases d with
 |int i=>exact KV.flat rfl h
 |bl i=>exact KV.flat rfl h
 |cE=>exact KV.flat rfl h
 |str i=>exact KV.flat rfl h
 |_=>cases y <;> exact h
theorem aa {i:Nat}{x:Str}(hN:X.N[i]?=some x:=by rfl)(hv:lT X.env.scope x:=by first|exact .inl rfl|exact .inr (.inl rfl)|exact .inr (.inr rfl))(hd:(x==("__debug__" : Str))=false:=by decide)(dJ:(x==("__classdict__" : Str))=false:=by decide):
  PQ X C true (.Name x pos) (LY i):=⟨λβ R R' k yZ=>by obtain⟨b,e,h⟩:=yZ;exact⟨b,e,by cases b <;> first|exact k _ _ _ h|exact h⟩,(br hN hv hd dJ).pre λσ H Q BW=>by
 obtain⟨β,own,s,b,e,q⟩:=BW;cases b with
 |val y d=>obtain⟨v,h1,h2⟩:=s.ir e;exact⟨v,h1,q v H own (Out.refl s _) (E9 h2)⟩
 |own d=>obtain⟨v,h1,h2,h3⟩:=s.ow i d e;exact⟨v,h1,q v H own (Out.refl s _) (h2.rep λ_ _ z=>z)⟩
 |hand ok=>exact q.elim
 |shl _ _=>exact q.elim⟩
def L5 (i:Nat):a6:=λβ R=>∃d,β[i]?=some (some (.own d))/\R d .cF (β.set i (some (.val true d)))
theorem rY {i:Nat}{x:Str}(hN:X.N[i]?=some x:=by rfl)(hv:lT X.env.scope x:=by first|exact .inl rfl|exact .inr (.inl rfl)|exact .inr (.inr rfl))(hd:(x==("__debug__" : Str))=false:=by decide)(dJ:(x==("__classdict__" : Str))=false:=by decide):
  PQ X C false (.Name x pos) (L5 i):=⟨λβ R R' k I9=>by obtain⟨b,e,h⟩:=I9;exact⟨b,e,k _ _ _ h⟩,(br hN hv hd dJ).pre λσ H Q IZ=>by
 obtain⟨β,own,s,d,e,q⟩:=IZ;have f:=s.freeze e;obtain⟨v,h1,h2⟩:=f.ir (y:=true) (get_set (by rw[s.len];obtain⟨v,h1,_⟩:=s.ow i d e;exact(Ua.mp h1).1))
 exact⟨v,h1,q v H _ ⟨f,⟨λb z=>.inl (cJ z),Kp.refl,λ_ z=>z⟩,λz=>(nomatch z),λ_ z=>cJ z⟩ h2⟩⟩
def qC (d:D):a6:=λβ R=>R d .own β
theorem ag {i j}:PQ X C true (.Constant (.int i) j pos) (qC (.int i)):=⟨λρ R R' k h=>k _ _ _ h,bt.pre λσ H Q Fx=>by obtain⟨β,own,s,q⟩:=Fx;exact q _ H own (Out.refl s _) (KV.flat (W:=λ_=>False) rfl rfl)⟩
theorem fF {b j}:PQ X C true (.Constant (.bool b) j pos) (qC (.bl b)):=⟨λρ R R' k h=>k _ _ _ h,CS.pre λσ H Q MP=>by obtain⟨β,own,s,q⟩:=MP;exact q _ H own (Out.refl s _) (KV.flat (W:=λ_=>False) rfl rfl)⟩
def xQ (X:Cx)(f:D->D->Option D)(N:D->Prop):R2:=λx y H Q=>∃W d1 d2 d,Dm W H/\Rp X W H d1 x/\Rp X W H d2 y/\f d1 d2=some d/\∀v H',az H H'->Rp X W H' d v->(N d->Rp X (λa=>H a≠none) H' d v)->Q v H'
abbrev Lk (X:Cx)(f:TY->TY->Sem TY)(g:D->D->Option D)(N:D->Prop):Prop:=jV X f (xQ X g N)
theorem bR.m {f:TY->TY->Sem TY}{g:D->D->Option D}(h:bR X f g):Lk X f g NF:=λpins s σ H x y v u Q I rx ry ⟨W,d1,d2,d,hd,r1,r2,e,q⟩ =>
 h pins s σ H x y v u Q I rx ry ⟨W,d1,d2,d,hd,r1,r2,e,λv H' s r=>q v H' s r λf=>aA.flat f r⟩
noncomputable def kN (N:D->Prop)(d:D)(k:Kd)(K:Kd->Prop):Prop:=match d with
 |.int _=>K .own
 |.bl _=>K .own
 |.cE=>K .own
 |.str _=>K .own
 |.tup _=>K k
 |_=>(N d/\K .own)\/K k
theorem kN.mono {N:D->Prop}{d:D}{k:Kd}{K K':Kd->Prop}(h:∀x,K x->K' x)(q:kN N d k K):kN N d k K':=by
 cases d <;> first|exact h _ q|exact q.imp (λz=>⟨z.1,h _ z.2⟩) (h _)
theorem jL {P:T7}{w:Ur}{Z:Hp×(Addr->Prop)}{d:D}{v:V}(hd:Dm (Wn own) H)(h0:∀a,C.H0 a≠none->H a≠none)(hz:∀a,Z.1 a≠none->H a≠none)(f:NL d)(r:aA P w (λa=>H a≠none) H' d v):KV P w C Z own H' .own d v:=by
 have nn:∀{a:Addr},¬ (H a≠none)->H a=none:=λ{a} h=>UJ λz=>h z;have cl:∀{a:Addr},H a=none->Z.1 a=none/\¬ Wn own a/\C.H0 a=none:=λ{a} h=>⟨UJ λz=>hz a z h,λz=>hd a z h,UJ λz=>h0 a z h⟩;cases d with
 |lst ds =>
  obtain⟨a,vs,rfl,e,n,q⟩:=r;exact⟨[a],⟨a,vs,[],rfl,e,rfl,f6 f q⟩,by simp,λc hc=>by rw[T_.mp hc];exact cl (nn n)⟩
 |_=>exact KV.flat f r
theorem KV.kN {N:D->Prop}{P:T7}{w:Ur}{Z:Hp×(Addr->Prop)}{d:D}{v:V}{k:Kd}{K:Kd->Prop}(hk:k.wk=k)(r:aA P w (av C (Wn own) k) H' d v)(ro:N d->KV P w C Z own H' .own d v)(q:kN N d k K):∃k',K k'/\KV P w C Z own H' k' d v:=by
 have rk:KV P w C Z own H' k d v:=by rw[<- hk];exact KV.of (by rw[hk];exact r)
 cases d with
 |int i=>exact⟨_,q,KV.flat rfl r⟩
 |bl i=>exact⟨_,q,KV.flat rfl r⟩
 |cE=>exact⟨_,q,KV.flat rfl r⟩
 |str i=>exact⟨_,q,KV.flat rfl r⟩
 |tup ds=>exact⟨_,q,rk⟩
 |_=>exact q.elim (λz=>⟨_,z.2,ro z.1⟩) λz=>⟨_,z,rk⟩
structure As (N:D->Prop):Prop where
 nl:∀d,N d->NL d
theorem ay:As NL:=⟨λ_ h=>h⟩
theorem af:As NF:=⟨λd h=>by cases d <;> first|exact h|cases h⟩
theorem C0 {a b:Kd}:(a.max b).wk=a.max b:=by cases a <;> cases b <;> rfl
def wN (g:D->D->Option D)(N:D->Prop)(pb:Bool)(φa φb:a6):a6:=λβ R=>φa β λx ka β1=>hold ka pb/\φb β1 λy kb β2=>∃d,g x y=some d/\kN N d (ka.max kb) λk=>R d k β2
variable {g:D->D->Option D}{N:D->Prop}
theorem wN.mono (ha:PQ X C p a φa)(hb:PQ X C p' b φb):∀β R R',(∀d k β,R d k β->R' d k β)->wN g N p' φa φb β R->wN g N p' φa φb β R':=λβ R R' k h =>
 ha.mono β _ _ (λx ka β1 hx=>⟨hx.1,hb.mono β1 _ _ (λy kb β2 FL=>by obtain⟨d,e,q⟩:=FL;exact⟨d,e,q.mono λ_ z=>k _ _ _ z⟩) hx.2⟩) h
theorem rW (hn:As N)(ha:PQ X C p a φa)(hb:PQ X C p' b φb):∀σ H Q,tQ X C (p&&p') (wN g N p' φa φb) σ H Q->He (xQ X g N) (tQ X C p φa) (tQ X C p' φb) σ H Q:=λσ H Q ⟨β,own,s,h⟩ =>
 tQ.of ha s h λd1 k1 β1 v1 H1 aE ⟨hh,h1⟩ o1 r1=>tQ.of hb o1.sq h1 λd2 k2 β2 v2 H2 bI zb o2 r2=>by
  obtain⟨d,e,q⟩:=zb;have Er:=r1.ho o2 hh;refine⟨av C (Wn bI) (k1.max k2),d1,d2,d,o2.sq.F7 _,aA.aT gf Er.rep,aA.aT oM r2.rep,e,λv H' s3 r3 n3=>?_⟩;have o:=(o1.trans o2).same s3;obtain⟨k,q,r⟩:=KV.kN (Z:=(H,Wn own)) C0 r3 (λn=>jL (H:=H2) o2.sq.uC o2.sq.gc (λa z=>o2.sn.d a (o1.sn.d a z)) (hn.nl _ n) (n3 n)) q;exact q v H' bI o r
theorem au {op:Operator}(hn:As N)(ho:Lk X (VL op) g N)(ha:PQ X C p a φa)(hb:PQ X C p' b φb):PQ X C (p&&p') (.BinOp a op b pos) (wN g N p' φa φb):=⟨wN.mono ha hb,(cI ho ha.pe hb.pe).pre (rW hn ha hb)⟩
theorem rZ {op:CmpOp}(hn:As N)(ho:Lk X (VW op) g N)(ha:PQ X C p a φa)(hb:PQ X C p' b φb)(hm:V3 op b=false:=by first|exact pT _ (by decide) (by decide)|rfl):PQ X C (p&&p') (.Compare a [op] [b] pos) (wN g N p' φa φb) :=
 ⟨wN.mono ha hb,(t7 ho ha.pe hb.pe hm).pre (rW hn ha hb)⟩
theorem aH (hn:As N)(ho:DJ X (xQ X g N))(ha:PQ X C p a φa)(hb:PQ X C p' b φb)(hs:jU b:=by exact λ_ _=>rfl):PQ X C (p&&p') (.Subscript a b pos) (wN g N p' φa φb):=⟨wN.mono ha hb,(gn ho ha.pe hb.pe hs).pre (rW hn ha hb)⟩
def CN (φ:a6):a5:=λβ R=>φ β λd k β'=>∃b,d=.bl b/\R b β'
theorem aM {op:CmpOp}(hn:As N)(ho:Lk X (VW op) g N)(ha:PQ X C p a φa)(hb:PQ X C p' b φb)(hm:V3 op b=false:=by first|exact pT _ (by decide) (by decide)|rfl):wJ X C (p&&p') (.Compare a [op] [b] pos) (CN (wN g N p' φa φb)) :=
 ⟨λβ R R' k h=>wN.mono ha hb β _ _ (λd kd β FJ=>by obtain⟨t,e,q⟩:=FJ;exact⟨t,e,k _ _ q⟩) h,(tP ho ha.pe hb.pe hm).pre λσ H Q ⟨β,own,s,h⟩ =>
  tQ.of ha s h λd1 k1 β1 v1 H1 aE ⟨hh,h1⟩ o1 r1=>tQ.of hb o1.sq h1 λd2 k2 β2 v2 H2 bI FI o2 r2=>by
   obtain⟨d,e,q⟩:=FI;have Er:=r1.ho o2 hh;refine⟨av C (Wn bI) (k1.max k2),d1,d2,d,o2.sq.F7 _,aA.aT gf Er.rep,aA.aT oM r2.rep,e,λv H' s3 r3 n3=>?_⟩;obtain⟨k,⟨t,et,q'⟩,r⟩:=KV.kN (Z:=(H,Wn own)) C0 r3 (λn=>jL (H:=H2) o2.sq.uC o2.sq.gc (λa z=>o2.sn.d a (o1.sn.d a z)) (hn.nl _ n) (n3 n)) q;subst et;cases r3;exact⟨t,rfl,q' H' bI ((o1.trans o2).same s3)⟩⟩
theorem jF (ha:PQ X C p a φa)(he:∀whole,isTrue a X.env whole=(do let v <- whole;XF a.pos;holding [v] (truthy v)):=by intro _;rfl):wJ X C p a (CN φa) :=
 ⟨λβ R R' k h=>ha.mono β _ _ (λd kd β' FH=>by obtain⟨b,e,q⟩:=FH;exact⟨b,e,k _ _ q⟩) h,(Ey ha.pe he).pre λσ H Q ⟨β,own,s,h⟩=>tQ.of ha s h λd k β' v H1 aE FF o1 r1=>by
  obtain⟨b,e,q⟩:=FF;subst e;cases r1.rep;exact⟨b,rfl,q H1 aE o1⟩⟩
def HC (τ:a5):a5:=λβ R=>τ β λb β'=>R (!b) β'
theorem nU (ha:wJ X C p a τ):wJ X C p (.UnaryOp .Not a pos) (HC τ) :=
 ⟨λβ R R' k h=>ha.mono β _ _ (λb β' q=>k _ _ q) h,(Ez ha.pt).pre λσ H Q FE=>by obtain⟨β,own,s,h⟩:=FE;exact ij.of ha s h λb β' H1 aE q o=>q H1 aE o⟩
variable {rest:List Expr}
def HG (τa τb:a5):a5:=λβ R=>τa β λt β1=>if t=true then τb β1 R else R false β1
def L1 (τa τb:a5):a5:=λβ R=>τa β λt β1=>if t=true then R true β1 else τb β1 R
theorem xZ (ha:wJ X C p a τ):wX X C p (.BoolOp .And [a] pos) τ:=⟨ha.mono,pw_and1 ha.pt⟩
theorem nR (ha:wJ X C p a τ):wX X C p (.BoolOp .Or [a] pos) τ:=⟨ha.mono,pw_or1 ha.pt⟩
theorem Gk {p q:Bool}(z:(p&&q)=true):p=true:=by cases p <;> first|rfl|cases z
theorem N_ {p q:Bool}(z:(p&&q)=true):q=true:=by cases p <;> first|exact z|cases z
theorem A7 (ha:wJ X C p a τa)(hb:wX X C p' (.BoolOp .And (b::rest) pos) τb):wX X C (p&&p') (.BoolOp .And (a::b::rest) pos) (HG τa τb) :=
 ⟨λβ R R' k h=>ha.mono β _ _ (λt β1 q=>by
   cases t
   ·exact k _ _ q
   ·exact hb.mono β1 _ _ k q) h,(pw_and ha.pt hb.pw).pre λσ H Q ⟨β,own,s,h⟩=>ij.of ha s h λt β1 H1 aE q o1=>by
  cases t
  ·exact q H1 aE (o1.wk Gk)
  ·exact ij.of hb.t o1.sq q λt' β2 H2 bI q2 o2=>q2 H2 bI (o1.trans o2)⟩
theorem nS (ha:wJ X C p a τa)(hb:wX X C p' (.BoolOp .Or (b::rest) pos) τb):wX X C (p&&p') (.BoolOp .Or (a::b::rest) pos) (L1 τa τb) :=
 ⟨λβ R R' k h=>ha.mono β _ _ (λt β1 q=>by
   cases t
   ·exact hb.mono β1 _ _ k q
   ·exact k _ _ q) h,(pw_or ha.pt hb.pw).pre λσ H Q ⟨β,own,s,h⟩=>ij.of ha s h λt β1 H1 aE q o1=>by
  cases t
  ·exact ij.of hb.t o1.sq q λt' β2 H2 bI q2 o2=>q2 H2 bI (o1.trans o2)
  ·exact q H1 aE (o1.wk Gk)⟩
def QI (g:D->Option D)(φa:a6):a6:=λβ R=>φa β λx _ β1=>∃d,g x=some d/\d.flat=true/\R d .own β1
theorem kG {op:UnaryOp}{g:D->Option D}(ho:Kt X (unaryOp op) (OH X g))(ha:PQ X C p a φa):PQ X C p (.UnaryOp op a pos) (QI g φa) :=
 ⟨λβ R R' k h=>ha.mono β _ _ (λx _ β1 MX=>by obtain⟨d,e,f,q⟩:=MX;exact⟨d,e,f,k _ _ _ q⟩) h,(HL ho ha.pe).pre λσ H Q ⟨β,own,s,h⟩ =>
  tQ.of ha s h λd1 k1 β1 v1 H1 aE MW o1 r1=>by obtain⟨d,e,f,q⟩:=MW;exact⟨_,d1,d,o1.sq.F7 _,r1.rep,e,λv H' s2 r2=>q v H' aE (o1.same s2) (KV.flat f r2)⟩⟩
def L3:bQ:=λβ R=>R [] [] β
def HF (pr:Bool)(φ:a6)(φs:bQ):bQ:=λβ R=>φ β λd k β1=>hold k pr/\φs β1 λds ks β2=>R (d::ds) (k::ks) β2
theorem ae:oN X C true [] L3:=⟨λβ R R' k h=>k _ _ _ h,cO.pre λσ H Q MV=>by obtain⟨β,own,s,q⟩:=MV;exact q [] H own (Out.refl s _) rg.nil⟩
theorem ab (ha:PQ X C p a φ)(hr:oN X C p' es φs)(hs:Up (a::es) X.env=(false,eval a X.env)::Up es X.env:=by rfl):oN X C (p&&p') (a::es) (HF p' φ φs) :=
 ⟨λβ R R' k h=>ha.mono β _ _ (λd kd β1 q=>⟨q.1,hr.mono β1 _ _ (λds ks β2 q2=>k _ _ _ q2) q.2⟩) h,(bu ha.pe hr.pa hs).pre λσ H Q ⟨β,own,s,h⟩ =>
  tQ.of ha s h λd1 k1 β1 v1 H1 aE MU o1 r1=>by obtain⟨hh,h1⟩:=MU;exact o_.of hr o1.sq h1 λds ks β2 vs H2 bI q o2 r2=>q (v1::vs) H2 bI (o1.trans o2) (rg.cons r1 o2.sn (r1.ho o2 hh) r2 o1.sn)⟩
def LZ (φs:bQ):a6:=λβ R=>φs β λds ks β1=>ds.length<=Ul/\yN ks ds λk=>R (.tup ds) k β1
def L4 (φs:bQ):a6:=λβ R=>φs β λds ks β1=>ds.length<=Ul/\yN ks ds λk=>R (.lst ds) k β1
theorem aI.same {P:T7}{w:Ur}{ds:List D}{vs:List V}{A:List Addr}(s:az H H')(h:aI P w H ds vs A):aI P w H' ds vs A:=h.keep (λb xs e=>s _ _ e) λc _ o e=>s c o e
theorem E_ {P:T7}{w:Ur}{Z:Hp×(Addr->Prop)}{ks:List Kd}{ds:List D}{vs:List V}{K:Kd->Prop}{q:Addr}(hq:H q=none)(h:rg P w C Z own H ks ds vs)(m:yN ks ds K):∃k,K k/\KV P w C Z own (upd H q (.tup vs)) k (.tup ds) (.ref q):=by
 rcases m.of with⟨f,k⟩|k
 ·obtain⟨A,h1,h2,h3⟩:=h;exact⟨_,k,A,⟨q,vs,rfl,ar,(h1.EF f).same (az.new hq)⟩,h2,h3⟩
 ·refine⟨_,k,?_⟩;rw[<- e9];exact KV.of (by rw[e9];exact⟨q,vs,rfl,ar,h.gh.same (az.new hq)⟩)
theorem Fb {P:T7}{w:Ur}{Z:Hp×(Addr->Prop)}{ks:List Kd}{ds:List D}{vs:List V}{K:Kd->Prop}{q:Addr}(hq:H q=none)(hd:Dm (Wn own) H)(h0:∀a,C.H0 a≠none->H a≠none)(hz:∀a,Z.1 a≠none->H a≠none)(h:rg P w C Z own H ks ds vs)(m:yN ks ds K):∃k,K k/\KV P w C Z own (upd H q (.lst vs)) k (.lst ds) (.ref q):=by
 rcases m.of with⟨f,k⟩|k
 ·obtain⟨A,h1,h2,h3⟩:=h;refine⟨_,k,q::A,⟨q,vs,A,rfl,ar,rfl,(h1.EF f).same (az.new hq)⟩,UM.mpr ⟨λz=>h1.lR q z hq,h2⟩,λc hc=>?_⟩;rcases Uc.mp hc with rfl|hc
  ·exact⟨UJ λz=>hz c z hq,λz=>hd c z hq,UJ λz=>h0 c z hq⟩
  ·exact h3 c hc
 ·refine⟨_,k,?_⟩;have nq:¬ av C (Wn own) (d7 ks) q:=λz=>by
   cases e:d7 ks <;> rw[e]at z <;> first|exact z.elim (λz=>hd q z hq) λz=>h0 q z hq|exact hd q z hq|exact z
  rw[<- e9];exact KV.of (by rw[e9];exact⟨q,vs,rfl,ar,nq,h.gh.same (az.new hq)⟩)
theorem rg.length {P:T7}{w:Ur}{Z:Hp×(Addr->Prop)}{ks:List Kd}{ds:List D}{vs:List V}(h:rg P w C Z own H ks ds vs):vs.length=ds.length:=h.gh.length
theorem cB {x1}(h:oN X C p es φs):PQ X C p (.Tuple es x1 pos) (LZ φs) :=
 ⟨λβ R R' k q=>h.mono β _ _ (λds ks β1 MT=>by obtain⟨l,q⟩:=MT;exact⟨l,q.mono λ_ z=>k _ _ _ z⟩) q,(yh h.pa).pre λσ H Q ⟨β,own,s,q⟩=>o_.of h s q λds ks β1 vs H1 aE ⟨l,q1⟩ o1 r1 =>
  ⟨by rw[r1.length];exact l,λq hq=>let ⟨k,q1,r⟩:=E_ hq r1 q1;q1 _ _ aE (o1.same (az.new hq)) r⟩⟩
theorem aV (h:oN X C p es φs):PQ X C p (.List es pos) (L4 φs) :=
 ⟨λβ R R' k q=>h.mono β _ _ (λds ks β1 Fy=>by obtain⟨l,q⟩:=Fy;exact⟨l,q.mono λ_ z=>k _ _ _ z⟩) q,(nX h.pa).pre λσ H Q ⟨β,own,s,q⟩=>o_.of h s q λds ks β1 vs H1 aE ⟨l,q1⟩ o1 r1 =>
  ⟨by rw[r1.length];exact l,λq hq=>let ⟨k,q1,r⟩:=Fb hq o1.sq.uC o1.sq.gc (λa z=>o1.sn.d a z) r1 q1;q1 _ _ aE (o1.same (az.new hq)) r⟩⟩
end
section
variable {X:Cx}{C:Cfg}{a c e:Expr}{es:List Expr}{φ:a6}{φs:bQ}{pos:Pos}{σ:St}{H H':Hp}{β:bb}{own:Nat->List Addr}{p:Bool}{g:D->D->Option D}{N:D->Prop}
abbrev Ad:=bb->(Option Int->bb->Prop)->Prop
structure Li (X:Cx)(C:Cfg)(e:Option Expr)(φ:Ad):Prop where
 mono:∀β R R',(∀d β,R d β->R' d β)->φ β R->φ β R'
 po:PO X e λσ H Q=>∃β own,SQ X C σ H β own/\φ β λo β'=>∀H',az H H'->SQ X C σ H' β' own->Q o H'
theorem bx:Li X C none (λβ R=>R none β):=⟨λβ R R' k h=>k _ _ h,tX.pre λσ H Q za=>by obtain⟨β,own,s,q⟩:=za;exact q H (az.refl _) s⟩
theorem bw (ha:PQ X C true a φ):Li X C (some a) (λβ R=>φ β λd _ β1=>∃i,d=.int i/\R (some i) β1) :=
 ⟨λβ R R' k h=>ha.mono β _ _ (λd _ β1 y_=>by obtain⟨i,e,q⟩:=y_;exact⟨i,e,k _ _ q⟩) h,(tV ha.pe).pre λσ H Q ⟨β,own,s,h⟩=>tQ.of ha s h λd k β1 v H1 aE FH o1 r1=>by
  obtain⟨i,e,q⟩:=FH;subst e;cases r1.rep;obtain⟨s1,rfl⟩:=o1.pu rfl;exact⟨i,rfl,q H1 s1 o1.sq⟩⟩
def QJ (φ:a6)(φl φh:Ad):a6:=λβ R=>φ β λx k β1=>φl β1 λl β2=>φh β2 λh β3=>∃d,Ao x l h=some d/\kN NL d k.wk λk'=>R d k' β3
theorem G6 {k:Kd}:k.wk.wk=k.wk:=by cases k <;> rfl
theorem DD {W:Addr->Prop}{k:Kd}:∀c,av C W k.wk c->av C W k c:=λc h=>by cases k <;> exact h
theorem dy {lo hi:Option Expr}{φl φh:Ad}{p2:Pos}(ha:PQ X C p a φ)(hl:Li X C lo φl)(hh:Li X C hi φh):PQ X C p (.Subscript a (.Slice lo hi none p2) pos) (QJ φ φl φh) :=
 ⟨λβ R R' k h=>ha.mono β _ _ (λx kx β1 q=>hl.mono β1 _ _ (λl β2 q=>hh.mono β2 _ _ (λu β3 FG=>by obtain⟨d,e,q⟩:=FG;exact⟨d,e,q.mono λ_ z=>k _ _ _ z⟩) q) q) h,
  (pO AJ ha.pe hl.po hh.po).pre λσ H Q ⟨β,own,s,h⟩=>tQ.of ha s h λd k β1 v H1 aE q o1 r1 =>
    ⟨β1,aE,o1.sq,hl.mono β1 _ _ (λl β2 q H2 s2 Qw=>⟨β2,aE,Qw,hh.mono β2 _ _ (λu β3 FE H3 s3 KJ=>by
      obtain⟨d',e,q⟩:=FE;refine⟨av C (Wn aE) k.wk,d,d',KJ.F7 _,((aA.aT DD r1.rep).same s2).same s3,e,λv H' s4 r4 n4=>?_⟩;obtain⟨k',q,r⟩:=KV.kN (Z:=(H,Wn own)) G6 r4 (λn=>jL (H:=H3) KJ.uC KJ.gc (λa z e=>o1.sn.d a z (s2.free (s3.free e))) n (n4 n)) q;exact q v H' aE ⟨KJ.same s4,o1.sn.same ((s2.trans s3).trans s4),λz=>⟨(o1.pu z).1.trans ((s2.trans s3).trans s4),(o1.pu z).2⟩,o1.le⟩ r) q⟩) q⟩⟩
def HA (X:Cx)(f:List D->Option D)(N:D->Prop):List V->Hp->VK->Prop:=λxs H Q=>∃W ds d,Dm W H/\jv X W H ds xs/\f ds=some d/\∀v H',az H H'->Rp X W H' d v->(N d->Rp X (λa=>H a≠none) H' d v)->Q v H'
abbrev Ah (X:Cx)(f:TY)(g:List D->Option D)(N:D->Prop):Prop:=fv X f (HA X g N)
theorem bE.m {f:TY}{g:List D->Option D}(h:bE X f g):Ah X f g NF:=λpins s σ H xs us Q I r ⟨W,ds,d,hd,r1,e,q⟩ =>
 h pins s σ H xs us Q I r ⟨W,ds,d,hd,r1,e,λv H' s r=>q v H' s r λf=>aA.flat f r⟩
def i9 (g:List D->Option D)(N:D->Prop)(φs:bQ):a6:=λβ R=>φs β λds ks β1=>∃d,g ds=some d/\kN N d (d7 ks) λk=>R d k β1
variable {x:Str}{pp:Pos}{id T:String}{gs:List D->Option D}
theorem i9.mono (h:oN X C p es φs):∀β R R',(∀d k β,R d k β->R' d k β)->i9 gs N φs β R->i9 gs N φs β R':=λβ R R' k q=>h.mono β _ _ (λds ks β1 M4=>by obtain⟨d,e,q⟩:=M4;exact⟨d,e,q.mono λ_ z=>k _ _ _ z⟩) q
theorem pJ (hn:As N)(h:oN X C p es φs):∀σ H Q,tQ X C p (i9 gs N φs) σ H Q->LA (HA X gs N) (o_ X C p φs) σ H Q:=λσ H Q ⟨β,own,s,q⟩=>o_.of h s q λds ks β1 vs H1 aE M1 o1 r1=>by
 obtain⟨d,e,q1⟩:=M1;refine⟨av C (Wn aE) (d7 ks),ds,d,o1.sq.F7 _,r1.gh,e,λv H' s2 r2 n2=>?_⟩;obtain⟨k',q,r⟩:=KV.kN (Z:=(H,Wn own)) e9 r2 (λn=>jL (H:=H1) o1.sq.uC o1.sq.gc (λa z=>o1.sn.d a z) (hn.nl _ n) (n2 n)) q1;exact q v H' aE (o1.same s2) r
theorem bf (BZ:As N)(hc:Ah X (.builtin id) gs N)(hm:X.mg x=none)(hv:U1 x=some (.builtin id))(ha:oN X C p (e::es) φs)(hg:Gl X x:=by rfl)(hn:x≠"__name__" := by decide)(hdb:(x==("__debug__" : Str))=false:=by decide)
  (jk:Up (e::es) X.env=(false,eval e X.env)::Up es X.env:=by rfl) (hpl:(VT pos (Up es X.env)).any (·.1)=false:=by rfl) :
  PQ X C p (.Call (.Name x pp) (e::es) [] pos) (i9 gs N φs):=⟨i9.mono ha,(kM hc hg hm hv ha.pa hn hdb (he:=jk) (hpl:=hpl)).pre (pJ BZ ha)⟩
theorem fZ (BZ:As N)(hc:Ah X (.type T) gs N)(hm:X.mg x=none)(hv:U1 x=some (.type T))(ha:oN X C p (e::es) φs)(hg:Gl X x:=by rfl)(hn:x≠"__name__" := by decide)(hdb:(x==("__debug__" : Str))=false:=by decide)
  (jk:Up (e::es) X.env=(false,eval e X.env)::Up es X.env:=by rfl) (hpl:(VT pos (Up es X.env)).any (·.1)=false:=by rfl) :
  PQ X C p (.Call (.Name x pp) (e::es) [] pos) (i9 gs N φs):=⟨i9.mono ha,(iH hc hg hm hv ha.pa hn hdb (he:=jk) (hpl:=hpl)).pre (pJ BZ ha)⟩
end
def rd (P:T7)(w:Ur)(ro:Bool)(H H':Hp)(d:D)(v:V):Prop:=match ro with
 |true=>∃A,Own P w H' d v A/\A.Nodup/\∀c∈A,H c=none
 |false=>aA P w (λa=>H a≠none) H' d v
abbrev rk (ro:Bool):Kd:=match ro with|true=>.own|false=>.cF
def ik (P:T7)(w:Ur)(ro:Bool)(F:FD):Sp:=λvs H Q _=>∃ds,ai P w (λ_=>False) H ds vs/\F ds λd=>∀v H',az H H'->rd P w ro H H' d v->Q v H'
def fB (P:T7)(w:Ur)(ok:List Int->Prop)(ro:Bool)(F:FD):Sp:=λvs H Q _=>∃h vs' ds ns,vs=.ref h::vs'/\H h=some (.lst (ns.map V.int))/\ok ns/\ai P w (λa=>a=h) H ds vs' /\
 F ds λd=>∀v H' n_,Kp (·=h) H H'->(∀c,H c≠none->H' c≠none)->H' h=some (.lst (n_.map V.int))->ok n_->rd P w ro H H' d v->Q v H'
section
variable {X:Cx}{C:Cfg}{k ih:Nat}{f:Addr}{fd:UW}{ps:List Str}{F:FD}{ro p:Bool}{x hx:Str}{pp pos px:Pos}{e:Expr}{es:List Expr}{φs:bQ}{ok:List Int->Prop}{σ:St}{H H':Hp}{β:bb}{own:Nat->List Addr}{P:T7}{w:Ur}
theorem rd.kv {Z:Hp×(Addr->Prop)}{d:D}{v:V}(hd:Dm (Wn own) H)(h0:∀a,C.H0 a≠none->H a≠none)(hz:∀a,Z.1 a≠none->H a≠none)(h:rd P w ro H H' d v):KV P w C Z own H' (rk ro) d v:=by
 cases ro with
 |true =>
  obtain⟨A,h1,h2,h3⟩:=h;exact⟨A,h1,h2,λc hc=>⟨UJ λz=>hz c z (h3 c hc),λz=>hd c z (h3 c hc),UJ λz=>h0 c z (h3 c hc)⟩⟩
 |false=>exact aA.aT (λa z=>z.elim (hd a) (h0 a)) h
def L0 (ro:Bool)(F:FD)(φs:bQ):a6:=λβ R=>φs β λds _ β1=>F ds λd=>R d (rk ro) β1
theorem bY (mF:d9 F)(G:aR X.prog X.w X.K X.mg X.base cj k f fd ps (ik X.prog X.w ro F))(hr:cR k X.A)(hm:X.mg x=some (.ref f))(hk:PySem.W.keepIn X.K (.ref f)=true)(hb:Binds X.K fd ps [])(ha:oN X C p (e::es) φs)(hg:Gl X x:=by rfl)
  (hdb:(x==("__debug__" : Str))=false:=by decide)
  (jk:Up (e::es) X.env=(false,eval e X.env)::Up es X.env:=by rfl) (hpl:(VT pos (Up es X.env)).any (·.1)=false:=by rfl) :
  PQ X C p (.Call (.Name x pp) (e::es) [] pos) (L0 ro F φs) :=
 ⟨λβ R R' k h=>ha.mono β _ _ (λds ks β1 q=>mF ds _ _ (λd q=>k _ _ _ q) q) h,(nY G hr hg hm hk hb .nil ym ha.pa (hdb:=hdb) (he:=jk) (hpl:=hpl)).pre λσ H Q ⟨β,own,s,h⟩=>o_.of ha s h λds ks β1 vs H1 aE q o1 r1=>by
  rw[Vo];exact⟨ds,r1.bor,mF ds _ _ (λd q2 v H' s2 r2=>q2 v H' aE (o1.same s2) (r2.kv o1.sq.uC o1.sq.gc λa z=>o1.sn.d a z)) q⟩⟩
theorem bG.drawn {i:Nat}{h:Addr}{n_:List Int}(b:bG P w C σ H β own)(e:β[i]?=some (some (.hand ok)))(hσ:σ[i]?=some (some (.ref h)))(k:Kp (·=h) H H')(e':H' h=some (.lst (n_.map V.int)))(o':ok n_)(dn:∀c,H c≠none->H' c≠none):bG P w C σ H' β own:=by
 obtain⟨a,ns,h1,h2,h3,h4,h5⟩:=b.jl i ok e;rw[hσ]at h1;cases h1;have wh:Wn own h:=⟨i,by rw[h4];simp⟩
 have kW:∀y,Kp (eQ C (Wn own) (yk y)) H H':=λy=>k.mono λc z=>by rw[z];cases y <;> first|exact .inl wh|exact .inl (.inl wh)
 have ne:∀j,j≠i->∀c∈own j,c≠h:=λj hj c hc z=>hj (b.jr j i c hc (by rw[h4,z];simp))
 refine⟨b.len,λj y d e=>let ⟨v,g1,g2⟩:=b.val j y d e;⟨v,g1,g2.keep (kW y)⟩,λj d ej=>?_,λj sg ej=>?_,λj c hc=>?_,b.jr,b.jM,⟨λc o z n=>?_,λc xs z=>k.tup c xs (b.kp.tup c xs z)⟩,λc z=>dn c (b.gc c z),λj y d ej=>by
  obtain⟨v,g1,g2,g3⟩:=b.shl j y d ej;have hj:j≠i:=λz=>by rw[z,e]at ej;cases ej
  exact⟨v,g1,g2.map (λc hc o eo=>k.out c o eo (ne j hj c hc)) (λ_ _ r=>r.keep (kW y)),g3⟩⟩
 ·obtain⟨v,g1,g2,g3⟩:=b.ow j d ej;have hj:j≠i:=λz=>by rw[z,e]at ej;cases ej
  exact⟨v,g1,g2.keep k.tup (λc hc o eo=>k.out c o eo (ne j hj c hc)),g3⟩
 ·by_cases hj:j=i
  ·subst hj;rw[e]at ej;cases ej;exact⟨h,n_,hσ,e',o',h4,h5⟩
  ·obtain⟨a,ms,g1,g2,g3,g4,g5⟩:=b.jl j sg ej;exact⟨a,ms,g1,k.out a _ g2 (ne j hj a (by rw[g4];simp)),g3,g4,g5⟩
 ·obtain⟨g1,g2,g3⟩:=b.dm j c hc
  by_cases qj:c=h
  ·rw[qj,e'];rw[qj]at g3;exact⟨λz=>(nomatch z),λxs z=>(by cases z),g3⟩
  ·cases q:H c with
   |none=>exact absurd q g1
   |some o=>rw[k.out c o q qj];exact⟨λz=>(nomatch z),λxs z=>g2 xs (by rw[q];exact z),g3⟩
 ·refine k.out c o (b.kp.out c o z n) λq=>?_;subst q;rcases (b.dm i c (by rw[h4];simp)).2.2.1 with z0|z0
  ·rw[z0]at z;cases z
  ·exact n z0
def HE (ih:Nat)(ok:List Int->Prop)(ro:Bool)(F:FD)(φs:bQ):a6:=λβ R=>β[ih]?=some (some (.hand ok))/\φs β λds ks β1=>β1[ih]?=some (some (.hand ok))/\hold (d7 ks) false/\F ds λd=>R d (rk ro) β1
theorem aZ (mF:d9 F)(G:aR X.prog X.w X.K X.mg X.base cj k f fd ps (fB X.prog X.w ok ro F))(hr:cR k X.A)(hm:X.mg x=some (.ref f))(hk:PySem.W.keepIn X.K (.ref f)=true)(hb:Binds X.K fd ps [])(ha:oN X C p es φs)(hN:X.N[ih]?=some hx:=by rfl)
  (hv:lT X.env.scope hx:=by first|exact .inl rfl|exact .inr (.inl rfl)|exact .inr (.inr rfl)) (hd:(hx==("__debug__" : Str))=false:=by decide) (dJ:(hx==("__classdict__" : Str))=false:=by decide) (hg:Gl X x:=by rfl) (hdb:(x==("__debug__" : Str))=false:=by decide)
  (jk:Up (.Name hx px::es) X.env=(false,eval (.Name hx px) X.env)::Up es X.env:=by rfl) (hpl:(VT pos (Up es X.env)).any (·.1)=false:=by rfl) :
  PQ X C false (.Call (.Name x pp) (.Name hx px::es) [] pos) (HE ih ok ro F φs) :=
 ⟨λβ R R' k FC=>by obtain⟨e,h⟩:=FC;exact⟨e,ha.mono β _ _ (λds ks β1 FA=>by obtain⟨e,hh,q⟩:=FA;exact⟨e,hh,mF ds _ _ (λd q=>k _ _ _ q) q⟩) h⟩,
  (nY G hr hg hm hk hb .nil ym (bu (br (pos:=px) hN hv hd dJ) ha.pa jk) (hdb:=hdb) (he:=jk) (hpl:=hpl)).pre λσ H Q Fz=>by
  obtain⟨β,own,s,e,h⟩:=Fz;obtain⟨hh,ns,h1,h2,h3,h4⟩:=s.jl ih ok e;refine⟨.ref hh,h1,o_.of ha s h λds ks β1 vs H1 aE ⟨e1,ho,q⟩ o1 r1=>?_⟩;obtain⟨RU,Mk,g1,g2,g3,g4,g5⟩:=o1.sq.jl ih ok e1;rw[h1]at g1;cases g1;have wh:Wn aE hh:=⟨ih,by rw[g4];simp⟩
  rw[Vo];refine⟨hh,vs,ds,Mk,rfl,g2,g3,ai.aT (λa z=>?_) r1.gh,mF ds _ _ (λd q v H' n_ kp dn e' sg r=>?_) q⟩
  ·subst z;cases hk:d7 ks with
   |own=>exact .inl wh
   |cF=>exact .inl wh
   |old=>exact wh
   |bor=>rw[hk]at ho;exact ho.elim
  ·exact q v H' aE ⟨o1.sq.drawn e1 h1 kp e' sg dn,o1.sn.kp (kp.mono λb z=>by rw[z];exact wh) dn,λz=>(nomatch z),o1.le⟩ (r.kv o1.sq.uC o1.sq.gc λa z=>o1.sn.d a z)⟩
end
abbrev Cfg.z (C:Cfg):Cfg:=C.u λ_=>False
def SB (X:Cx)(C:Cfg)(Z:Hp×(Addr->Prop))(σ:St)(H:Hp)(β:bb):Prop:=∃own,SQ X C.z σ H β own/\Sn Z H (Wn own)
structure eP where
 nx:bb->Prop
 rt:D->bb->Prop
 bk:bb->Prop:=λ_=>False
 ct:bb->Prop:=λ_=>False
def eP.up (E:eP)(n:bb->Prop):eP:=⟨n,E.rt,E.bk,E.ct⟩
def eP.lp (E:eP)(n:bb->Prop):eP:=⟨n,E.rt,E.nx,n⟩
structure P4 (X:Cx)(C:Cfg)(Z:Hp×(Addr->Prop))(E:eP)(D:Ends):Prop where
 nx:∀σ H β,SB X C Z σ H β->E.nx β->D.nx σ H
 rt:∀σ H β d v,SB X C Z σ H β->rd X.prog X.w C.ro C.H0 H d v->E.rt d β->D.rt v H
 bk:∀σ H β,SB X C Z σ H β->E.bk β->D.bk σ H
 ct:∀σ H β,SB X C Z σ H β->E.ct β->D.ct σ H
structure Le (E E':eP):Prop where
 nx:∀β,E.nx β->E'.nx β
 rt:∀d β,E.rt d β->E'.rt d β
 bk:∀β,E.bk β->E'.bk β
 ct:∀β,E.ct β->E'.ct β
abbrev Gq:=eP->bb->Prop
def Oy (X:Cx)(C:Cfg)(ψ:Gq):TS:=λD σ H=>∃Z E β,SB X C Z σ H β/\ψ E β/\P4 X C Z E D
structure PB (X:Cx)(C:Cfg)(st:Stmt)(ψ:Gq):Prop where
 mono:∀E E' β,Le E E'->ψ E β->ψ E' β
 ps:PS X st (Oy X C ψ)
structure tf (X:Cx)(C:Cfg)(st:List Stmt)(ψ:Gq):Prop where
 mono:∀E E' β,Le E E'->ψ E β->ψ E' β
 ps:rq X st (Oy X C ψ)
section
variable {X:Cx}{C:Cfg}{st:Stmt}{rest a b:List Stmt}{ψ ψ1 ψ2:Gq}{Z:Hp×(Addr->Prop)}{σ:St}{H H':Hp}{β β':bb}{pos pos':Pos}{e c:Expr}{φ:a6}{τ:a5}{p:Bool}{own aN:Nat->List Addr}{i:Nat}{x:Str}
theorem Out.sb (n:Sn Z H (Wn own))(o:Out X C.z σ H own p β' H' aN):SB X C Z σ H' β':=⟨aN,o.sq,n.trans o.sn⟩
theorem ba:tf X C [] (λE β=>E.nx β):=⟨λE E' β l h=>l.nx β h,tR.pre λD σ H BX=>by obtain⟨Z,E,β,sb,h,ok⟩:=BX;exact ok.nx σ H β sb h⟩
theorem ah (h1:PB X C st ψ1)(h2:tf X C rest ψ2):tf X C (st::rest) (λE β=>ψ1 (E.up (ψ2 E)) β) :=
 ⟨λE E' β l h=>h1.mono {E with nx:=ψ2 E} {E' with nx:=ψ2 E'} β ⟨λβ' q=>h2.mono E E' β' l q,l.rt,l.bk,l.ct⟩ h,(dw h1.ps h2.ps).pre λD σ H ⟨Z,E,β,sb,h,ok⟩ =>
  ⟨Z,{E with nx:=ψ2 E},β,sb,h,⟨λσ' H' β' AS h'=>⟨Z,E,β',AS,h',ok⟩,ok.rt,ok.bk,ok.ct⟩⟩⟩
theorem ao (h1:PB X C st ψ):tf X C [st] ψ:=⟨h1.mono,gV h1.ps⟩
theorem jH (h1:PB X C st ψ1)(h2:tf X C rest ψ2):tf X C (st::rest) (λE β=>∃J:bb->Prop,ψ1 (E.up J) β/\∀β',J β'->ψ2 E β') :=
 ⟨λE E' β l BW=>by obtain⟨J,h,k⟩:=BW;exact⟨J,h1.mono {E with nx:=J} {E' with nx:=J} β ⟨λ_ q=>q,l.rt,l.bk,l.ct⟩ h,λβ' q=>h2.mono E E' β' l (k β' q)⟩,(dw h1.ps h2.ps).pre λD σ H ⟨Z,E,β,sb,⟨J,h,k⟩,ok⟩ =>
  ⟨Z,{E with nx:=J},β,sb,h,⟨λσ' H' β' AS h'=>⟨Z,E,β',AS,k β' h',ok⟩,ok.rt,ok.bk,ok.ct⟩⟩⟩
theorem b7 (hc:wJ X C.z p c τ)(ha:tf X C a ψ1)(hb:tf X C b ψ2):PB X C (.If c a b pos) (λE β=>τ β λt β'=>if t=true then ψ1 E β' else ψ2 E β') :=
 ⟨λE E' β l h=>hc.mono _ _ _ (λt β' q=>by
   cases t
   ·exact hb.mono E E' β' l q
   ·exact ha.mono E E' β' l q) h,(CO hc.pt ha.ps hb.ps).pre λD σ H IY=>by
  obtain⟨Z,E,β,⟨own,s,n⟩,h,ok⟩:=IY;refine ij.of hc s h λt β' H1 aE q o1=>?_;cases t
  ·exact⟨Z,E,β',o1.sb n,q,ok⟩
  ·exact⟨Z,E,β',o1.sb n,q,ok⟩⟩
abbrev C7 (d:D)(k:Kd)(K:B->Prop):Prop:=match k with
 |.own=>K (.val true d)
 |.cF=>K (.val true d)
 |.old=>K (.val false d)
 |.bor=>d.flat=true/\K (.val true d)
theorem C7.mono {d:D}{k:Kd}{K K':B->Prop}(h:∀b,K b->K' b)(q:C7 d k K):C7 d k K':=by
 cases k <;> first|exact h _ q|exact⟨q.1,h _ q.2⟩
theorem C7.of {P:T7}{w:Ur}{d:D}{v:V}{k:Kd}{K:B->Prop}(r:KV P w C Z own H k d v)(q:C7 d k K):∃y,K (.val y d)/\aA P w (av C (Wn own) (yk y)) H d v:=by
 cases k with
 |own=>exact⟨true,q,r.cF⟩
 |cF=>exact⟨true,q,r⟩
 |old=>exact⟨false,q,r⟩
 |bor=>exact⟨true,q.2,aA.flat q.1 r⟩
theorem rT {own:Nat->List Addr}{i:Nat}(n:Sn Z H (Wn own)):Sn Z H (Wn (aG own i [])):=⟨λb z=>n.w b (cJ z),n.k,n.d⟩
theorem aO (he:PQ X C.z p e φ)(hN:X.N.Nodup)(hi:X.N[i]?=some x:=by rfl)(hx:Loc X.env.scope x:=by first|exact .inl rfl|exact .inr rfl)
  (hs:VI e (some (.Name x pos')) pos.line X.env=pure false:=by rfl) (hf:X.fn x=true\/X.env.scope.names.lookup x=some .local:=by first|exact .inl rfl|exact .inr rfl|assumption) :
  PB X C (.Assign [.Name x pos'] e pos) (λE β=>φ β λd k β'=>C7 d k λb=>E.nx (β'.set i (some b))) :=
 ⟨λE E' β l q=>he.mono _ _ _ (λd k β' q=>q.mono λ_=>l.nx _) q,(iF hN hi hx he.pe hs hf).pre λD σ H ⟨Z,E,β,⟨own,s,n⟩,q,ok⟩=>tQ.of he s q λd k β' v H' aN q o r=>by
  obtain⟨y,q,r⟩:=q.of r;exact ok.nx _ _ _ ⟨_,o.sq.dY (aA.aT (λa z=>z.elim id λz=>z.elim) r),rT (n.trans o.sn)⟩ q⟩
abbrev BN (k:Kd)(d:D):Prop:=match k with
 |.own=>True
 |_=>d.flat=true
theorem KV.fl {P:T7}{w:Ur}{d:D}{v:V}{k:Kd}(f:BN k d)(r:KV P w C Z own H k d v):KV P w C Z own H .own d v:=by
 cases k with
 |own=>exact r
 |cF=>exact KV.flat f r.rep
 |old=>exact KV.flat f r.rep
 |bor=>exact KV.flat f r.rep
theorem dQ (he:∀U,PQ X (C.u U) p e φ)(hN:X.N.Nodup)(hi:X.N[i]?=some x:=by rfl)(hx:Loc X.env.scope x:=by first|exact .inl rfl|exact .inr rfl)
  (hs:VI e (some (.Name x pos')) pos.line X.env=pure false:=by rfl) (hf:X.fn x=true\/X.env.scope.names.lookup x=some .local:=by first|exact .inl rfl|exact .inr rfl|assumption) :
  PB X C (.Assign [.Name x pos'] e pos) (λE β=>φ β λd k β'=>BN k d/\E.nx (β'.set i (some (.own d)))) :=
 ⟨λE E' β l q=>(he λ_=>False).mono _ _ _ (λd k β' q=>⟨q.1,l.nx _ q.2⟩) q,λpins s σ H D I ⟨Z,E,β,⟨own,sq,n⟩,q,ok⟩ =>
  iF hN hi hx (he λa=>H a=none).pe hs hf pins s σ H D I (tQ.of (he λa=>H a=none) (sq.gP (C:=C.z) (U:=λa=>H a=none) λa z=>z) q λd k β' v H' aN FK o r=>by
   obtain⟨f,q⟩:=FK;obtain⟨A,h1,h2,h3⟩:=r.fl f;refine ok.nx _ _ _ ⟨_,o.sq.nL h1 h2 λc hc=>⟨(h3 c hc).2.2,(h3 c hc).2.1,(h3 c hc).1⟩,?_⟩ q;have m:=n.trans o.sn;exact⟨λb M6=>by
    obtain⟨j,hj⟩:=M6
    by_cases aF:i=j
    ·rw[<- aF,os_eq]at hj;exact .inr (n.free (h3 b hj).1)
    ·rw[bg aF]at hj;exact m.w b ⟨j,hj⟩,m.k,m.d⟩)⟩
theorem bG.HH {P:T7}{w:Ur}{U U2:Addr->Prop}{d d':D}{v:V}{A':List Addr}{c:Addr}{o:HO}(b:bG P w (C.u U) σ H β own)(e:β[i]?=some (some (.own d)))(hσ:σ[i]?=some (some v))(hc:c∈own i)
  (r:Own P w (upd H c o) d' v A') (nd:A'.Nodup) (hA:∀a∈A',a∈own i\/(C.H0 a=none/\¬ Wn own a/\U a)) (hU:∀a,U2 a->U a) (NP:∀a∈A',¬ U2 a):bG P w (C.u U2) σ (upd H c o) (β.set i (some (.own d'))) (aG own i A'):=by
 obtain⟨g1,g2,g3,g4⟩:=b.dm i c hc;obtain⟨oc,ze⟩:∃oc,H c=some oc:=by
  cases q:H c with
  |none=>exact absurd q g1
  |some oc=>exact⟨oc,rfl⟩
 have ht:∀xs,oc≠.tup xs:=λxs z=>g2 xs (by rw[ze,z])
 have k:Kp (·=c) H (upd H c o):=iM ze ht;have h0:∀a∈own i,C.H0 a=none:=by obtain⟨_,_,_,h⟩:=b.ow i d e;exact h
 have wc:Wn own c:=⟨i,hc⟩;have sub:∀y a,eQ (C.u U2) (Wn (aG own i A')) (yk y) a->eQ (C.u U) (Wn own) (yk y) a:=λy a h=>by
  have q:∀a,Wn (aG own i A') a->Wn own a\/U a:=λa zb=>by
   obtain⟨j,q⟩:=zb
   by_cases aF:i=j
   ·rw[aF,os_eq]at q;rcases hA a q with z|z
    ·exact .inl ⟨i,z⟩
    ·exact .inr z.2.2
   ·rw[bg aF]at q;exact .inl ⟨j,q⟩
  rcases h with h|h
  ·cases y with
   |true=>exact h.elim (λz=>(q a z).imp .inl id) λz=>.inl (.inr z)
   |false=>exact q a h
  ·exact .inr (hU a h)
 have mem:∀{j c},c∈aG own i A' j->(i=j/\c∈A')\/(i≠j/\c∈own j):=λ{j c} h=>by
  by_cases aF:i=j
  ·subst aF;rw[os_eq]at h;exact .inl ⟨rfl,h⟩
  ·rw[bg aF]at h;exact .inr ⟨aF,h⟩
 have KR:∀j,i≠j->∀a∈own j,a≠c:=λj aF a ha z=>aF (b.jr i j c hc (by rw[<- z];exact ha))
 refine⟨by simp[b.len],λj y' d2 e2=>?_,λj d2 e2=>?_,λj ok e2=>?_,λj a h=>?_,λj k2 a h1 h2=>?_,λj=>?_,⟨λa oa z n=>?_,λa xs z=>k.tup a xs (b.kp.tup a xs z)⟩,λa z=>?_,λj y' d2 e2=>by
  by_cases aF:i=j
  ·subst aF;obtain⟨e',hl⟩:=a9 e2;cases e'
  ·rw[aU aF]at e2;rw[bg aF];obtain⟨u,h1,h2,h3⟩:=b.shl j y' d2 e2;exact⟨u,h1,h2.map (λa ha oa ea=>k.out a oa ea (KR j aF a ha)) (λ_ _ r=>ai.aT (sub _) (r.keep (k.mono λa z=>by rw[z];cases y' <;> first|exact .inl wc|exact .inl (.inl wc)))),h3⟩⟩
 ·by_cases aF:i=j
  ·subst aF;obtain⟨e',hl⟩:=a9 e2;cases e'
  ·rw[aU aF]at e2;obtain⟨u,h1,h2⟩:=b.val j y' d2 e2;exact⟨u,h1,(h2.keep (k.mono λa z=>by rw[z];cases y' <;> first|exact .inl wc|exact .inl (.inl wc))).aT (sub _)⟩
 ·by_cases aF:i=j
  ·subst aF;obtain⟨e',hl⟩:=a9 e2;cases e';rw[os_eq];exact⟨v,hσ,r,λa ha=>(hA a ha).elim (h0 a) λz=>z.1⟩
  ·rw[aU aF]at e2;rw[bg aF];obtain⟨u,h1,h2,h3⟩:=b.ow j d2 e2;exact⟨u,h1,h2.keep k.tup (λa ha oa ea=>k.out a oa ea (KR j aF a ha)),h3⟩
 ·by_cases aF:i=j
  ·subst aF;obtain⟨e',hl⟩:=a9 e2;cases e'
  ·rw[aU aF]at e2;rw[bg aF];obtain⟨a,ns,h1,h2,h3,h4,h5⟩:=b.jl j ok e2;exact⟨a,ns,h1,k.out a _ h2 (KR j aF a (by rw[h4];simp)),h3,h4,h5⟩
 ·rcases mem h with⟨_,h⟩|⟨aF,h⟩
  ·exact⟨(r.lR a h).1,(r.lR a h).2,.inl ((hA a h).elim (h0 a) λz=>z.1),NP a h⟩
  ·obtain⟨q1,q2,q3,q4⟩:=b.dm j a h;rw[aw (KR j aF a h)];exact⟨q1,q2,q3,λz=>q4 (hU a z)⟩
 ·rcases mem h1 with⟨e1,h1⟩|⟨n1,h1⟩
  ·rcases mem h2 with⟨e2,h2⟩|⟨n2,h2⟩
   ·rw[<- e1,<- e2]
   ·rcases hA a h1 with z|z
    ·exact absurd (b.jr i k2 a z h2) n2
    ·exact absurd ⟨k2,h2⟩ z.2.1
  ·rcases mem h2 with⟨e2,h2⟩|⟨n2,h2⟩
   ·rcases hA a h2 with z|z
    ·exact absurd (b.jr i j a z h1) n1
    ·exact absurd ⟨j,h1⟩ z.2.1
   ·exact b.jr j k2 a h1 h2
 ·by_cases aF:i=j
  ·rw[<- aF,os_eq];exact nd
  ·rw[bg aF];exact b.jM j
 ·refine k.out a oa (b.kp.out a oa z n) λq=>?_;subst q;rw[h0 a hc]at z;cases z
 ·by_cases Pz:a=c
  ·rw[Pz,ar];exact λz=>(nomatch z)
  ·rw[aw Pz];exact b.gc a z
theorem bG.putIn {P:T7}{w:Ur}{U:Addr->Prop}{d d':D}{v:V}{A':List Addr}{c:Addr}{o:HO}(b:bG P w (C.u U) σ H β own)(e:β[i]?=some (some (.own d)))(hσ:σ[i]?=some (some v))(hc:c∈own i)
  (r:Own P w (upd H c o) d' v A') (nd:A'.Nodup) (hA:∀a∈A',a∈own i\/(C.H0 a=none/\¬ Wn own a/\U a)):bG P w C.z σ (upd H c o) (β.set i (some (.own d'))) (aG own i A') :=
 b.HH (U2:=λ_=>False) e hσ hc r nd hA (λ_ z=>z.elim) λ_ _ z=>z
theorem gC {A':List Addr}{c:Addr}{o:HO}{U:Addr->Prop}(n:Sn Z H (Wn own))(m:∀a,U a->Z.1 a=none)(hc:Wn own c)(ze:∃oc,H c=some oc/\∀xs,oc≠.tup xs)(hA:∀a∈A',a∈own i\/(C.H0 a=none/\¬ Wn own a/\U a)):Sn Z (upd H c o) (Wn (aG own i A')):=by
 obtain⟨oc,h1,h2⟩:=ze;have u:=Sn.upd (o':=o) n h1 h2 hc;exact⟨λb FJ=>by
  obtain⟨j,hj⟩:=FJ
  by_cases aF:i=j
  ·rw[<- aF,os_eq]at hj;rcases hA b hj with z|z
   ·exact n.w b ⟨i,z⟩
   ·exact .inr (m b z.2.2)
  ·rw[bg aF]at hj;exact n.w b ⟨j,hj⟩,u.k,u.d⟩
theorem bG.qc {P:T7}{w:Ur}{ds:List D}(b:bG P w C σ H β own)(e:β[i]?=some (some (.own (.lst ds)))):∃a vs A',σ[i]?=some (some (.ref a))/\H a=some (.lst vs)/\own i=a::A'/\aI P w H ds vs A':=by
 obtain⟨v,h1,⟨a,vs,A',rfl,h2,h3,h4⟩,_⟩:=b.ow i _ e;exact⟨a,vs,A',h1,h2,h3,h4⟩
variable {px ap cp:Pos}
theorem cN (he:∀U,PQ X (C.u U) p e φ)(hN:X.N[i]?=some x:=by rfl)(hv:lT X.env.scope x:=by first|exact .inl rfl|exact .inr (.inl rfl)|exact .inr (.inr rfl))(hd:(x==("__debug__" : Str))=false:=by decide)(dJ:(x==("__classdict__" : Str))=false:=by decide)
  (eM:Wi (.Name x px) "append" X.env (eval (.Name x px) X.env)=eval (.Name x px) X.env:=by rfl)
  (oz:((VT cp (Up [e] X.env)).all (λx=>!x.1)&&(Yx cp (XA [] X.env)).all (λx=>x.1.isSome)&&decide ([e].length+([]:List W4).length+(if ([]:List W4).isEmpty then 0 else 1)<30))=true:=by rfl)
  (eL:(ap.endLine==cp.line)=true:=by rfl) (hs:Up [e] X.env=(false,eval e X.env)::Up [] X.env:=by rfl) (e_:(VT cp (Up [] X.env)).any (·.1)=false:=by rfl)
  (oS:VI (.Call (.Attribute (.Name x px) "append" ap) [e] [] cp) none pos.line X.env=pure false:=by rfl) :
  PB X C (.Expr (.Call (.Attribute (.Name x px) "append" ap) [e] [] cp) pos) (λE β=>(∃ds,β[i]?=some (some (.own (.lst ds))))/\φ β λd k β'=>BN k d/\∃ds,β'[i]?=some (some (.own (.lst ds)))/\ds.length<Ul/\E.nx (β'.set i (some (.own (.lst (ds++[d])))))):=by
 refine⟨λE E' β l za=>by obtain⟨h1,q⟩:=za;exact⟨h1,(he λ_=>False).mono _ _ _ (λd k β' y_=>by obtain⟨f,ds,h1,h2,q⟩:=y_;exact⟨f,ds,h1,h2,l.nx _ q⟩) q⟩,λpins s σ H D I ⟨Z,E,β,⟨own,sq,n⟩,⟨⟨PR,hb⟩,q⟩,ok⟩=>?_⟩
 refine jE (pos:=pos) (t8 (apos:=ap) (cpos:=cp) PySem.F.plainAttrs_list PySem.F.slot_list_append PySem.F.type_list_append f9 (br (pos:=px) hN hv hd dJ) (bu (he λa=>H a=none).pe cO hs) eM oz eL hs e_) oS pins s σ H D I ?_;obtain⟨a,vs,A',h1,h2,h3,h4⟩:=sq.qc hb;refine⟨.ref a,h1,.inl ⟨rfl,vs,cQ.of h2⟩,tQ.of (he λa=>H a=none) (sq.gP (C:=C.z) (U:=λa=>H a=none) λa z=>z) q λd k β' v H1 aE ⟨f,ds,lP,hl,q⟩ o r=>?_⟩;obtain⟨a',vs',A1,g1,g2,g3,g4⟩:=o.sq.qc lP;rw[h1]at g1;cases g1;obtain⟨A,r1,r2,r3⟩:=r.fl f;have ha:a∈aE i:=by rw[g3];simp
 have nd:(a::(A1++A)).Nodup:=by
  have q:=o.sq.jM i;rw[g3]at q;refine UM.mpr ⟨λz=>?_,U9.mpr ⟨(UM.mp q).2,r2,λx hx y hy e=>?_⟩⟩
  ·rcases Uq.mp z with z|z
   ·exact(UM.mp q).1 z
   ·exact(r3 a z).2.1 ⟨i,ha⟩
  ·subst e;exact(r3 x hy).2.1 ⟨i,by rw[g3];simp[hx]⟩
 have hA:∀b∈a::(A1++A),b∈aE i\/(C.H0 b=none/\¬ Wn aE b/\H b=none):=λb hb=>by
  rcases Uc.mp hb with rfl|hb
  ·exact .inl ha
  ·rcases Uq.mp hb with hb|hb
   ·exact .inl (by rw[g3];simp[hb])
   ·exact .inr ⟨(r3 b hb).2.2,(r3 b hb).2.1,(r3 b hb).1⟩
 have kt:∀b xs,H1 b=some (.tup xs)->upd H1 a (.lst (vs'++[v])) b=some (.tup xs):=λb xs z=>by
  rw[aw (λz'=>by rw[z',g2]at z;cases z)];exact z
 have ne1:∀c∈A1,c≠a:=λc hc z=>by
  have q:=o.sq.jM i;rw[g3]at q;exact(UM.mp q).1 (by rw[<- z];exact hc)
 have ne2:∀c∈A,c≠a:=λc hc z=>(r3 c hc).2.1 ⟨i,by rw[z];exact ha⟩
 have r':Own X.prog X.w (upd H1 a (.lst (vs'++[v]))) (.lst (ds++[d])) (.ref a) (a::(A1++A)) :=
  ⟨a,vs'++[v],A1++A,rfl,ar,rfl,(g4.keep kt λc hc oc ec=>by rw[aw (ne1 c hc)];exact ec).append (aI.one (r1.keep kt λc hc oc ec=>by rw[aw (ne2 c hc)];exact ec))⟩
 exact⟨a,vs',v,rfl,rfl,g2,by rw[g4.length];exact hl,ok.nx _ _ _ ⟨_,o.sq.putIn lP h1 ha r' nd hA,gC (n.trans o.sn) (λb z=>n.free z) ⟨i,ha⟩ ⟨_,g2,λxs z=>by cases z⟩ hA⟩ q⟩
end
abbrev c6:=D->Kd->bb->(bb->Prop)->Prop
abbrev ny:=List D->Kd->bb->(bb->Prop)->Prop
structure tj (X:Cx)(C:Cfg)(tg:Expr)(T:List Nat)(γ:c6):Prop where
 mono:∀d k β R R',(∀r,R r->R' r)->γ d k β R->γ d k β R'
 pg:PG X tg λv σ H Q=>∃own β d k,SQ X C σ H β own/\Rp X (eQ C (Wn own) k) H d v/\γ d k β λβ'=>∀σ' aN,SQ X C σ' H β' aN->(∀a,Wn aN a->Wn own a)->(∀j,j∉T->σ'[j]?=σ[j]?)->Q σ' H
structure CG (X:Cx)(C:Cfg)(uY:List Expr)(T:List Nat)(γ:ny):Prop where
 mono:∀d k β R R',(∀r,R r->R' r)->γ d k β R->γ d k β R'
 OK:DI X uY λvs σ H Q=>∃own β ds k,SQ X C σ H β own/\jv X (eQ C (Wn own) k) H ds vs/\γ ds k β λβ'=>∀σ' aN,SQ X C σ' H β' aN->(∀a,Wn aN a->Wn own a)->(∀j,j∉T->σ'[j]?=σ[j]?)->Q σ' H
section
variable {X:Cx}{C:Cfg}{tg:Expr}{uY:List Expr}{γ:c6}{γs:ny}{T T':List Nat}{pos:Pos}{e:Expr}{φ:a6}{p:Bool}
def Se (i:Nat):c6:=λd k β R=>C7 d k λb=>R (β.set i (some b))
theorem ak {i:Nat}{x:Str}(hN:X.N.Nodup)(hi:X.N[i]?=some x:=by rfl)(hx:Loc X.env.scope x:=by first|exact .inl rfl|exact .inr rfl)
  (hf:X.fn x=true\/X.env.scope.names.lookup x=some .local:=by first|exact .inl rfl|exact .inr rfl|assumption):tj X C (.Name x pos) [i] (Se i) :=
 ⟨λd k β R R' h q=>C7.mono (d:=d) (k:=k) (K:=λb=>R (β.set i (some b))) (K':=λb=>R' (β.set i (some b))) (λ_=>h _) q,(t6 hN hi hx hf).pre λv σ H Q BX=>by
  obtain⟨own,β,d,k,s,r,q⟩:=BX;have KL:∀(v:V) (j:Nat),j∉[i]->(σ.set i (some v))[j]?=σ[j]?:=λv j hj=>aU (Wd (by simpa using hj))
  cases k with
  |own=>exact q _ _ (s.dY (y:=true) r) (λa h=>cJ h) (KL v)
  |cF=>exact q _ _ (s.dY (y:=true) r) (λa h=>cJ h) (KL v)
  |old=>exact q _ _ (s.dY (y:=false) r) (λa h=>cJ h) (KL v)
  |bor=>exact q.2 _ _ (s.dY (y:=true) (aA.flat q.1 r)) (λa h=>cJ h) (KL v)⟩
abbrev sk (k:Kd):D->Kd
 |.int _=>.own
 |.bl _=>.own
 |.cE=>.own
 |.str _=>.own
 |_=>k.wk
theorem nH {P:T7}{w:Ur}{W:Addr->Prop}{H:Hp}{k:Kd}{d:D}{v:V}(r:aA P w (eQ C W k) H d v):aA P w (eQ C W (sk k d)) H d v:=by
 cases d with
 |int i=>exact aA.flat rfl r
 |bl i=>exact aA.flat rfl r
 |cE=>exact aA.flat rfl r
 |str i=>exact aA.flat rfl r
 |_=>exact aA.aT (λa z=>z.imp (DD a) id) r
def F2:ny:=λds _ β R=>ds=[]/\R β
def zv (γ:c6)(γs:ny):ny:=λds k β R=>∃d r,ds=d::r/\γ d (sk k d) β λβ'=>γs r k β' R
theorem b_:CG X C [] [] F2:=⟨λd k β R R' h q=>⟨q.1,h _ q.2⟩,t5.pre λvs σ H Q yZ=>by
 obtain⟨own,β,ds,k,s,r,e,q⟩:=yZ;subst e;exact⟨r,q σ own s (λ_ z=>z) λ_ _=>rfl⟩⟩
theorem aK (h1:tj X C tg T γ)(h2:CG X C uY T' γs)(hs:(VU (tg::uY) X.env).map (·.2)=assign tg X.env::(VU uY X.env).map (·.2):=by rfl):CG X C (tg::uY) (T++T') (zv γ γs) :=
 ⟨λds k β R R' h BW=>by obtain⟨d,r,e,q⟩:=BW;exact⟨d,r,e,h1.mono _ _ β _ _ (λβ' q=>h2.mono r k β' _ _ h q) q⟩,
  (kK h1.pg h2.OK hs).pre λvs σ H Q I9=>by
    obtain⟨own,β,ds,k,s,rr,d,r,e,q⟩:=I9;subst e;obtain⟨v,vr,rfl,rv,QB⟩:=rr;exact⟨v,vr,rfl,own,β,d,_,s,nH rv,h1.mono _ _ β _ _ (λβ' q σ' aN s' w' t'=>⟨aN,β',r,k,s',ai.aT (fS w' k) QB,h2.mono r k β' _ _ (λβ2 q2 σ2 bI s2 w2 t2=>q2 σ2 bI s2 (λa z=>w' a (w2 a z)) λj hj=>(t2 j λz=>hj (UP _ z)).trans (t' j λz=>hj (Vg _ z))) q⟩) q⟩⟩
def Sd (n:Nat)(γs:ny):c6:=λd k β R=>∃ds,d=.tup ds/\ds.length=n/\γs ds k β R
theorem cW {k:Nat}{n:Nat}(hc:X.calm=true)(h:CG X C uY T γs)(hn:(VU uY X.env).length=n:=by rfl)(Ft:(VU uY X.env).findIdx? (·.1)=none:=by rfl):tj X C (.Tuple uY k pos) T (Sd n γs) :=
 ⟨λd k β R R' hh IZ=>by obtain⟨ds,e,l,q⟩:=IZ;exact⟨ds,e,l,h.mono ds k β _ _ hh q⟩,(ye hc h.OK hn Ft).pre λv σ H Q Fx=>by
  obtain⟨own,β,d,k,s,r,ds,e,l,q⟩:=Fx;subst e;obtain⟨a,vs,rfl,ha,rs⟩:=r;exact⟨a,vs,rfl,uS.of ha,by rw[rs.length];exact l,own,β,ds,k,s,rs,q⟩⟩
theorem gT {Z:Hp×(Addr->Prop)}{H:Hp}{own aN:Nat->List Addr}(n:Sn Z H (Wn own))(h:∀a,Wn aN a->Wn own a):Sn Z H (Wn aN):=⟨λb z=>n.w b (h b z),n.k,n.d⟩
theorem r9 (he:PQ X C.z p e φ)(hg:tj X C.z tg T γ)(hs:XO [tg] e pos.line X.env=pure false:=by rfl)(hw:XQ [tg] e X.env=pure none:=by rfl)
  (h1:(VU [tg] X.env).map (·.2)=[assign tg X.env]:=by rfl):PB X C (.Assign [tg] e pos) (λE β=>φ β λd k β'=>γ d k β' E.nx) :=
 ⟨λE E' β l q=>he.mono _ _ _ (λd k β' q=>hg.mono _ _ _ _ _ l.nx q) q,(kA he.pe hg.pg hs hw h1).pre λD σ H ⟨Z,E,β,⟨own,s,n⟩,q,ok⟩=>tQ.of he s q λd k β' v H' aN q o r =>
  ⟨aN,β',d,k,o.sq,aA.aT (λa z=>z.elim id λz=>z.elim) r.rep,hg.mono _ _ _ _ _ (λβ2 q σ2 bI s2 w2 _=>ok.nx _ _ _ ⟨bI,s2,gT (n.trans o.sn) w2⟩ q) q⟩⟩
abbrev O4 (ro:Bool)(k:Kd)(d:D):Prop:=match k,ro with
 |.own,_=>True
 |.cF,false=>True
 |_,_=>d.flat=true
theorem eI {P:T7}{w:Ur}{W:Addr->Prop}{ro:Bool}{H H':Hp}{d:D}{v:V}(f:d.flat=true)(r:aA P w W H' d v):rd P w ro H H' d v:=by
 cases ro with
 |true=>exact⟨[],c0 f r,Ve,λc hc=>(nomatch hc)⟩
 |false=>exact aA.flat f r
theorem Bz {P:T7}{w:Ur}{Z:Hp×(Addr->Prop)}{own:Nat->List Addr}{ro:Bool}{H':Hp}{k:Kd}{d:D}{v:V}(f:O4 ro k d)(r:KV P w C Z own H' k d v):rd P w ro C.H0 H' d v:=by
 cases k with
 |own =>
  cases ro with
  |true=>obtain⟨A,h1,h2,h3⟩:=r;exact⟨A,h1,h2,λc hc=>(h3 c hc).2.2⟩
  |false=>exact aA.aT (λa z=>.inr z) r.rep
 |cF =>
  cases ro with
  |true=>exact eI f r.rep
  |false=>exact aA.aT (λa z=>.inr z) r.rep
 |old=>cases ro <;> exact eI f r.rep
 |bor=>cases ro <;> exact eI f r.rep
theorem a_ (he:PQ X C.z p e φ):PB X C (.Return (some e) pos) (λE β=>φ β λd k β'=>O4 C.ro k d/\E.rt d β') :=
 ⟨λE E' β l q=>he.mono _ _ _ (λd k β' q=>⟨q.1,l.rt _ _ q.2⟩) q,(iG he.pe).pre λD σ H IY=>by obtain⟨Z,E,β,⟨own,s,n⟩,q,ok⟩:=IY;exact tQ.of he s q λd k β' v H' aN q o r=>ok.rt _ _ _ _ _ (o.sb n) (Bz (C:=C.z) q.1 r) q.2⟩
theorem t9 {i:Nat}{x:Str}{px:Pos}(hN:X.N[i]?=some x:=by rfl)(hv:lT X.env.scope x:=by first|exact .inl rfl|exact .inr (.inl rfl)|exact .inr (.inr rfl))(hd:(x==("__debug__" : Str))=false:=by decide)(dJ:(x==("__classdict__" : Str))=false:=by decide):
  PB X C (.Return (some (.Name x px)) pos) (λE β=>∃d,β[i]?=some (some (.own d))/\E.rt d β) :=
 ⟨λE E' β l zc=>by obtain⟨d,h1,q⟩:=zc;exact⟨d,h1,l.rt _ _ q⟩,(iG (br (pos:=px) hN hv hd dJ)).pre λD σ H FL=>by
  obtain⟨Z,E,β,⟨own,s,n⟩,⟨d,h1,q⟩,ok⟩:=FL;obtain⟨v,e1,r,h0⟩:=s.ow i d h1;refine⟨_,e1,ok.rt _ _ _ _ _ ⟨own,s,n⟩ ?_ q⟩;cases hr:C.ro with
  |true=>exact⟨_,r,s.jM i,h0⟩
  |false=>exact r.rep λc hc z=>z (h0 c hc)⟩
end
abbrev bX:=bb->(List D->Kd->bb->Prop)->Prop
structure rA (X:Cx)(C:Cfg)(p:Bool)(tg iter:Expr)(ι:bX):Prop where
 mono:∀β R R',(∀d k β,R d k β->R' d k β)->ι β R->ι β R'
 pi:PI X tg iter λσ H R=>∃β own,SQ X C σ H β own/\ι β λds k β'=>∀J H' aN,Out X C σ H own p β' H' aN->uU X (av C (Wn aN) k) J ds H'->R J H'
section
variable {X:Cx}{C:Cfg}{tg e a b:Expr}{φ:a6}{φs:bQ}{p:Bool}{pp pos:Pos}
def MC (φ:a6):bX:=λβ R=>φ β λd k β'=>∃ds,d=.lst ds/\R ds k β'
theorem aY (h:PQ X C p e φ):rA X C p tg e (MC φ) :=
 ⟨λβ R R' k q=>h.mono β _ _ (λd kd β' FK=>by obtain⟨ds,e,q⟩:=FK;exact⟨ds,e,k _ _ _ q⟩) q,(nV h.pe).pre λσ H R ⟨β,own,s,q⟩=>tQ.of h s q λd k β' v H1 aE zb o1 r1=>by
  obtain⟨ds,e,q1⟩:=zb;subst e;obtain⟨a,vs,rfl,h1,n1,q2⟩:=r1.rep;exact⟨a,rfl,⟨vs,cQ.of h1⟩,q1 _ _ aE o1 (lb h1 n1 q2)⟩⟩
def BR (φs:bQ):bX:=λβ R=>φs β λds _ β'=>∃j:Int,ds=[.int j]/\-(2 ^ 62)<=j/\j<2 ^ 62/\R (lY 0 j.toNat) .cF β'
def uk (φs:bQ):bX:=λβ R=>φs β λds _ β'=>∃i j:Int,ds=[.int i,.int j]/\(-(2 ^ 62)<=i/\i<2 ^ 62/\-(2 ^ 62)<=j/\j<2 ^ 62)/\R (lY i (j-i).toNat) .cF β'
theorem aX (hm:X.mg "range" = none) (ha:oN X C p [a] φs) (hg:Gl X "range" := by rfl) (hs:Up [a] X.env=[(false,eval a X.env)]:=by rfl):rA X C p tg (.Call (.Name "range" pp) [a] [] pos) (BR φs) :=
 ⟨λβ R R' k q=>ha.mono β _ _ (λd kd β' FI=>by obtain⟨j,e,h1,h2,q⟩:=FI;exact⟨j,e,h1,h2,k _ _ _ q⟩) q,(vt hg hm ha.pa hs).pre λσ H R ⟨β,own,s,q⟩=>o_.of ha s q λds ks β' vs H1 aE FG o1 r1=>by
  obtain⟨j,e,h1,h2,q1⟩:=FG;subst e;obtain⟨x,rfl,hx⟩:=fT r1.gh;cases hx;exact⟨j,rfl,h1,h2,q1 _ _ aE o1 iP⟩⟩
theorem cM (hm:X.mg "range" = none) (ha:oN X C p [a,b] φs) (hg:Gl X "range" := by rfl) (hs:Up [a,b] X.env=[(false,eval a X.env),(false,eval b X.env)]:=by rfl) (mS:Up [b] X.env=[(false,eval b X.env)]:=by rfl) :
  rA X C p tg (.Call (.Name "range" pp) [a,b] [] pos) (uk φs) :=
 ⟨λβ R R' k q=>ha.mono β _ _ (λd kd β' FF=>by obtain⟨i,j,e,h1,q⟩:=FF;exact⟨i,j,e,h1,k _ _ _ q⟩) q,(mD hg hm ha.pa hs mS).pre λσ H R ⟨β,own,s,q⟩=>o_.of ha s q λds ks β' vs H1 aE M5 o1 r1=>by
  obtain⟨i,j,e,h1,q1⟩:=M5;subst e;obtain⟨x,y,rfl,hx,hy⟩:=uP r1.gh;cases hx;cases hy;exact⟨i,j,rfl,h1,q1 _ _ aE o1 iP⟩⟩
end
def B9 (γ:c6)(ψ:Gq)(E:eP)(ds:List D)(k:Kd)(β:bb):Prop:=∃I:Nat->bb->Prop,I 0 β/\(∀i d β,ds[i]?=some d->I i β->γ d (sk k d) β λβ1=>ψ (E.lp (I (i+1))) β1)/\∀β,I ds.length β->E.nx β
section
variable {X:Cx}{C:Cfg}{tg iter:Expr}{γ:c6}{T:List Nat}{ψ:Gq}{ι:bX}{body:List Stmt}{pos:Pos}{p:Bool}
theorem B9.mono {E E':eP}{ds:List D}{k:Kd}{β:bb}(hγ:∀d k β R R',(∀r,R r->R' r)->γ d k β R->γ d k β R')(hψ:∀E E' β,Le E E'->ψ E β->ψ E' β)(l:Le E E'):B9 γ ψ E ds k β->B9 γ ψ E' ds k β:=λ⟨I,h0,h1,h2⟩ =>
 ⟨I,h0,λi d β e q=>hγ d _ β _ _ (λβ1 q=>hψ {nx:=I (i+1),rt:=E.rt,bk:=E.nx,ct:=I (i+1)} {nx:=I (i+1),rt:=E'.rt,bk:=E'.nx,ct:=I (i+1)} β1 ⟨λ_ q=>q,l.rt,l.nx,λ_ q=>q⟩ q) (h1 i d β e q),λβ q=>l.nx _ (h2 β q)⟩
theorem CB {own bI:Nat->List Addr}{H H2:Hp}{k:Kd}(n:Sn (H,Wn own) H2 (Wn bI)):∀b,av C (Wn bI) k b->av C (Wn own) k b\/H b=none:=λb z=>by
 cases k with
 |own=>exact z.elim (λz=>(n.w b z).imp .inl id) λz=>.inl (.inr z)
 |cF=>exact z.elim (λz=>(n.w b z).imp .inl id) λz=>.inl (.inr z)
 |old=>exact n.w b z
 |bor=>exact z.elim
theorem bB (hp:PassesOwn (model X.prog X.w) X.A X.env X.xe)(hc:X.calm=true)(hi:rA X C.z p tg iter ι)(hg:tj X C.z tg T γ)(hb:tf X C body ψ)(hs:∀x,UU iter X.env x=pure x:=by intro _;rfl):
  PB X C (.For tg iter body [] pos) (λE β=>ι β λds k β1=>hold k false/\B9 γ ψ E ds k β1) :=
 ⟨λE E' β l q=>hi.mono _ _ _ (λds k β1 q=>⟨q.1,q.2.mono hg.mono hb.mono l⟩) q,(xX hp hc hi.pi hg.pg hb.ps hs).pre λD σ H M3=>by
  obtain⟨Z,E,β,⟨own,s,n⟩,q,ok⟩:=M3;refine⟨β,own,s,hi.mono _ _ _ (λds k β1 ⟨hk,I,i0,i1,i2⟩ J H1 aE o1 it=>?_) q⟩;have n':=n.trans o1.sn;have ig:∀b,Wn aE b\/H1 b=none->av C.z (Wn aE) k b\/H1 b=none:=λb z=>by
   cases k with
   |own=>exact z.imp .inl id
   |cF=>exact z.imp .inl id
   |old=>exact z
   |bor=>exact hk.elim
  have C8:=it (λb=>av C.z (Wn aE) k b\/H1 b=none) λb z=>z;refine⟨λi m σ H=>i<=ds.length/\m=ds.length-i/\∃β,SB X C (H1,Wn aE) σ H β/\I i β,⟨_,Uh _,rfl,β1,⟨aE,o1.sq,Sn.refl⟩,i0⟩,?_⟩;rintro i m σ2 H2 ⟨hi,rfl,β2,⟨bI,s2,n2⟩,hl⟩;obtain⟨bS,l3⟩:=C8 i H2 (n2.k.mono ig)
  by_cases d8:i<ds.length
  ·right
   have hd:ds[i]?=some ds[i]:=T5 d8;obtain⟨go,yl⟩:=bS _ hd;refine⟨go,λσ' H'=>∃β,SB X C (H1,Wn aE) σ' H' β/\I (i+1) β,λσ' H' M0=>by obtain⟨β',AS,sN⟩:=M0;exact⟨_,by lia,d8,rfl,β',AS,sN⟩,λx H3 y=>?_⟩
   obtain⟨s3,r3⟩:=yl x H3 y;refine⟨bI,β2,_,_,s2.same s3,nH (C:=C.z) (aA.aT (λb z=>CB (C:=C) n2 b (z.elim id λz=>z.elim)) r3),hg.mono _ _ _ _ _ (λβ4 q σ4 pQ s4 w4 _=>?_) (i1 i _ β2 hd hl)⟩;refine⟨(H1,Wn aE),_,β4,⟨pQ,s4,gT (n2.same s3) w4⟩,q,⟨λσ5 H5 β5 ve q5=>⟨β5,ve,q5⟩,λσ5 H5 β5 d5 v5 ve r5 q5=>?_,λσ5 H5 β5 ve q5=>?_,λσ5 H5 β5 ve q5=>⟨β5,ve,q5⟩⟩⟩
   ·obtain⟨gY,s5,n5⟩:=ve;exact ok.rt _ _ _ _ _ ⟨gY,s5,n'.trans n5⟩ r5 q5
   ·obtain⟨gY,s5,n5⟩:=ve;exact ok.nx _ _ _ ⟨gY,s5,n'.trans n5⟩ q5
  ·left
   have e:i=ds.length:=by lia
   subst e;exact⟨l3 (T4 _),ok.nx _ _ _ ⟨bI,s2,n'.trans n2⟩ (i2 β2 hl)⟩⟩
end
def startB (N:List Str)(ds:List D):bb:=ds.map (λd=>some (.val false d))++UL (N.length-ds.length) none
def iy (N:List Str)(ok:List Int->Prop)(ds:List D):bb:=some (.hand ok)::(ds.map (λd=>some (.val false d))++UL (N.length-(ds.length+1)) none)
section
variable {P:T7}{w:Ur}{K:PySem.W.Frag}{mg:Str->Option TY}{base:Heap}
theorem eE {i n:Nat}{b:B}(h:(UL n (none:Option B))[i]?=some (some b)):False:=by
 rw[List.getElem?_replicate]at h
 split at h <;> cases h
theorem eC {ds:List D}{n i:Nat}{b:B}(h:(ds.map (λd=>some (B.val false d))++UL n none)[i]?=some (some b)):∃d,ds[i]?=some d/\b=.val false d:=by
 by_cases hi:i<ds.length
 ·rw[Vh (by simpa using hi),T6]at h
  cases q:ds[i]? with
  |none=>rw[q]at h;cases h
  |some d=>rw[q]at h;cases h;exact⟨d,rfl,rfl⟩
 ·rw[UZ (by simpa using hi)]at h
  exact(eE h).elim
theorem eh {N:List Str}{vs:List V}{i:Nat}{v:V}(h:vs[i]?=some v):(start N vs)[i]?=some (some v):=by
 unfold start;rw[Vh (by simpa using (Ua.mp h).1),T6,h]
 rfl
theorem xw {N:List Str}{vs:List V}{ds:List D}{H:Hp}{ro:Bool}(r:ai P w (λ_=>False) H ds vs):bG P w ⟨H,λ_=>False,ro,λ_=>False⟩ (start N vs) H (startB N ds) (λ_=>[]):=by
 refine⟨?_,λi y d h=>?_,λi d h=>?_,λi ok h=>?_,λi a h=>(nomatch h),λi j a h=>(nomatch h),λi=>Ve,Kp.refl,λ_ z=>z,λi y d h=>by obtain⟨d',e,e'⟩:=eC h;cases e'⟩
 ·unfold startB start;simp[r.length]
 ·obtain⟨d',e,e'⟩:=eC h;cases e';obtain⟨v,e1,e2⟩:=ai.get r e;exact⟨v,eh e1,aA.aT (λa z=>z.elim (λMZ=>by obtain⟨_,q⟩:=MZ;exact(nomatch q)) λz=>z) e2⟩
 ·obtain⟨d',e,e'⟩:=eC h;cases e'
 ·obtain⟨d',e,e'⟩:=eC h;cases e'
theorem wO {x qual:Str}{st:Stmt}{f:Addr}{fd:UW}{N ps:List Str}{k:Nat}{F:FD}{ro:Bool}(G:Ag K x qual st f fd)(S:aP N ps (aC st))(len:∀ds R,F ds R->ds.length=ps.length)
  (hX:∀(cG:TY) (A:U6) (outer:List Env) (s:T3) (H:Hp) (E:XK),cR k (A.deeper (W7 qual (aC st) s.heap.objs.size f cG)) ->
   ∃ψ,tf (lH cj P w K mg base N qual (aC st) f cG A outer s H E).Bx ⟨H,λ_=>False,ro,λ_=>False⟩ (di st) ψ/\∀ds R,F ds R->ψ {nx:=λ_=>R .cE,rt:=λd _=>R d} (startB N ds)) :
  aR P w K mg base cj (k+1) f fd ps (ik P w ro F):=by
 refine G.ok S (λvs H Q E h=>?_) (λcG A outer s H vs Q E hr h=>?_)
 ·obtain⟨ds,r,h⟩:=h;rw[r.length];exact len ds _ h
 ·obtain⟨ds,r,h⟩:=h;obtain⟨ψ,hb,hF⟩:=hX cG A outer s H E hr;refine⟨_,hb.ps,(H,Wn λ_=>[]),_,startB N ds,⟨λ_=>[],xw r,Sn.refl⟩,hF ds _ h,λσ H' β sb q=>?_,λσ H' β d v sb rr q=>?_,λ_ _ _ _ z=>z.elim,λ_ _ _ _ z=>z.elim⟩
  ·obtain⟨own,s',n'⟩:=sb;exact q _ H' (λb o e=>s'.kp.out b o e (λz=>z)) (eI (W:=λ_=>False) rfl rfl)
  ·obtain⟨own,s',n'⟩:=sb;exact q _ H' (λb o e=>s'.kp.out b o e (λz=>z)) rr
theorem u9 {N:List Str}{ok:List Int->Prop}{h:Addr}{ns:List Int}{vs:List V}{ds:List D}{H:Hp}{ro:Bool}(hh:H h=some (.lst (ns.map V.int)))(ho:ok ns)(r:ai P w (λa=>a=h) H ds vs):
  bG P w ⟨H,(·=h),ro,λ_=>False⟩ (start N (.ref h::vs)) H (iy N ok ds) (λi=>if i=0 then [h] else []):=by
 have nZ:∀{i:Nat} {a:Addr},a∈(if i=0 then [h] else ([]:List Addr))->i=0/\a=h:=λ{i a} q=>by
  by_cases e:i=0
  ·rw[if_pos e]at q;exact⟨e,by simpa using q⟩
  ·rw[if_neg e]at q;cases q
 have oA:∀{i:Nat} {b:B},(iy N ok ds)[i]?=some (some b)->(i=0/\b=.hand ok)\/∃j d,i=j+1/\ds[j]?=some d/\b=.val false d:=λ{i b} q=>by
  unfold iy at q;cases i with
  |zero=>simp at q;exact .inl ⟨rfl,q.symm⟩
  |succ i =>
   rw[VY]at q;obtain⟨d,e,e'⟩:=eC q;exact .inr ⟨i,d,rfl,e,e'⟩
 refine⟨?_,λi y d q=>?_,λi d q=>?_,λi sg q=>?_,λi a q=>?_,λi j a h1 h2=>?_,λi=>?_,Kp.refl,λ_ z=>z,λi y d q=>(oA q).elim (λFw=> by obtain⟨_,e⟩ := Fw;cases e) (λFv=> by obtain⟨j,d',_,_,e'⟩ := Fv;cases e')⟩
 ·unfold iy start;simp[r.length]
 ·rcases oA q with⟨_,e⟩|⟨j,d',rfl,e,e'⟩
  ·cases e
  ·cases e';obtain⟨v,e1,e2⟩:=ai.get r e;exact⟨v,eh (by simpa using e1),aA.aT (λa z=>z.elim (λMY=>by obtain⟨j,q⟩:=MY;exact(nZ q).2) λz=>z.elim) e2⟩
 ·rcases oA q with⟨_,e⟩|⟨j,d',_,_,e'⟩
  ·cases e
  ·cases e'
 ·rcases oA q with⟨e0,e⟩|⟨j,d',_,_,e'⟩
  ·cases e;subst e0;exact⟨h,ns,eh rfl,hh,ho,rfl,.inr rfl⟩
  ·cases e'
 ·obtain⟨_,rfl⟩:=nZ q;exact⟨by rw[hh];exact λz=>(nomatch z),λxs z=>(by rw[hh]at z;cases z),.inr rfl,λz=>z⟩
 ·rw[(nZ h1).1,(nZ h2).1]
 ·by_cases e:i=0
  ·simp[e]
  ·simp[e]
theorem Bv {x qual:Str}{st:Stmt}{f:Addr}{fd:UW}{N ps:List Str}{k:Nat}{F:FD}{ok:List Int->Prop}{ro:Bool}(G:Ag K x qual st f fd)(S:aP N ps (aC st))(len:∀ds R,F ds R->ds.length+1=ps.length)
  (hX:∀(cG:TY) (A:U6) (outer:List Env) (s:T3) (H:Hp) (E:XK) (IO:Addr->Prop),cR k (A.deeper (W7 qual (aC st) s.heap.objs.size f cG)) ->
   ∃ψ,tf (lH cj P w K mg base N qual (aC st) f cG A outer s H E).Bx ⟨H,IO,ro,λ_=>False⟩ (di st) ψ/\∀ds R,F ds R->ψ {nx:=λ_=>False,rt:=λd β=>β[0]?=some (some (.hand ok))/\R d} (iy N ok ds)) :
  aR P w K mg base cj (k+1) f fd ps (fB P w ok ro F):=by
 refine G.ok S (λvs H Q E h=>?_) (λcG A outer s H vs Q E hr h=>?_)
 ·obtain⟨h,vs',ds,ns,rfl,hh,ho,r,q⟩:=h;rw[Um,r.length];exact len ds _ q
 ·obtain⟨h,vs',ds,ns,rfl,hh,ho,r,q⟩:=h;obtain⟨ψ,hb,hF⟩:=hX cG A outer s H E (·=h) hr;refine⟨_,hb.ps,(H,_),_,iy N ok ds,⟨_,u9 hh ho r,Sn.refl⟩,hF ds _ q,λσ H' β sb z=>z.elim,λσ H' β d v sb rr ⟨b0,q⟩=>?_,λ_ _ _ _ z=>z.elim,λ_ _ _ _ z=>z.elim⟩;obtain⟨own,s',n'⟩:=sb;obtain⟨a,n_,g1,g2,g3,g4,g5⟩:=s'.jl 0 ok b0;have ea:a=h:=g5.elim (λz=>(z h rfl).elim) λz=>z;subst ea;exact q v H' n_ s'.kp s'.gc g2 g3 rr
end
end L2.Q
namespace L2
open PySem PySem.Spec PySem.SeqAt PyProof.Rows
theorem q_.pre {X:Cx}{ifs:List Expr}{t t':TT}(h:q_ X ifs t)(k:∀σ H Q,t' σ H Q->t σ H Q):q_ X ifs t':=λpins s σ H Q I q=>h pins s σ H Q I (k σ H Q q)
section
end
section
end
section
variable {X:Cx}{e:Expr}{g:Wo}{gs:List Wo}{scope:Wg}{N':List Str}{lk:List (Option Nat)}{tg:Addr->TG}{tt:Addr->TT}{wi:TI}
theorem jt {d6:Sem TY}{o:HO}{after:TY->Env->Sem Fin->Sem Fin}{ta:Addr->lM}(L:Links X scope N' lk)(hc:X.calm=true)(hA:lO X d6 o)
  (F:∀acc env,gB e 0 g acc env (after acc env))
  (B0:∀a cl C s H ex,PG (aB X scope N' cl C s H ex) g.target (tg a)/\q_ (aB X scope N' cl C s H ex) g.ifs (tt a)/\oO (aB X scope N' cl C s H ex) (after (.ref a) (aB X scope N' cl C s H ex).env) (ta a))
  {cl:List (Str×Addr)} (l7:∀x,(x,UY)∈scope.names->∃c,cl.lookup x=some c) (sO:∀x c,cl.lookup x=some c->X.env.cells.lookup x=some c)
  {pins:List (Addr×Obj)} {σ:St} {s:T3} {Q:V->Hp->Prop} {C9:TY} {E:TY->T3->Prop} {RR:TY->Addr->Result->T3->Prop}
  (h:Lj X pins σ g.target (λJ H1=>∀a,H1 a=none->fg J (tg a) (tt a) (ta a) (λ_ H'=>Q (.ref a) H') (c5 lk σ) (upd H1 a o)) C9 s)
  (hR:∀a H' C s',Inv X pins σ H' s'->fU X pins H' C->(∃m,s'.heap.Ns C m)->Q (.ref a) H'->RR (.ref a) C (.ok .next) s') :
  UQ (model X.prog X.w) X.A d6 (λacc s₃=>UQ (model X.prog X.w) X.A (newFunctionEnv scope X.env.globals cl [] X.env.qual none .none (some X.env)) (λKl s₄ =>
   WZ (model X.prog X.w) X.A (.compStart e 0 C9 acc {Kl with scope:=relabel scope X.env}) (RR acc Kl.locals) s₄) E s₃) E s:=by
 obtain⟨it,fp,tn,J,H2,e1,I2,T,fh,f2,hl⟩:=h;subst e1;refine hA.ok pins s σ H2 _ E I2 λa s3 ha hn hk I3=>?_;refine wpAny_newFunctionEnv L.si (by intro y hy;simp at hy) (λh₁ FO Fu=>?_) L.kind
 have Nc:∀b∈fp,∃o,s3.heap.get? b=some o:=λb hb=>by
  obtain⟨ob,q,_⟩:=T.obj _ _ fh b hb;exact⟨ob,hk b ob q⟩
 have NM:∀b∈fp,b≠a:=λb hb=>by
  obtain⟨ob,q,_⟩:=T.obj _ _ fh b hb;exact UI (US (Us q) ha)
 have f3:∀b∈fp,fU X pins (upd H2 a o) b:=λb hb=>⟨by rw[aw (NM b hb)];exact(f2 b hb).1,(f2 b hb).2⟩
 have Nr:∀b ob,s3.heap.get? b=some ob->h₁.get? b=some ob:=λb ob q=>Fu.extBut b ob (UI (Us q)) (Ud _ q);have K2:h₁.Ns s3.heap.objs.size (λ_=>none):=FO;have I4:=yU (t':=s3.toks+([]:List (Str×TY)).length) I3 L f3 Nc l7 sO K2 Nr;obtain⟨g1,g2,g3⟩:=B0 a cl s3.heap.objs.size s3 (upd H2 a o) fp;have f4:∀b∈fp,fU (aB X scope N' cl s3.heap.objs.size s3 (upd H2 a o) fp) [] (upd H2 a o) b:=λb hb =>
  ⟨(f3 b hb).1,(I4.ok.Lf b hb).1,I4.ok.zI b hb,.inl hb,(I4.ok.Lf b hb).2,λp hp=>absurd (show p∈([]:List (Addr×Obj)) from hp) (by simp)⟩
 have Hl:tn 0 h₁:=T.keep 0 _ _ fh λb hb ob q=>Nr b ob (hk b ob q);refine Wx (lJ (X:=aB X scope N' cl s3.heap.objs.size s3 (upd H2 a o) fp) rfl hc (F (.ref a) _) g1 g2 g3 T I4 Hl f4 (hl a hn)) λr s' hr=>?_;obtain⟨rfl,σ',H',J',q⟩:=hr;have I5:Inv X pins σ H' s':=yV (C:=s3.heap.objs.size) (h'':=s'.heap) I3 f3 J' (.refl ..);refine hR a H' s3.heap.objs.size s' I5 (I3.zB (T4 _) J'.free) ?_ q;obtain⟨m,hm,_⟩:=J'.loc;exact⟨m,hm⟩
theorem fG {d6:Sem TY}{o:HO}{after:TY->Env->Sem Fin->Sem Fin}{ta:Addr->lM}{pos:Pos}(L:Links X scope N' lk)(hc:X.calm=true)(hA:lO X d6 o)
  (FX:eval e X.env=comprehension e scope X.env pos d6 false (eval g.iter X.env)) (zm:clausesOf e=g::gs)
  (F:∀acc env,gB e 0 g acc env (after acc env)) (hi:PI X g.target g.iter wi)
  (B0:∀a cl C s H ex,PG (aB X scope N' cl C s H ex) g.target (tg a)/\q_ (aB X scope N' cl C s H ex) g.ifs (tt a)/\oO (aB X scope N' cl C s H ex) (after (.ref a) (aB X scope N' cl C s H ex).env) (ta a))
  (hs:∀x,UU g.iter X.env x=pure x) :
  PE X e (λσ H Q=>wi σ H λJ H1=>∀a,H1 a=none->fg J (tg a) (tt a) (ta a) (λ_ H'=>Q (.ref a) H') (c5 lk σ) (upd H1 a o)):=by
 intro pins s σ H Q I h;rw[FX];obtain⟨cl,zk,l7,sO⟩:=gz (env:=X.env) (scope:=scope) λx hx=>I.ok.has x (L.free x hx);refine wpAny_comprehension_free (use:=none) zm hs zk L.kind L.names (b9 (hi pins s σ H _ I h) λv s1 h1=>b9 h1 λC9 s2 h2=>?_);refine jt (RR:=λacc C=>compPost (model X.prog X.w) X.A X.xe none (EP X pins σ Q) acc C) L hc hA F B0 l7 sO h2 λa H' C s' I' f ⟨m,hm⟩ q=>?_;exact⟨m,hm,λh' vW=>⟨.ref a,H',I'.sameBut f vW,rfl,q⟩⟩
theorem xY {d6:Sem TY}{o:HO}{after:TY->Env->Sem Fin->Sem Fin}{ta:Addr->lM}{pos pos' pq:Pos}{y:Str}{i:Nat}(L:Links X scope N' lk)(hc:X.calm=true)(hA:lO X d6 o)
  (oS:VI e (some (.Name y pos')) pq.line X.env=pure true)
  (FX:evalThenUse e X.env (assign (.Name y pos') X.env)=(do let _ <- comprehension e scope X.env pos d6 false (eval g.iter X.env) (some (assign (.Name y pos') X.env));pure ())) (zm:clausesOf e=g::gs)
  (hN:X.N.Nodup) (hy:X.N[i]?=some y) (hx:Loc X.env.scope y) (hf:X.fn y=true\/X.env.scope.names.lookup y=some .local)
  (F:∀acc env,gB e 0 g acc env (after acc env)) (hi:PI X g.target g.iter wi)
  (B0:∀a cl C s H ex,PG (aB X scope N' cl C s H ex) g.target (tg a)/\q_ (aB X scope N' cl C s H ex) g.ifs (tt a)/\oO (aB X scope N' cl C s H ex) (after (.ref a) (aB X scope N' cl C s H ex).env) (ta a))
  (hs:∀x,UU g.iter X.env x=pure x) :
  PS X (.Assign [.Name y pos'] e pq) (λD σ H=>wi σ H λJ H1=>∀a,H1 a=none->fg J (tg a) (tt a) (ta a) (λ_ H'=>D.nx (σ.set i (some (.ref a))) H') (c5 lk σ) (upd H1 a o)):=by
 intro pins s σ H D I h;rw[exec_Assign_Name_used _ _ _ _ oS,FX];refine TZ (V2 (TZ (TZ ?_)));obtain⟨cl,zk,l7,sO⟩:=gz (env:=X.env) (scope:=scope) λx hx=>I.ok.has x (L.free x hx);refine b9 (wpAny_comprehension_free (use:=some (assign (.Name y pos') X.env)) (Q:=λ_ s'=>SP X pins D .next s') zm hs zk L.kind L.names (b9 (hi pins s σ H _ I h) λv s1 h1=>b9 h1 λC9 s2 h2=>?_)) λ_ s' q=>Uj (Uj q)
 refine jt (Q:=λv H'=>D.nx (σ.set i (some v)) H') (RR:=λacc C=>compPost (model X.prog X.w) X.A X.xe (some (assign (.Name y pos') X.env)) (λ_ s'=>SP X pins D .next s') acc C) L hc hA F B0 l7 sO h2 λa H' C s' I' f ⟨m,hm⟩ q=>?_
 show UQ _ _ (assign (.Name y pos') X.env (.ref a)) _ _ s';have TL:∃o,s'.heap.get? C=some o:=by obtain⟨o,_,_,ho,_⟩:=hm;exact⟨o,ho⟩
 refine wpAny_assign_Name (my I' hN hy hx (v:=.ref a) (u:=.ref a) rfl (λs4 I4 k4=>?_) hf);obtain⟨a4,QA,R5⟩:=k4;have vX:C≠a4:=by
  rcases R5 with z|z
  ·rw[z];exact f.2.1
  ·exact(f.2.2.2.2.1 y a4 z).symm
 exact⟨m,hm.at' (λo e=>(QA.2 C vX).trans e),λh' vW=>⟨_,H',I4.sameBut f vW,q⟩⟩
end
end L2
namespace L2.Q
open PySem PySem.Spec PySem.SeqAt PyProof.Rows
noncomputable def O5:Option B->Option B
 |some (.own d)=>some (.val false d)
 |some (.shl _ d)=>some (.val false d)
 |b=>b
def b8 (lk:List (Option Nat))(β:bb):bb:=lk.map λl=>match l with|some j=>(match β[j]? with|some b=>O5 b|none=>none)|none=>none
def K0:Option (Option B)->Bool
 |some (some (.hand _))=>true
 |_=>false
def bo (lk:List (Option Nat))(β:bb)(own:Nat->List Addr)(i:Nat):List Addr:=match lk[i]? with
 |some (some j)=>if K0 β[j]?=true then own j else []
 |_=>[]
def dD:bb->bb->Prop
 |[],_=>True
 |some (.hand ok)::a,c=>c.head?=some (some (.hand ok))/\dD a c.tail
 |_::a,c=>dD a c.tail
theorem dD.get:∀{a c:bb} {i:Nat} {ok:List Int->Prop},dD a c->a[i]?=some (some (.hand ok))->c[i]?=some (some (.hand ok))
 |[],_,_,_,_,e=>by simp at e
 |x::a,c,0,ok,h,e=>by
  simp at e;subst e;rw[<- List.head?_eq_getElem?];exact h.1
 |x::a,c,i+1,ok,h,e=>by
  have h':dD a c.tail:=by
   cases x with
   |none=>exact h
   |some x=>cases x <;> first|exact h|exact h.2
  have:=dD.get (i:=i) h' (by simpa using e)
  rwa [List.getElem?_tail]at this
section
variable {P:T7}{w:Ur}{C:Cfg}{σ σ':St}{H H' H1:Hp}{β βi:bb}{own d4:Nat->List Addr}{lk:List (Option Nat)}{a:Addr}
theorem bZ {i:Nat}{c:Addr}(h:c∈bo lk β own i):∃j,lk[i]?=some (some j)/\K0 β[j]?=true/\c∈own j:=by
 unfold bo at h
 split at h
 ·next j e =>
  by_cases q:K0 β[j]?=true
  ·rw[if_pos q]at h;exact⟨j,e,q,h⟩
  ·rw[if_neg q]at h;cases h
 ·cases h
theorem bq:∀c,Wn (bo lk β own) c->Wn own c:=λc ⟨i,h⟩=>let ⟨j,_,_,h⟩:=bZ h;⟨j,h⟩
theorem fL {i j:Nat}{v:V}(h:lk[i]?=some (some j))(e:σ[j]?=some (some v)):(c5 lk σ)[i]?=some (some v):=by
 unfold c5;rw[T6,h];simp only[WM];rw[e]
theorem gb {i:Nat}{b:B}(h:(b8 lk β)[i]?=some (some b)):∃j b',lk[i]?=some (some j)/\β[j]?=some (some b')/\O5 (some b')=some b:=by
 unfold b8 at h;rw[T6]at h;cases q:lk[i]? with
 |none=>rw[q]at h;cases h
 |some l =>
  rw[q]at h;cases l with
  |none=>cases h
  |some j =>
   simp only[WM]at h;cases q2:β[j]? with
   |none=>rw[q2]at h;cases h
   |some b2 =>
    rw[q2]at h;simp only[X7]at h;cases b2 with
    |none=>cases h
    |some b'=>exact⟨j,b',rfl,q2,h⟩
theorem bG.enter (s:bG P w C σ H β own)(ha:H a=none)(inj:∀(i i' j:Nat),lk[i]?=some (some j)->lk[i']?=some (some j)->i=i'):
  bG P w (C.u λc=>c=a) (c5 lk σ) (upd H a (.lst [])) (b8 lk β) (bo lk β own):=by
 have sm:az H (upd H a (.lst [])):=az.new ha;have na:∀{i c},c∈own i->c≠a:=λ{i c} hc z=>(s.dm i c hc).1 (by rw[z];exact ha)
 have gr:∀k,∀c,eQ (C.u λc=>c=a) (Wn (bo lk β own)) k c->eQ C (Wn own) k c\/H c=none:=λk c z=>by
  rcases z with z|z
  ·exact .inl (.inl (ic bq k c z))
  ·exact .inr (by rw[z];exact ha)
 refine⟨by unfold b8 c5;simp,λi y d e=>?_,λi d e=>?_,λi ok e=>?_,λi c h=>?_,λi i' c h1 h2=>?_,λi=>?_,s.kp.trans sm.kp,λc z e=>s.gc c z (sm.free e),λi y d e=>by
  obtain⟨j,b',e1,e2,e3⟩:=gb e;cases b' <;> cases e3⟩
 ·obtain⟨j,b',e1,e2,e3⟩:=gb e;cases b' with
  |val y' d' =>
   cases e3;obtain⟨v,h1,h2⟩:=s.val j y d e2;exact⟨v,fL e1 h1,(aA.grow (gr _) h2).same sm⟩
  |own d' =>
   cases e3;obtain⟨v,h1,h2,h3⟩:=s.ow j d e2;refine⟨v,fL e1 h1,aA.same sm (h2.rep λc hc z=>?_)⟩;rcases z with z|z
   ·obtain⟨i',d_⟩:=z;obtain⟨j',q1,q2,q3⟩:=bZ d_;have:=s.jr j j' c hc q3;subst this;rw[e2]at q2;cases q2
   ·exact na hc z
  |hand ok=>cases e3
  |shl y' d' =>
   cases e3;obtain⟨v,h1,h2,h3⟩:=s.shl j y' d e2;refine⟨v,fL e1 h1,aA.same sm (h2.rep (λc hc z=>?_) λds vs r=>ai.grow (λc z=>?_) r)⟩
   ·rcases z with z|z
    ·obtain⟨i',d_⟩:=z;obtain⟨j',q1,q2,q3⟩:=bZ d_;have:=s.jr j j' c hc q3;subst this;rw[e2]at q2;cases q2
    ·exact na hc z
   ·rcases gr _ c z with z|z
    ·refine .inl ?_;rcases z with z|z
     ·cases y' with
      |true=>exact .inl (.inl z)
      |false=>exact .inl z
     ·exact .inr z
    ·exact .inr z
 ·obtain⟨j,b',e1,e2,e3⟩:=gb e;cases b' <;> cases e3
 ·obtain⟨j,b',e1,e2,e3⟩:=gb e;cases b' with
  |val y' d'=>cases e3
  |own d'=>cases e3
  |shl y d=>cases e3
  |hand sg =>
   cases e3;obtain⟨h,ns,h1,h2,h3,h4,h5⟩:=s.jl j ok e2;refine⟨h,ns,fL e1 h1,sm _ _ h2,h3,?_,h5⟩;unfold bo;rw[e1];simp only;rw[e2];exact(if_pos rfl).trans h4
 ·obtain⟨j,q1,q2,q3⟩:=bZ h;obtain⟨g1,g2,g3,g4⟩:=s.dm j c q3;rw[aw (na q3)];exact⟨g1,g2,g3,na q3⟩
 ·obtain⟨j,q1,q2,q3⟩:=bZ h1;obtain⟨j',OI,Ti,QK⟩:=bZ h2;have:=s.jr j j' c q3 QK;subst this;exact inj _ _ _ q1 OI
 ·unfold bo
  split
  ·next j e =>
   split
   ·exact s.jM j
   ·exact Ve
  ·exact Ve
theorem bG.AO {o:HO}(s:bG P w (C.u λc=>c=a) σ H β own){oa:HO}(ha:H a=some oa)(ht:∀xs,oa≠.tup xs)(h0:C.H0 a=none):bG P w (C.u λc=>c=a) σ (upd H a o) β own:=by
 have k:Kp (·=a) H (upd H a o):=iM ha ht;have na:∀{i c},c∈own i->c≠a:=λ{i c} hc=>(s.dm i c hc).2.2.2;refine⟨s.len,λi y d e=>let ⟨v,h1,h2⟩:=s.val i y d e;⟨v,h1,h2.keep (k.mono λc z=>.inr z)⟩,λi d e=>let ⟨v,h1,h2,h3⟩:=s.ow i d e;⟨v,h1,h2.keep k.tup (λc hc oc ec=>k.out c oc ec (na hc)),h3⟩,
  λi ok e=>?_,λi c h=>?_,s.jr,s.jM,⟨λc oc z n=>k.out c oc (s.kp.out c oc z n) λq=>?_,λc xs z=>k.tup c xs (s.kp.tup c xs z)⟩,λc z=>?_,λi y d e=>let ⟨v,h1,h2,h3⟩:=s.shl i y d e;⟨v,h1,h2.map (λc hc oc ec=>k.out c oc ec (na hc)) (λ_ _ r=>r.keep (k.mono λc z=>.inr z)),h3⟩⟩
 ·obtain⟨h,ns,h1,h2,h3,h4,h5⟩:=s.jl i ok e;exact⟨h,ns,h1,k.out h _ h2 (na (by rw[h4];simp)),h3,h4,h5⟩
 ·rw[aw (na h)];exact s.dm i c h
 ·rw[q,h0]at z;cases z
 ·by_cases q:c=a
  ·rw[q,ar];exact λz=>(nomatch z)
  ·rw[aw q];exact s.gc c z
theorem bG.leave (s:bG P w C σ H1 β own)(i:bG P w (C.u λc=>c=a) σ' H' βi d4)(n:Sn (H1,Wn (bo lk β own)) H' (Wn d4))(le:∀c,Wn d4 c->Wn (bo lk β own) c)
  (hh:dD (b8 lk β) βi) (hσ:∀(j:Nat) (ok:List Int->Prop) (i:Nat),β[j]?=some (some (B.hand ok))->lk[i]?=some (some j)->σ'[i]?=(c5 lk σ)[i]?):bG P w C σ H' β own:=by
 have off:∀{j c},c∈own j->¬ Wn (bo lk β own) c->∀o,H1 c=some o->H' c=some o:=λ{j c} hc nw o e=>n.k.out c o e λz=>z.elim nw λz=>(s.dm j c hc).1 z;have IX:∀{j c},c∈own j->K0 β[j]?=false->¬ Wn (bo lk β own) c:=λ{j c} hc q yZ=>by
  obtain⟨i',d_⟩:=yZ;obtain⟨j',q1,q2,q3⟩:=bZ d_;have:=s.jr j j' c hc q3;subst this;rw[q]at q2;cases q2
 have hN:∀(j:Nat) (ok:List Int->Prop),β[j]?=some (some (B.hand ok))->∃a ns,σ[j]?=some (some (V.ref a))/\H' a=some (.lst (ns.map V.int))/\ok ns/\own j=[a]/\((∀b,¬ C.IO b)\/C.IO a):=λj ok e=>by
  obtain⟨h,ns,h1,h2,h3,h4,h5⟩:=s.jl j ok e
  by_cases q:Wn (bo lk β own) h
  ·obtain⟨i',d_⟩:=q;obtain⟨j',q1,q2,q3⟩:=bZ d_;have:=s.jr j j' h (by rw[h4];simp) q3
   subst this;have eB:(b8 lk β)[i']?=some (some (.hand ok)):=by
    unfold b8;rw[T6,q1];simp only[WM];rw[e];rfl
   obtain⟨h',n_,g1,g2,g3,g4,g5⟩:=i.jl i' ok (hh.get eB);rw[hσ j ok i' e q1,fL q1 h1]at g1;cases g1;exact⟨h,n_,h1,g2,g3,h4,h5⟩
  ·exact⟨h,ns,h1,off (by rw[h4];simp) q _ h2,h3,h4,h5⟩
 refine⟨s.len,λj y d e=>?_,λj d e=>?_,hN,λj c hc=>?_,s.jr,s.jM,i.kp,i.gc,λj y d e=>by
  obtain⟨v,h1,h2,h3⟩:=s.shl j y d e;refine⟨v,h1,h2.map (λc hc o eo=>off hc (IX hc (by rw[e];rfl)) o eo) (λds vs r=>?_),h3⟩
  have g:ai P w (λc=>eQ C (Wn own) (yk y) c\/H1 c=none) H1 ds vs:=ai.grow (λc z=>z) r;refine ai.aT (λc z=>.inl z) (g.keep (n.k.mono λc z=>z.imp (λz=>?_) id));cases y with
  |true=>exact .inl (.inl (bq c z))
  |false=>exact .inl (bq c z)⟩
 ·obtain⟨v,h1,h2⟩:=s.val j y d e;have g:aA P w (λc=>eQ C (Wn own) (yk y) c\/H1 c=none) H1 d v:=aA.grow (λc z=>z) h2;refine⟨v,h1,aA.aT (λc z=>.inl z) (g.keep (n.k.mono λc z=>z.imp (λz=>?_) id))⟩;cases y with
  |true=>exact .inl (.inl (bq c z))
  |false=>exact .inl (bq c z)
 ·obtain⟨v,h1,h2,h3⟩:=s.ow j d e;exact⟨v,h1,h2.keep n.k.tup (λc hc o eo=>off hc (IX hc (by rw[e];rfl)) o eo),h3⟩
 ·obtain⟨g1,g2,g3,g4⟩:=s.dm j c hc
  by_cases q:Wn (bo lk β own) c
  ·obtain⟨i',d_⟩:=q;obtain⟨j',q1,q2,q3⟩:=bZ d_;have:=s.jr j j' c hc q3;subst this;cases e:β[j]? with
   |none=>rw[e]at q2;cases q2
   |some b =>
    rw[e]at q2;cases b with
    |none=>cases q2
    |some b =>
     cases b with
     |val y d=>cases q2
     |own d=>cases q2
     |shl y d=>cases q2
     |hand ok =>
      obtain⟨h,ns,k1,k2,k3,k4,k5⟩:=hN j ok e;rw[k4]at hc;rw[T_.mp hc]at g3 g4 ⊢
      rw[k2];exact⟨λz=>(nomatch z),λxs z=>(by cases z),g3,g4⟩
  ·cases e:H1 c with
   |none=>exact absurd e g1
   |some o=>rw[off hc q o e];exact⟨λz=>(nomatch z),λxs z=>g2 xs (by rw[e];exact z),g3,g4⟩
end
def G8:a5:=λβ R=>R true β
theorem yc {X:Cx}{C:Cfg}:q_ X [] (ij X C true G8):=A6.pre λσ H Q ⟨β,own,s,q⟩=>q H own (Out.refl s _)
theorem x_ {X:Cx}{C:Cfg}{p:Bool}{c:Expr}{τ:a5}(h:wJ X C p c τ):q_ X [c] (ij X C p τ):=A5 h.pt
def jh (γ:c6)(τ:a5)(φ:a6)(ds:List D)(k:Kd)(β0:bb)(K:List D->Prop):Prop:=∃I:Nat->bb->List D->Prop,I 0 β0 [] /\
 (∀i d β o,ds[i]?=some d->I i β o->γ d (sk k d) β λβ1=>τ β1 λt β2=>if t=true then φ β2 λx kx β3=>BN kx x/\o.length<Ul/\I (i+1) β3 (o++[x]) else I (i+1) β2 o)/\∀β o,I ds.length β o->dD β0 β/\K o
theorem jh.mono {γ:c6}{τ:a5}{φ:a6}{ds:List D}{k:Kd}{β0:bb}{K K':List D->Prop}(h:∀o,K o->K' o)(q:jh γ τ φ ds k β0 K):jh γ τ φ ds k β0 K':=let ⟨I,h0,h1,h2⟩:=q;⟨I,h0,h1,λβ o z=>⟨(h2 β o z).1,h _ (h2 β o z).2⟩⟩
section
variable {X:Cx}{C:Cfg}{lk:List (Option Nat)}{γ:c6}{τ:a5}{φ:a6}{T:List Nat}{pc pe:Bool}
theorem iX {σ:St}{H1:Hp}{β:bb}{own:Nat->List Addr}{a:Addr}{J:It}{ds:List D}{k:Kd}{K:List D->Prop}{End:Hp->Prop}
  (γm:∀d k β R R',(∀r,R r->R' r)->γ d k β R->γ d k β R') (τm:∀β R R',(∀d β,R d β->R' d β)->τ β R->τ β R') (φm:∀β R R',(∀d k β,R d k β->R' d k β)->φ β R->φ β R')
  (inj:∀(i i' j:Nat),lk[i]?=some (some j)->lk[i']?=some (some j)->i=i') (hT:∀i∈T,∀j,lk[i]?≠some (some j))
  (s1:SQ X C σ H1 β own) (ha:H1 a=none) {hp:Bool} (Am:hp=true->(pc&&pe)=true) (hk:hold k hp) (it:uU X (av C (Wn own) k) J ds H1) (q:jh γ τ φ ds k (b8 lk β) K)
  (fin:∀o H',K o->Out X C σ H1 own (pc&&pe) β H' own->KV X.prog X.w C (H1,Wn own) own H' .own (.lst o) (.ref a)->End H') :
  fg J (λv σ H Q=>∃own β d k,SQ X (C.u λc=>c=a) σ H β own/\Rp X (eQ (C.u λc=>c=a) (Wn own) k) H d v/\γ d k β λβ'=>∀σ' aN,SQ X (C.u λc=>c=a) σ' H β' aN->(∀a,Wn aN a->Wn own a)->(∀j,j∉T->σ'[j]?=σ[j]?)->Q σ' H)
   (ij X (C.u λc=>c=a) pc τ) (λN σ H=>tQ X (C.u λc=>c=a) pe φ σ H λv H1=>∃xs,H1 a=some (.lst xs)/\xs.length<Ul/\N σ (upd H1 a (.lst (xs++[v]))))
   (λ_ H'=>End H') (c5 lk σ) (upd H1 a (.lst [])):=by
 obtain⟨I,i0,i1,i2⟩:=q;have h0:C.H0 a=none:=UJ λz=>s1.gc a z ha;have sm:az H1 (upd H1 a (.lst [])):=az.new ha;have OW:∀c,Wn (bo lk β own) c->c≠a:=λc z e=>by
  obtain⟨j,hj⟩:=bq c z;exact(s1.dm j c hj).1 (by rw[e];exact ha)
 let S:Nat->St->Hp->Prop:=λi σ' H'=>∃βi d4 vs o A,SQ X (C.u λc=>c=a) σ' H' βi d4/\Sn (H1,Wn (bo lk β own)) H' (Wn d4)/\(∀c,Wn d4 c->Wn (bo lk β own) c)/\H' a=some (.lst vs)/\aI X.prog X.w H' o vs A/\A.Nodup/\(∀c∈A,H1 c=none/\c≠a) /\
  ((pc&&pe)=true->az H1 H')/\(∀j,j∉T->σ'[j]?=(c5 lk σ)[j]?)/\I i βi o
 have W':Addr->Prop:=λb=>av C (Wn own) k b\/H1 b=none;have C8:=it (λb=>av C (Wn own) k b\/H1 b=none) λb z=>z;have kI:∀{H':Hp} {d4:Nat->List Addr},Sn (H1,Wn (bo lk β own)) H' (Wn d4)->((pc&&pe)=true->az H1 H')->Kp (λb=>av C (Wn own) k b\/H1 b=none) H1 H':=λn pu=>by
  cases k with
  |own=>exact n.k.mono λb z=>z.imp (λz=>.inl (bq b z)) id
  |cF=>exact n.k.mono λb z=>z.imp (λz=>.inl (bq b z)) id
  |old=>exact n.k.mono λb z=>z.imp (bq b) id
  |bor =>
   cases hp with
   |false=>exact hk.elim
   |true=>exact(pu (Am rfl)).kp.mono λb z=>.inr z
 refine⟨λi m σ' H'=>i<=ds.length/\m=ds.length-i/\S i σ' H',⟨_,Uh _,rfl,b8 lk β,bo lk β own,[],[],[],s1.enter ha inj,⟨λb z=>.inl z,sm.kp,λb z e=>z (sm.free e)⟩,λ_ z=>z,ar,⟨rfl,rfl⟩,Ve,λc hc=>(nomatch hc),λ_=>sm,λ_ _=>rfl,i0⟩,?_⟩;rintro i m σ2 H2 ⟨hi,rfl,βi,d4,vs,o,A,sq,sn,le,GN,os,nd,nw,pu,st,hl⟩;obtain⟨bS,l3⟩:=C8 i H2 (kI sn pu)
 by_cases d8:i<ds.length
 ·right
  have hd:ds[i]?=some ds[i]:=T5 d8;obtain⟨go,yl⟩:=bS _ hd;refine⟨go,λσ' H'=>S (i+1) σ' H',λσ' H' h=>⟨_,by omega,d8,rfl,h⟩,λx H3 y=>?_⟩
  obtain⟨s3,r3⟩:=yl x H3 y;have SK:∀{d4:Nat->List Addr},(∀c,Wn d4 c->Wn (bo lk β own) c)->∀c,eQ (C.u λc=>c=a) (Wn d4) k c->av C (Wn own) k c\/H1 c=none:=λle c z=>z.elim (λz=>.inl (ic (λc z=>bq c (le c z)) k c z)) λz=>.inr (by rw[z];exact ha)
  refine⟨d4,βi,_,_,sq.same s3,nH (aA.aT (SK le) r3),γm _ _ _ _ _ (λβ4 q σ4 pQ s4 w4 t4=>?_) (i1 i _ βi o hd hl)⟩;have Iz:∀c,Wn pQ c->Wn (bo lk β own) c:=λc z=>le c (w4 c z);refine⟨β4,pQ,s4,τm _ _ _ (λt β5 q H5 gY o5=>?_) q⟩;have KU:∀c,Wn gY c->Wn (bo lk β own) c:=λc z=>Iz c (o5.le c z);have yM:∀c,c∈a::A->∀oc,H2 c=some oc->H5 c=some oc:=λc hc oc e=>by
   refine o5.sn.k.out c oc (s3 c oc e) λz=>?_;rcases z with z|z
   ·rcases Uc.mp hc with rfl|hc
    ·exact OW _ (Iz _ z) rfl
    ·obtain⟨j,hj⟩:=bq c (Iz c z);exact(s1.dm j c hj).1 (nw c hc).1
   ·exact absurd ((s3 c oc e).symm.trans z) (λz=>(nomatch z))
  have Q5:∀b xs,H2 b=some (.tup xs)->H5 b=some (.tup xs):=λb xs e=>o5.sn.k.tup b xs (s3 b _ e);have EJ:aI X.prog X.w H5 o vs A:=os.keep Q5 λc hc oc e=>yM c (by simp[hc]) oc e
  have LH:Sn (H1,Wn (bo lk β own)) H5 (Wn gY):=(gT (sn.same s3) w4).trans o5.sn;have OJ:(pc&&pe)=true->az H1 H5:=λz=>((pu z).trans s3).trans (o5.pu (Gk z)).1;have Hl:∀j,j∉T->σ4[j]?=(c5 lk σ)[j]?:=λj hj=>(t4 j hj).trans (st j hj);cases t with
  |false=>exact⟨β5,gY,vs,o,A,o5.sq,LH,KU,yM a (by simp) _ GN,EJ,nd,nw,OJ,Hl,q⟩
  |true =>
   refine⟨β5,gY,o5.sq,φm _ _ _ (λxd kx β6 ⟨f,hz,q⟩ v H6 Bh o6 r6=>?_) q⟩;obtain⟨B',r1,r2,Gy⟩:=r6.fl f;have sP:H5 a=some (.lst vs):=yM a (by simp) _ GN
   have C5:∀c,c∈a::A->∀oc,H5 c=some oc->H6 c=some oc:=λc hc oc e=>by
    refine o6.sn.k.out c oc e λz=>?_;rcases z with z|z
    ·rcases Uc.mp hc with rfl|hc
     ·exact OW _ (KU _ z) rfl
     ·obtain⟨j,hj⟩:=bq c (KU c z);exact(s1.dm j c hj).1 (nw c hc).1
    ·exact absurd (e.symm.trans z) (λz=>(nomatch z))
   have ql:H6 a=some (.lst vs):=C5 a (by simp) _ sP
   have OM:aI X.prog X.w H6 o vs A:=EJ.keep o6.sn.k.tup λc hc oc e=>C5 c (by simp[hc]) oc e
   have QP:∀c∈A,c≠a:=λc hc=>(nw c hc).2;have H9:∀c∈B',c≠a:=λc hc z=>by rw[z]at hc;exact absurd (sP.symm.trans (Gy a hc).1) (λz=>(nomatch z))
   have kt:∀b xs,H6 b=some (.tup xs)->upd H6 a (.lst (vs++[v])) b=some (.tup xs):=λb xs z=>by rw[aw (λz'=>by rw[z',ql]at z;cases z)];exact z
   refine⟨vs,ql,by rw[OM.length];exact hz,β6,Bh,vs++[v],o++[xd],A++B',o6.sq.AO ql (λxs z=>by cases z) h0,?_,λc z=>KU c (o6.le c z),ar,?_,?_,λc hc=>?_,λz=>?_,Hl,q⟩
   ·have m:=LH.trans o6.sn;refine⟨m.w,m.k.trans ((iM ql (λxs z=>by cases z)).mono λb z=>.inr (by rw[z];exact ha)),λb z e=>?_⟩
    by_cases hb:b=a
    ·rw[hb,ar]at e;cases e
    ·rw[aw hb]at e;exact m.d b z e
   ·exact(OM.keep kt λc hc oc e=>by rw[aw (QP c hc)];exact e).append (aI.one (r1.keep kt λc hc oc e=>by rw[aw (H9 c hc)];exact e))
   ·refine U9.mpr ⟨nd,r2,λx hx y hy e=>?_⟩;subst e;have:=(Gy x hy).1;exact(EJ.lR x hx).1 this
   ·rcases Uq.mp hc with hc|hc
    ·exact nw c hc
    ·exact⟨LH.free (Gy c hc).1,H9 c hc⟩
   ·refine λb ob e=>?_;rw[aw (λz'=>by rw[z',ha]at e;cases e)]
    exact(o6.pu (N_ z)).1 b ob (OJ z b ob e)
 ·left
  have e:i=ds.length:=by omega
  subst e;obtain⟨hh,q⟩:=i2 βi o hl;have lv:SQ X C σ H2 β own:=s1.leave sq sn le hh λj ok i' e1 e2=>st i' λz=>hT i' z j e2;refine⟨l3 (T4 _),fin o H2 q ⟨lv,⟨λb z=>.inl z,sn.k.mono λb z=>z.imp (bq b) id,sn.d⟩,λz=>⟨pu z,rfl⟩,λ_ z=>z⟩ ⟨a::A,⟨a,vs,A,rfl,GN,rfl,os⟩,UM.mpr ⟨λz=>(nw a z).2 rfl,nd⟩,λc hc=>?_⟩⟩;have l7:H1 c=none:=by
   rcases Uc.mp hc with rfl|hc
   ·exact ha
   ·exact(nw c hc).1
  exact⟨l7,λIZ=>by obtain⟨j,hj⟩:=IZ;exact(s1.dm j c hj).1 l7,UJ λz=>s1.gc c z l7⟩
theorem cu {scope:Wg}{N':List Str}(L:Links X scope N' lk)(hN:N'.Nodup):∀(i i' j:Nat),lk[i]?=some (some j)->lk[i']?=some (some j)->i=i':=λi i' j h1 h2=>by
 obtain⟨x,a1,a2,_⟩:=L.link i j h1;obtain⟨y,b1,b2,_⟩:=L.link i' j h2;rw[a2]at b2;cases b2;exact(List.getElem?_inj (Ua.mp a1).1 hN).mp (a1.trans b1.symm)
def pI (lk:List (Option Nat))(ι:bX)(γ:c6)(τ:a5)(φ:a6):a6:=λβ R=>ι β λds k β1=>hold k false/\jh γ τ φ ds k (b8 lk β1) λo=>R (.lst o) .own β1
variable {scope:Wg}{N':List Str}{tg bS elt:Expr}{ifs:List Expr}{ι:bX}{pi:Bool}{pos pos' pq:Pos}{y:Str}{i:Nat}
theorem CP (L:Links X scope N' lk)(lQ:N'.Nodup)(hT:T.all (λi=>match lk[i]? with|some (some _)=>false|_=>true)=true)(hc:X.calm=true)(hi:rA X C pi tg bS ι)
  (ll:∀a cl c s H ex,tj (aB X scope N' cl c s H ex) (C.u λc=>c=a) tg T γ) (fM:∀a cl c s H ex,q_ (aB X scope N' cl c s H ex) ifs (ij (aB X scope N' cl c s H ex) (C.u λc=>c=a) pc τ)) (τm:∀β R R',(∀d β,R d β->R' d β)->τ β R->τ β R')
  (jm:∀a cl c s H ex,PQ (aB X scope N' cl c s H ex) (C.u λc=>c=a) pe elt φ) (γm:∀d k β R R',(∀r,R r->R' r)->γ d k β R->γ d k β R') (φm:∀β R R',(∀d k β,R d k β->R' d k β)->φ β R->φ β R')
  (hs:∀x,UU bS X.env x=pure x:=by intro _;rfl):PQ X C (pi&&(pc&&pe)) (.ListComp elt [⟨tg,bS,ifs,0⟩] scope pos) (pI lk ι γ τ φ):=by
 have B7:∀i∈T,∀j,lk[i]?≠some (some j):=λi hi j e=>by
  have:=Wf.mp hT i hi;rw[e]at this;cases this
 refine⟨λβ R R' k h=>hi.mono β _ _ (λds kd β1 q=>⟨q.1,q.2.mono λo z=>k _ _ _ z⟩) h,?_⟩;refine(fG (g:=⟨tg,bS,ifs,0⟩) (gs:=[]) (tg:=λa v σ H Q=>∃own β d k,SQ X (C.u λc=>c=a) σ H β own/\Rp X (eQ (C.u λc=>c=a) (Wn own) k) H d v/\γ d k β λβ'=>∀σ' aN,SQ X (C.u λc=>c=a) σ' H β' aN->(∀a,Wn aN a->Wn own a)->(∀j,j∉T->σ'[j]?=σ[j]?)->Q σ' H)
  (tt:=λa=>ij X (C.u λc=>c=a) pc τ) (ta:=λa N σ H=>tQ X (C.u λc=>c=a) pe φ σ H λv H1=>∃xs,H1 a=some (.lst xs)/\xs.length<Ul/\N σ (upd H1 a (.lst (xs++[v]))))
  L hc fJ rfl rfl (λ_ _=>uJ) hi.pi (λa cl c s H ex=>⟨(ll a cl c s H ex).pg,fM a cl c s H ex,fH rfl (jm a cl c s H ex).pe⟩) hs).pre λσ H Q ⟨β,own,s,h⟩=>?_
 refine⟨β,own,s,hi.mono β _ _ (λds k β1 ⟨hk,q⟩ J H1 aE o1 it a ha=>?_) h⟩;exact iX γm τm φm (cu L lQ) B7 o1.sq ha (hp:=false) (λz=>by cases z) hk it q λo H' q o2 r=>q _ _ aE (o1.trans o2) (r.later o1.sn)
theorem HJ {K:D->bb->eP->Prop}(L:Links X scope N' lk)(lQ:N'.Nodup)(hT:T.all (λi=>match lk[i]? with|some (some _)=>false|_=>true)=true)(hc:X.calm=true)(hi:∀U,rA X (C.u U) pi tg bS ι)
  (ll:∀U cl c s H ex,tj (aB X scope N' cl c s H ex) (C.u U) tg T γ) (fM:∀U cl c s H ex,q_ (aB X scope N' cl c s H ex) ifs (ij (aB X scope N' cl c s H ex) (C.u U) pc τ)) (τm:∀β R R',(∀d β,R d β->R' d β)->τ β R->τ β R')
  (jm:∀U cl c s H ex,PQ (aB X scope N' cl c s H ex) (C.u U) pe elt φ) (γm:∀d k β R R',(∀r,R r->R' r)->γ d k β R->γ d k β R') (φm:∀β R R',(∀d k β,R d k β->R' d k β)->φ β R->φ β R') (o:Bool)
  (hN:X.N.Nodup) (hy:X.N[i]?=some y:=by rfl) (hx:Loc X.env.scope y:=by first|exact .inl rfl|exact .inr rfl) (hf:X.fn y=true\/X.env.scope.names.lookup y=some .local:=by first|exact .inl rfl|exact .inr rfl|assumption)
  (oS:VI (.ListComp elt [⟨tg,bS,ifs,0⟩] scope pos) (some (.Name y pos')) pq.line X.env=pure true:=by rfl)
  (FX:evalThenUse (.ListComp elt [⟨tg,bS,ifs,0⟩] scope pos) X.env (assign (.Name y pos') X.env)=(do let _ <- comprehension (.ListComp elt [⟨tg,bS,ifs,0⟩] scope pos) scope X.env (firstIterPos [⟨tg,bS,ifs,0⟩] pos) (newList []) false (eval bS X.env) (some (assign (.Name y pos') X.env));pure ()):=by first|rfl|exact arm_evalThenUse_ListComp ..)
  (hs:∀x,UU bS X.env x=pure x:=by intro _;rfl) :
  PB X C (.Assign [.Name y pos'] (.ListComp elt [⟨tg,bS,ifs,0⟩] scope pos) pq) (λE β=>pI lk ι γ τ φ β λd _ β'=>E.nx (β'.set i (some (match o with|true=>.own d|false=>.val true d)))):=by
 have B7:∀i∈T,∀j,lk[i]?≠some (some j):=λi hi j e=>by
  have:=Wf.mp hT i hi;rw[e]at this;cases this
 refine⟨λE E' β l h=>(hi λ_=>False).mono β _ _ (λds kd β1 q=>⟨q.1,q.2.mono λo z=>l.nx _ z⟩) h,λpins s σ H D I0 ⟨Z,E,β,⟨own,sq,n⟩,h,ok⟩=>?_⟩;refine xY (g:=⟨tg,bS,ifs,0⟩) (gs:=[]) (tg:=λa v σ H Q=>∃own β d k,SQ X (C.u λc=>c=a) σ H β own/\Rp X (eQ (C.u λc=>c=a) (Wn own) k) H d v/\γ d k β λβ'=>∀σ' aN,SQ X (C.u λc=>c=a) σ' H β' aN->(∀a,Wn aN a->Wn own a)->(∀j,j∉T->σ'[j]?=σ[j]?)->Q σ' H)
  (tt:=λa=>ij X (C.u λc=>c=a) pc τ) (ta:=λa N σ H=>tQ X (C.u λc=>c=a) pe φ σ H λv H1=>∃xs,H1 a=some (.lst xs)/\xs.length<Ul/\N σ (upd H1 a (.lst (xs++[v]))))
  L hc fJ oS FX rfl hN hy hx hf (λ_ _=>uJ) (hi λa=>H a=none).pi (λa cl c s H ex=>⟨(ll _ cl c s H ex).pg,fM _ cl c s H ex,fH rfl (jm _ cl c s H ex).pe⟩) hs pins s σ H D I0 ?_
 refine⟨β,own,sq.gP (C:=C.z) (U:=λa=>H a=none) λa z=>z,(hi λ_=>False).mono β _ _ (λds k β1 ⟨hk,q⟩ J H1 aE o1 it a ha=>?_) h⟩;refine iX (C:=C.u λa=>H a=none) γm τm φm (cu L lQ) B7 o1.sq ha (hp:=false) (λz=>by cases z) hk it q λol H' q o2 r=>?_
 have r':=r.later o1.sn;have oo:=o1.trans o2;have m:=n.trans oo.sn;cases o with
 |false=>exact ok.nx _ _ _ ⟨_,(bG.QO oo.sq).dY (aA.aT (λa z=>z.elim id λz=>z.elim) (KV.rep r')),rT m⟩ q
 |true =>
  obtain⟨A,h1,h2,h3⟩:=r';refine ok.nx _ _ _ ⟨_,oo.sq.nL h1 h2 λc hc=>⟨(h3 c hc).2.2,(h3 c hc).2.1,(h3 c hc).1⟩,?_⟩ q;exact⟨λb zc=>by
   obtain⟨j,hj⟩:=zc
   by_cases aF:i=j
   ·rw[<- aF,os_eq]at hj;exact .inr (n.free (h3 b hj).1)
   ·rw[bg aF]at hj;exact m.w b ⟨j,hj⟩,m.k,m.d⟩
end
end L2.Q
namespace Zp
open PySem PySem.Spec PyProof.Rows
section
end
end Zp
namespace L2
open PySem PySem.Spec PySem.SeqAt PyProof.Rows Zp
theorem Inv.AB {X:Cx}{pins:List (Addr×Obj)}{σ:St}{H:Hp}{s:T3}{fp:List Addr}{h':Heap}{x y:V}{u v:TY}(I:Inv X pins σ H s)(hf:∀b∈fp,fU X pins H b)(k:∀c o,c∉fp->s.heap.get? c=some o->h'.get? c=some o)
  (rx:RelV x u) (ry:RelV y v) (hT:IsPair h' s.heap.objs.size u v):Inv X pins σ (upd H s.heap.objs.size (.tup [x,y])) {s with heap:=h'}:=by
 have hn:H s.heap.objs.size=none:=I.bM.fresh (T4 _);have ne:∀{b:Addr} {o:Obj},s.heap.get? b=some o->b≠s.heap.objs.size:=λe=>UI (Us e);have nt:∀{b:Addr} {o:HO},H b=some o->b≠s.heap.objs.size:=λe z=>by rw[z,hn]at e;cases e
 have nf:∀{b:Addr} {o:HO},H b=some o->b∉fp:=λe z=>by rw[(hf _ z).1]at e;cases e
 refine I.call (g':=s.gens) (t':=s.toks) (d':=s.drawn) (ch:=fp) ⟨λb o e n _ hc=>k b o hc e,λb o e n _ hc=>⟨o.slots,k b o hc e⟩,λb o e n _=>by rw[aw (ne e)];exact n,λb o e hc=>⟨o,k b o hc e⟩,
  λb xs e=>by rw[aw (nt e)];exact e,λb o u e=>by rw[aw (nt e)];exact e,λb ps e=>⟨#[],by rw[aw (nt e),e];simp⟩⟩ (λb u e=>?_) I.bare λb hb=>?_
 ·by_cases hb:b=s.heap.objs.size
  ·subst hb;rw[ar]at e;cases e;exact⟨by show 2<=Ul;decide,[_,_],.cons rx (.cons ry .nil),⟨_,hT,rfl,_,rfl⟩⟩
  ·rw[aw hb]at e;refine(I.bM b u e).pk (λc v hc q=>k c v ?_ q) (λc q=>by rw[aw (nt q)];exact q) λc xs q=>by rw[aw (nt q)];exact q
   rcases hc with z|z
   ·rw[z];exact nf e
   ·exact nf z
 ·obtain⟨f0,f1,f2,f3,f4,f5⟩:=hf b hb;exact⟨f3,f1,f4,f5⟩
theorem Inv.tu {X:Cx}{pins:List (Addr×Obj)}{σ:St}{H:Hp}{s:T3}{fp:List Addr}{h':Heap}(I:Inv X pins σ H s)(hf:∀b∈fp,fU X pins H b)(k:∀c o,c∉fp->s.heap.get? c=some o->h'.get? c=some o):Inv X pins σ H {s with heap:=h'}:=by
 have nf:∀{b:Addr} {o:HO},H b=some o->b∉fp:=λe z=>by rw[(hf _ z).1]at e;cases e
 refine I.call (g':=s.gens) (t':=s.toks) (d':=s.drawn) (ch:=fp) ⟨λb o e n _ hc=>k b o hc e,λb o e n _ hc=>⟨o.slots,k b o hc e⟩,λb o e n _=>n,λb o e hc=>⟨o,k b o hc e⟩,λb xs e=>e,λb o u e=>e,λb ps e=>⟨#[],by rw[e];simp⟩⟩ (λb u e=>?_) I.bare λb hb=>?_
 ·refine(I.bM b u e).pk (λc v hc q=>k c v ?_ q) (λc q=>q) λc xs q=>q;rcases hc with z|z
  ·rw[z];exact nf e
  ·exact nf z
 ·obtain⟨f0,f1,f2,f3,f4,f5⟩:=hf b hb;exact⟨f3,f1,f4,f5⟩
noncomputable def jW:List D->List D->List D
 |a::as,b::bs=>.tup [a,b]::jW as bs
 |_,_=>[]
theorem oU:∀{as bs:List D} {i:Nat} {d:D},(jW as bs)[i]?=some d->∃a b,as[i]?=some a/\bs[i]?=some b/\d=.tup [a,b]
 |[],_,_,_,h=>by simp[jW]at h
 |_::_,[],_,_,h=>by simp[jW]at h
 |a::as,b::bs,0,_,h=>by simp[jW]at h;exact⟨a,b,rfl,rfl,h.symm⟩
 |a::as,b::bs,i+1,_,h=>by
  obtain⟨x,y,h1,h2,h3⟩:=oU (as:=as) (bs:=bs) (i:=i) (by simpa[jW] using h)
  exact⟨x,y,by simpa using h1,by simpa using h2,h3⟩
theorem oT:∀(as bs:List D),(jW as bs).length=min as.length bs.length
 |[],_=>by simp[jW]
 |_::_,[]=>by simp[jW]
 |a::as,b::bs=>by simp[jW,oT as bs]
section
end
section
end
theorem bc {lo:Int}{n i:Nat}{d:D}(h:(lY lo n)[i]?=some d):i<n/\d=.int (lo+i):=by
 unfold lY at h;rw[T6]at h;have hi:i<n:=by
  by_cases hi:i<n
  ·exact hi
  ·rw[UK (by simpa using hi)]at h;cases h
 rw[VG hi]at h;cases h;exact⟨hi,rfl⟩
theorem bp {lo:Int}{n:Nat}:(lY lo n).length=n:=by unfold lY;simp
section
end
structure Df (K:PySem.W.Frag)(mg:Str->Option TY)(x:Str)(st:Stmt)(ps:List Str)(f:Addr)(fd:UW):Prop where
 F:Ag K x x st f fd
 b:Binds K fd ps []
 m:mg x=some (.ref f)
structure Bs (mg:Str->Option TY):Prop where
 max:mg "max" = none
 min:mg "min" = none
 int:mg "int" = none
 range:mg "range" = none
 sorted:mg "sorted" = none
 set:mg "set" = none
 len:mg "len" = none
 list:mg "list" = none
theorem Gg:U1 "set" = some (.type "set"):=by decide +kernel
theorem cR.AA {k:Nat}{A:U6}(r:cR k A):A.units+16<WN:=by have:=r.un;lia
def Ob (n:Int)(t:List Int):Prop:=∃a b,t=[a,b]/\0<=a/\a<b/\b<n
theorem Ob.ne {n:Int}{t:List Int}(h:Ob n t):t≠[]:=by
 obtain⟨a,b,rfl,_⟩:=h;intro z;cases z
def bF (n:Int)(ts:List (List Int)):Prop:=∀t∈ts,Ob n t
theorem bF.ne {n:Int}{ts:List (List Int)}(h:bF n ts):∀k∈ts,k≠[]:=λk hk=>(h k hk).ne
theorem bF.nil {n:Int}:bF n []:=λ_ z=>(nomatch z)
theorem bF.app {n:Int}{ts us:List (List Int)}(h:bF n ts)(h':bF n us):bF n (ts++us):=λt ht=>(Uq.mp ht).elim (h t) (h' t)
theorem bF.one {n:Int}{a b:Int}(h1:0<=a)(h2:a<b)(h3:b<n):bF n [[a,b]]:=λt ht=>by
 rw[T_.mp ht];exact⟨a,b,rfl,h1,h2,h3⟩
theorem eO (ts:List (List Int)):D.bW (ts.map kD)=true:=by
 have fi:∀k:List Int,D.bW (k.map D.int)=true:=λk=>by
  induction k with
  |nil=>rfl
  |cons i k ih=>show (D.flat (.int i)&&D.bW (k.map D.int))=true;rw[ih];rfl
 induction ts with
 |nil=>rfl
 |cons t ts ih =>
  show (D.flat (kD t)&&D.bW (ts.map kD))=true;rw[ih];show (D.bW (t.map D.int)&&true)=true;rw[fi];rfl
theorem rS {ts:List (List Int)}(h:∀k∈ts,k≠[])(l:ts.length<=1000000):(match [D.lst (ts.map kD)]with | [.lst ds]=>oC [.lst ds]|_=>none)=some (.lst ((gi ts).map kD)):=by
 show (match dW (ts.map kD)with|some ks=>if ks.length<=1000000 then some (D.lst ((gi ks).map kD)) else none|none=>none)=_
 rw[iO h];show (if ts.length<=1000000 then some (D.lst ((gi ts).map kD)) else none)=_
 rw[if_pos l]
theorem xu {n:Int}{ts:List (List Int)}(h:bF n ts):bF n (gi ts):=λt ht=>h t ((eD ts).mem_iff.mp ht)
theorem xK {ts:List (List Int)}(h:∀k∈ts,k≠[])(l:ts.length<1000):Dy [.lst (ts.map kD)]=some (.sT (mf ts)):=by
 show (match dW (ts.map kD)with|some ks=>if ks.length<1000 then some (D.sT (mf ks)) else none|none=>none)=_
 rw[iO h];show (if ts.length<1000 then some (D.sT (mf ts)) else none)=_
 rw[if_pos l]
theorem rR {ts:List (List Int)}(h:∀k∈ts,k≠[])(l:ts.length<1000):(match [D.sT (mf ts)]with | [.sT ts]=>oC [.sT ts]|_=>none)=some (.lst ((gi (mf ts)).map kD)):=by
 show (if (mf ts).length<=1000/\(∀k∈mf ts,k≠[]) then some (D.lst ((gi (mf ts)).map kD)) else none)=_
 rw[if_pos ⟨by have:=uD ts;lia,λk hk=>h k (((fQ ts).2 k).mp hk)⟩]
def qK:FD:=λds R=>∃n:Int,ds=[.int n]/\0<=n/\n<=1000/\∀ts:List (List Int),ts.length<=n.toNat->bF n ts->R (.lst (ts.map kD))
theorem qK.mono:d9 qK:=λds R R' k ⟨n,e,h1,h2,q⟩=>⟨n,e,h1,h2,λts a b=>k _ (q ts a b)⟩
def Drawn (n:Int)(ts:List (List Int)):Prop:=ts.length<=300/\bF n ts/\td ts/\ts.Nodup
def qD:FD:=λds R=>∃n:Int,ds=[.int n]/\2<=n/\n<=40/\∀ts,Drawn n ts->R (.lst (ts.map kD))
theorem qD.mono:d9 qD:=λds R R' k ⟨n,e,h1,h2,q⟩=>⟨n,e,h1,h2,λts a=>k _ (q ts a)⟩
def zG:FD:=λds R=>ds=[]/\∀(n:Int) ts,0<=n->n<=40->Drawn n ts->R (.tup [.int n,.lst (ts.map kD)])
theorem zG.mono:d9 zG:=λds R R' k ⟨e,q⟩=>⟨e,λn ts a b c=>k _ (q n ts a b c)⟩
theorem zN {n:Int}{ks:List (List Int)}(h:bF n ks):∃ts,cutD ((gi (mf ks)).map kD) none (some 300)=ts.map kD/\Drawn n ts:=by
 refine⟨(gi (mf ks)).take (min 300 (gi (mf ks)).length),?_,?_,?_,?_,?_⟩
 ·unfold cutD;rw[HT.kq,show (some (300:Int))=some ((300:Nat):Int) from rfl,HT.nN,List.drop_zero,<- WE]
  simp
 ·rw[Ut];lia
 ·exact λt ht=>h t (((fQ ks).2 t).mp ((eD _).mem_iff.mp (WJ ht)))
 ·exact List.Pairwise.take (j_ _)
 ·exact List.Nodup.sublist (List.take_sublist _ _) ((eD _).nodup_iff.mpr (fQ ks).1)
theorem jD {fs:List (List Int)}{t:List Int}:(fs++[t]).map kD=fs.map kD++[kD t]:=by simp
theorem xC {fs:List Int}{t:Int}:(fs++[t]).map D.int=fs.map D.int++[D.int t]:=by simp
theorem rh {a b:D}:[a,b].length<=Ul:=by show 2<=Ul;decide
theorem Qr {a b c:D}:[a,b,c].length<=Ul:=by show 3<=Ul;decide
theorem uZ {a:D}:[a].length<=Ul:=by show 1<=Ul;decide
theorem Fo {b:Bool}{p q:Prop}(hb:b=true)(h:p):(if b=true then p else q):=by rw[if_pos hb];exact h
theorem vV {b:Bool}{p q:Prop}(hb:b=false)(h:q):(if b=true then p else q):=by rw[hb,if_neg (by simp)];exact h
theorem mR {c:Prop}[Decidable c]{p q:Prop}(h1:c->p)(h2:¬ c->q):(if decide c=true then p else q):=by
 by_cases h:c
 ·exact Fo (by simp[h]) (h1 h)
 ·exact vV (by simp[h]) (h2 h)
theorem O6 {c:Prop}[Decidable c]{p q:Prop}(h1:¬ c->p)(h2:c->q):(if (!decide c)=true then p else q):=by
 by_cases h:c
 ·exact vV (by simp[h]) (h2 h)
 ·exact Fo (by simp[h]) (h1 h)
theorem gW {α:Type}(f:α->D):∀l:List α,D.rj (l.map f)=l.map λa=>(f a).pd
 |[]=>rfl
 |a::l=>by
  show (f a).pd::D.rj (l.map f)=_;rw[gW f l];rfl
theorem i3 {n:Nat}:∀{xs:List PyData},(∀x∈xs,x.canLay0=true/\x.depth<=n)->Wy xs=true/\WL xs<=n
 |[],_=>⟨by simp[Wy],by simp[WL]⟩
 |x::xs,h=>by
  obtain⟨h1,h2⟩:=i3 (n:=n) (xs:=xs) λy hy=>h y (by simp[hy])
  obtain⟨g1,g2⟩:=h x (by simp)
  refine⟨by simp[Wy,h1,g1],?_⟩
  simp only[WL];lia
theorem iA {n:Nat}{ds:List D}(h:∀d∈ds,d.pd.canLay0=true/\d.pd.depth<=n):(D.tup ds).pd.canLay0=true/\(D.tup ds).pd.depth<=n+1:=by
 have e:D.rj ds=ds.map λd=>d.pd:=by
  have:=gW (λd:D=>d) ds;simpa using this
 obtain⟨h1,h2⟩:=i3 (n:=n) (xs:=D.rj ds) λx hx=>by
  rw[e]at hx;obtain⟨d,hd,rfl⟩:=UG.mp hx;exact h d hd
 refine⟨by simpa[D.pd,Vw] using h1,?_⟩
 have:(D.tup ds).pd.depth=WL (D.rj ds)+1:=by simp[D.pd,X6]
 lia
theorem dk {n:Nat}{ds:List D}(h:∀d∈ds,d.pd.canLay0=true/\d.pd.depth<=n):(D.lst ds).pd.canLay0=true/\(D.lst ds).pd.depth<=n+1:=by
 have e:D.rj ds=ds.map λd=>d.pd:=by
  have:=gW (λd:D=>d) ds;simpa using this
 obtain⟨h1,h2⟩:=i3 (n:=n) (xs:=D.rj ds) λx hx=>by
  rw[e]at hx;obtain⟨d,hd,rfl⟩:=UG.mp hx;exact h d hd
 refine⟨by simpa[D.pd,Vw] using h1,?_⟩
 have:(D.lst ds).pd.depth=WL (D.rj ds)+1:=by simp[D.pd,X6]
 lia
theorem cK (i:Int):(D.int i).pd.canLay0=true/\(D.int i).pd.depth<=1:=⟨by simp[D.pd,Vw],by simp[D.pd,X6]⟩
theorem xF (b:Bool):(D.bl b).pd.canLay0=true/\(D.bl b).pd.depth<=1:=⟨by simp[D.pd,Vw],by simp[D.pd,X6]⟩
theorem xE (t:List Int):(kD t).pd.canLay0=true/\(kD t).pd.depth<=2:=iA λd hd=>by
 obtain⟨i,_,rfl⟩:=UG.mp hd;exact cK i
theorem rV (ts:List (List Int)):(D.lst (ts.map kD)).pd.canLay0=true/\(D.lst (ts.map kD)).pd.depth<=3:=dk λd hd=>by
 obtain⟨i,_,rfl⟩:=UG.mp hd;exact xE i
theorem ck (ts:List Int):(D.lst (ts.map D.int)).pd.canLay0=true/\(D.lst (ts.map D.int)).pd.depth<=2:=dk λd hd=>by
 obtain⟨i,_,rfl⟩:=UG.mp hd;exact cK i
theorem c9 {d:D}{n:Nat}(h:d.pd.canLay0=true/\d.pd.depth<=n)(hn:n<=64:=by decide):d.xI=true:=by
 show (d.pd.canLay0&&decide (d.pd.depth<=64))=true;rw[h.1,decide_eq_true (by lia)]
 rfl
theorem lC {α:Type}[DecidableEq α]{f:α->PyData}(hf:∀a b,V7 (f a) (f b)=decide (a=b)):∀xs ys:List α,W9 (xs.map f) (ys.map f)=decide (xs=ys)
 |[],[]=>by simp[W9]
 |[],_::_=>by simp[W9]
 |_::_,[]=>by simp[W9]
 |x::xs,y::ys=>by
  simp only[Uy,W9];rw[hf,lC hf xs ys]
  by_cases h1:x=y
  ·by_cases h2:xs=ys <;> simp[h1,h2]
  ·simp[h1]
theorem uy (i j:Int):V7 (D.int i).pd (D.int j).pd=decide (i=j):=by
 simp only[D.pd,V7]
 by_cases h:i=j <;> simp[h]
theorem qM (ts us:List Int):V7 (D.lst (ts.map D.int)).pd (D.lst (us.map D.int)).pd=decide (ts=us):=by
 show V7 (.list (D.rj (ts.map D.int))) (.list (D.rj (us.map D.int)))=_;rw[gW,gW];simp only[V7];exact lC uy ts us
theorem zR {a b:D}{c:Bool}(h1:a.xI=true)(h2:b.xI=true)(e:V7 a.pd b.pd=c):GZ a b=some (.bl c):=by
 unfold GZ;rw[if_pos ⟨h1,h2⟩,e]
theorem oD {a b:D}{c:Bool}(h1:a.xI=true)(h2:b.xI=true)(e:V7 a.pd b.pd=c):Dz a b=some (.bl (!c)):=by
 unfold Dz;rw[if_pos ⟨h1,h2⟩,e]
theorem b6 (i j:Int):GZ (.int i) (.int j)=some (.bl (decide (i=j))):=zR (c9 (cK i)) (c9 (cK j)) (uy i j)
theorem zS (ts us:List Int):GZ (.lst (ts.map D.int)) (.lst (us.map D.int))=some (.bl (decide (ts=us))):=zR (c9 (ck ts)) (c9 (ck us)) (qM ts us)
theorem qO (ts us:List Int):Dz (.lst (ts.map D.int)) (.lst (us.map D.int))=some (.bl (!decide (ts=us))):=oD (c9 (ck ts)) (c9 (ck us)) (qM ts us)
theorem N9 {α:Type}{ds:List α}{i:Nat}{d:α}(h:ds[i]?=some d):jB ds (i:Int)=some d:=by
 have hl:i<ds.length:=(Ua.mp h).1;unfold jB rl;rw[if_pos (by lia),if_pos (by lia),W5]
 exact h
theorem z9 {α:Type}{ds:List α}{i:Int}(h0:0<=i)(h1:i<ds.length):∃d∈ds,jB ds i=some d/\ds[i.toNat]?=some d:=by
 have hl:i.toNat<ds.length:=by lia
 refine⟨ds[i.toNat],Vz hl,?_,T5 hl⟩;have:=N9 (ds:=ds) (i:=i.toNat) (T5 hl)
 rwa [show ((i.toNat:Nat):Int)=i by lia]at this
theorem Cm {ds:List D}{i:Nat}{d:D}(h:ds[i]?=some d):lS (.lst ds) (.int (i:Int))=some d:=N9 h
theorem pick {ds:List D}{r:Int}{p:D->Prop}(h0:0<=r)(h1:r<ds.length)(h:∀d∈ds,p d):∃d,lS (.lst ds) (.int r)=some d/\p d:=by
 obtain⟨d,hd,e,_⟩:=z9 h0 h1;exact⟨d,e,h d hd⟩
theorem qQ {ks:List Int}{i:Int}(h0:0<=i)(h1:i<ks.length):∃r∈ks,lS (.lst (ks.map D.int)) (.int i)=some (.int r):=by
 obtain⟨r,hr,e,e'⟩:=z9 h0 h1;refine⟨r,hr,?_⟩;show jB (ks.map D.int) i=_;have:=N9 (ds:=ks.map D.int) (i:=i.toNat) (d:=.int r) (by rw[T6,e'];rfl)
 rwa [show ((i.toNat:Nat):Int)=i by lia]at this
def Ou:D->Option String
 |.cE=>some "NoneType"
 |.bl _=>some "bool"
 |.int _=>some "int"
 |.str _=>some "str"
 |.tup _=>some "tuple"
 |.lst _=>some "list"
 |_=>none
section
variable {X:Cx}{W:Addr->Prop}{H:Hp}
theorem Rp.ty {d:D}{v:V}{T:String}(h:Rp X W H d v)(e:Ou d=some T):ie X.K H v (.type T):=by
 cases d with
 |cE=>cases h;cases e;exact .cE
 |bl b=>cases h;cases e;exact .bl _
 |int b=>cases h;cases e;exact .int _
 |str b=>cases h;cases e;exact .str _
 |tup ds=>obtain⟨a,vs,rfl,h1,_⟩:=h;cases e;exact .tup h1
 |lst ds=>obtain⟨a,vs,rfl,h1,_⟩:=h;cases e;exact .lst h1
 |_=>cases e
end
section
variable {X:Cx}{a:Expr}{φ:Gs}{T:Str}{n:String}{p p2 pos:Pos}
theorem A4 (hm:X.mg "isinstance" = none) (ha:PV X a φ) (hT:X.mg T=none) (bT:U1 T=some (.type n)) (hg:Gl X "isinstance" := by rfl) (RV:Gl X T:=by rfl) (Rz:T≠"__name__" := by decide) (RY:(T==("__debug__" : Str))=false:=by decide)
  (jk:Up [a,.Name T p2] X.env=(false,eval a X.env)::Up [.Name T p2] X.env:=by rfl) (ML:Up [.Name T p2] X.env=(false,eval (.Name T p2) X.env)::Up [] X.env:=by rfl) (hpl:(VT pos (Up [.Name T p2] X.env)).any (·.1)=false:=by rfl) :
  PV X (.Call (.Name "isinstance" p) [a,.Name T p2] [] pos) (λρ R=>φ ρ λd=>∃t k,Ou d=some t/\PySem.W.kitOne X.K (.type t) (.type n)=some k/\R (.bl k)) :=
 ⟨λρ R R' k h=>ha.mono ρ _ _ (λd MN=> by obtain⟨t,b,h1,h2,q⟩ := MN;exact⟨t,b,h1,h2,k _ q⟩) h,
  (kM zU hg hm Gh (bu ha.pe (bu (Ba (v:=.ty n) RV hT bT rfl Rz RY) cO ML) jk) (he:=jk) (hpl:=hpl)).pre λσ H Q ⟨W,ρ,se,h⟩=>tD.of ha se h λd v H1 ⟨t,k,h1,h2,q⟩ s1 r1 =>
    ⟨v,n,_,k,rfl,r1.ty h1,h2,q _ H1 s1 rfl⟩⟩
end
theorem Cw:U1 "enumerate" = some (.type "enumerate"):=by decide +kernel
def P1 (l:Addr):It :=
 ⟨λi H=>∃xs x,H l=some (.lst xs)/\xs[i]?=some x,
  λi H x H'=>∃T,H T=none/\x=.ref T/\∀xs,H l=some (.lst xs)->∃a,xs[i]?=some a/\H'=upd H T (.tup [.int i,a]),
  λi H=>∃xs,H l=some (.lst xs)/\xs[i]?=none⟩
theorem uX {P:T7}{w:Ur}{K:PySem.W.Frag}{elts:List Expr}{kk:Nat}{pos:Pos}{e it l:Addr}(ne:e≠it):
  Turn P w K (.Tuple elts kk pos) (P1 l) [e,it] e (λk h=>(∃old,IsEnum h e it (k:Int) old)/\h.IsListIter it l k) where
 mem:=by simp
 obj:=λk h JM c hc=> by
  obtain⟨⟨old,h1⟩,h2⟩ := JM;simp only[Uc,VJ,or_false]at hc;rcases hc with rfl|rfl
  ·exact⟨_,h1,λv z=>by cases (show Data.fields _=Data.cell v from z)⟩
  ·obtain⟨o,a,_,d⟩:=h2;exact⟨o,a,λv z=>by rw[d]at z;cases z⟩
 keep:=λk h h' ⟨⟨old,h1⟩,h2⟩ kp=>⟨⟨old,kp e (by simp) _ h1⟩,h2.at λo q=>kp it (by simp) o q⟩
 item:=by
  intro X hP hw hK hc i pins s σ H E I hf st hg;obtain⟨⟨old,g1⟩,g2⟩:=st;obtain⟨xs,x,hx,ex⟩:=hg;obtain⟨its,r',pl,_⟩:=I.list (cQ.of hx);obtain⟨u,eu,ru⟩:=r'.get ex;refine wpAny_pyNext_enum_item g1 g2 pl.isList (by simpa using eu) ne λh' y1 y2 y3 y4 y5=>?_
  have I1:=(I.AB (fp:=[e,it]) (x:=.int i) (u:=.int i s.toks) hf (λc o B5 q=>y5 c o (λz=>B5 (by simp[z])) (λz=>B5 (by simp[z])) q) ⟨_,rfl⟩ ru y3).tok (s.toks+1)
  have nT:∀b∈[e,it],upd H s.heap.objs.size (.tup [.int i,x]) b=none:=λb hb=>by
   have:b≠s.heap.objs.size:=by
    simp only[Uc,VJ,or_false]at hb;rcases hb with rfl|rfl
    ·exact UI (Us g1)
    ·obtain⟨o,a,_⟩:=g2;exact UI (Us a)
   rw[aw this];exact(hf b hb).1
  refine⟨_,rfl,wpAny_letOwnedTupleGo_enum y1 λh'' z' sb=>?_⟩;have I2:Inv X pins σ (upd H s.heap.objs.size (.tup [.int i,x])) {s with heap:=h'',toks:=s.toks+1}:=by
   refine I1.tu (fp:=[e]) (λb hb=>?_) λc o B5 q=>sb.extBut _ _ (by simpa using B5) q
   have q:b=e:=by simpa using hb
   subst q;exact⟨nT b (by simp),(hf b (by simp)).2⟩
  refine⟨.ref s.heap.objs.size,_,I2,rfl,⟨s.heap.objs.size,I.bM.fresh (T4 _),rfl,λOq BU=>?_⟩,⟨⟨_,z'⟩,y2.at λo q=>sb.extBut _ _ (Wd ne) q⟩,nT⟩;rw[hx]at BU;cases BU;exact⟨x,ex,rfl⟩
 done:=by
  intro X hP hw hK hc i pins s σ H E I hf st hg;obtain⟨⟨old,g1⟩,g2⟩:=st;obtain⟨xs,hx,ex⟩:=hg;obtain⟨its,r',pl,_⟩:=I.list (cQ.of hx);refine wpAny_pyNext_enum_end (I.ok.hd hc) g1 g2 pl.isList (by simpa using r'.none_of ex) λh' y=>?_
  exact⟨rfl,I.tu (fp:=[e,it]) hf λc o B5 q=>y c o (λz=>B5 (by simp[z])) q⟩
 self:=λA i s Q E ⟨⟨old,h1⟩,_⟩ q=>wpAny_pyIter_enum h1 q
def jq (ds:List D):List D:=jW (lY 0 ds.length) ds
section
variable {X:Cx}{W:Addr->Prop}{H:Hp}{l:Addr}{xs:List V}{ds:List D}
theorem m_ {i:Nat}{d:D}(h:(jq ds)[i]?=some d):∃b,ds[i]?=some b/\d=.tup [.int i,b]:=by
 obtain⟨a,b,h1,h2,rfl⟩:=oU h;obtain⟨_,rfl⟩:=bc h1;exact⟨b,h2,by simp⟩
theorem iT:(jq ds).length=ds.length:=by unfold jq;rw[oT,bp];simp
theorem yQ (h1:H l=some (.lst xs))(n1:¬ W l)(r1:jv X W H ds xs):uU X W (P1 l) (jq ds) H:=λW' hW i H' k=>by
 have st:H' l=some (.lst xs):=k.out l _ h1 λz=>(hW l z).elim n1 λq=>by rw[h1]at q;cases q
 have q1:=(ai.grow hW r1).keep k;constructor
 ·intro d hd;obtain⟨b,hb,rfl⟩:=m_ hd;obtain⟨x,ex,rx⟩:=ai.get q1 hb;refine⟨⟨xs,x,st,ex⟩,λv H1 ⟨T,hT,e,yl⟩=>?_⟩;obtain⟨x',PK,eH⟩:=yl xs st;rw[ex]at PK;cases PK;subst e eH;exact⟨az.new hT,Rp.D_ hT (.cons rfl (.cons rx .nil))⟩
 ·intro hl;rw[iT]at hl;exact⟨xs,st,UK (by rw[q1.length];exact hl)⟩
variable {φs:qZ}{elts:List Expr}{kk:Nat}{Lr:Pos}
def IK (φs:qZ):Gr:=λρ R=>φs ρ λl=>∃as,l=[.lst as]/\R (jq as)
theorem xS {a:Expr} {p pos:Pos} (hm:X.mg "enumerate" = none) (ha:Ku X [a] φs) (hg:Gl X "enumerate" := by rfl) (hs:Up [a] X.env=[(false,eval a X.env)]:=by rfl) :
  PZ X (.Tuple elts kk Lr) (.Call (.Name "enumerate" p) [a] [] pos) (IK φs):=by
 refine⟨λρ R R' k q=>ha.mono ρ _ _ (λl JK=> by obtain⟨as,e,q⟩ := JK;exact⟨as,e,k _ q⟩) q,λpins s σ H R I ⟨W,ρ,se,q⟩=>?_⟩
 refine Call_ (eZ I hg hm Cw (Vl (b9 (ha.pa pos pins s σ H _ I (Hh.of ha se q λds vs H1 h s1 r1=>(⟨ds,h,s1,r1⟩:∃ds,(∃as,ds=[.lst as]/\∀J H',az H H'->uU X W J (jq as) H'->R J H')/\az H H1/\jv X W H1 ds vs)))
  λus s1 ⟨vs,H1,I1,rv,h⟩=>?_) hs rfl))
 obtain⟨ds,⟨as,e,q⟩,sm,r1⟩:=h;subst e;obtain⟨x,rfl,⟨l1,xs,rfl,g1,n1,w1⟩⟩:=fT r1;obtain⟨v1,rfl,e1⟩:=vals1 rv;cases (show v1=Value.ref l1 from e1)
 obtain⟨its,_,p1,_⟩:=I1.list (cQ.of g1);refine call_enumerate_list p1.isList λh' y1 y2 y3 y4=>wpAny_pyIter_enum y1 ?_;have I2:Inv X pins σ H1 {s1 with heap:=h'}:=I1.kept (t':=s1.toks) y4
 refine⟨_,_,_,_,H1,rfl,I2,uX (Nat.succ_ne_self _),⟨⟨_,y1⟩,y2⟩,λb hb=>?_,q _ _ sm (yQ g1 n1 w1)⟩;have lP:s1.heap.objs.size<=b:=by
  simp only[Uc,VJ,or_false]at hb;rcases hb with rfl|rfl <;> first|exact Nat.le_add_right _ _|exact T4 _
 exact I1.zB lP (I1.bM.fresh lP)
end
end L2
namespace L2.Q
open PySem PySem.Spec PySem.SeqAt PyProof.Rows
def allB (β:bb):wW:=β.map λb=>match b with|some (.val _ d)=>some d|some (.own d)=>some d|_=>none
def DX (β:bb):wW:=β.map λb=>match b with|some (.val _ d)=>some d|_=>none
section
variable {P:T7}{w:Ur}{C:Cfg}{σ:St}{H:Hp}{β:bb}{own:Nat->List Addr}{i:Nat}
theorem bG.LK (s:bG P w C σ H β own):G3 P w (λ_=>False) σ H (allB β):=⟨λa z=>z.elim,λi d e=>by
 unfold allB at e;rw[T6]at e;cases q:β[i]? with
 |none=>rw[q]at e;cases e
 |some x =>
  rw[q]at e;cases x with
  |none=>cases e
  |some x =>
   cases x with
   |val y d'=>cases e;obtain⟨v,h1,h2⟩:=s.val i y d q;exact⟨v,h1,h2.aT λ_ z=>z.elim⟩
   |own d'=>cases e;obtain⟨v,h1,h2,_⟩:=s.ow i d q;exact⟨v,h1,h2.rep λ_ _ z=>z⟩
   |hand ok=>cases e
   |shl y d=>cases e⟩
theorem bG.LJ (s:bG P w C σ H β own):G3 P w (av C (Wn own) .old) σ H (DX β):=⟨s.F7 .old,λi d e=>by
 unfold DX at e;rw[T6]at e;cases q:β[i]? with
 |none=>rw[q]at e;cases e
 |some x =>
  rw[q]at e;cases x with
  |none=>cases e
  |some x =>
   cases x with
   |val y d'=>cases e;obtain⟨v,h1,h2⟩:=s.val i y d q;exact⟨v,h1,h2.aT λa z=>by cases y <;> first|exact .inl z|exact .inl (.inl z)⟩
   |own d'=>cases e
   |hand ok=>cases e
   |shl y d=>cases e⟩
end
section
variable {X:Cx}{C:Cfg}{e tg it:Expr}{φ:Gs}{ι:Gr}
theorem EB (h:PV X e φ):PQ X C true e (λβ R=>φ (allB β) λd=>d.flat=true/\R d .own β) :=
 ⟨λβ R R' k q=>h.mono _ _ _ (λd q=>⟨q.1,k _ _ _ q.2⟩) q,h.pe.pre λσ H Q BX=>by obtain⟨β,own,s,q⟩:=BX;exact tD.of h s.LK q λd v H1 yZ s1 r1=>by obtain⟨f,q⟩:=yZ;exact q v H1 own ((Out.refl s true).same s1) (KV.flat f r1)⟩
theorem A8 (h:PZ X tg it ι):rA X C true tg it (λβ R=>ι (DX β) λds=>R ds .old β) :=
 ⟨λβ R R' k q=>h.mono _ _ _ (λd q=>k _ _ _ q) q,h.pi.pre λσ H R BW=>by obtain⟨β,own,s,q⟩:=BW;exact⟨_,_,s.LJ,h.mono _ _ _ (λds q J H' s1 it=>q J H' own ((Out.refl s true).same s1) it) q⟩⟩
end
section
variable {P:T7}{w:Ur}{C:Cfg}{σ:St}{H:Hp}{β:bb}{own:Nat->List Addr}{i:Nat}{ok:List Int->Prop}{ns:List Int}
theorem mG:∀{ns:List Int} {vs:List V} {A:List Addr},aI P w H (ns.map D.int) vs A->vs=ns.map V.int/\A=[]
 |[],_,_,h=>h
 |n::ns,_,_,⟨v,r,A1,A2,e,eA,h1,h2⟩=>by
  obtain⟨rfl,rfl⟩:=mG h2;obtain⟨rfl,rfl⟩:=h1;exact⟨e,by rw[eA];rfl⟩
theorem bG.toHand (s:bG P w C σ H β own)(e:β[i]?=some (some (.own (.lst (ns.map D.int)))))(ho:ok ns)(io:∀b,¬ C.IO b):bG P w C σ H (β.set i (some (.hand ok))) own:=by
 obtain⟨v,h1,⟨a,vs,A',rfl,h2,h3,h4⟩,h5⟩:=s.ow i _ e;obtain⟨rfl,rfl⟩:=mG h4;refine⟨by simp[s.len],λj y d q=>?_,λj d q=>?_,λj sg q=>?_,s.dm,s.jr,s.jM,s.kp,s.gc,λj y d q=>by
  by_cases aF:i=j
  ·subst aF;obtain⟨e',_⟩:=a9 q;cases e'
  ·rw[aU aF]at q;exact s.shl j y d q⟩
 ·by_cases aF:i=j
  ·subst aF;obtain⟨e',_⟩:=a9 q;cases e'
  ·rw[aU aF]at q;exact s.val j y d q
 ·by_cases aF:i=j
  ·subst aF;obtain⟨e',_⟩:=a9 q;cases e'
  ·rw[aU aF]at q;exact s.ow j d q
 ·by_cases aF:i=j
  ·subst aF;obtain⟨e',_⟩:=a9 q;cases e';exact⟨a,ns,h1,h2,ho,h3,.inl io⟩
  ·rw[aU aF]at q;exact s.jl j sg q
end
section
variable {X:Cx}{C:Cfg}{e:Expr}{φ:a6}{p:Bool}{i:Nat}{x:Str}{pos pos' px ap cp:Pos}{ok:List Int->Prop}
theorem Bc (ok:List Int->Prop)(Nv:∀b,¬ C.IO b)(he:∀U,PQ X (C.u U) p e φ)(hN:X.N.Nodup)(hi:X.N[i]?=some x:=by rfl)(hx:Loc X.env.scope x:=by first|exact .inl rfl|exact .inr rfl)
  (hs:VI e (some (.Name x pos')) pos.line X.env=pure false:=by rfl) (hf:X.fn x=true\/X.env.scope.names.lookup x=some .local:=by first|exact .inl rfl|exact .inr rfl|assumption) :
  PB X C (.Assign [.Name x pos'] e pos) (λE β=>φ β λd k β'=>BN k d/\i<β'.length/\∃ns:List Int,d=.lst (ns.map D.int)/\ok ns/\E.nx (β'.set i (some (.hand ok)))):=by
 have B:=dQ (C:=C) (i:=i) (pos:=pos) (pos':=pos') he hN hi hx hs hf;refine⟨λE E' β l q=>(he λ_=>False).mono _ _ _ (λd k β' I9=>by obtain⟨f,h,ns,e,o,q⟩:=I9;exact⟨f,h,ns,e,o,l.nx _ q⟩) q,B.ps.pre λDe σ H ⟨Z,E,β,sb,q,sg⟩=>?_⟩
 refine⟨Z,{E with nx:=λβ'=>∃(ns:List Int) (β2:bb),i<β2.length/\β'=β2.set i (some (.own (.lst (ns.map D.int))))/\ok ns/\E.nx (β2.set i (some (.hand ok)))},β,sb,(he λ_=>False).mono _ _ _ (λd k β' Fx=>by obtain⟨f,h,ns,e,o,q⟩:=Fx;exact⟨f,ns,β',h,by rw[e],o,q⟩) q,⟨λσ' H' β' AS ⟨ns,β2,hl,e,o,q⟩=>?_,sg.rt,sg.bk,sg.ct⟩⟩
 subst e;obtain⟨own,s,n⟩:=AS;have:=s.toHand (i:=i) (ok:=ok) (get_set hl) o Nv;rw[V0]at this;exact sg.nx _ _ _ ⟨own,this,n⟩ q
theorem bG.putL {P:T7}{w:Ur}{σ:St}{H:Hp}{β:bb}{own:Nat->List Addr}{U U2:Addr->Prop}{ds ds':List D}{vs':List V}{a:Addr}{vs:List V}{A A':List Addr}(s:bG P w (C.u U) σ H β own)(e:β[i]?=some (some (.own (.lst ds))))(h1:σ[i]?=some (some (.ref a)))(h2:H a=some (.lst vs))(h3:own i=a::A)
  (r:aI P w H ds' vs' A') (nd:A'.Nodup) (hA:∀c∈A',c∈A\/(C.H0 c=none/\¬ Wn own c/\U c)) (hU:∀a,U2 a->U a) (NP:∀c∈A',c∉A->¬ U2 c) :
  bG P w (C.u U2) σ (upd H a (.lst vs')) (β.set i (some (.own (.lst ds')))) (aG own i (a::A'))/\∀c∈a::A',c∈own i\/(C.H0 c=none/\¬ Wn own c/\U c):=by
 have ha:a∈own i:=by rw[h3];simp
 have nA:a∉A:=by have:=s.jM i;rw[h3]at this;exact(UM.mp this).1
 have na:∀c∈A',c≠a:=λc hc z=>by
  subst z;rcases hA c hc with z|z
  ·exact nA z
  ·exact z.2.1 ⟨i,ha⟩
 have kt:∀b xs,H b=some (.tup xs)->upd H a (.lst vs') b=some (.tup xs):=λb xs z=>by rw[aw (λz'=>by rw[z',h2]at z;cases z)];exact z
 have PH:∀c∈a::A',c∈own i\/(C.H0 c=none/\¬ Wn own c/\U c):=λc hc=>by
  rcases Uc.mp hc with rfl|hc
  ·exact .inl ha
  ·exact(hA c hc).imp (λz=>by rw[h3];simp[z]) id
 refine⟨s.HH e h1 ha ⟨a,vs',A',rfl,ar,rfl,r.keep kt λc hc oc ec=>by rw[aw (na c hc)];exact ec⟩ (UM.mpr ⟨λz=>na a z rfl,nd⟩) PH hU (λc hc z=>?_),PH⟩
 rcases Uc.mp hc with rfl|hc
 ·exact(s.dm i c ha).2.2.2 (hU c z)
 ·by_cases q:c∈A
  ·exact(s.dm i c (by rw[h3];simp[q])).2.2.2 (hU c z)
  ·exact NP c hc q z
theorem yo {own:Nat->List Addr}{i:Nat}{A':List Addr}(h:∀c∈A',c∈own i):∀c,Wn (aG own i A') c->Wn own c:=λc Rq=>by
 obtain⟨j,hj⟩:=Rq
 by_cases aF:i=j
 ·rw[<- aF,os_eq]at hj;exact⟨i,h c hj⟩
 ·rw[bg aF]at hj;exact⟨j,hj⟩
theorem ED {P:T7}{w:Ur}{H:Hp}{own:Nat->List Addr}{Z:Hp×(Addr->Prop)}{d:D}{v:V}{A:List Addr}(r:Own P w H d v A)(h:∀c∈A,¬ Wn own c/\C.H0 c=none):KV P w C Z own H (sk .cF d) d v:=by
 have q:aA P w (av C (Wn own) .cF) H d v:=r.rep λc hc z=>z.elim (h c hc).1 λz=>z (h c hc).2;cases d with
 |int i=>exact KV.flat rfl q
 |bl i=>exact KV.flat rfl q
 |cE=>exact KV.flat rfl q
 |str i=>exact KV.flat rfl q
 |_=>exact q
theorem aI.concat {P:T7}{w:Ur}{H:Hp}{ds:List D}{d:D}{vs:List V}{A:List Addr}(h:aI P w H (ds++[d]) vs A):∃us v A1 A2,vs=us++[v]/\A=A1++A2/\aI P w H ds us A1/\Own P w H d v A2:=by
 obtain⟨v,A1,A2,A3,g1,g2,g3,g4,g5⟩:=h.split (i:=ds.length) (d:=d) (by simp)
 rw[List.take_left]at g3;have e3:aI P w H [] (vs.drop (ds.length+1)) A3:=by simpa using g5
 have hl:=h.length;rw[Ui,V5]at hl;refine⟨vs.take ds.length,v,A1,A2,?_,by rw[g2,e3.2,Vo],g3,g4⟩
 have d8:ds.length<vs.length:=by lia
 have e1:vs=vs.take ds.length++vs.drop ds.length:=(VN _ _).symm;rw[Vy d8,e3.1]at e1;have:vs[ds.length]=v:=by
  have:=T5 d8;rw[g1]at this;exact(UD this).symm
 rw[this]at e1;exact e1
theorem EA (hN:X.N[i]?=some x:=by rfl)(hv:lT X.env.scope x:=by first|exact .inl rfl|exact .inr (.inl rfl)|exact .inr (.inr rfl))(hd:(x==("__debug__" : Str))=false:=by decide)(dJ:(x==("__classdict__" : Str))=false:=by decide)
  (eM:Wi (.Name x px) "pop" X.env (eval (.Name x px) X.env)=eval (.Name x px) X.env:=by rfl) (eL:(ap.endLine==cp.line)=true:=by rfl) :
  PQ X C false (.Call (.Attribute (.Name x px) "pop" ap) [] [] cp) (λβ R=>∃ds d,β[i]?=some (some (.own (.lst (ds++[d]))))/\R d (sk .cF d) (β.set i (some (.own (.lst ds))))) :=
 ⟨λβ R R' k IY=>by obtain⟨ds,d,h1,q⟩:=IY;exact⟨ds,d,h1,k _ _ _ q⟩,(EE (apos:=ap) (cpos:=cp) PySem.F.plainAttrs_list PySem.F.slot_list_pop PySem.F.type_list_pop EZ (br (pos:=px) hN hv hd dJ) eM eL).pre λσ H Q zc=>by
  obtain⟨β,own,s,ds,d,hb,q⟩:=zc;obtain⟨a,vs,A,h1,h2,h3,h4⟩:=s.qc hb;obtain⟨us,v,A1,A2,rfl,rfl,g3,g4⟩:=h4.concat;have nd:=s.jM i;rw[h3]at nd;obtain⟨BD,EV,H_⟩:=U9.mp (UM.mp nd).2;obtain⟨s2,hA⟩:=s.putL (C:=C) (U:=C.U) (U2:=C.U) (ds':=ds) (vs':=us) (A':=A1) hb h1 h2 h3 g3 BD (λc hc=>.inl (by simp[hc])) (λ_ z=>z) (λc hc n=>absurd (by simp[hc]) n)
  have h0:∀c∈own i,C.H0 c=none:=by obtain⟨_,_,_,h⟩:=s.ow i _ hb;exact h
  have kt:∀b xs,H b=some (.tup xs)->upd H a (.lst us) b=some (.tup xs):=λb xs z=>by rw[aw (λz'=>by rw[z',h2]at z;cases z)];exact z
  have na:∀c∈A2,c≠a:=λc hc z=>(UM.mp nd).1 (by rw[<- z];simp[hc])
  have le:∀c,Wn (aG own i (a::A1)) c->Wn own c:=yo λc hc=>by rw[h3];rcases Uc.mp hc with rfl|hc <;> simp[*]
  refine⟨.ref a,h1,.inl ⟨rfl,_,cQ.of h2⟩,a,_,v,rfl,rfl,h2,by simp,?_⟩
  rw[List.dropLast_concat];refine q v _ _ ⟨s2,?_,λz=>(nomatch z),le⟩ (ED (C:=C) (g4.keep kt λc hc oc ec=>by rw[aw (na c hc)];exact ec) λc hc=>⟨λ⟨j,hj⟩=>?_,h0 c (by rw[h3];simp[hc])⟩)
  ·have u:=Sn.upd (Z:=(H,Wn own)) (o':=.lst us) (Sn.refl (H:=H) (W:=Wn own)) h2 (λxs z=>by cases z) ⟨i,by rw[h3];simp⟩
   exact⟨λb z=>.inl (le b z),u.k,u.d⟩
  ·by_cases aF:i=j
   ·rw[<- aF,os_eq]at hj;rcases Uc.mp hj with rfl|hj
    ·exact na _ hc rfl
    ·exact H_ _ hj _ hc rfl
   ·rw[bg aF]at hj;exact aF (s.jr i j c (by rw[h3];simp[hc]) hj)⟩
end
section
variable {X:Cx}{C:Cfg}{e k:Expr}{φ:a6}{p:Bool}{i:Nat}{x:Str}{pos px ap cp:Pos}
theorem Fj {n:Nat}{j:Int}{k:Nat}(h:rl n j=some k):k<n:=by
 unfold rl at h
 by_cases h0:0<=j
 ·rw[if_pos h0]at h
  by_cases h1:j<n
  ·rw[if_pos h1]at h;cases h;lia
  ·rw[if_neg h1]at h;cases h
 ·rw[if_neg h0]at h
  by_cases h1:-(n:Int)<=j
  ·rw[if_pos h1]at h;cases h;lia
  ·rw[if_neg h1]at h;cases h
theorem AI {Z:Hp×(Addr->Prop)}{H:Hp}{own:Nat->List Addr}{a:Addr}{o oa:HO}{A':List Addr}{U:Addr->Prop}(n:Sn Z H (Wn own))(m:∀a,U a->Z.1 a=none)(h2:H a=some oa)(ht:∀xs,oa≠.tup xs)(ha:Wn own a)(hA:∀c∈A',c∈own i\/(C.H0 c=none/\¬ Wn own c/\U c)):Sn Z (upd H a o) (Wn (aG own i A')) :=
 gC n m ha ⟨oa,h2,ht⟩ hA
theorem vw (he:PQ X C.z p e φ)(hN:X.N[i]?=some x:=by rfl)(hv:lT X.env.scope x:=by first|exact .inl rfl|exact .inr (.inl rfl)|exact .inr (.inr rfl))(hd:(x==("__debug__" : Str))=false:=by decide)(dJ:(x==("__classdict__" : Str))=false:=by decide)
  (eM:Wi (.Name x px) "extend" X.env (eval (.Name x px) X.env)=eval (.Name x px) X.env:=by rfl)
  (oz:((VT cp (Up [e] X.env)).all (λx=>!x.1)&&(Yx cp (XA [] X.env)).all (λx=>x.1.isSome)&&decide ([e].length+([]:List W4).length+(if ([]:List W4).isEmpty then 0 else 1)<30))=true:=by rfl)
  (eL:(ap.endLine==cp.line)=true:=by rfl) (hs:Up [e] X.env=(false,eval e X.env)::Up [] X.env:=by rfl) (e_:(VT cp (Up [] X.env)).any (·.1)=false:=by rfl)
  (oS:VI (.Call (.Attribute (.Name x px) "extend" ap) [e] [] cp) none pos.line X.env=pure false:=by rfl) :
  PB X C (.Expr (.Call (.Attribute (.Name x px) "extend" ap) [e] [] cp) pos) (λE β=>(∃ds,β[i]?=some (some (.own (.lst ds))))/\φ β λd _ β'=>∃ds es,d=.lst es/\D.bW es=true/\β'[i]?=some (some (.own (.lst ds)))/\ds.length+es.length<=Ul/\E.nx (β'.set i (some (.own (.lst (ds++es)))))):=by
 refine⟨λE E' β l Fx=>by obtain⟨h1,q⟩:=Fx;exact⟨h1,he.mono _ _ _ (λd k β' MP=>by obtain⟨ds,es,h1,h2,h3,h4,q⟩:=MP;exact⟨ds,es,h1,h2,h3,h4,l.nx _ q⟩) q⟩,
  (jE (pos:=pos) (t8 (apos:=ap) (cpos:=cp) PySem.F.plainAttrs_list PySem.F.slot_list_extend PySem.F.type_list_extend vE (br (pos:=px) hN hv hd dJ) (bu he.pe cO hs) eM oz eL hs e_) oS).pre λD σ H ⟨Z,E,β,⟨own,s0,n⟩,⟨⟨PR,GL⟩,q⟩,ok⟩=>?_⟩
 obtain⟨a0,Td,A0,z1,z2,z3,z4⟩:=s0.qc GL;refine⟨.ref a0,z1,.inl ⟨rfl,_,cQ.of z2⟩,tQ.of he s0 q λd kk β' v H1 aE ⟨ds,es,e1,f,hb,hl,q⟩ o r=>?_⟩;subst e1;obtain⟨b,us,rfl,K_,_,rb⟩:=r.rep;obtain⟨a,vs,A,h1,h2,h3,h4⟩:=o.sq.qc hb;rw[z1]at h1;cases h1;have nd:=o.sq.jM i;rw[h3]at nd;obtain⟨s2,hA⟩:=o.sq.putL (C:=C) (U:=λ_=>False) (U2:=λ_=>False) (ds':=ds++es) (vs':=vs++us) (A':=A) hb z1 h2 h3 (by simpa using h4.append (f6 f rb)) (UM.mp nd).2 (λc hc=>.inl hc) (λ_ z=>z) (λc hc n=>absurd hc n)
 exact⟨a0,b,vs,us,rfl,rfl,h2,K_,by rw[h4.length,rb.length];exact hl,ok.nx _ _ _ ⟨_,s2,AI (n.trans o.sn) (λ_ z=>z.elim) h2 (λxs z=>by cases z) ⟨i,by rw[h3];simp⟩ hA⟩ q⟩
end
end L2.Q
namespace L2
open PySem PySem.Spec PySem.SeqAt PyProof.Rows
section
end
namespace Q
section
variable {P:T7}{w:Ur}{C:Cfg}{σ:St}{H:Hp}{β:bb}{own:Nat->List Addr}{lk:List (Option Nat)}{a:Addr}
theorem bG.F4 {o:HO}(ho:∀xs,o≠.tup xs)(s:bG P w C σ H β own)(ha:H a=none)(inj:∀(i i' j:Nat),lk[i]?=some (some j)->lk[i']?=some (some j)->i=i'):
  bG P w (C.u λc=>c=a) (c5 lk σ) (upd H a o) (b8 lk β) (bo lk β own):=by
 have h0:C.H0 a=none:=UJ λz=>s.gc a z ha;have q:=(s.enter ha inj).AO (o:=o) ar (λxs z=>by cases z) h0
 have e:upd (upd H a (.lst [])) a o=upd H a o:=by
  funext b
  by_cases hb:b=a
  ·rw[hb,ar,ar]
  ·rw[aw hb,aw hb,aw hb]
 rwa [e]at q
end
section
end
end Q
end L2
namespace L2.Q
open PySem PySem.Spec PySem.SeqAt PyProof.Rows
abbrev Im (l:Bool)(ds:List D):D:=match l with|true=>.lst ds|false=>.tup ds
section
variable {P:T7}{w:Ur}{H:Hp}{A:List Addr}{v:V}{ds:List D}{l:Bool}
theorem gX {m:Nat}{es:List D}(r:Own P w H (Im l ds) v A)(nd:A.Nodup)(hm:ds[m]?=some (.lst es)):∃a vs c us B,v=.ref a/\H a=some (match l with|true=>.lst vs|false=>.tup vs)/\vs.length=ds.length/\vs[m]?=some (.ref c)/\H c=some (.lst us)/\c∈A/\aI P w H es us B/\(∀x∈B,x∈A/\x≠c)/\B.Nodup /\
  ∀dX rH B',aI P w H dX rH B'->B'.Nodup->(∀x∈B',x∈B\/x∉A)->(∀x∈B',x≠c)->∃A',Own P w (upd H c (.lst rH)) (Im l (ds.set m (.lst dX))) v A'/\A'.Nodup/\∀x∈A',x∈A\/x∈B':=by
 have core:∀{vs:List V} {A:List Addr},A.Nodup->aI P w H ds vs A->∃c us B,vs[m]?=some (.ref c)/\H c=some (.lst us)/\c∈A/\aI P w H es us B/\(∀x∈B,x∈A/\x≠c)/\B.Nodup /\
   ∀dX rH B',aI P w H dX rH B'->B'.Nodup->(∀x∈B',x∈B\/x∉A)->(∀x∈B',x≠c)->∃A',aI P w (upd H c (.lst rH)) (ds.set m (.lst dX)) vs A'/\A'.Nodup/\(∀x∈A',x∈A\/x∈B'):=λ{vs A} nd os=>by
  have hl:=os.length;have RF:m<ds.length:=(Ua.mp hm).1;obtain⟨u,A1,A2,A3,g1,rfl,g3,⟨c,us,B,rfl,h2,rfl,h4⟩,g5⟩:=os.split hm;obtain⟨BD,EV,H_⟩:=U9.mp nd;obtain⟨OV,QQ,OU⟩:=U9.mp EV;have QT:=(UM.mp OV).1;refine⟨c,us,B,g1,h2,by simp,h4,λx hx=>⟨by simp[hx],λz=>QT (by rw[<- z];exact hx)⟩,(UM.mp OV).2,λdX rH B' o' n' lP qk=>?_⟩
  have kt:∀b xs,H b=some (.tup xs)->upd H c (.lst rH) b=some (.tup xs):=λb xs z=>by rw[aw (λz'=>by rw[z',h2]at z;cases z)];exact z
  have n1:∀x∈A1,x≠c:=λx hx z=>H_ x hx c (by simp) z
  have n3:∀x∈A3,x≠c:=λx hx z=>OU c (by simp) x hx z.symm
  have off:∀x∈B',x∉A1/\x∉A3:=λx hx=>by
   rcases lP x hx with z|z
   ·exact⟨λq=>H_ x q x (by simp[z]) rfl,λq=>OU x (by simp[z]) x q rfl⟩
   ·exact⟨λq=>z (by simp[q]),λq=>z (by simp[q])⟩
  have K3:m<vs.length:=by lia
  have ev:vs=vs.take m++V.ref c::vs.drop (m+1):=by
   have e1:vs=vs.take m++vs.drop m:=(VN _ _).symm;rw[Vy K3]at e1;have:vs[m]=V.ref c:=by
    have:=T5 K3;rw[g1]at this;exact(UD this).symm
   rwa [this]at e1
  refine⟨A1++((c::B')++A3),?_,U9.mpr ⟨BD,U9.mpr ⟨UM.mpr ⟨λz=>qk c z rfl,n'⟩,QQ,λx hx y hy=>?_⟩,λx hx y hy z=>?_⟩,λx hx=>?_⟩
  ·rw[Wu,if_pos RF];have q:aI P w (upd H c (.lst rH)) (ds.take m++.lst dX::ds.drop (m+1)) (vs.take m++.ref c::vs.drop (m+1)) (A1++((c::B')++A3)) :=
    (g3.keep kt λx hx oc ec=>by rw[aw (n1 x hx)];exact ec).append ⟨.ref c,_,c::B',A3,rfl,rfl,⟨c,rH,B',rfl,ar,rfl,o'.keep kt λx hx oc ec=>by rw[aw (qk x hx)];exact ec⟩,g5.keep kt λx hx oc ec=>by rw[aw (n3 x hx)];exact ec⟩
   rw[<- ev]at q;exact q
  ·intro z;subst z;rcases Uc.mp hx with rfl|hx
   ·exact n3 _ hy rfl
   ·exact(off x hx).2 hy
  ·subst z;rcases Uq.mp hy with hy|hy
   ·rcases Uc.mp hy with rfl|hy
    ·exact n1 _ hx rfl
    ·exact(off x hy).1 hx
   ·exact H_ x hx x (by simp[hy]) rfl
  ·rcases Uq.mp hx with hx|hx
   ·exact .inl (by simp[hx])
   ·rcases Uq.mp hx with hx|hx
    ·rcases Uc.mp hx with rfl|hx
     ·exact .inl (by simp)
     ·exact .inr hx
    ·exact .inl (by simp[hx])
 cases l with
 |true =>
  obtain⟨a,vs,A',rfl,h2,rfl,h4⟩:=r;obtain⟨na,QS⟩:=UM.mp nd;obtain⟨c,us,B,q1,q2,q3,q4,q5,q6,q7⟩:=core QS h4;have ca:c≠a:=λz=>na (by rw[<- z];exact q3)
  refine⟨a,vs,c,us,B,rfl,h2,h4.length,q1,q2,by simp[q3],q4,λx hx=>⟨by simp[(q5 x hx).1],(q5 x hx).2⟩,q6,λdX rH B' o' n' lP qk=>?_⟩
  obtain⟨A2,g1,g2,g3⟩:=q7 dX rH B' o' n' (λx hx=>(lP x hx).imp id λz q=>z (by simp[q])) qk
  refine⟨a::A2,⟨a,vs,A2,rfl,by rw[aw ca.symm];exact h2,rfl,g1⟩,UM.mpr ⟨λz=>?_,g2⟩,λx hx=>?_⟩
  ·rcases g3 a z with z|z
   ·exact na z
   ·rcases lP a z with z|z
    ·exact na (q5 a z).1
    ·exact z (by simp)
  ·rcases Uc.mp hx with rfl|hx
   ·exact .inl (by simp)
   ·exact(g3 x hx).imp (λz=>by simp[z]) id
 |false =>
  obtain⟨a,vs,rfl,h2,h4⟩:=r;obtain⟨c,us,B,q1,q2,q3,q4,q5,q6,q7⟩:=core nd h4;have ca:a≠c:=λz=>by rw[z,q2]at h2;cases h2
  refine⟨a,vs,c,us,B,rfl,h2,h4.length,q1,q2,q3,q4,q5,q6,λdX rH B' o' n' lP qk=>?_⟩;obtain⟨A2,g1,g2,g3⟩:=q7 dX rH B' o' n' lP qk;exact⟨A2,⟨a,vs,rfl,by rw[aw ca];exact h2,g1⟩,g2,g3⟩
end
section
variable {X:Cx}{C:Cfg}{e k:Expr}{φ φk:a6}{i:Nat}{x:Str}{pos px kp ap cp:Pos}
theorem jf (l:Bool)(he:∀U,PQ X (C.u U) true e φ)(hk:∀U,PQ X (C.u U) true k φk)(hN:X.N[i]?=some x:=by rfl)(hv:lT X.env.scope x:=by first|exact .inl rfl|exact .inr (.inl rfl)|exact .inr (.inr rfl))(hd:(x==("__debug__" : Str))=false:=by decide)(dJ:(x==("__classdict__" : Str))=false:=by decide)
  (FU:jU k:=by exact λ_ _=>rfl)
  (eM:Wi (.Subscript (.Name x px) k kp) "append" X.env (eval (.Subscript (.Name x px) k kp) X.env)=eval (.Subscript (.Name x px) k kp) X.env:=by rfl)
  (oz:((VT cp (Up [e] X.env)).all (λx=>!x.1)&&(Yx cp (XA [] X.env)).all (λx=>x.1.isSome)&&decide ([e].length+([]:List W4).length+(if ([]:List W4).isEmpty then 0 else 1)<30))=true:=by rfl)
  (eL:(ap.endLine==cp.line)=true:=by rfl) (hs:Up [e] X.env=(false,eval e X.env)::Up [] X.env:=by rfl) (e_:(VT cp (Up [] X.env)).any (·.1)=false:=by rfl)
  (oS:VI (.Call (.Attribute (.Subscript (.Name x px) k kp) "append" ap) [e] [] cp) none pos.line X.env=pure false:=by rfl) :
  PB X C (.Expr (.Call (.Attribute (.Subscript (.Name x px) k kp) "append" ap) [e] [] cp) pos) (λE β=>(∃d0,β[i]?=some (some (.own d0)))/\φk β λjd _ β1=>∃ds j m es,jd=.int j/\β1[i]?=some (some (.own (Im l ds)))/\rl ds.length j=some m/\ds[m]?=some (.lst es)/\φ β1 λd kd β2=>BN kd d/\β2[i]?=some (some (.own (Im l ds)))/\es.length<Ul/\E.nx (β2.set i (some (.own (Im l (ds.set m (.lst (es++[d]))))))) ):=by
 refine⟨λE E' β l JJ=> by obtain⟨q0,q⟩ := JJ;exact⟨q0,(hk λ_=>False).mono _ _ _ (λjd _ β1 JI=> by obtain⟨ds,j,m,es,h1,h2,h3,h4,q⟩ := JI;exact⟨ds,j,m,es,h1,h2,h3,h4,(he λ_=>False).mono _ _ _ (λd kd β2 JH=> by obtain⟨g1,g2,g3,q⟩ := JH;exact⟨g1,g2,g3,l.nx _ q⟩) q⟩) q⟩,λpins s σ H De I ⟨Z,E,β,⟨own,sq,n⟩,⟨⟨d0,Px⟩,q⟩,ok⟩=>?_⟩
 have ix:DJ X (λx y H Q=>Hz X.K x y H Q\/Hw X.K x y H Q):=λvalue slice pins s σ H x y v u Q I rx ry h hs=>h.elim (λh=>cX value slice pins s σ H x y v u Q I rx ry h hs) λh=>yO value slice pins s σ H x y v u Q I rx ry h hs;refine jE (pos:=pos) (t8 (apos:=ap) (cpos:=cp) PySem.F.plainAttrs_list PySem.F.slot_list_append PySem.F.type_list_append f9 (gn (pos:=kp) ix (br (pos:=px) hN hv hd dJ) (hk λa=>H a=none).pe FU) (bu (he λa=>H a=none).pe cO hs) eM oz eL hs e_) oS pins s σ H De I ?_;have Qv:=sq.gP (C:=C.z) (U:=λa=>H a=none) λa z=>z;obtain⟨v0,BV,_,_⟩:=sq.ow i d0 Px;refine⟨v0,BV,tQ.of (hk λa=>H a=none) Qv q λjd kk β1 kv H1 aE ⟨ds,j,m,es,e1,hb,hj,hm,q⟩ o r=>?_⟩;subst e1;cases r.rep;obtain⟨v,IQ,ow,h0⟩:=o.sq.ow i _ hb;rw[BV]at IQ;cases IQ;obtain⟨a,vs,c,us,B,rfl,q1,q2,q3,q4,q5,q6,q7,q8,q9⟩:=gX ow (o.sq.jM i) hm;have G1:jB vs j=some (.ref c):=by unfold jB;rw[q2,hj];exact q3
 have OP:KD X.K "list" (.ref c) H1/\CK (tQ X (C.u λa=>H a=none) true φ) Hf σ H1 λxs H2=>tO (.ref c) xs H2 λ_ H1=>De.nx σ H1:=by
  refine⟨.inl ⟨rfl,us,cQ.of q4⟩,tQ.of (he λa=>H a=none) o.sq q λd kd β2 v2 H2 bI ⟨f,K9,hl,q⟩ o2 r2=>?_⟩;obtain⟨s2,e2⟩:=o2.pu rfl;obtain⟨v',Pb,Me,TN⟩:=o2.sq.ow i _ K9;rw[BV]at Pb;cases Pb;obtain⟨a',vs',c',rH,B',ea,p1,p2,p3,p4,p5,p6,p7,p8,p9⟩:=gX Me (o2.sq.jM i) hm;cases ea;have e3:=s2 _ _ q1;rw[p1]at e3;have ev:vs'=vs:=by cases l <;> (cases e3;rfl)
  subst ev;rw[q3]at p3;cases p3;have e4:=s2 _ _ q4;rw[p4]at e4;cases e4;obtain⟨A,r1,rn,r3⟩:=r2.fl f;have ES:∀x∈A,x∉bI i:=λx hx z=>(r3 x hx).2.1 ⟨i,z⟩;obtain⟨A',g1,g2,g3⟩:=p9 (es++[d]) (us++[v2]) (B'++A) (p6.append (aI.one r1)) (U9.mpr ⟨p8,rn,λx hx y hy z=>ES y hy (by rw[<- z];exact(p7 x hx).1)⟩)
   (λx hx=>(Uq.mp hx).imp id (ES x)) (λx hx z=>by
    rcases Uq.mp hx with hx|hx
    ·exact(p7 x hx).2 z
    ·exact ES x hx (by rw[z];exact p5))
  have hA:∀x∈A',x∈bI i\/(C.H0 x=none/\¬ Wn bI x/\H x=none):=λx hx=>by
   rcases g3 x hx with z|z
   ·exact .inl z
   ·rcases Uq.mp z with z|z
    ·exact .inl (p7 x z).1
    ·exact .inr ⟨(r3 x z).2.2,(r3 x z).2.1,o.sn.free (r3 x z).1⟩
  exact⟨c,us,v2,rfl,rfl,p4,by rw[p6.length];exact hl,ok.nx _ _ _ ⟨_,o2.sq.putIn (C:=C) (U:=λa=>H a=none) K9 BV p5 g1 g2 hA,gC ((n.trans o.sn).trans o2.sn) (λb z=>n.free z) ⟨i,p5⟩ ⟨_,p4,λxs z=>by cases z⟩ hA⟩ q⟩
 cases l with
 |true=>exact .inl ⟨a,vs,j,.ref c,rfl,rfl,cQ.of q1,G1,OP⟩
 |false=>exact .inr ⟨a,vs,j,.ref c,rfl,rfl,uS.of q1,G1,OP⟩
end
end L2.Q
namespace L2
open PySem PySem.Spec PySem.SeqAt PyProof.Rows
structure Bs2 (mg:Str->Option TY):Prop extends Bs mg where
 Rb:mg "isinstance" = none
 tuple:mg "tuple" = none
 str:mg "str" = none
 bool:mg "bool" = none
 zip:mg "zip" = none
 enumerate:mg "enumerate" = none
theorem lF {d:D}{n:Nat}(h:d.pd.canLay0=true/\d.pd.depth<=n)(hn:n<=64:=by decide):Dz d d=some (.bl false):=oD (c9 h hn) (c9 h hn) (eqv_refl _ h.1)
end L2
namespace L2.Q
open PySem PySem.Spec PySem.SeqAt PyProof.Rows
structure mm (X:Cx)(C:Cfg)(p:Bool)(ifs:List Expr)(τ:a5):Prop where
 mono:∀β R R',(∀d β,R d β->R' d β)->τ β R->τ β R'
 pt:q_ X ifs (ij X C p τ)
theorem bJ {X:Cx}{C:Cfg}:mm X C true [] G8:=⟨λ_ _ _ k h=>k _ _ h,yc⟩
theorem nE {X:Cx}{C:Cfg}{p:Bool}{c:Expr}{τ:a5}(h:wJ X C p c τ):mm X C p [c] τ:=⟨h.mono,x_ h⟩
section
variable {X:Cx}{C:Cfg}{lk:List (Option Nat)}{γ:c6}{τ:a5}{φ:a6}{T:List Nat}{pc pe pi:Bool}{scope:Wg}{N':List Str}{tg bS elt:Expr}{ifs:List Expr}{ι:bX}{pos pos' pq:Pos}{y:Str}{i:Nat}
theorem C4 (N':List Str)(lk:List (Option Nat))(L:eY X.env.scope.names X.N scope N' lk=true)(lQ:N'.Nodup)(hc:X.calm=true)(hi:rA X C pi tg bS ι)
  (ll:∀U cl c s H ex,tj (aB X scope N' cl c s H ex) (C.u U) tg T γ) (fM:∀U cl c s H ex,mm (aB X scope N' cl c s H ex) (C.u U) pc ifs τ) (jm:∀U cl c s H ex,PQ (aB X scope N' cl c s H ex) (C.u U) pe elt φ)
  (hT:T.all (λi=>match lk[i]? with|some (some _)=>false|_=>true)=true:=by rfl) (hs:∀x,UU bS X.env x=pure x:=by intro _;rfl):PQ X C (pi&&(pc&&pe)) (.ListComp elt [⟨tg,bS,ifs,0⟩] scope pos) (pI lk ι γ τ φ) :=
 CP (Links.of L) lQ hT hc hi (λa=>ll _) (λa cl c s H ex=>(fM _ cl c s H ex).pt) (fM (λ_=>False) [] 0 X.s₀ X.H₀ []).mono (λa=>jm _) (ll (λ_=>False) [] 0 X.s₀ X.H₀ []).mono (jm (λ_=>False) [] 0 X.s₀ X.H₀ []).mono hs
theorem xO (o:Bool)(N':List Str)(lk:List (Option Nat))(L:eY X.env.scope.names X.N scope N' lk=true)(lQ:N'.Nodup)(hc:X.calm=true)(hi:∀U,rA X (C.u U) pi tg bS ι)
  (ll:∀U cl c s H ex,tj (aB X scope N' cl c s H ex) (C.u U) tg T γ) (fM:∀U cl c s H ex,mm (aB X scope N' cl c s H ex) (C.u U) pc ifs τ) (jm:∀U cl c s H ex,PQ (aB X scope N' cl c s H ex) (C.u U) pe elt φ)
  (hN:X.N.Nodup) (hT:T.all (λi=>match lk[i]? with|some (some _)=>false|_=>true)=true:=by rfl) (hy:X.N[i]?=some y:=by rfl) (hx:Loc X.env.scope y:=by first|exact .inl rfl|exact .inr rfl) (hf:X.fn y=true\/X.env.scope.names.lookup y=some .local:=by first|exact .inl rfl|exact .inr rfl|assumption)
  (oS:VI (.ListComp elt [⟨tg,bS,ifs,0⟩] scope pos) (some (.Name y pos')) pq.line X.env=pure true:=by rfl)
  (FX:evalThenUse (.ListComp elt [⟨tg,bS,ifs,0⟩] scope pos) X.env (assign (.Name y pos') X.env)=(do let _ <- comprehension (.ListComp elt [⟨tg,bS,ifs,0⟩] scope pos) scope X.env (firstIterPos [⟨tg,bS,ifs,0⟩] pos) (newList []) false (eval bS X.env) (some (assign (.Name y pos') X.env));pure ()):=by first|rfl|exact arm_evalThenUse_ListComp ..)
  (hs:∀x,UU bS X.env x=pure x:=by intro _;rfl) :
  PB X C (.Assign [.Name y pos'] (.ListComp elt [⟨tg,bS,ifs,0⟩] scope pos) pq) (λE β=>pI lk ι γ τ φ β λd _ β'=>E.nx (β'.set i (some (match o with|true=>.own d|false=>.val true d)))) :=
 HJ (K:=λ_ _ _=>True) (Links.of L) lQ hT hc hi ll (λU cl c s H ex=>(fM U cl c s H ex).pt) (fM (λ_=>False) [] 0 X.s₀ X.H₀ []).mono jm (ll (λ_=>False) [] 0 X.s₀ X.H₀ []).mono (jm (λ_=>False) [] 0 X.s₀ X.H₀ []).mono o hN hy hx hf oS FX hs
theorem bh:DJ X (xQ X lS NF):=λvalue slice pins s σ H x y v u Q I rx ry ⟨W,d1,d2,d,hd,r1,r2,e,q⟩ hs =>
 Fi value slice pins s σ H x y v u Q I rx ry ⟨W,d1,d2,d,hd,r1,r2,e,λv H' s r=>q v H' s r λf=>aA.flat f r⟩ hs
end
section
variable {P:T7}{w:Ur}{K:PySem.W.Frag}{mg:Str->Option TY}{base:Heap}{k:Nat}{f:Addr}{fd:UW}{ps:List Str}
def qI:FD:=λds R=>∃c:Int,ds=[.int c]/\∀ns,fq ns->R (.lst (ns.map D.int))
theorem qI.mono:d9 qI:=λds R R' k ⟨c,e,q⟩=>⟨c,e,λns o=>k _ (q ns o)⟩
theorem F0 (G:aR P w K mg base cj k f fd ps xB):aR P w K mg base cj k f fd ps (ik P w true qI):=G.imp λvs H Q E h=>by
 obtain⟨ds,r,c,rfl,q⟩:=h;obtain⟨x,rr,rfl,hx,hr⟩:=r;cases (show rr=[] from hr)
 cases (show x=V.int c from hx)
 refine⟨c,rfl,λp H' hp hd sm=>?_⟩;obtain⟨ns,e,o⟩:=hd.ok;have rep:∀ns:List Int,aI P w H' (ns.map D.int) (ns.map V.int) []:=λns=>by
  induction ns with
  |nil=>exact⟨rfl,rfl⟩
  |cons n ns ih=>exact⟨_,_,[],[],rfl,rfl,⟨rfl,rfl⟩,ih⟩
 exact q ns o _ H' sm ⟨[p],⟨p,_,[],rfl,e,rfl,rep ns⟩,by simp,λc hc=>by rw[T_.mp hc];exact hp⟩
theorem iu {ro:Bool}(G:aR P w K mg base cj k f fd ps xx):aR P w K mg base cj k f fd ps (fB P w fq ro bC):=G.imp λvs H Q E h=>by
 obtain⟨h,vs',ds,ns,rfl,e,o,r,n,rfl,n1,n2,q⟩:=h;obtain⟨x,rr,rfl,hx,hr⟩:=r;cases (show rr=[] from hr)
 cases (show x=V.int n from hx)
 refine⟨h,n,rfl,o.hand e,n1,n2,λr H' r0 r1 hd fm=>?_⟩;obtain⟨n_,e',o'⟩:=hd.ok;refine q r r0 r1 _ H' n_ ⟨λb u hb nb=>fm b u hb nb,λb xs hb=>fm b _ hb λz=>by rw[z,e]at hb;cases hb⟩ (λc hc z=>?_) e' o' (eI (W:=λ_=>False) rfl rfl)
 by_cases qj:c=h
 ·rw[qj,e']at z;cases z
 ·cases q:H c with
  |none=>exact hc q
  |some u=>rw[fm c u q qj]at z;cases z
end
end L2.Q
namespace jw
open PySem L2 L2.Q
section
variable (K:PySem.W.Frag)(mg:Str->Option TY)(f:Addr)(fd:UW)
abbrev D0:Prop:=Df K mg "_law_arcs" eW ["hand","many"] f fd
abbrev D1:Prop:=Df K mg "_law_take" du ["hand","many"] f fd
abbrev D2:Prop:=Df K mg "_law_ties" eU ["hand","many"] f fd
abbrev D3:Prop:=Df K mg "_law_row" fW ["hand"] f fd
abbrev D4:Prop:=Df K mg "stretches_rising" bK ["many"] f fd
abbrev D5:Prop:=Df K mg "partners_of" cS ["row"] f fd
abbrev D6:Prop:=Df K mg "number_with" cV ["worth","table","i","k","j"] f fd
abbrev D7:Prop:=Df K mg "least_number" cA ["partners","worth","table","i","j"] f fd
abbrev D8:Prop:=Df K mg "one_each" eT ["row"] f fd
abbrev D9:Prop:=Df K mg "has_shape" dP ["paper","many"] f fd
abbrev Ln:Prop:=Df K mg "paper_holds" cU ["row","worth","paper"] f fd
abbrev Ol:Prop:=Df K mg "paper_shows" cT ["row","paper"] f fd
abbrev Oj:Prop:=Df K mg "_law_table" dN ["row"] f fd
abbrev Oi:Prop:=Df K mg "_law_let_by" de ["row","paper"] f fd
abbrev P7:Prop:=Df K mg "_law_papers" dc ["hand","row"] f fd
abbrev P6:Prop:=Df K mg "_law_bent" eV ["hand","paper"] f fd
abbrev Oh:Prop:=Df K mg "_law_copied" df ["row"] f fd
abbrev P5:Prop:=Df K mg "_law_right" dO ["row","paper"] f fd
abbrev S8:Prop:=Df K mg "_law_hand" dv ["cell"] f fd
end
section
variable {P:T7}{w:Ur}{K:PySem.W.Frag}{mg:Str->Option TY}{base:Heap}
theorem pC:aP ["cell"] ["cell"] (aC dv):=mkS
theorem Br {f:Addr} {fd:UW} (F:Ag K "_law_hand" "_law_hand" dv f fd) (B:S9 mg):aR P w K mg base cj 1 f fd ["cell"] xB:=by
 refine F.ok pC (λvs H Q E h=>?_) (λcG A outer s H vs Q E hr h=>?_)
 ·obtain⟨c,rfl,_⟩:=h;rfl
 ·obtain⟨c,rfl,k⟩:=h;refine⟨_,gV (iG (nX (bu (kM (ng rfl) (by rfl) B.max oK (bu bt (bu (cI yp (pv 0) (cI kP bt bt)) cO)))
   (bu (cI r_ (cI sf (cI kQ (pv 0) bt) bt) (iH iY (by rfl) B.int zW (bu (t7 HP (pv 0) (cI kP bt bt) (yB _)) cO))) cO)))),?_⟩
  refine⟨_,rfl,_,_,rfl,rfl,yd,_,_,rfl,rfl,_,_,rfl,?_⟩;have m1:=jN (a:=c) (b:=2147483629) (by decide)
  refine⟨_,rfl,_,_,rfl,rfl,(by show (0:Int)<2147483629;decide),_,_,rfl,rfl,_,rfl,_,_,rfl,rfl,yd,rfl,.inr ⟨_,rfl,_,_,rfl,rfl,.inl ⟨by lia,by lia⟩,?_⟩⟩
  refine⟨(by show 2<=Ul;decide),λp hp=>k p _ hp ⟨_,_,ar,?_,?_⟩ (az.new hp)⟩
  ·split <;> lia
  ·split <;> constructor <;> lia
theorem i8:aP ["hand","many","taken"] ["hand","many"] (aC du):=mkS
theorem Ma {y:Int}(h:0<=y)(h':y<2147483647):tq (y+1) 7:=⟨by decide,by decide,by lia⟩
theorem f7 {f:Addr} {fd:UW} (F:Ag K "_law_take" "_law_take" du f fd):aR P w K mg base cj 1 f fd ["hand","many"] xx:=by
 refine F.ok i8 (λvs H Q E h=>?_) (λcG A outer s H vs Q E hr h=>?_)
 ·obtain⟨h,n,rfl,_⟩:=h;rfl
 ·obtain⟨h,n,rfl,⟨x,y,hx,x0,y0,y1⟩,n0,n1,k⟩:=h;refine⟨_,dw (CO (tP CW (gn cX (pv 0) bt (λ_ _=>rfl)) bt (yB _))
    (dw (iF (i:=2) i8.nd rfl (Or.inl rfl) (cI kQ (gn cX (pv 0) bt (λ_ _=>rfl)) (pv 1)))
    (dw (kA (cI kR (gn cX (pv 0) bt (λ_ _=>rfl)) (pv 1)) (kL (pv 0) bt set_list))
    (gV (iG (pv 2))))) tR)
   (dw (kA (cI kQ (cI r_ (gn cX (pv 0) bt (λ_ _=>rfl)) bt) bt) (kL (pv 0) bt set_list))
   (gV (iG (cI kQ (cI kR (cI kP (cI sf (gn cX (pv 0) bt (λ_ _=>rfl)) bt) bt) bt) (pv 1))))),?_⟩
  refine⟨_,rfl,h,_,_,_,rfl,rfl,cQ.of hx,rfl,_,_,rfl,rfl,_,rfl,?_⟩;refine MA (λhp=>?_) (λhp=>?_)
  ·refine⟨_,rfl,h,_,_,_,rfl,rfl,cQ.of hx,rfl,_,rfl,_,_,rfl,rfl,n0,?_⟩;refine⟨_,rfl,h,_,_,_,rfl,rfl,cQ.of hx,rfl,_,rfl,_,_,rfl,rfl,nz.of n0 n1,?_⟩;refine⟨_,rfl,h,_,_,0,rfl,rfl,hx,rfl,?_⟩;have m:=jN (a:=x) n0;exact⟨_,rfl,k _ _ m.1 m.2 ⟨_,_,ar,Int.ediv_nonneg x0 (Int.le_of_lt n0),y0,y1⟩ Fm.upd⟩
  ·have m1:=jN (a:=y*48271) (b:=2147483647) (by decide)
   refine⟨_,rfl,h,_,_,_,rfl,rfl,cQ.of hx,rfl,_,_,rfl,rfl,.inr ⟨by decide,by decide⟩,_,_,rfl,rfl,(by show (0:Int)<2147483647;decide),?_⟩
   refine⟨_,rfl,h,_,_,1,rfl,rfl,hx,rfl,?_⟩;refine⟨_,rfl,h,_,_,_,rfl,rfl,cQ.of ar,rfl,_,_,rfl,rfl,_,_,rfl,rfl,Ma m1.1 m1.2,_,_,rfl,rfl,nz.of (by decide) (by decide),_,rfl,_,_,rfl,rfl,n0,?_⟩
   have m:=jN (a:=(y*48271 % 2147483647+1) ^ (7:Int).toNat / 8) n0;exact k _ _ m.1 m.2 ⟨_,_,ar,x0,m1.1,m1.2⟩ Fm.upd
theorem cZ:aP ["hand","many","found","piled","point","way"] ["hand","many"] (aC eW):=mkS
theorem Bu {Dp qw} (dA:D0 K mg Dp qw) {zD lx} (dT:D1 K mg zD lx) (B:Bs mg):aR P w K mg base cj 2 Dp qw ["hand","many"] (fB P w fq true qK):=by
 have GT:aR P w K mg base cj 1 _ _ _ (fB P w fq true bC):=iu (f7 dT.F);refine Bv dA.F cZ (λds R JG=> by obtain⟨n,e,_⟩ := JG;subst e;rfl) λcG A outer s H E IO hr=>⟨_,(ah (dQ (i:=2) (λ_=>(aV ae)) cZ.nd)
    (ah (dQ (i:=3) (λ_=>(aV ae)) cZ.nd)
    (ah (bB UR rfl (aX B.range (ab (aa (i:=1)) ae)) (ak (i:=4) cZ.nd) (ah (aO (i:=5) (aZ (ih:=0) bC.mono GT (hr.mono (by decide)) dT.m dT.F.kp dT.b (ab ag ae)) cZ.nd)
    (ah (b7 (aM af (bR.m (cP hr.units)) (aa (i:=5)) ag) (ao (cN (i:=3) (λ_=>(aa (i:=4))))) ba)
    (ao (b7 (wX.t (A7 (aM af (bR.m (cP hr.units)) (aa (i:=5)) ag) (xZ (aM af (bR.m (iI hr.units)) (aa (i:=3)) (aV ae))))) (ao (cN (i:=2) (λ_=>(cB (ab (EA (i:=3)) (ab (aa (i:=4)) ae)))))) ba)))))
    (ao (a_ (bf ay oH B.sorted ni (ab (aa (i:=2)) ae))))))),λds R h=>?_⟩
 obtain⟨n,rfl,n0,n1,q⟩:=h;refine⟨Uh _,trivial,Uh _,trivial,_,rfl,trivial,n,rfl,by omega,by omega,trivial,?_⟩
 refine⟨λi β=>∃(fs:List (List Int)) (ps:List Int) (x4 x5:Option Q.B),β=[some (.hand fq),some (.val false (.int n)),some (.own (.lst (fs.map kD))),some (.own (.lst (ps.map D.int))),x4,x5]/\fs.length<=i/\ps.length<=i/\i<=n.toNat/\bF n fs/\(∀p∈ps,0<=p/\p<i),⟨[],[],_,_,rfl,T4 _,T4 _,Uh _,bF.nil,λ_ z=>(nomatch z)⟩,?_,?_⟩
 ·rintro i d β hd ⟨fs,ps,x4,x5,rfl,h1,h2,h3,h4,h5⟩;obtain⟨hi,rfl⟩:=bc hd;refine⟨rfl,trivial,rfl,trivial,3,rfl,by omega,by omega,λr r0 r1=>?_⟩
  refine⟨_,rfl,trivial,_,b6 _ _,_,rfl,?_⟩;have fin:∃(vZ:List (List Int)) (L8:List Int) (x4 x5:Option Q.B),[some (.hand fq),some (.val false (.int n)),some (.own (.lst (fs.map kD))),some (.own (.lst (ps.map D.int))),some (.val true (.int (0+(i:Int)))),some (.val true (.int r))]=[some (.hand fq),some (.val false (.int n)),some (.own (.lst (vZ.map kD))),some (.own (.lst (L8.map D.int))),x4,x5]/\vZ.length<=i+1/\L8.length<=i+1/\i+1<=n.toNat/\bF n vZ/\(∀p∈L8,0<=p/\p<((i+1:Nat):Int)) :=
    ⟨fs,ps,_,_,rfl,by omega,by omega,by omega,h4,λp hp=>by have:=h5 p hp;omega⟩
  refine mR (λEr=>?_) (λEr=>?_)
  ·refine⟨⟨_,rfl⟩,_,rfl,trivial,_,rfl,by rw[TX,U8];omega,?_⟩
   refine⟨_,rfl,trivial,_,b6 _ _,_,rfl,vV (by simp[Er]) (vV rfl ?_)⟩
   refine⟨fs,ps++[0+(i:Int)],_,_,by rw[xC];rfl,by omega,by simp;omega,by omega,h4,λp hp=>?_⟩
   rcases Uq.mp hp with z|z
   ·have:=h5 p z;omega
   ·rw[T_.mp z];omega
  ·refine⟨_,rfl,trivial,_,b6 _ _,_,rfl,mR (λr2=>?_) (λr2=>vV rfl fin)⟩;refine⟨_,rfl,trivial,Uh _,_,qO ps [],_,rfl,O6 (λhp=>?_) (λhp=>fin)⟩;obtain⟨qs,p,rfl⟩:∃qs p,ps=qs++[p]:=⟨ps.dropLast,ps.getLast hp,(List.dropLast_concat_getLast hp).symm⟩;have Am:=h5 p (by simp)
   rw[Ui,V5]at h2;refine⟨⟨_,rfl⟩,qs.map D.int,.int p,by simp,trivial,_,rfl,trivial,rh,trivial,fs.map kD,rfl,by rw[TX,U8];omega,?_⟩
   refine⟨fs++[[p,0+(i:Int)]],qs,_,_,by rw[jD];rfl,by simp;omega,by omega,by omega,h4.app (bF.one (by omega) (by omega) (by omega)),λx hx=>?_⟩
   have:=h5 x (by simp[hx])
   omega
 ·rintro β ⟨fs,ps,x4,x5,rfl,h1,h2,h3,h4,h5⟩;rw[bp]at h1;refine⟨_,rfl,trivial,_,rS h4.ne (by omega),.inl ⟨eO _,trivial,rfl,q _ ?_ (xu h4)⟩⟩
  rw[(eD fs).length_eq];exact h1
end
section
variable {P:T7}{w:Ur}{K:PySem.W.Frag}{mg:Str->Option TY}{base:Heap}
theorem aS:aP ["hand","many","way","found","k","one","other","reach","kinds","wide"] ["hand","many"] (aC eU):=mkS
def T9 (n way:Int)(f:Q.B)(β:Q.bb):Prop:=∃x4 x5 x6 x7 x8 x9:Option Q.B,β=[some (.hand fq),some (.val false (.int n)),some (.val true (.int way)),some f,x4,x5,x6,x7,x8,x9]
theorem Bl {GV v7} (dI:D2 K mg GV v7) {zD lx} (dT:D1 K mg zD lx) {Dp qw} (dA:D0 K mg Dp qw) (B:Bs mg):aR P w K mg base cj 3 GV v7 ["hand","many"] (fB P w fq true qD):=by
 have GT:aR P w K mg base cj 1 _ _ _ (fB P w fq true bC):=iu (f7 dT.F);have GA:aR P w K mg base cj 2 _ _ _ (fB P w fq true qK):=Bu dA dT B;refine Bv dI.F aS (λds R JF=> by obtain⟨n,e,_⟩ := JF;subst e;rfl) λcG A outer s H E IO hr=>⟨_,(ah (aO (i:=2) (aZ (ih:=0) bC.mono GT (hr.mono (by decide)) dT.m dT.F.kp dT.b (ab ag ae)) aS.nd)
    (ah (dQ (i:=3) (λ_=>(aV ae)) aS.nd)
    (jH (b7 (wX.t (nS (aM af (bR.m (cP hr.units)) (aa (i:=2)) ag) (nR (aM af (bR.m (cP hr.units)) (aa (i:=2)) ag)))) (ao (bB UR rfl (aX B.range (ab (aZ (ih:=0) bC.mono GT (hr.mono (by decide)) dT.m dT.F.kp dT.b (ab (aH af bh (aV (ab ag (ab ag (ab ag ae)))) (aZ (ih:=0) bC.mono GT (hr.mono (by decide)) dT.m dT.F.kp dT.b (ab ag ae))) ae)) ae)) (ak (i:=4) aS.nd) (ah (aO (i:=5) (aZ (ih:=0) bC.mono GT (hr.mono (by decide)) dT.m dT.F.kp dT.b (ab (aa (i:=1)) ae)) aS.nd)
    (ah (aO (i:=6) (au af (bR.m Bj) (au ay aj (au ay aj (aa (i:=5)) ag) (aZ (ih:=0) bC.mono GT (hr.mono (by decide)) dT.m dT.F.kp dT.b (ab (au af (bR.m a3) (aa (i:=1)) ag) ae))) (aa (i:=1))) aS.nd)
    (ao (cN (i:=3) (λ_=>(cB (ab (bf af (bE.m (gK rfl)) B.min oJ (ab (aa (i:=5)) (ab (aa (i:=6)) ae))) (ab (bf af (bE.m (s9 rfl)) B.max oK (ab (aa (i:=5)) (ab (aa (i:=6)) ae))) ae)))))))))) ba)
    (ah (aO (i:=7) (au ay aj ag (aZ (ih:=0) bC.mono GT (hr.mono (by decide)) dT.m dT.F.kp dT.b (ab ag ae))) aS.nd)
    (jH (b7 (aM af (bR.m (cP hr.units)) (aa (i:=2)) ag) (ao (bB UR rfl (aX B.range (ab (aa (i:=1)) ae)) (ak (i:=5) aS.nd) (ao (bB UR rfl (cM B.range (ab (au ay aj (aa (i:=5)) ag) (ab (bf af (bE.m (gK rfl)) B.min oJ (ab (aa (i:=1)) (ab (au ay aj (au ay aj (aa (i:=5)) ag) (aa (i:=7))) ae))) ae))) (ak (i:=6) aS.nd) (ao (b7 (aM af (bR.m yt) (aZ (ih:=0) bC.mono GT (hr.mono (by decide)) dT.m dT.F.kp dT.b (ab ag ae)) ag) (ao (cN (i:=3) (λ_=>(cB (ab (aa (i:=5)) (ab (aa (i:=6)) ae)))))) ba)))))) ba)
    (jH (b7 (aM af (bR.m (cP hr.units)) (aa (i:=2)) ag) (ah (aO (i:=8) (C4 ["point","hand"] [none,some 0] (by rfl) (by decide:(["point","hand"]:List Str).Nodup) rfl (aX B.range (ab (aa (i:=1)) ae)) (λ_ _ _ _ _ _=>(ak (i:=0) (by decide:(["point","hand"]:List Str).Nodup))) (λ_ _ _ _ _ _=>bJ) (λ_ _ _ _ _ _=>(aZ (ih:=1) bC.mono GT (hr.mono (by decide)) dT.m dT.F.kp dT.b (ab ag ae)))) aS.nd)
    (ah (aO (i:=9) (aH af bh (aV (ab (aa (i:=1)) (ab ag ae))) (fZ af (bE.m wB) B.int zW (ab (rZ af (bR.m yt) (aa (i:=1)) ag) ae))) aS.nd)
    (ao (bB UR rfl (aX B.range (ab (aa (i:=1)) ae)) (ak (i:=5) aS.nd) (ao (vw (i:=3) (C4 ["k","one","kinds"] [none,some 5,some 8] (by rfl) (by decide:(["k","one","kinds"]:List Str).Nodup) rfl (cM B.range (ab (au ay aj (aa (i:=5)) ag) (ab (bf af (bE.m (gK rfl)) B.min oJ (ab (aa (i:=1)) (ab (au ay aj (aa (i:=5)) (aa (i:=9))) ae))) ae))) (λ_ _ _ _ _ _=>(ak (i:=0) (by decide:(["k","one","kinds"]:List Str).Nodup))) (λ_ _ _ _ _ _=>(nE (aM af (bR.m (cP hr.units)) (au ay aj (aH af bh (aa (i:=2)) (aa (i:=1))) (aH af bh (aa (i:=2)) (aa (i:=0)))) ag))) (λ_ _ _ _ _ _=>(cB (ab (aa (i:=1)) (ab (aa (i:=0)) ae))))))))))) ba)
    (jH (b7 (aM af (bR.m (cP hr.units)) (aa (i:=2)) ag) (ao (dQ (i:=3) (λ_=>(au ay aj (rY (i:=3)) (aZ (ih:=0) qK.mono GA (hr.mono (by decide)) dA.m dA.F.kp dA.b (ab (aa (i:=1)) ae)))) aS.nd)) ba)
    (ao (a_ (dy (bf ay (oG rfl) B.sorted ni (ab (fZ af (bE.m (wz rfl hr.AA)) B.set Gg (ab (aa (i:=3)) ae)) ae)) bx (bw ag))))))))))),λds R h=>?_⟩
 obtain⟨n,rfl,n0,n1,q⟩:=h;refine⟨rfl,trivial,rfl,trivial,5,rfl,by lia,by lia,λway w0 w1=>?_⟩
 refine⟨Uh _,trivial,?_⟩;refine⟨λβ=>∃fs:List (List Int),T9 n way (.own (.lst (fs.map kD))) β/\bF n fs/\fs.length<=300/\(way≠1->way≠4->fs=[]),?_,?_⟩
 ·-- drawn Ql
  have no:∃fs:List (List Int),T9 n way (.own (.lst (fs.map kD))) [some (.hand fq),some (.val false (.int n)),some (.val true (.int way)),some (.own (.lst [])),none,none,none,none,none,none]/\bF n fs/\fs.length<=300/\(way≠1->way≠4->fs=[]) :=
   ⟨[],⟨_,_,_,_,_,_,rfl⟩,bF.nil,by simp,λ_ _=>rfl⟩
  refine(λ(key:way=1\/way=4->_)=>⟨_,rfl,trivial,_,b6 _ _,_,rfl,mR (λh1=>Fo rfl (key (.inl h1))) (λh1=>⟨_,rfl,trivial,_,b6 _ _,_,rfl,mR (λh4=>key (.inr h4)) (λh4=>no)⟩)⟩) ?_
  ·intro Tc;refine⟨rfl,trivial,trivial,trivial,Qr,trivial,rfl,trivial,rfl,trivial,3,rfl,by lia,by lia,λr r0 r1=>pick r0 (by simpa using r1) λd hd=>?_⟩
   obtain⟨m,rfl,m0,m1⟩:∃m:Int,d=.int m/\0<m/\m<=301:=by
    simp only[Uc,VJ,or_false]at hd;rcases hd with rfl|rfl|rfl
    ·exact⟨5,rfl,by lia,by lia⟩
    ·exact⟨12,rfl,by lia,by lia⟩
    ·exact⟨301,rfl,by lia,by lia⟩
   refine⟨trivial,rfl,trivial,m,rfl,m0,by lia,λj j0 j1=>⟨trivial,j,rfl,by lia,by lia,trivial,?_⟩⟩
   refine⟨λi β=>∃fs:List (List Int),T9 n way (.own (.lst (fs.map kD))) β/\bF n fs/\fs.length<=i,⟨[],⟨_,_,_,_,_,_,rfl⟩,bF.nil,by simp⟩,?_,?_⟩
   ·rintro i d β hd ⟨fs,⟨x4,x5,x6,x7,x8,x9,rfl⟩,ht,hl⟩;obtain⟨hi,rfl⟩:=bc hd;refine⟨rfl,_,rfl,trivial,rfl,trivial,n,rfl,by lia,by lia,λone o0 o1=>?_⟩
    refine⟨_,rfl,trivial,_,rfl,trivial,rfl,_,rfl,trivial,_,rfl,trivial,rfl,trivial,n-1,rfl,by lia,by lia,λr' Th Er=>?_⟩
    have Ng:Kg (.int (one+1+r')) (.int n)=some (.int ((one+1+r') % n)):=if_pos (by lia)
    refine⟨_,rfl,trivial,_,rfl,_,Ng,?_⟩;refine⟨⟨_,rfl⟩,_,rfl,trivial,_,rfl,trivial,_,rfl,trivial,_,rfl,trivial,_,rfl,trivial,_,rfl,trivial,rh,trivial,_,rfl,by rw[TX,U8];lia,?_⟩
    have BZ:(one+1+r') % n≠one/\0<=(one+1+r') % n/\(one+1+r') % n<n:=by
     by_cases d8:one+1+r'<n
     ·rw[Int.emod_eq_of_lt (by lia) d8];lia
     ·rw[show one+1+r'=(one+1+r' - n)+n by lia,Int.add_emod_right,Int.emod_eq_of_lt (by lia) (by lia)];lia
    generalize (one+1+r') % n=KO at BZ;refine⟨fs++[[if KO<one then KO else one,if KO>one then KO else one]],⟨_,_,_,_,_,_,by rw[jD];rfl⟩,ht.app (bF.one ?_ ?_ ?_),by simp;lia⟩
    all_goals (split <;> (try split) <;> lia)
   ·rintro β ⟨fs,h9,ht,hl⟩;rw[bp]at hl;exact⟨fs,h9,ht,by lia,λa b=>by lia⟩
 ·rintro β ⟨fs,⟨x4,x5,x6,x7,x8,x9,rfl⟩,ht,hl,hz⟩;refine⟨trivial,rfl,trivial,rfl,trivial,6,rfl,by lia,by lia,λreach e0 e1=>⟨_,rfl,?_⟩⟩
  refine⟨λβ=>∃fs:List (List Int),T9 n way (.own (.lst (fs.map kD))) β/\bF n fs/\fs.length<=300/\(way=3->fs=[]),?_,?_⟩
  ·have no:∃vZ:List (List Int),T9 n way (.own (.lst (vZ.map kD))) [some (.hand fq),some (.val false (.int n)),some (.val true (.int way)),some (.own (.lst (fs.map kD))),x4,x5,x6,some (.val true (.int (1+reach))),x8,x9]/\bF n vZ/\vZ.length<=300/\(way=3->vZ=[]) :=
    ⟨fs,⟨_,_,_,_,_,_,rfl⟩,ht,hl,λh=>hz (by lia) (by lia)⟩
   refine⟨_,rfl,trivial,_,b6 _ _,_,rfl,mR (λw2=>?_) (λw2=>no)⟩;have ME:fs=[]:=hz (by lia) (by lia)
   subst ME;refine⟨_,rfl,trivial,n,rfl,by lia,by lia,trivial,?_⟩
   refine⟨λi β=>∃(fs:List (List Int)) (y4 y5 y6 y8 y9:Option Q.B),β=[some (.hand fq),some (.val false (.int n)),some (.val true (.int way)),some (.own (.lst (fs.map kD))),y4,y5,y6,some (.val true (.int (1+reach))),y8,y9]/\bF n fs/\fs.length<=i*6,⟨[],_,_,_,_,_,rfl,bF.nil,by simp⟩,?_,?_⟩
   ·rintro i d β hd ⟨fs,y4,y5,y6,y8,y9,rfl,ht,hl⟩;obtain⟨hi,rfl⟩:=bc hd;refine⟨_,rfl,trivial,_,rfl,trivial,_,rfl,trivial,_,rfl,trivial,_,rfl,trivial,_,rfl,_,rfl,trivial,_,rfl,trivial,_,_,rfl,⟨by lia,by lia,by split <;> lia,by split <;> lia⟩,trivial,?_⟩
    generalize K4:(0:Int)+(i:Int)+1=lo;have ND:((if lo+(1+reach)<n then lo+(1+reach) else n)-lo).toNat<=6/\(if lo+(1+reach)<n then lo+(1+reach) else n)<=n:=by split <;> lia
    generalize (if lo+(1+reach)<n then lo+(1+reach) else n)=d_ at ND
    refine⟨λk β=>∃(fs:List (List Int)) (y4 y6 y8 y9:Option Q.B),β=[some (.hand fq),some (.val false (.int n)),some (.val true (.int way)),some (.own (.lst (fs.map kD))),y4,some (.val true (.int (0+(i:Int)))),y6,some (.val true (.int (1+reach))),y8,y9]/\bF n fs/\fs.length<=i*6+k,⟨fs,_,_,_,_,rfl,ht,by lia⟩,?_,?_⟩
    ·rintro k d β hd ⟨fs,y4,y6,y8,y9,rfl,ht,hl⟩;obtain⟨hk,rfl⟩:=bc hd;refine⟨rfl,trivial,rfl,trivial,3,rfl,by lia,by lia,λr r0 r1=>⟨trivial,_,rfl,_,rfl,mR (λhp=>?_) (λhp=>?_)⟩⟩
     ·refine⟨⟨_,rfl⟩,_,rfl,trivial,_,rfl,trivial,rh,trivial,_,rfl,by rw[TX,U8];lia,?_⟩
      exact⟨fs++[[0+(i:Int),lo+(k:Int)]],_,_,_,_,by rw[jD];rfl,ht.app (bF.one (by lia) (by lia) (by lia)),by simp;lia⟩
     ·exact⟨fs,_,_,_,_,rfl,ht,by lia⟩
    ·rintro β ⟨fs,y4,y6,y8,y9,rfl,ht,hl⟩;rw[bp]at hl;exact⟨fs,_,_,_,_,_,rfl,ht,by lia⟩
   ·rintro β ⟨fs,y4,y5,y6,y8,y9,rfl,ht,hl⟩;rw[bp]at hl;exact⟨fs,⟨_,_,_,_,_,_,rfl⟩,ht,by lia,λh=>by lia⟩
  ·rintro β ⟨fs,⟨x4,x5,x6,x7,x8,x9,rfl⟩,ht,hl,hz⟩;refine⟨λβ=>∃fs:List (List Int),T9 n way (.own (.lst (fs.map kD))) β/\bF n fs/\fs.length<=960/\(way=4->fs.length<=300),?_,?_⟩
   ·have no:∃vZ:List (List Int),T9 n way (.own (.lst (vZ.map kD))) [some (.hand fq),some (.val false (.int n)),some (.val true (.int way)),some (.own (.lst (fs.map kD))),x4,x5,x6,x7,x8,x9]/\bF n vZ/\vZ.length<=960/\(way=4->vZ.length<=300) :=
     ⟨fs,⟨_,_,_,_,_,_,rfl⟩,ht,by lia,λh=>hl⟩
    refine⟨_,rfl,trivial,_,b6 _ _,_,rfl,mR (λw3=>?_) (λw3=>no)⟩;have ME:fs=[]:=hz w3;subst ME;refine⟨_,rfl,trivial,n,rfl,by lia,by lia,trivial,?_⟩
    refine⟨λi β o=>(∃x0,β=[x0,some (.hand fq)])/\∃ks:List Int,o=ks.map D.int/\ks.length=i/\∀k∈ks,0<=k/\k<3,⟨⟨_,rfl⟩,[],rfl,rfl,λ_ z=>(nomatch z)⟩,?_,?_⟩
    ·rintro i d β o hd ⟨⟨x0,rfl⟩,ks,rfl,hk,Pl⟩;obtain⟨hi,rfl⟩:=bc hd;refine⟨rfl,trivial,rfl,trivial,3,rfl,by lia,by lia,λr r0 r1=>⟨trivial,by rw[TX,U8];lia,⟨_,rfl⟩,ks++[r],by simp,by simp[hk],λk hk=>?_⟩⟩
     rcases Uq.mp hk with z|z
     ·exact Pl k z
     ·rw[T_.mp z];exact⟨r0,r1⟩
    rintro β o ⟨⟨x0,rfl⟩,ks,rfl,ho,Pl⟩;rw[bp]at ho;refine⟨⟨rfl,trivial⟩,?_⟩;obtain⟨wd,Sj,Tb,Ta⟩:∃wd:Int,lS (.lst [.int n,.int 14]) (.int (if decide (n>24)=true then 1 else 0))=some (.int wd)/\0<=wd/\wd<=24:=by
     by_cases hn:n>24
     ·exact⟨14,by rw[if_pos (by simpa using hn)];rfl,by lia,by lia⟩
     ·exact⟨n,by rw[if_neg (by simpa using hn)];rfl,by lia,by lia⟩
    refine⟨_,rfl,trivial,trivial,rh,trivial,_,rfl,trivial,_,rfl,trivial,_,rfl,_,Sj,?_⟩;refine⟨_,rfl,trivial,n,rfl,by lia,by lia,trivial,?_⟩
    refine⟨λi β=>∃(fs:List (List Int)) (y4 y5 y6 y7:Option Q.B),β=[some (.hand fq),some (.val false (.int n)),some (.val true (.int way)),some (.own (.lst (fs.map kD))),y4,y5,y6,y7,some (.val true (.lst (ks.map D.int))),some (.val true (.int wd))]/\bF n fs/\fs.length<=i*24,⟨[],_,_,_,_,rfl,bF.nil,by simp⟩,?_,?_⟩
    ·rintro i d β hd ⟨fs,y4,y5,y6,y7,rfl,ht,hl⟩;obtain⟨hi,rfl⟩:=bc hd;refine⟨⟨_,rfl⟩,_,rfl,trivial,_,rfl,trivial,_,rfl,trivial,_,rfl,trivial,_,rfl,_,rfl,trivial,_,rfl,trivial,_,_,rfl,⟨by lia,by lia,by split <;> lia,by split <;> lia⟩,trivial,?_⟩
     have ND:((if 0+(i:Int)+wd<n then 0+(i:Int)+wd else n)-(0+(i:Int)+1)).toNat<=24/\(if 0+(i:Int)+wd<n then 0+(i:Int)+wd else n)<=n:=by split <;> lia
     generalize (if 0+(i:Int)+wd<n then 0+(i:Int)+wd else n)=d_ at ND
     refine⟨λj β o=>(∃x0,β=[x0,some (.val true (.int (0+(i:Int)))),some (.val true (.lst (ks.map D.int)))])/\∃us:List (List Int),o=us.map kD/\us.length<=j/\bF n us,⟨⟨_,rfl⟩,[],rfl,T4 _,bF.nil⟩,?_,?_⟩
     ·rintro j d β o hd ⟨⟨x0,rfl⟩,us,rfl,hj,yX⟩;obtain⟨GG,rfl⟩:=bc hd;obtain⟨r1,_,e1⟩:=qQ (ks:=ks) (i:=0+(i:Int)) (by lia) (by lia)
      obtain⟨r2,_,e2⟩:=qQ (ks:=ks) (i:=0+(i:Int)+1+(j:Int)) (by lia) (by lia)
      refine⟨_,rfl,trivial,_,rfl,_,e1,trivial,_,rfl,trivial,_,rfl,_,e2,_,rfl,trivial,_,b6 _ _,_,rfl,mR (λh=>?_) (λh=>⟨⟨_,rfl⟩,us,rfl,by lia,yX⟩)⟩
      refine⟨_,rfl,trivial,_,rfl,trivial,rh,trivial,by rw[TX,U8];lia,⟨_,rfl⟩,us++[[0+(i:Int),0+(i:Int)+1+(j:Int)]],by rw[jD];rfl,by simp;lia,yX.app (bF.one (by lia) (by lia) (by lia))⟩
     ·rintro β o ⟨⟨x0,rfl⟩,us,rfl,hlen,yX⟩;rw[bp]at hlen;refine⟨trivial,_,us.map kD,rfl,eO us,rfl,by rw[TX,TX,U8];lia,?_⟩
      exact⟨fs++us,_,_,_,_,by rw[Ux];rfl,ht.app yX,by simp;lia⟩
    ·rintro β ⟨fs,y4,y5,y6,y7,rfl,ht,hl⟩;rw[bp]at hl;exact⟨fs,⟨_,_,_,_,_,_,rfl⟩,ht,by lia,λh=>by lia⟩
   ·rintro β ⟨fs,⟨x4,x5,x6,x7,x8,x9,rfl⟩,ht,hl,hz⟩;refine⟨λβ=>∃fs:List (List Int),T9 n way (.own (.lst (fs.map kD))) β/\bF n fs/\fs.length<1000,?_,?_⟩
    ·refine⟨_,rfl,trivial,_,b6 _ _,_,rfl,mR (λw4=>?_) (λw4=>⟨fs,⟨_,_,_,_,_,_,rfl⟩,ht,by lia⟩)⟩
     have:=hz w4;refine⟨_,rfl,trivial,rfl,_,rfl,trivial,rfl,trivial,n,rfl,by lia,by lia,λts tl tt=>?_⟩
     have ea:wj (.lst (fs.map kD)) (.lst (ts.map kD))=some (.lst ((fs++ts).map kD)):=by
      rw[Ux];exact if_pos (by rw[TX,TX,U8];lia)
     exact⟨_,ea,.inl ⟨eO _,trivial,fs++ts,⟨_,_,_,_,_,_,rfl⟩,ht.app tt,by simp;lia⟩⟩
    ·rintro β ⟨fs,⟨x4,x5,x6,x7,x8,x9,rfl⟩,ht,hl⟩;obtain⟨ts,e,fM⟩:=zN ht;refine⟨_,rfl,trivial,_,xK ht.ne hl,.inr ⟨trivial,_,rR ht.ne hl,.inl ⟨eO _,300,rfl,_,rfl,?_⟩⟩⟩;rw[e];exact .inl ⟨eO _,trivial,rfl,q _ fM⟩
theorem km:aP ["hand","many"] ["hand"] (aC fW):=mkS
theorem EN {Lc B_} (dR:D3 K mg Lc B_) {zD lx} (dT:D1 K mg zD lx) {Dp qw} (dA:D0 K mg Dp qw) {GV v7} (dI:D2 K mg GV v7) (B:Bs mg):aR P w K mg base cj 4 Lc B_ ["hand"] (fB P w fq true zG):=by
 have GT:aR P w K mg base cj 1 _ _ _ (fB P w fq true bC):=iu (f7 dT.F);have GI:aR P w K mg base cj 3 _ _ _ (fB P w fq true qD):=Bl dI dT dA B;refine Bv dR.F km (λds R JE=> by obtain⟨e,_⟩ := JE;subst e;rfl) λcG A outer s H E IO hr=>⟨_,(ah (aO (i:=1) (aZ (ih:=0) bC.mono GT (hr.mono (by decide)) dT.m dT.F.kp dT.b (ab (aH af bh (aV (ab ag (ab ag (ab ag (ab ag ae))))) (aZ (ih:=0) bC.mono GT (hr.mono (by decide)) dT.m dT.F.kp dT.b (ab ag ae))) ae)) km.nd)
    (ah (b7 (aM af (bR.m fI) (aa (i:=1)) ag) (ao (a_ (cB (ab (aa (i:=1)) (ab (aV ae) ae))))) ba)
    (ao (a_ (cB (ab (aa (i:=1)) (ab (aZ (ih:=0) qD.mono GI (hr.mono (by decide)) dI.m dI.F.kp dI.b (ab (aa (i:=1)) ae)) ae))))))),λds R h=>?_⟩
 obtain⟨rfl,q⟩:=h;refine⟨rfl,trivial,trivial,trivial,trivial,(by show 4<=Ul;decide),trivial,rfl,trivial,rfl,trivial,4,rfl,by lia,by lia,λr r0 r1=>pick r0 (by simpa using r1) λd hd=>?_⟩
 obtain⟨m,rfl,m0,m1⟩:∃m:Int,d=.int m/\0<m/\m<=41:=by
  simp only[Uc,VJ,or_false]at hd;rcases hd with rfl|rfl|rfl|rfl
  ·exact⟨7,rfl,by lia,by lia⟩
  ·exact⟨7,rfl,by lia,by lia⟩
  ·exact⟨11,rfl,by lia,by lia⟩
  ·exact⟨41,rfl,by lia,by lia⟩
 refine⟨trivial,rfl,trivial,m,rfl,m0,by lia,λn j0 j1=>?_⟩
 refine⟨_,rfl,trivial,_,rfl,_,rfl,mR (λh=>?_) (λh=>?_)⟩
 ·exact⟨_,rfl,trivial,Uh _,trivial,rh,trivial,rfl,q n [] j0 (by lia) ⟨by simp,bF.nil,List.Pairwise.nil,Ve⟩⟩
 ·exact⟨_,rfl,trivial,rfl,_,rfl,trivial,rfl,trivial,n,rfl,by lia,by lia,λts fM=>⟨trivial,rh,trivial,rfl,q n ts j0 (by lia) fM⟩⟩
end
end jw
namespace L2.Q
open PySem PySem.Spec PySem.SeqAt PyProof.Rows
theorem wm (ns:List Int)(lo hi:Option Int):∃ms:List Int,qT (ns.map V.int) lo hi=ms.map V.int/\ms.length<=ns.length:=by
 refine⟨(ns.drop (HT.ku (ns.map V.int).length 0 lo)).take (HT.ku (ns.map V.int).length (ns.map V.int).length hi-HT.ku (ns.map V.int).length 0 lo),?_,?_⟩
 ·unfold qT;rw[WE,W_]
 ·rw[Ut,Vv];lia
section
variable {P:T7}{w:Ur}
theorem bO {W:Addr->Prop}{H:Hp}:∀ns:List Int,ai P w W H (ns.map D.int) (ns.map V.int)
 |[]=>rfl
 |n::ns=>⟨_,_,rfl,rfl,bO ns⟩
theorem AH {N:List Str}{vs:List V}{H H':Hp}{n:Nat}{ro:Bool}{U:Addr->Prop}(hl:(L2.start N vs).length=n)(sm:az H H'):bG P w ⟨H,λ_=>False,ro,U⟩ (L2.start N vs) H' (UL n none) (λ_=>[]) :=
 ⟨by rw[hl,List.length_replicate],λi y d h=>(eE h).elim,λi d h=>(eE h).elim,λi ok h=>(eE h).elim,λi a h=>(nomatch h),λi j a h=>(nomatch h),λi=>Ve,sm.kp,λa z e=>z (sm.free e),λi y d h=>(eE h).elim⟩
theorem Hu {ro:Bool}{H H':Hp}{b:Bool}{v:V}(h:rd P w ro H H' (.bl b) v):v=.bl b:=by
 cases ro with
 |true=>obtain⟨A,h1,_⟩:=h;exact h1.1
 |false=>exact h
end
end L2.Q
namespace L2
open PySem PySem.Spec PySem.SeqAt PyProof.Rows
abbrev Ep (n:Int)(rows:List (List Int)):D:=.tup [.int n,.lst (rows.map kD)]
theorem u_ (n:Int)(rows:List (List Int)):(Ep n rows).pd.canLay0=true/\(Ep n rows).pd.depth<=4:=iA λd hd=>by
 rcases Uc.mp hd with rfl|hd
 ·exact⟨(cK n).1,U3 (cK n).2 (by decide)⟩
 ·rw[T_.mp hd];exact rV rows
section
variable {κ:Type}[DecidableEq κ]
def fw (kvs:List (κ×V))(k:κ):Option V:=(kvs.find? λkv=>decide (kv.1=k)).map (·.2)
def putK (kvs:List (κ×V))(k:κ)(v:V):List (κ×V) :=
 if (kvs.any λkv=>decide (kv.1=k))=true then kvs.map (λkv=>if kv.1=k then (kv.1,v) else kv) else kvs++[(k,v)]
theorem jY {p:κ×V}{r:List (κ×V)}{k:κ}(e:p.1=k):fw (p::r) k=some p.2:=by simp[fw,Vu,e]
theorem jZ {p:κ×V}{r:List (κ×V)}{k:κ}(e:¬ p.1=k):fw (p::r) k=fw r k:=by simp[fw,Vu,e]
theorem j4 (k:κ):∀kvs:List (κ×V),(kvs.any λkv=>decide (kv.1=k))=(fw kvs k).isSome
 |[]=>rfl
 |p::r=>by
  rw[List.any_cons]
  by_cases e:p.1=k
  ·simp only[jY e,decide_eq_true e,Bool.true_or,Option.isSome_some]
  ·rw[jZ e,decide_eq_false e,Bool.false_or];exact j4 k r
theorem qf (kvs:List (κ×V))(k:κ)(v:V):(putK kvs k v).length<=kvs.length+1:=by
 unfold putK
 split
 ·rw[TX];lia
 ·rw[Ui,Um,List.length_nil];lia
theorem xV {kvs:List (κ×V)}{k:κ}(v:V)(h:fw kvs k=none):putK kvs k v=kvs++[(k,v)]:=by
 unfold putK;rw[j4,h];exact if_neg (by decide)
theorem lN.vT {o:Option V}{u:Option TY}(r:lN o u):o.isSome=u.isSome:=by
 cases o with
 |none=>cases u with
  |none=>rfl
  |some _=>exact(show False from r).elim
 |some _=>cases u with
  |none=>exact(show False from r).elim
  |some _=>rfl
theorem KV.val {kvs:List (κ×V)}{vs:List (κ×TY)}(r:KV kvs vs)(k:κ):lN (fw kvs k) (X2 vs k):=by
 unfold KV at r
 induction r with
 |nil=>exact WC
 | @cons p q ps qs h t ih =>
  obtain⟨h1,h2⟩:=h
  by_cases e:p.1=k
  ·have e':q.1=k:=h1.symm.trans e;have b:X2 (q::qs) k=some q.2:=by simp[X2,Vu,e']
   rw[jY e,b];exact h2
  ·have e':¬ q.1=k:=λz=>e (h1.trans z);have b:X2 (q::qs) k=X2 qs k:=by simp[X2,Vu,e']
   rw[jZ e,b];exact ih
end
theorem C6 {P:T7}{w:Ur}{k:Key}{u:TY}(r:RelV (kV k) u):(cf P w).is k u=true:=by
 cases k with
 |inl i=>obtain⟨t,e⟩:=(show ∃t,u=Value.int i t from r);subst e;exact pX P w i t
 |inr x=>obtain⟨t,e⟩:=(show ∃t,u=Value.str x t from r);subst e;exact pW P w x t
theorem mN {P:T7}{w:Ur}:∀{ks:List Key} {us:List TY},Vals (ks.map kV) us->ItemsAre (cf P w) ks us
 |[],_,r=>by rw[List.map_nil]at r;cases r;exact .nil
 |k::ks,_,r=>by
  rw[Uy]at r;cases r with
  |cons h t=>exact .cons (C6 h) (mN t)
abbrev KT (H:Hp):List (List Key×V)->List (List Key×Addr×TY)->Prop:=Paired λp q=>p.1=q.1/\H q.2.1=some (.tup (p.1.map kV))/\RelV p.2 q.2.2
theorem KT.val {H:Hp}{kvs:List (List Key×V)}{xs:List (List Key×Addr×TY)}(r:KT H kvs xs)(k:List Key):lN (fw kvs k) ((Yy xs k).map (·.2)):=by
 induction r with
 |nil=>exact WC
 | @cons p q ps qs h t ih =>
  obtain⟨h1,_,h2⟩:=h
  by_cases e:p.1=k
  ·have e':q.1=k:=h1.symm.trans e;have b:Yy (q::qs) k=some q.2:=by simp[Yy,Vu,e']
   rw[jY e,b];exact h2
  ·have e':¬ q.1=k:=λz=>e (h1.trans z);have b:Yy (q::qs) k=Yy qs k:=by simp[Yy,Vu,e']
   rw[jZ e,b];exact ih
theorem KT.LQ {H:Hp}{kvs:List (List Key×V)}{xs:List (List Key×Addr×TY)}(r:KT H kvs xs)(k:List Key){y:V}{u:TY}(ry:RelV y u):
  KT H (kvs.map λkv=>if kv.1=k then (kv.1,y) else kv) (xs.map (putAt k u)):=by
 induction r with
 |nil=>exact .nil
 | @cons p q ps qs h t ih =>
  rw[Uy,Uy];refine .cons ?_ ih;obtain⟨h1,h2,h3⟩:=h;unfold putAt
  by_cases e:p.1=k
  ·rw[if_pos e,if_pos (h1.symm.trans e)];exact⟨h1,h2,ry⟩
  ·rw[if_neg e,if_neg (λz=>e (h1.trans z))];exact⟨h1,h2,h3⟩
theorem KT.put {H:Hp}{kvs:List (List Key×V)}{xs:List (List Key×Addr×TY)}(r:KT H kvs xs)(k:List Key){b:Addr}{y:V}{u:TY}(hb:H b=some (.tup (k.map kV)))(ry:RelV y u):
  KT H (putK kvs k y) (storedH xs k b u):=by
 have e:(kvs.any λkv=>decide (kv.1=k))=(Yy xs k).isSome:=by
  rw[j4,(r.val k).vT,Option.isSome_map]
 unfold putK storedH;rw[e]
 by_cases q:(Yy xs k).isSome=true
 ·rw[if_pos q,if_pos q];exact r.LQ k ry
 ·rw[if_neg q,if_neg q];exact Paired.snoc r ⟨rfl,hb,ry⟩
theorem KT.keeps {H H':Hp}{kvs:List (List Key×V)}{xs:List (List Key×Addr×TY)}(r:KT H kvs xs)(ht:∀b ys,H b=some (.tup ys)->H' b=some (.tup ys)):KT H' kvs xs :=
 Paired.E2 r λ_ _ z=>⟨z.1,ht _ _ z.2.1,z.2.2⟩
section
variable {P:T7}{w:Ur}{H:Hp}{h:Heap}{a:Addr}
theorem CM {u:HO}(ok:gL P w H h)(e:Rd H a u):bD P w H h a u:=e.ok ok
theorem Dv {kvs:List (Key×V)}(ok:gL P w H h)(e:Rd H a (.dK kvs)):kvs.length<=Ul/\(a==WR)=false/\∃vs,KV kvs vs/\h.DictOf (cf P w) a vs :=
 show bD P w H h a (.dK kvs) from CM ok e
theorem sF {ks:List Key}(ok:gL P w H h)(e:H a=some (.tup (ks.map kV))):(Xd (cf P w)).is h ks a:=by
 obtain⟨_,its,r,o,h1,h2,n,h3⟩:=(show bD P w H h a (.tup (ks.map kV)) from ok a _ e)
 exact⟨o,its.toArray,n,h1,h2,h3,by simpa using mN r⟩
theorem zL {kvs:List (List Key×V)}(ok:gL P w H h)(e:Rd H a (.dT kvs)):kvs.length<=Ul/\(a==WR)=false /\
  ∃xs,KT H kvs xs/\h.DictOfH (Xd (cf P w)) a xs:=by
 obtain⟨z,y,xs,r,o,es,ep,h1,h2,h3,h4,h5⟩:=(show bD P w H h a (.dT kvs) from CM ok e)
 refine⟨z,y,xs,r,o,es,ep,h1,h2,h3,h4,λx hx=>?_,h5⟩;have all:∀{l:List (List Key×V)} {m:List (List Key×Addr×TY)},KT H l m->∀x∈m,(Xd (cf P w)).is h x.1 x.2.1:=by
  intro l m q
  induction q with
  |nil=>intro x hx;exact nomatch hx
  | @cons p q ps qs hq t ih =>
   intro x hx;rcases Uc.mp hx with e|hx
   ·subst e;exact sF ok (by rw[<- hq.1];exact hq.2.1)
   ·exact ih x hx
 exact all r x hx
theorem Kc {kvs:List (List Key×V)}(ok:gL P w H h)(e:H a=some (.dT kvs)):kvs.length<=Ul/\(a==WR)=false /\
  ∃xs,KT H kvs xs/\h.DictOfH (Xd (cf P w)) a xs:=zL ok (.inl e)
end
def wK (H:Hp)(a:Addr)(y:V)(r:Option V):Prop :=
 (∃kvs k,Rd H a (.dK kvs)/\y=kV k/\r=fw kvs k)\/∃kvs k b,Rd H a (.dT kvs)/\y=.ref b/\H b=some (.tup (k.map kV))/\r=fw kvs k
theorem wK.t {H:Hp}{a b:Addr}{kvs:List (List Key×V)}{k:List Key}(e:H a=some (.dT kvs))(eb:H b=some (.tup (k.map kV))):wK H a (.ref b) (fw kvs k):=.inr ⟨kvs,k,b,.inl e,rfl,eb,rfl⟩
section
variable {X:Cx}{pins:List (Addr×Obj)}{σ:St}{H:Hp}{s:T3}{a:Addr}{y v:V}{u:TY}{o:Option V}{A:U6}{E:TY->T3->Prop}
theorem Inv.big (I:Inv X pins σ H s):WR<s.heap.objs.size:=by
 have h:VC<s.heap.objs.size:=(I.mod.glob.keeps I.bk).lt;exact Nat.lt_trans (by decide) h
theorem we {Q:TY->T3->Prop}(hu:A.units+1<WN)(I:Inv X pins σ H s)(g:wK H a y (some v))(ry:RelV y u)(h:∀w' s',Inv X pins σ H s'->RelV v w'->Q w' s'):
  UQ (model X.prog X.w) A (getItem (.ref a) u) Q E s:=by
 rcases g with⟨kvs,k,e,ey,l⟩|⟨kvs,k,b,e,ey,eb,l⟩
 ·subst ey;obtain⟨z,hd,vs,rel,dd⟩:=Dv I.bM e;obtain⟨w',hw,Ak⟩:=lN.some_of (v:=v) (o:=X2 vs k) (by rw[l];exact rel.val k)
  exact wpAny_getItem_of (C6 ry) dd.mapOf hw (h w' _ (I.tok _) Ak)
 ·subst ey;cases (show u=Value.ref b from ry)
  obtain⟨z,hd,xs,rel,dd⟩:=zL I.bM e;obtain⟨w',hw,Ak⟩:=lN.some_of (v:=v) (o:=(Yy xs k).map (·.2)) (by rw[l];exact rel.val k)
  obtain⟨p,hp,K1⟩:=Uk.mp hw;refine wpAny_getItem_heap (tupleKind_room_in1 hu) (sF I.bM eb) dd hp ?_;rw[K1];exact h w' _ (I.tok _) Ak
theorem Cg {h':Heap}{t':Nat}{ob:HO}(I:Inv X pins σ H s)(mu:Ky (H a))(hs:VS a s.heap h')(he:∃q,h'.get? a=some q)(new:bD X.prog X.w (upd H a ob) h' a ob):
  Inv X pins σ (upd H a ob) {s with heap:=h',toks:=t'} :=
 I.write (x:=a) (e:=a) mu (.inl rfl) (λb q hb z=>(hs.2 b hb).trans z) he new
end
section
end
theorem qN {X:Cx} {pins:List (Addr×Obj)} {σ:St} {H:Hp} {s:T3} {a:Addr} {y:V} {o:Option V} (I:Inv X pins σ H s) (g:wK H a y o):s.TypeIs (.ref a) "dict" := by
 rcases g with⟨kvs,k,e,_,_⟩|⟨kvs,k,b,e,_,_,_⟩
 ·obtain⟨_,_,vs,_,dd⟩:=Dv I.bM e;exact dd.typeIs
 ·obtain⟨_,_,xs,_,dd⟩:=zL I.bM e;exact dd.typeIs
section
end
theorem zM {P:T7}{w:Ur}{H:Hp}(h:Heap)(hb:WR<h.objs.size):bD P w H (h.push {cls:=.type "dict",data:=.dict #[]}) h.objs.size (.dT []) :=
 ⟨Uh _,beq_eq_false_iff_ne.mpr (Wd (UI hb)),[],.nil,_,#[],0,UT _ rfl,⟨rfl,rfl,rfl⟩,rfl,rfl,Ve⟩
section
end
section
end
section
end
section
end
section
end
section
end
section
variable {κ:Type}[DecidableEq κ]
end
end L2
namespace L2.Q
open PySem PySem.Spec PySem.SeqAt PyProof.Rows
theorem _root_.L2.cR.xf {k:Nat}{A:U6}(r:cR k A):A.units+1<WN:=by have:=r.un;lia
def iK (t:List Int):List Key:=t.map XG
theorem Fq {t u:List Int}(h:iK t=iK u):t=u:=by
 unfold iK at h
 induction t generalizing u with
 |nil=>cases u with|nil=>rfl|cons _ _=>cases h
 |cons a t ih =>
  cases u with
  |nil=>cases h
  |cons b u =>
   rw[Uy,Uy]at h;injection h with h1 h2
   injection h1 with h1
   rw[h1,ih h2]
theorem C_ (t:List Int):(iK t).map kV=t.map V.int:=by
 unfold iK;rw[Va];rfl
section
end
section
end
end L2.Q
namespace L2
open PySem PySem.Spec PySem.SeqAt PyProof.Rows
theorem Gf:U1 "sum" = some (.builtin "sum"):=by decide +kernel
def D.int?:D->Option Int
 |.int i=>some i
 |_=>none
def D.vI:D->Option (List D)
 |.lst ds=>some ds
 |_=>none
theorem D.uj {d:D}{i:Int}(h:d.int?=some i):d=.int i:=by
 cases d <;> first|(cases h;rfl)|cases h
theorem D.oi {d:D}{ds:List D}(h:d.vI=some ds):d=.lst ds:=by
 cases d <;> first|(cases h;rfl)|cases h
noncomputable def js:List D->Option (List Int)
 |[]=>some []
 |d::ds=>d.int?.bind λi=>(js ds).map (i::·)
theorem lG:∀{ds:List D} {ns:List Int},js ds=some ns->ds=ns.map D.int
 |[],_,h=>by cases h;rfl
 |d::ds,ns,h=>by
  obtain⟨i,h1,h2⟩:=Vc.mp h;obtain⟨ms,h3,rfl⟩:=Uk.mp h2;rw[D.uj h1,lG h3];rfl
theorem iV:∀ns:List Int,js (ns.map D.int)=some ns
 |[]=>rfl
 |n::ns=>by
  show (some n).bind (λi=>(js (ns.map D.int)).map (i::·))=_;rw[iV ns];rfl
noncomputable def cY (f:List Int->Option Int):List D->Option D
 |[d]=>d.vI.bind λds=>(js ds).bind λns=>(f ns).map D.int
 |_=>none
theorem gI {f:List Int->Option Int}{ds:List D}{d:D}(h:cY f ds=some d):∃ns i,ds=[.lst (ns.map D.int)]/\f ns=some i/\d=.int i:=by
 cases ds with
 |nil=>cases h
 |cons x r =>
  cases r with
  |cons _ _=>cases h
  |nil =>
   obtain⟨es,h1,h2⟩:=Vc.mp h;obtain⟨ns,h3,h4⟩:=Vc.mp h2;obtain⟨i,h5,rfl⟩:=Uk.mp h4;exact⟨ns,i,by rw[D.oi h1,lG h3],h5,rfl⟩
theorem fb {f:List Int->Option Int}{ns:List Int}{i:Int}(h:f ns=some i):cY f [.lst (ns.map D.int)]=some (.int i):=by
 show (some (ns.map D.int)).bind (λds=>(js ds).bind λns=>(f ns).map D.int)=_;rw[VX,iV,VX,h];rfl
def fK:List Int->Option Int
 |[]=>none
 |n::ns=>some (ns.foldl max n)
def E1:List Int->Option Int
 |[]=>none
 |n::ns=>some (ns.foldl min n)
theorem bV:∀(ns:List Int) (n:Int),(ns.foldl max n∈n::ns)/\∀x∈n::ns,x<=ns.foldl max n
 |[],n=>⟨by simp,λx hx=>by simp at hx;rw[hx];exact Yn _⟩
 |m::ns,n=>by
  obtain⟨h1,h2⟩:=bV ns (max n m);have hm:max n m<=ns.foldl max (max n m):=h2 _ (by simp)
  refine⟨?_,λx hx=>?_⟩
  ·rw[VO];rcases Uc.mp h1 with h|h
   ·rw[h]
    by_cases q:n<=m
    ·rw[show max n m=m by lia];simp
    ·rw[show max n m=n by lia];simp
   ·simp[h]
  ·rw[VO];rcases Uc.mp hx with rfl|hx
   ·lia
   ·rcases Uc.mp hx with rfl|hx
    ·lia
    ·exact h2 x (by simp[hx])
theorem bU:∀(ns:List Int) (n:Int),(ns.foldl min n∈n::ns)/\∀x∈n::ns,ns.foldl min n<=x
 |[],n=>⟨by simp,λx hx=>by simp at hx;rw[hx];exact Yn _⟩
 |m::ns,n=>by
  obtain⟨h1,h2⟩:=bU ns (min n m);have hm:ns.foldl min (min n m)<=min n m:=h2 _ (by simp)
  refine⟨?_,λx hx=>?_⟩
  ·rw[VO];rcases Uc.mp h1 with h|h
   ·rw[h]
    by_cases q:n<=m
    ·rw[show min n m=n by lia];simp
    ·rw[show min n m=m by lia];simp
   ·simp[h]
  ·rw[VO];rcases Uc.mp hx with rfl|hx
   ·lia
   ·rcases Uc.mp hx with rfl|hx
    ·lia
    ·exact h2 x (by simp[hx])
section
variable {X:Cx}
theorem eR:∀{ns:List Int} {us:List TY},Vals (ns.map V.int) us->∃xs:Array (Int×Tok),us.toArray=intItems xs/\xs.toList.map (·.1)=ns
 |[],_,h=>by cases h;exact⟨#[],by simp[intItems],rfl⟩
 |n::ns,_,h=>by
  cases h with
  |cons h1 h2 =>
   obtain⟨t,rfl⟩:=h1;obtain⟨xs,e1,e2⟩:=eR h2;refine⟨⟨(n,t)::xs.toList⟩,?_,by simp[e2]⟩
   have:=congrArg Array.toList e1;simp[intItems]at this ⊢
   exact this
theorem eF {xs:Array (Int×Tok)}{ns:List Int}(e:xs.toList.map (·.1)=ns)(i:Nat):numAt xs i=ns.getD i 0:=by
 subst e;unfold numAt;rw[UE,T6,Uv]
theorem uN {xs:Array (Int×Tok)}{ns:List Int}(e:xs.toList.map (·.1)=ns){i:Nat}{v:TY}(h:(intItems xs)[i]?=some v):RelV (.int (ns.getD i 0)) v:=by
 obtain⟨t,rfl⟩:=intItems_at h;exact⟨t,by rw[eF e]⟩
theorem ints_size {xs:Array (Int×Tok)}{ns:List Int}(e:xs.toList.map (·.1)=ns):xs.size=ns.length:=by rw[<- e];simp
theorem wx (hc:X.calm=true):bE X (.builtin "sum") (cY λns=>some ns.sum):=by
 intro pins s σ H xs us Q I r h;obtain⟨W,ds,d,hd,r1,e,q⟩:=h;obtain⟨ns,i,rfl,e1,rfl⟩:=gI e;cases e1;obtain⟨x,rfl,p,vs,rfl,h1,n1,q1⟩:=fT r1;obtain⟨u,rfl,ru⟩:=vals1 r;cases ru;rw[bO q1]at h1;obtain⟨its,r2,ht,hz⟩:=I.list (cQ.of h1);obtain⟨ys,e1,e2⟩:=eR r2;refine sum_intListG (I.ok.hd hc) (xs:=ys) (by rw[<- e1];exact ht.isList) λh' tk t' k=>⟨.int ns.sum,H,I.kept k,⟨t',?_⟩,q _ _ (az.refl _) rfl⟩
 rw[preSum_eq,Vi (by simp),e2]
theorem nh (hc:X.calm=true):bE X (.builtin "max") (cY fK):=by
 intro pins s σ H xs us Q I r h;obtain⟨W,ds,d,hd,r1,e,q⟩:=h;obtain⟨ns,i,rfl,e1,rfl⟩:=gI e;obtain⟨x,rfl,p,vs,rfl,h1,n1,q1⟩:=fT r1;obtain⟨u,rfl,ru⟩:=vals1 r;cases ru;rw[bO q1]at h1;obtain⟨its,r2,ht,hz⟩:=I.list (cQ.of h1);obtain⟨ys,N4,e2⟩:=eR r2;have hs:=ints_size e2;cases ns with
 |nil=>cases e1
 |cons n ns =>
  rw[Um]at hs;refine max_intList (I.ok.hd hc) (xs:=ys) (by rw[<- N4];exact ht.isList) (by lia) λv h' tk hv k=>⟨.int i,H,I.kept k,?_,q _ _ (az.refl _) rfl⟩
  have hr:=uN e2 hv;obtain⟨g1,g2⟩:=argBest_gt (numAt ys) (ys.size-1);generalize argBest (λi j=>decide (numAt ys i>numAt ys j)) (ys.size-1)=b at *
  have hb:b<(n::ns).length:=by rw[Um];lia
  have:(n::ns).getD b 0=i:=by
   cases e1;obtain⟨f1,f2⟩:=bV ns n;have hle:∀x∈n::ns,x<=(n::ns).getD b 0:=λx hx=>by
    obtain⟨j,hj,rfl⟩:=XI hx;have:=g2 j (by rw[Um]at hj;lia)
    rw[eF e2,eF e2]at this;rw[UE,T5 hj]at this;exact this
   have sM:(n::ns).getD b 0∈n::ns:=by
    rw[UE,T5 hb];exact Vz hb
   have:=hle _ f1;have:=f2 _ sM;lia
  rw[<- this];exact hr
theorem wA (hc:X.calm=true):bE X (.builtin "min") (cY E1):=by
 intro pins s σ H xs us Q I r h;obtain⟨W,ds,d,hd,r1,e,q⟩:=h;obtain⟨ns,i,rfl,e1,rfl⟩:=gI e;obtain⟨x,rfl,p,vs,rfl,h1,n1,q1⟩:=fT r1;obtain⟨u,rfl,ru⟩:=vals1 r;cases ru;rw[bO q1]at h1;obtain⟨its,r2,ht,hz⟩:=I.list (cQ.of h1);obtain⟨ys,N4,e2⟩:=eR r2;have hs:=ints_size e2;cases ns with
 |nil=>cases e1
 |cons n ns =>
  rw[Um]at hs;refine min_intList (I.ok.hd hc) (xs:=ys) (by rw[<- N4];exact ht.isList) (by lia) λv h' tk hv k=>⟨.int i,H,I.kept k,?_,q _ _ (az.refl _) rfl⟩
  have hr:=uN e2 hv;obtain⟨g1,g2⟩:=argBest_lt (numAt ys) (ys.size-1);generalize argBest (λi j=>decide (numAt ys i<numAt ys j)) (ys.size-1)=b at *
  have hb:b<(n::ns).length:=by rw[Um];lia
  have:(n::ns).getD b 0=i:=by
   cases e1;obtain⟨f1,f2⟩:=bU ns n;have hle:∀x∈n::ns,(n::ns).getD b 0<=x:=λx hx=>by
    obtain⟨j,hj,rfl⟩:=XI hx;have:=g2 j (by rw[Um]at hj;lia)
    rw[eF e2,eF e2]at this;rw[UE (l:=n::ns) (i:=j),T5 hj]at this;exact this
   have sM:(n::ns).getD b 0∈n::ns:=by
    rw[UE,T5 hb];exact Vz hb
   have:=hle _ f1;have:=f2 _ sM;lia
  rw[<- this];exact hr
end
end L2
namespace L2.Q
open PySem PySem.Spec PySem.SeqAt PyProof.Rows
def dA (kvs:List (List Int×D)):D:=.dT (kvs.map λp=>iK p.1) (kvs.map (·.2))
def ir (kvs:List (List Int×D))(t:List Int):Option D:=(kvs.find? λp=>decide (p.1=t)).map (·.2)
def _root_.L2.D.IF:D->Option (List (List Key)×List D)
 |.dT ks ds=>some (ks,ds)
 |_=>none
theorem BP {d:D}{ks:List (List Key)}{ds:List D}(h:d.IF=some (ks,ds)):d=.dT ks ds:=by
 cases d <;> first|(cases h;rfl)|cases h
def rG (ks:List (List Key))(ds:List D)(k:List Key):Option D:=((ks.zip ds).find? λp=>decide (p.1=k)).map (·.2)
theorem BO {d:D}{es:List D}(h:d.IE=some es):d=.tup es:=by
 cases d <;> first|(cases h;rfl)|cases h
def Ck (a b:D):Option ((List (List Key)×List D)×List Int):=a.IF.bind λp=>b.IE.bind λes=>(js es).map λt=>(p,t)
theorem Cj {a b:D}{ks:List (List Key)}{ds:List D}{t:List Int}(h:Ck a b=some ((ks,ds),t)):a=.dT ks ds/\b=.tup (t.map D.int):=by
 obtain⟨p,h1,h2⟩:=Vc.mp h;obtain⟨es,h3,h4⟩:=Vc.mp h2;obtain⟨t',h5,h6⟩:=Uk.mp h4;cases h6;exact⟨BP h1,by rw[BO h3,lG h5]⟩
theorem Ci {kvs:List (List Int×D)}{t:List Int}:Ck (dA kvs) (.tup (t.map D.int))=some ((kvs.map λp=>iK p.1,kvs.map (·.2)),t):=by
 show (some _).bind (λp=>(some (t.map D.int)).bind λes=>(js es).map λt=>(p,t))=_;rw[VX,VX,iV];rfl
theorem rF {t:List Int}:∀{kvs:List (List Int×D)},rG (kvs.map λp=>iK p.1) (kvs.map (·.2)) (iK t)=ir kvs t
 |[]=>rfl
 |p::kvs=>by
  have ih:=rF (t:=t) (kvs:=kvs);unfold rG ir at *
  rw[Uy,Uy,WT,Vu,Vu]
  by_cases h:p.1=t
  ·rw[decide_eq_true (congrArg iK h),decide_eq_true h];rfl
  ·rw[decide_eq_false (λz=>h (Fq z)),decide_eq_false h];exact ih
def uF (a b:D):Option D:=(Ck a b).bind λz=>rG z.1.1 z.1.2 (iK z.2)
theorem Cn {kvs:List (List Int×D)}{t:List Int}:uF (dA kvs) (.tup (t.map D.int))=ir kvs t:=by
 unfold uF;rw[Ci,VX];exact rF
section
variable {P:T7}{w:Ur}{W:Addr->Prop}{H:Hp}
theorem nP {k:List Key}:∀{ks:List (List Key)} {ds:List D} {vs:List V},ks.length=vs.length->ai P w W H ds vs->(fw (ks.zip vs) k).isSome=(rG ks ds k).isSome/\∀d,rG ks ds k=some d->∃v,fw (ks.zip vs) k=some v/\aA P w W H d v
 |[],ds,vs,_,_=>by
  unfold fw rG;rw[X9,X9];exact⟨rfl,λd h=>by cases h⟩
 |k'::ks,[],_,l,h=>by rw[show _=([]:List V) from h]at l;cases l
 |k'::ks,d::ds,_,l,⟨v,r,e,h1,h2⟩=>by
  subst e;obtain⟨i1,i2⟩:=nP (k:=k) (ks:=ks) (Xg l) h2;unfold fw rG at *
  rw[WT,WT,Vu,Vu]
  by_cases hk:k'=k
  ·rw[decide_eq_true hk];exact⟨rfl,λd' e=>by cases e;exact⟨v,rfl,h1⟩⟩
  ·rw[decide_eq_false hk];exact⟨i1,i2⟩
end
section
variable {X:Cx}
theorem Fh {W:Addr->Prop}{H:Hp}{a b:D}{x y:V}{ks:List (List Key)}{ds:List D}{t:List Int}(h:Ck a b=some ((ks,ds),t))(r1:Rp X W H a x)(r2:Rp X W H b y):∃p vs,x=.ref p/\wK H p y (fw (ks.zip vs) (iK t))/\ks.length=vs.length/\ai X.prog X.w W H ds vs:=by
 obtain⟨rfl,rfl⟩:=Cj h;obtain⟨p,vs,rfl,e1,l,n,rs⟩:=r1;obtain⟨q,us,rfl,e2,rt⟩:=r2;rw[L2.bO rt]at e2;exact⟨p,vs,rfl,wK.t e1 (by rw[C_];exact e2),l,rs⟩
theorem IB (hu:X.A.units+1<WN):DJ X (xQ X uF NF):=by
 intro value slice pins s σ H x y v u Q I rx ry h hs;obtain⟨W,d1,d2,d,hd,r1,r2,e,q⟩:=h;obtain⟨⟨⟨ks,ds⟩,t⟩,h1,h2⟩:=Vc.mp e;obtain⟨p,vs,rfl,g,l,rs⟩:=Fh h1 r1 r2;obtain⟨w',hw,Ak⟩:=(nP l rs).2 d h2;rw[hw]at g;cases (show v=Value.ref p from rx)
 exact tail_any (qN I g) PySem.F.slot_dict_getitem.lookup (we hu I g ry λu' s' I' r'=>⟨w',H,I',r',q w' H (az.refl _) Ak λf=>aA.flat f Ak⟩) hs
end
theorem EH {P:T7}{w:Ur}{H:Hp}{kvs:List (List Int×D)}{a:Addr}{vs:List V}{A:List Addr}(h:H a=some (.dT ((kvs.map λp=>iK p.1).zip vs)))(o:aI P w H (kvs.map (·.2)) vs A):Own P w H (dA kvs) (.ref a) (a::A) :=
 ⟨a,vs,A,rfl,h,by rw[TX,o.length,TX],rfl,o⟩
theorem DW {P:T7}{w:Ur}{H:Hp}{kvs:List (List Int×D)}{vs:List V}{A:List Addr}{t:List Int}(o:aI P w H (kvs.map (·.2)) vs A)(h:ir kvs t=none):fw ((kvs.map λp=>iK p.1).zip vs) (iK t)=none:=by
 have:=(nP (k:=iK t) (ks:=kvs.map λp=>iK p.1) (W:=λ_=>False) (by rw[TX,o.length,TX]) (o.rep λc _ z=>z)).1
 rw[rF,h]at this;exact YH.mp (by rw[<- Option.not_isSome,this];rfl)
section
end
end L2.Q
namespace L2
open PySem PySem.Spec PySem.SeqAt PyProof.Rows
def Ll (lo:Int)(n:Nat):It:=⟨λi _=>i<n,λi H x H'=>H'=H/\x=.int (lo-i),λi _=>n<=i⟩
theorem o7 {P:T7}{w:Ur}{K:PySem.W.Frag}{tg:Expr}(it:Addr)(lo:Int)(n:Nat):Turn P w K tg (Ll lo n) [it] it (λi h=>Ym h it (lo+(i:Nat)*(-1)) ((n:Int)-(i:Nat)) (-1)) where
 mem:=by simp
 obj:=λi h st b hb=>by
  have e:b=it:=by simpa using hb
  subst e;exact⟨_,st,λv z=>by
   have z':Data.fields _=Data.cell v:=z;cases z'⟩
 keep:=λi h h' st k=>k it (by simp) _ st
 item:=by
  intro X hP hw hK hc i pins s σ H E I hf st hg;subst hP hw hK;obtain⟨f0,f1,f2,f3,f4,f5⟩:=hf it (by simp)
  have W:=Walks.range (prog:=X.prog) (w:=X.w) (I.ok.hd hc) it lo (-1) n;refine W.item i s _ _ hg st λv h' tk hv aD kk=>?_;obtain⟨t,rfl⟩:=hv;have I1:Inv X pins σ H {s with heap:=h',toks:=tk}:=I.turned (λb o hb e=>kk b o (by simpa using hb) e) f0 f1 f3 f4 f5
  refine⟨_,rfl,zu (s:={s with heap:=h',toks:=tk}) (n:="range_iterator") aD rfl rfl (by decide) ⟨.int (lo-i),H,I1,⟨t,?_⟩,⟨rfl,rfl⟩,aD,λb hb=>(hf b hb).1⟩⟩
  rw[Int.mul_neg,Int.mul_one];rfl
 done:=by
  intro X hP hw hK hc i pins s σ H E I hf st hg;subst hP hw hK;obtain⟨f0,f1,f2,f3,f4,f5⟩:=hf it (by simp)
  exact wpAny_pyNext_range_end (I.ok.hd hc) st (by have:n<=i:=hg;lia) λh' eb=>⟨rfl,I.turned (t':=s.toks) (λb o hb e=>eb b o hb e) f0 f1 f3 f4 f5⟩
 self:=λ_ _ _ _ _ st h=>wpAny_pyIter_rangeiter st h
theorem d3 (a b:Int):VZ a b (-1)=if b<a then a-b else 0:=by
 unfold VZ;rw[if_neg (by decide)]
 by_cases h:b<a
 ·rw[if_pos h,if_pos h,show -(-1:Int)=1 by decide,Int.ediv_one];lia
 ·rw[if_neg h,if_neg h]
theorem mz {a b:Int}(ha:-(2 ^ 62)<=a)(GQ:a<2 ^ 62)(hb:-(2 ^ 62)<=b)(lP:b<2 ^ 62):Builtin.Range.small a b (-1)=true:=by
 unfold Builtin.Range.small;rw[d3];simp only[Builtin.Range.rangeFitsLong,Vf,Bool.or_eq_true,decide_eq_true_eq,beq_iff_eq,show ¬ ((-1:Int)>0) by decide,if_false]
 split <;> lia
section
variable {X:Cx}{tg:Expr}
theorem vh {pins:List (Addr×Obj)}{σ:St}{H:Hp}{s:T3}{R:It->Hp->Prop}{E:TY->T3->Prop}{lo hi:Int}{t u v:Tok}{tk:Nat}(I:Inv X pins σ H s)(h1:-(2 ^ 62)<=lo)(h2:lo<2 ^ 62)(h3:-(2 ^ 62)<=hi)(h4:hi<2 ^ 62)
  (q:R (Ll lo (lo-hi).toNat) H):UQ (model X.prog X.w) X.A (XS (.ref s.heap.objs.size)) (Lj X pins σ tg R) E {s with heap:=s.heap.push {cls:=.type "range",data:=.fields #[.int lo t,.int hi u,.int (-1) v]},toks:=tk}:=by
 refine wpAny_pyIter_range (IsRange.new ..) (mz h1 h2 h3 h4) ?_;have I1:Inv X pins σ H {s with heap:=s.heap.push {cls:=.type "range",data:=.fields #[.int lo t,.int hi u,.int (-1) v]},toks:=tk}:=I.kept λb o e=>Ud _ e
 refine⟨(s.heap.push {cls:=.type "range",data:=.fields #[.int lo t,.int hi u,.int (-1) v]}).objs.size,[(s.heap.push {cls:=.type "range",data:=.fields #[.int lo t,.int hi u,.int (-1) v]}).objs.size],_,_,H,rfl,
  I1.kept (t':=tk) λb o e=>Ud _ e,o7 _ lo (lo-hi).toNat,?_,λb hb=>?_,q⟩
 ·have e1:lo+((0:Nat):Int)*(-1)=lo:=by simp
  have e2:(((lo-hi).toNat:Nat):Int)-((0:Nat):Int)=VZ lo hi (-1):=by rw[d3];split <;> lia
  show Ym _ _ (lo+((0:Nat):Int)*(-1)) ((((lo-hi).toNat:Nat):Int)-((0:Nat):Int)) (-1);rw[e1,e2];exact UT _ rfl
 ·have e:b=(s.heap.push {cls:=.type "range",data:=.fields #[.int lo t,.int hi u,.int (-1) v]}).objs.size:=by simpa using hb
  subst e;exact I1.zB (T4 _) (I1.bM.fresh (T4 _))
def IG (ta:TA):TI:=λσ H R=>ta σ H λvs H1=>∃i j:Int,vs=[.int i,.int j,.int (-1)]/\(-(2 ^ 62)<=i/\i<2 ^ 62/\-(2 ^ 62)<=j/\j<2 ^ 62)/\R (Ll i (i-j).toNat) H1
theorem vq {a b c:Expr} {ta:TA} {p pos:Pos} (hg:Gl X "range") (hm:X.mg "range" = none) (ha:PA X [a,b,c] ta) (hs:Up [a,b,c] X.env=[(false,eval a X.env),(false,eval b X.env),(false,eval c X.env)]:=by rfl) (mS:Up [b,c] X.env=[(false,eval b X.env),(false,eval c X.env)]:=by rfl) :
  PI X tg (.Call (.Name "range" p) [a,b,c] [] pos) (IG ta):=by
 intro pins s σ H R I h;refine Call_ (eZ I hg hm Yv (Vl (b9 (ha pos pins s σ H _ I h) λus s1 ⟨vs,H1,I1,r1,q1⟩=>?_) (by rw[hs,mS]) (by rw[mS];rfl)))
 obtain⟨i,j,e,⟨q1,q2,q3,q4⟩,q⟩:=q1;subst e;cases r1 with
 |cons r rr =>
  cases rr with
  |cons r' rr =>
   cases rr with
   |cons Gz rr =>
    cases rr;obtain⟨t,rfl⟩:=r;obtain⟨t',rfl⟩:=r';obtain⟨Tf,rfl⟩:=Gz;exact call_range_3 (by decide) (vh I1 q1 q2 q3 q4 q) (.inl (W8 (by decide +kernel)))
def nO (hi:Int)(n:Nat):List D:=(T8 n).map λ(k:Nat)=>D.int (hi-(k:Int))
theorem kz {hi:Int}{n i:Nat}{d:D}(h:(nO hi n)[i]?=some d):i<n/\d=.int (hi-i):=by
 unfold nO at h;rw[T6]at h
 by_cases hi:i<n
 ·rw[VG hi]at h;cases h;exact⟨hi,rfl⟩
 ·rw[UK (by simpa using hi)]at h;cases h
theorem ky {hi:Int}{n:Nat}:(nO hi n).length=n:=by unfold nO;simp
theorem sH {W:Addr->Prop}{H:Hp}{lo:Int}{n:Nat}:uU X W (Ll lo n) (nO lo n) H:=λ_ _ i H' k=>by
 constructor
 ·intro d hd;obtain⟨hi,rfl⟩:=kz hd;refine⟨hi,λx H1 y=>?_⟩;obtain⟨rfl,rfl⟩:=y;exact⟨az.refl _,rfl⟩
 ·intro hl;rw[ky]at hl;exact hl
end
end L2
namespace L2.Q
open PySem PySem.Spec PySem.SeqAt PyProof.Rows
section
variable {X:Cx}{C:Cfg}{tg a b c:Expr}{φs:bQ}{p:Bool}{pp pos:Pos}
def BQ (φs:bQ):bX:=λβ R=>φs β λds _ β'=>∃i j:Int,ds=[.int i,.int j,.int (-1)]/\(-(2 ^ 62)<=i/\i<2 ^ 62/\-(2 ^ 62)<=j/\j<2 ^ 62)/\R (nO i (i-j).toNat) .cF β'
theorem Ks {W:Addr->Prop}{H:Hp}{a b c:D}{xs:List V}(h:jv X W H [a,b,c] xs):∃x y z,xs=[x,y,z]/\Rp X W H a x/\Rp X W H b y/\Rp X W H c z:=by
 obtain⟨x,r,rfl,hx,y,r',rfl,hy,z,Gz,rfl,hz,hr⟩:=h;cases hr;exact⟨x,y,z,rfl,hx,hy,hz⟩
theorem kB (hm:X.mg "range" = none) (ha:oN X C p [a,b,c] φs) (hg:Gl X "range" := by rfl) (hs:Up [a,b,c] X.env=[(false,eval a X.env),(false,eval b X.env),(false,eval c X.env)]:=by rfl) (mS:Up [b,c] X.env=[(false,eval b X.env),(false,eval c X.env)]:=by rfl) :
  rA X C p tg (.Call (.Name "range" pp) [a,b,c] [] pos) (BQ φs) :=
 ⟨λβ R R' k q=>ha.mono β _ _ (λd kd β' h=>by obtain⟨i,j,e,h1,q⟩:=h;exact⟨i,j,e,h1,k _ _ _ q⟩) q,(vq hg hm ha.pa hs mS).pre λσ H R h=>by
  obtain⟨β,own,s,q⟩:=h;refine o_.of ha s q λds ks β' vs H1 aE h o1 r1=>?_;obtain⟨i,j,e,h1,q1⟩:=h;subst e;obtain⟨x,y,z,rfl,hx,hy,hz⟩:=Ks r1.gh;cases hx;cases hy;cases hz;exact⟨i,j,rfl,h1,q1 _ _ aE o1 sH⟩⟩
end
structure Od (X:Cx)(C:Cfg)(tg iter:Expr)(ι:bX):Prop where
 mono:∀β R R',(∀d k β,R d k β->R' d k β)->ι β R->ι β R'
 pi:PI X tg iter λσ H R=>∃β own,SQ X C σ H β own/\ι β λds k β'=>∀J H',az H H'->SQ X C σ H' β' own->uU X (eQ C (Wn own) k) J ds H'->R J H'
section
variable {X:Cx}{C:Cfg}{tg a b:Expr}{φs:bQ}{pp pos:Pos}{i:Nat}{x:Str}
theorem rX (hm:X.mg "range" = none) (ha:oN X C true [a,b] φs) (hg:Gl X "range" := by rfl) (hs:Up [a,b] X.env=[(false,eval a X.env),(false,eval b X.env)]:=by rfl) (mS:Up [b] X.env=[(false,eval b X.env)]:=by rfl) :
  Od X C tg (.Call (.Name "range" pp) [a,b] [] pos) (uk φs) :=
 ⟨λβ R R' k q=>ha.mono β _ _ (λd kd β' h=>by obtain⟨i,j,e,h1,q⟩:=h;exact⟨i,j,e,h1,k _ _ _ q⟩) q,(mD hg hm ha.pa hs mS).pre λσ H R h=>by
  obtain⟨β,own,s,q⟩:=h;refine o_.of ha s q λds ks β' vs H1 aE h o1 r1=>?_;obtain⟨i,j,e,h1,q1⟩:=h;subst e;obtain⟨s1,rfl⟩:=o1.pu rfl;obtain⟨x,y,rfl,hx,hy⟩:=uP r1.gh;cases hx;cases hy;exact⟨i,j,rfl,h1,q1 _ _ s1 o1.sq iP⟩⟩
def Fp (i:Nat):bX:=λβ R=>∃y ds,β[i]?=some (some (.val y (.lst ds)))/\R ds (yk y) β
theorem vj (hN:X.N[i]?=some x:=by rfl)(hv:lT X.env.scope x:=by first|exact .inl rfl|exact .inr (.inl rfl)|exact .inr (.inr rfl))(hd:(x==("__debug__" : Str))=false:=by decide)(dJ:(x==("__classdict__" : Str))=false:=by decide):Od X C tg (.Name x pos) (Fp i) :=
 ⟨λβ R R' k h=>by obtain⟨y,ds,e,q⟩:=h;exact⟨y,ds,e,k _ _ _ q⟩,(nV (br (pos:=pos) hN hv hd dJ)).pre λσ H R h=>by
  obtain⟨β,own,s,y,ds,e,q⟩:=h;obtain⟨v,hv,p,vs,rfl,h1,n1,rs⟩:=s.val i y _ e;exact⟨_,hv,p,rfl,⟨vs,cQ.of h1⟩,q _ _ (az.refl _) s (lb h1 n1 rs)⟩⟩
end
structure SC (X:Cx)(C:Cfg)(W0:Addr->Prop)(T:List Nat)(σ0:St)(H1:Hp)(a:Addr)(Hb:Hp)(Wb:Addr->Prop)(Ac:Hp->Prop)(β:bb)(σ':St)(H':Hp)(own:Nat->List Addr):Prop where
 sq:SQ X (C.u λc=>c=a) σ' H' β own
 sn:Sn (H1,W0) H' (Wn own)
 le:∀c,Wn own c->Wb c
 ac:Ac H'
 pu:az H1 H'
 bs:∀b ob,b≠a->Hb b=some ob->H' b=some ob
 st:∀j,j∉T->σ'[j]?=σ0[j]?
abbrev qY {α:Type}(X:Cx)(C:Cfg)(W0:Addr->Prop)(T:List Nat)(σ0:St)(H1:Hp)(a:Addr)(Hb:Hp)(Wb:Addr->Prop)(Ac:α->Hp->Prop)(β:bb)(o:α)(σ':St)(H':Hp):Prop:=∃own,SC X C W0 T σ0 H1 a Hb Wb (Ac o) β σ' H' own
structure wL {α:Type}(a:Addr)(Ac:α->Hp->Prop):Prop where
 same:∀o H H',az H H'->Ac o H->Ac o H'
 HY:∀o H xs,Ac o H->H a≠some (.tup xs)
abbrev Gw (X:Cx)(C:Cfg)(a:Addr)(T:List Nat)(γ:c6):TG:=λv σ H Q=>∃own β d k,SQ X (C.u λc=>c=a) σ H β own/\Rp X (eQ (C.u λc=>c=a) (Wn own) k) H d v/\γ d k β λβ'=>∀σ' aN,SQ X (C.u λc=>c=a) σ' H β' aN->(∀a,Wn aN a->Wn own a)->(∀j,j∉T->σ'[j]?=σ[j]?)->Q σ' H
abbrev Ov (X:Cx)(C:Cfg)(a:Addr)(φ:a6):lM:=λN σ H=>tQ X (C.u λc=>c=a) true φ σ H λv H1=>∃xs,H1 a=some (.lst xs)/\xs.length<Ul/\N σ (upd H1 a (.lst (xs++[v])))
section
variable {α:Type}{X:Cx}{C:Cfg}{W0:Addr->Prop}{T Tg:List Nat}{σ0:St}{H1:Hp}{a:Addr}{Hb:Hp}{Wb:Addr->Prop}{γ:c6}{τ:a5}{φ:a6}{Ac:α->Hp->Prop}
theorem SC.next {o:α}(hA:wL a Ac){β β':bb}{σ σ':St}{H H':Hp}{own aN:Nat->List Addr}(s:SC X C W0 T σ0 H1 a Hb Wb (Ac o) β σ H own)(sq:SQ X (C.u λc=>c=a) σ' H' β' aN)(w:∀c,Wn aN c->Wn own c)(sm:az H H')(t:∀j,j∉T->σ'[j]?=σ[j]?):
  SC X C W0 T σ0 H1 a Hb Wb (Ac o) β' σ' H' aN :=
 ⟨sq,gT (s.sn.same sm) w,λc z=>s.le c (w c z),hA.same o _ _ sm s.ac,s.pu.trans sm,λb ob n e=>sm _ _ (s.bs b ob n e),λj hj=>(t j hj).trans (s.st j hj)⟩
theorem SC.put {A:Hp->Prop}{A':Hp->Prop}(h0:C.H0 a=none)(ha:H1 a=none){β:bb}{σ:St}{H:Hp}{own:Nat->List Addr}{oa ob:HO}(s:SC X C W0 T σ0 H1 a Hb Wb A β σ H own)(e:H a=some oa)(nt:∀xs,oa≠.tup xs)(q:A' (upd H a ob)):
  SC X C W0 T σ0 H1 a Hb Wb A' β σ (upd H a ob) own:=by
 refine⟨s.sq.AO e nt h0,⟨s.sn.w,s.sn.k.trans ((iM e nt).mono λb z=>.inr (by rw[z];exact ha)),λb z e=>?_⟩,s.le,q,λb o e=>?_,λb o n e=>?_,s.st⟩
 ·by_cases hb:b=a
  ·rw[hb,ar]at e;cases e
  ·rw[aw hb]at e;exact s.sn.d b z e
 ·rw[aw (λz'=>by rw[z',ha]at e;cases e)]
  exact s.pu b o e
 ·rw[aw n];exact s.bs b o n e
def Lo (P:T7)(w:Ur)(H1:Hp)(a:Addr)(o:List D)(H:Hp):Prop:=∃vs A,H a=some (.lst vs)/\aI P w H o vs A/\A.Nodup/\∀c∈A,H1 c=none/\c≠a
theorem s_ {P:T7}{w:Ur}:wL a (Lo P w H1 a):=⟨λo H H' s h=>by
  obtain⟨vs,A,h1,h2,h3,h4⟩:=h;exact⟨vs,A,s _ _ h1,h2.keep (λb xs e=>s _ _ e) λc _ oc e=>s _ _ e,h3,h4⟩,λo H xs h z=>by
  obtain⟨vs,A,h1,_⟩:=h;rw[h1]at z;cases z⟩
def Dq (φ:a6)(o:List D)(β:bb)(N:bb->List D->Prop):Prop:=φ β λx kx β3=>BN kx x/\o.length<Ul/\N β3 (o++[x])
theorem AR (h0:C.H0 a=none)(ha:H1 a=none)(φm:∀β R R',(∀d k β,R d k β->R' d k β)->φ β R->φ β R'){β:bb}{o:List D}{σ:St}{H:Hp}{N:bb->List D->Prop}(s:qY X C W0 T σ0 H1 a Hb Wb (Lo X.prog X.w H1 a) β o σ H)(q:Dq φ o β N):
  Ov X C a φ (λσ' H'=>∃β' o',qY X C W0 T σ0 H1 a Hb Wb (Lo X.prog X.w H1 a) β' o' σ' H'/\N β' o') σ H:=by
 obtain⟨own,s⟩:=s;refine⟨β,own,s.sq,φm _ _ _ (λxd kx β6 ⟨f,hz,q⟩ v H6 Bh o6 r6=>?_) q⟩;obtain⟨sm,rfl⟩:=o6.pu rfl;have s6:=s.next s_ (o6.sq) (λ_ z=>z) sm (λ_ _=>rfl)
 obtain⟨B',r1,r2,r3⟩:=r6.fl f;obtain⟨vs,A,at',os,nd,nw⟩:=s.ac;have ql:H6 a=some (.lst vs):=sm _ _ at';have H9:∀c∈B',c≠a:=λc hc z=>by rw[z]at hc;exact absurd (at'.symm.trans (r3 a hc).1) (λz=>(nomatch z))
 have kt:∀b xs,H6 b=some (.tup xs)->upd H6 a (.lst (vs++[v])) b=some (.tup xs):=λb xs z=>by rw[aw (λz'=>by rw[z',ql]at z;cases z)];exact z
 refine⟨vs,ql,by rw[os.length];exact hz,β6,o++[xd],⟨Bh,s6.put h0 ha ql (λxs z=>by cases z) ⟨vs++[v],A++B',ar,?_,?_,λc hc=>?_⟩⟩,q⟩
 ·exact(os.keep (λb xs e=>kt b xs (sm _ _ e)) λc hc oc e=>by rw[aw (nw c hc).2];exact sm _ _ e).append (aI.one (r1.keep kt λc hc oc e=>by rw[aw (H9 c hc)];exact e))
 ·refine U9.mpr ⟨nd,r2,λx hx y hy e=>?_⟩;subst e;exact(os.lR x hx).1 (r3 x hy).1
 ·rcases Uq.mp hc with hc|hc
  ·exact nw c hc
  ·exact⟨s.sn.free (r3 c hc).1,H9 c hc⟩
def ji {α:Type}(γ:c6)(τ:a5)(Af:α->bb->(bb->α->Prop)->Prop)(ds:List D)(k:Kd)(β0:bb)(o0:α)(F:bb->α->Prop):Prop:=∃I:Nat->bb->α->Prop,I 0 β0 o0 /\
 (∀i d β o,ds[i]?=some d->I i β o->γ d (sk k d) β λβ1=>τ β1 λt β2=>if t=true then Af o β2 (I (i+1)) else I (i+1) β2 o)/\∀β o,I ds.length β o->F β o
theorem ji.mono {Af:α->bb->(bb->α->Prop)->Prop}{ds:List D}{k:Kd}{β0:bb}{o0:α}{F F':bb->α->Prop}(h:∀β o,F β o->F' β o)(q:ji γ τ Af ds k β0 o0 F):ji γ τ Af ds k β0 o0 F':=by
 obtain⟨I,h0,h1,h2⟩:=q;exact⟨I,h0,h1,λβ o z=>h _ _ (h2 β o z)⟩
theorem tN (hA:wL a Ac)(hT:∀j∈Tg,j∈T)(γm:∀d k β R R',(∀r,R r->R' r)->γ d k β R->γ d k β R')(τm:∀β R R',(∀d β,R d β->R' d β)->τ β R->τ β R'){J:It}{ds:List D}{k:Kd}{Af:α->bb->(bb->α->Prop)->Prop}{ta:lM}{F:bb->α->Prop}{End:St->Hp->Prop}{β0:bb}{o0:α}{σ1:St}{Hs:Hp}
  (it:∀i β o σ' H',qY X C W0 T σ0 H1 a Hb Wb Ac β o σ' H'->(∀d,ds[i]?=some d->J.go i H'/\∀x H3,J.G5 i H' x H3->az H' H3/\∀own,(∀c,Wn own c->Wb c)->aA X.prog X.w (eQ (C.u λc=>c=a) (Wn own) k) H3 d x)/\(ds.length<=i->J.stop i H'))
  (Fs:∀β o σ' H' N,qY X C W0 T σ0 H1 a Hb Wb Ac β o σ' H'->Af o β N->ta (λwY KA=>∃β' o',qY X C W0 T σ0 H1 a Hb Wb Ac β' o' wY KA/\N β' o') σ' H')
  (s0:qY X C W0 T σ0 H1 a Hb Wb Ac β0 o0 σ1 Hs) (q:ji γ τ Af ds k β0 o0 F) (fin:∀β o σ' H',qY X C W0 T σ0 H1 a Hb Wb Ac β o σ' H'->F β o->End σ' H') :
  fg J (Gw X C a Tg γ) (ij X (C.u λc=>c=a) true τ) ta End σ1 Hs:=by
 obtain⟨I,i0,i1,i2⟩:=q;refine⟨λi m σ' H'=>i<=ds.length/\m=ds.length-i/\∃β o,qY X C W0 T σ0 H1 a Hb Wb Ac β o σ' H'/\I i β o,⟨_,Uh _,rfl,β0,o0,s0,i0⟩,?_⟩;rintro i m σ2 H2 ⟨hi,rfl,β,o,sE,hl⟩;obtain⟨bS,l3⟩:=it i β o σ2 H2 sE
 by_cases d8:i<ds.length
 ·right
  have hd:ds[i]?=some ds[i]:=T5 d8;obtain⟨go,yl⟩:=bS _ hd;refine⟨go,λσ' H'=>∃β' o',qY X C W0 T σ0 H1 a Hb Wb Ac β' o' σ' H'/\I (i+1) β' o',λσ' H' h=>⟨_,by omega,d8,rfl,h⟩,λx H3 y=>?_⟩
  obtain⟨s3,r3⟩:=yl x H3 y;obtain⟨own,s⟩:=sE;refine⟨own,β,_,_,s.sq.same s3,nH (r3 own s.le),γm _ _ _ _ _ (λβ4 q σ4 pQ s4 w4 t4=>?_) (i1 i _ β o hd hl)⟩;have Qz:=s.next hA s4 w4 s3 λj hj=>t4 j λz=>hj (hT j z)
  refine⟨β4,pQ,s4,τm _ _ _ (λt β5 q H5 gY o5=>?_) q⟩;obtain⟨LI,rfl⟩:=o5.pu rfl;have OC:=Qz.next hA o5.sq (λ_ z=>z) LI λ_ _=>rfl
  cases t with
  |false=>exact⟨β5,o,⟨_,OC⟩,q⟩
  |true=>exact Fs β5 o σ4 H5 _ ⟨_,OC⟩ q
 ·left
  have e:i=ds.length:=by omega
  subst e;exact⟨l3 (T4 _),fin β o σ2 H2 sE (i2 β o hl)⟩
def CY {α:Type}(ι:bX)(γ:c6)(τ:a5)(Af:α->bb->(bb->α->Prop)->Prop)(o:α)(β:bb)(N:bb->α->Prop):Prop:=ι β λds k β1=>ji γ τ Af ds k β1 o N
theorem AQ (hA:wL a Ac){ι:bX}(hT:∀j∈Tg,j∈T)(γm:∀d k β R R',(∀r,R r->R' r)->γ d k β R->γ d k β R')(τm:∀β R R',(∀d β,R d β->R' d β)->τ β R->τ β R'){Af:α->bb->(bb->α->Prop)->Prop}{ta:lM}
  (Fs:∀Hb Wb β o σ' H' N,qY X C W0 T σ0 H1 a Hb Wb Ac β o σ' H'->Af o β N->ta (λwY KA=>∃β' o',qY X C W0 T σ0 H1 a Hb Wb Ac β' o' wY KA/\N β' o') σ' H')
  (ιm:∀β R R',(∀d k β,R d k β->R' d k β)->ι β R->ι β R') {β:bb} {o:α} {σ:St} {H:Hp} {N:bb->α->Prop} (s:qY X C W0 T σ0 H1 a Hb Wb Ac β o σ H) (q:CY ι γ τ Af o β N) :
  ∃β own,SQ X (C.u λc=>c=a) σ H β own/\ι β λds k β'=>∀J H',az H H'->SQ X (C.u λc=>c=a) σ H' β' own->uU X (eQ (C.u λc=>c=a) (Wn own) k) J ds H' ->
   fg J (Gw X C a Tg γ) (ij X (C.u λc=>c=a) true τ) ta (λσ' H'=>∃β' o',qY X C W0 T σ0 H1 a Hb Wb Ac β' o' σ' H'/\N β' o') σ H':=by
 obtain⟨own,s⟩:=s;refine⟨β,own,s.sq,ιm _ _ _ (λds k β1 q J H' sm sq Ra=>?_) q⟩;have s1:=s.next hA sq (λ_ z=>z) sm λ_ _=>rfl
 have hu:eQ (C.u λc=>c=a) (Wn own) k a:=.inr rfl;refine tN (Hb:=H') (Wb:=Wn own) hA hT γm τm (λi βx ox σx Hx sx=>?_) (λβx ox σx Hx Nx sx qx=>Fs _ _ _ _ _ _ _ sx qx) ⟨own,⟨s1.sq,s1.sn,λ_ z=>z,s1.ac,s1.pu,λ_ _ _ e=>e,s1.st⟩⟩ q λβx ox σx Hx sx hx=>?_
 ·obtain⟨Bg,sx⟩:=sx;have kp:Kp (λb=>eQ (C.u λc=>c=a) (Wn own) k b\/H' b=none) H' Hx:=⟨λb ob e n=>sx.bs b ob (λz=>n (.inl (by rw[z];exact hu))) e,λb xs e=>sx.bs b _ (λz=>hA.HY _ _ _ s1.ac (by rw[<- z];exact e)) e⟩
  obtain⟨g1,g2⟩:=Ra (λb=>eQ (C.u λc=>c=a) (Wn own) k b\/H' b=none) (λb z=>z) i Hx kp;refine⟨λd hd=>?_,g2⟩;obtain⟨go,yl⟩:=g1 d hd;refine⟨go,λx H3 y=>?_⟩;obtain⟨s3,r3⟩:=yl x H3 y;exact⟨s3,λaN Mu=>aA.aT (λb z=>.inl (fS Mu k b z)) r3⟩
 ·obtain⟨Bg,sx⟩:=sx;exact⟨βx,ox,⟨Bg,⟨sx.sq,sx.sn,λc z=>s.le c (sx.le c z),sx.ac,sx.pu,λb ob n e=>sx.bs b ob n (s1.bs b ob n e),sx.st⟩⟩,hx⟩
theorem pD {lk:List (Option Nat)}{σ:St}{β:bb}{own:Nat->List Addr}{oa:HO}(hA:wL a Ac){Af:α->bb->(bb->α->Prop)->Prop}{ta:lM}{J:It}{ds:List D}{k:Kd}{o0:α}{K:α->Prop}{End:Hp->Prop}
  (γm:∀d k β R R',(∀r,R r->R' r)->γ d k β R->γ d k β R') (τm:∀β R R',(∀d β,R d β->R' d β)->τ β R->τ β R') (R7:∀j∈Tg,j∈T)
  (inj:∀(i i' j:Nat),lk[i]?=some (some j)->lk[i']?=some (some j)->i=i') (hT:∀i∈T,∀j,lk[i]?≠some (some j))
  (s1:SQ X C σ H1 β own) (ha:H1 a=none) (hk:hold k false) (it:uU X (av C (Wn own) k) J ds H1) (a0:Ac o0 (upd H1 a oa)) (ent:SQ X (C.u λc=>c=a) (c5 lk σ) (upd H1 a oa) (b8 lk β) (bo lk β own))
  (Fs:∀Hb Wb β' o σ' H' N,C.H0 a=none->qY X C (Wn (bo lk β own)) T (c5 lk σ) H1 a Hb Wb Ac β' o σ' H'->Af o β' N->ta (λwY KA=>∃β' o',qY X C (Wn (bo lk β own)) T (c5 lk σ) H1 a Hb Wb Ac β' o' wY KA/\N β' o') σ' H')
  (q:ji γ τ Af ds k (b8 lk β) o0 λβf o=>dD (b8 lk β) βf/\K o)
  (fin:∀o H',K o->Out X C σ H1 own true β H' own->Ac o H'->End H') :
  fg J (Gw X C a Tg γ) (ij X (C.u λc=>c=a) true τ) ta (λ_ H'=>End H') (c5 lk σ) (upd H1 a oa):=by
 have h0:C.H0 a=none:=UJ λz=>s1.gc a z ha;have sm:az H1 (upd H1 a oa):=az.new ha;refine tN (W0:=Wn (bo lk β own)) (T:=T) (σ0:=c5 lk σ) (H1:=H1) (Hb:=H1) (Wb:=Wn (bo lk β own)) hA R7 γm τm (λi βx ox σx Hx sx=>?_) (λβx ox σx Hx Nx sx qx=>Fs _ _ _ _ _ _ _ h0 sx qx)
  ⟨bo lk β own,⟨ent,⟨λb z=>.inl z,sm.kp,λb z e=>z (sm.free e)⟩,λ_ z=>z,a0,sm,λb ob n e=>sm _ _ e,λ_ _=>rfl⟩⟩ q λβx ox σx Hx sx hx=>?_
 ·obtain⟨Bg,sx⟩:=sx;have kI:Kp (λb=>av C (Wn own) k b\/H1 b=none) H1 Hx:=sx.pu.kp;obtain⟨g1,g2⟩:=it (λb=>av C (Wn own) k b\/H1 b=none) (λb z=>z) i Hx kI;refine⟨λd hd=>?_,g2⟩;obtain⟨go,yl⟩:=g1 d hd;refine⟨go,λx H3 y=>?_⟩;obtain⟨s3,r3⟩:=yl x H3 y;exact⟨s3,λaN Mu=>aA.aT (λc z=>z.elim (λz=>.inl (ic (λc z=>bq c (Mu c z)) k c z)) λz=>.inr (by rw[z];exact ha)) r3⟩
 ·obtain⟨Bg,sx⟩:=sx;obtain⟨hh,hK⟩:=hx;have lv:SQ X C σ Hx β own:=s1.leave sx.sq sx.sn sx.le hh λj ok i' e1 e2=>sx.st i' λz=>hT i' z j e2;exact fin ox Hx hK ⟨lv,⟨λb z=>.inl z,sx.sn.k.mono λb z=>z.imp (bq b) id,sx.sn.d⟩,λz=>⟨sx.pu,rfl⟩,λ_ z=>z⟩ sx.ac
end
theorem Gm {X:Cx}{C:Cfg}{σ:St}{H1 H':Hp}{β:bb}{own:Nat->List Addr}{a:Addr}{o:List D}(s1:SQ X C σ H1 β own)(ha:H1 a=none)(h:Lo X.prog X.w H1 a o H'):KV X.prog X.w C (H1,Wn own) own H' .own (.lst o) (.ref a):=by
 obtain⟨vs,A,at',os,nd,nw⟩:=h;refine⟨a::A,⟨a,vs,A,rfl,at',rfl,os⟩,UM.mpr ⟨λz=>(nw a z).2 rfl,nd⟩,λc hc=>?_⟩;have l7:H1 c=none:=by
  rcases Uc.mp hc with rfl|hc
  ·exact ha
  ·exact(nw c hc).1
 exact⟨l7,λh=>by obtain⟨j,hj⟩:=h;exact(s1.dm j c hj).1 l7,UJ λz=>s1.gc c z l7⟩
def Ew (lk:List (Option Nat))(ι:bX)(γ:c6)(τ:a5)(ι2:bX)(γ2:c6)(τ2:a5)(φ:a6):a6:=λβ R=>ι β λds k β1=>hold k false/\ji γ τ (CY ι2 γ2 τ2 (Dq φ)) ds k (b8 lk β1) [] λβf o=>dD (b8 lk β1) βf/\R (.lst o) .own β1
section
variable {X:Cx}{C:Cfg}{lk:List (Option Nat)}{γ γ2:c6}{τ τ2:a5}{φ:a6}{T T2:List Nat}
variable {scope:Wg}{tg bS xj l3 elt:Expr}{ifs l4:List Expr}{ι ι2:bX}{pi:Bool}{pos:Pos}{i:Nat}
theorem O3 (N':List Str)(lk:List (Option Nat))(L:eY X.env.scope.names X.N scope N' lk=true)(lQ:N'.Nodup)(hc:X.calm=true)(hi:rA X C pi tg bS ι)
  (ll:∀a cl c s H ex,tj (aB X scope N' cl c s H ex) (C.u λc=>c=a) tg T γ) (fM:∀a cl c s H ex,mm (aB X scope N' cl c s H ex) (C.u λc=>c=a) true ifs τ)
  (Pr:∀a cl c s H ex,Od (aB X scope N' cl c s H ex) (C.u λc=>c=a) xj l3 ι2)
  (IU:∀a cl c s H ex,tj (aB X scope N' cl c s H ex) (C.u λc=>c=a) xj T2 γ2) (IT:∀a cl c s H ex,mm (aB X scope N' cl c s H ex) (C.u λc=>c=a) true l4 τ2)
  (jm:∀a cl c s H ex,PQ (aB X scope N' cl c s H ex) (C.u λc=>c=a) true elt φ) (hT:(T++T2).all (λi=>match lk[i]? with|some (some _)=>false|_=>true)=true:=by rfl)
  (hs:∀x,UU bS X.env x=pure x:=by intro _;rfl) (mS:∀cl c s H ex x,UU l3 (aB X scope N' cl c s H ex).env x=pure x:=by intro _ _ _ _ _ _;rfl):PQ X C pi (.ListComp elt [⟨tg,bS,ifs,0⟩,⟨xj,l3,l4,0⟩] scope pos) (Ew lk ι γ τ ι2 γ2 τ2 φ):=by
 have L:=Links.of L;have B7:∀i∈T++T2,∀j,lk[i]?≠some (some j):=λi hi j e=>by
  have:=Wf.mp hT i hi;rw[e]at this;cases this
 have ax:Addr:=0;have TU:List (Str×Addr):=[];have γm:=(ll 0 [] 0 X.s₀ X.H₀ []).mono;have τm:=(fM 0 [] 0 X.s₀ X.H₀ []).mono;have Lq:=(IU 0 [] 0 X.s₀ X.H₀ []).mono;have Lp:=(IT 0 [] 0 X.s₀ X.H₀ []).mono;have φm:=(jm 0 [] 0 X.s₀ X.H₀ []).mono;have ιm:=(Pr 0 [] 0 X.s₀ X.H₀ []).mono;refine⟨λβ R R' k h=>hi.mono β _ _ (λds kd β1 q=>⟨q.1,q.2.mono λ_ _ z=>⟨z.1,k _ _ _ z.2⟩⟩) h,?_⟩;refine(fG (g:=⟨tg,bS,ifs,0⟩) (gs:=[⟨xj,l3,l4,0⟩]) (tg:=λa=>Gw X C a T γ) (tt:=λa=>ij X (C.u λc=>c=a) true τ)
  (ta:=λa N σ H=>∃β own,SQ X (C.u λc=>c=a) σ H β own/\ι2 β λds k β'=>∀J H',az H H'->SQ X (C.u λc=>c=a) σ H' β' own->uU X (eQ (C.u λc=>c=a) (Wn own) k) J ds H' ->
   fg J (Gw X C a T2 γ2) (ij X (C.u λc=>c=a) true τ2) (Ov X C a φ) N σ H')
  L hc fJ rfl rfl (λ_ _=>Gb) hi.pi (λa cl c s H ex=>⟨(ll a cl c s H ex).pg,(fM a cl c s H ex).pt,Bf (X:=aB X scope N' cl c s H ex) (g':=⟨xj,l3,l4,0⟩) rfl hc Ga (Pr a cl c s H ex).pi (IU a cl c s H ex).pg (IT a cl c s H ex).pt (fH (X:=aB X scope N' cl c s H ex) rfl (jm a cl c s H ex).pe) (mS cl c s H ex)⟩) hs).pre λσ H Q h=>?_
 obtain⟨β,own,s,h⟩:=h;refine⟨β,own,s,hi.mono β _ _ (λds k β1 h J H1 aE o1 it a ha=>?_) h⟩;obtain⟨hk,q⟩:=h;refine pD (T:=T++T2) (s_ (P:=X.prog) (w:=X.w) (H1:=H1)) γm τm (λj hj=>Vg _ hj) (cu L lQ) B7 o1.sq ha hk it ⟨[],[],ar,(show aI _ _ _ [] [] [] from ⟨rfl,rfl⟩),Ve,λc hc=>(nomatch hc)⟩ (o1.sq.enter ha (cu L lQ))
  (λHb Wb βx ox σx Hx Nx h0 sx qx=>AQ s_ (λj hj=>UP _ hj) Lq Lp (λHb Wb βy oy σy Hy Ny sy qy=>AR h0 ha φm sy qy) ιm sx qx) q λo H' q o2 r=>?_
 refine q _ _ aE ⟨o2.sq,o1.sn.trans o2.sn,λz=>⟨(o1.pu z).1.trans (o2.pu rfl).1,(o1.pu z).2⟩,o1.le⟩ ((Gm o1.sq ha r).later o1.sn)
end
end L2.Q
namespace L2
open PySem PySem.Spec PySem.SeqAt PyProof.Rows
section
variable {X:Cx}
theorem vD:lO X newDict (.dT []) :=
 ⟨λpins s σ H Q E I h=>Wv (h _ _ (T4 _) I.fresh (λb o e=>Ud _ e) (I.laid (t':=s.toks) (λ_ _ q=>Ud _ q) (T4 _) (zM _ I.big)))⟩
theorem yn {k v:Expr}{tk tv:TE}{a:Addr}(hx:X.xe=λ_ _=>False)(hu:X.A.units<WN)(hk:PE X k tk)(hv:PE X v tv):
  oO X (j8 (zK k v (.ref a) X.env)) (λN σ H=>tk σ H λy H1=>tv σ H1 λv H2=>∃kvs key b,H2 a=some (.dT kvs)/\y=.ref b/\H2 b=some (.tup (key.map kV))/\kvs.length<Ul/\N σ (upd H2 a (.dT (putK kvs key v)))):=by
 intro pins s σ H N kk Q E I h hN;unfold j8 zK;refine TZ (TZ (b9 (dS hx (hk pins s σ H _ I h)) λu s1 ⟨y,H1,I1,r1,q⟩=>?_));refine TZ (Vs (b9 (dS hx (hv pins s1 σ H1 _ I1 q)) λw' s2 ⟨v,H2,I2,r2,kvs,key,b,e,ey,eb,l,q2⟩=>?_));subst ey;cases (show u=Value.ref b from r1)
 refine TZ (V2 (Vs ?_));obtain⟨z,hd,xs,rel,dd⟩:=Kc I2.bM e;have hz:xs.length<=Ul:=by rw[<- Paired.length rel];exact z
 have hl:(putK kvs key v).length<=Ul:=by have:=qf kvs key v;lia
 refine wpAny_dictSet_heap (hsz:=hz) (knd:=Xd (cf X.prog X.w)) hu (sF I2.bM eb) dd λh' SD hs=>hN σ _ _ ?_ q2;obtain⟨q,es,ep,hq,h2,h3,h4,_,h5⟩:=SD;refine Cg I2 (by rw[e];exact WC) hs ⟨q,hq⟩ ⟨hl,hd,_,(rel.put key eb r2).keeps λc ys ec=>?_,q,es,ep,hq,h2,h3,h4,h5⟩
 rw[aw (CZ ec e (λz=>nomatch z))];exact ec
end
end L2
namespace L2.Q
open PySem PySem.Spec PySem.SeqAt PyProof.Rows
def Oo (P:T7)(w:Ur)(a:Addr)(o:List (List Int×D))(H:Hp):Prop:=∃vs,H a=some (.dT ((o.map λp=>iK p.1).zip vs))/\aI P w H (o.map (·.2)) vs []
theorem Aa {P:T7}{w:Ur}{a:Addr}:wL a (Oo P w a):=⟨λo H H' s h=>by
  obtain⟨vs,h1,h2⟩:=h;exact⟨vs,s _ _ h1,h2.keep (λb xs e=>s _ _ e) λc hc=>(nomatch hc)⟩,λo H xs h z=>by
  obtain⟨vs,h1,_⟩:=h;rw[h1]at z;cases z⟩
abbrev Ox (X:Cx)(C:Cfg)(a:Addr)(φk φ:a6):lM:=λN σ H=>tQ X (C.u λc=>c=a) true φk σ H λy H1=>tQ X (C.u λc=>c=a) true φ σ H1 λv H2=>∃kvs key b,H2 a=some (.dT kvs)/\y=.ref b/\H2 b=some (.tup (key.map kV))/\kvs.length<Ul/\N σ (upd H2 a (.dT (putK kvs key v)))
def zJ (φk φ:a6)(o:List (List Int×D))(β:bb)(N:bb->List (List Int×D)->Prop):Prop:=φk β λkd _ β2=>φ β2 λx _ β3=>∃t,kd=.tup (t.map D.int)/\x.flat=true/\ir o t=none/\o.length<Ul/\N β3 (o++[(t,x)])
section
variable {X:Cx}{C:Cfg}{W0:Addr->Prop}{T:List Nat}{σ0:St}{H1:Hp}{a:Addr}{Hb:Hp}{Wb:Addr->Prop}{φ φk:a6}
theorem xN (h0:C.H0 a=none)(ha:H1 a=none)(DK:∀β R R',(∀d k β,R d k β->R' d k β)->φk β R->φk β R')(φm:∀β R R',(∀d k β,R d k β->R' d k β)->φ β R->φ β R'){β:bb}{o:List (List Int×D)}{σ:St}{H:Hp}{N:bb->List (List Int×D)->Prop}(s:qY X C W0 T σ0 H1 a Hb Wb (Oo X.prog X.w a) β o σ H)(q:zJ φk φ o β N):
  Ox X C a φk φ (λσ' H'=>∃β' o',qY X C W0 T σ0 H1 a Hb Wb (Oo X.prog X.w a) β' o' σ' H'/\N β' o') σ H:=by
 obtain⟨own,s⟩:=s;refine⟨β,own,s.sq,DK _ _ _ (λkd kk β5 q v5 H5 gY o5 r5=>?_) q⟩;obtain⟨LI,rfl⟩:=o5.pu rfl;refine⟨β5,_,o5.sq,φm _ _ _ (λxd kx β6 ⟨t,e1,f,hn,hz,q2⟩ v H6 Bh o6 r6=>?_) q⟩;obtain⟨sm,rfl⟩:=o6.pu rfl;have s6:=s.next Aa o6.sq (λ_ z=>z) (LI.trans sm) (λ_ _=>rfl)
 subst e1;obtain⟨b,us,rfl,hb,rt⟩:=r5.rep;rw[L2.bO rt]at hb;obtain⟨vs,at',os⟩:=s6.ac;have QF:Own X.prog X.w H6 xd v []:=c0 f r6.rep;have l:(o.map λp=>iK p.1).length=vs.length:=by rw[TX,os.length,TX]
 have FQ:putK ((o.map λp=>iK p.1).zip vs) (iK t) v=((o++[(t,xd)]).map λp=>iK p.1).zip (vs++[v]):=by
  rw[xV v (DW os hn),Ux,List.zip_append l];rfl
 have kt:∀c xs,H6 c=some (.tup xs)->upd H6 a (.dT (putK ((o.map λp=>iK p.1).zip vs) (iK t) v)) c=some (.tup xs):=λc xs z=>by rw[aw (λz'=>by rw[z',at']at z;cases z)];exact z
 refine⟨_,iK t,b,at',rfl,by rw[C_];exact sm _ _ hb,by rw[List.length_zip,<- l,Nat.min_self,TX];exact hz,β6,o++[(t,xd)],⟨_,s6.put h0 ha at' (λxs z=>by cases z) ⟨vs++[v],by rw[ar,FQ],?_⟩⟩,q2⟩
 rw[Ux];exact(os.keep kt (A:=[]) λc hc=>by cases hc).append (aI.one (QF.keep kt (A:=[]) λc hc=>by cases hc))
end
def Eu (lk:List (Option Nat))(ι:bX)(γ:c6)(τ:a5)(φk φ:a6):a6:=λβ R=>ι β λds k β1=>hold k false/\ji γ τ (zJ φk φ) ds k (b8 lk β1) [] λβf o=>dD (b8 lk β1) βf/\R (dA o) .own β1
section
variable {X:Cx}{C:Cfg}{lk:List (Option Nat)}{γ:c6}{τ:a5}{φ φk:a6}{T:List Nat}
variable {scope:Wg}{tg bS ke elt:Expr}{ifs:List Expr}{ι:bX}{pi:Bool}{pos:Pos}{i:Nat}
theorem SF (hu:X.A.units<WN)(N':List Str)(lk:List (Option Nat))(L:eY X.env.scope.names X.N scope N' lk=true)(lQ:N'.Nodup)(hc:X.calm=true)(hi:rA X C pi tg bS ι)
  (ll:∀a cl c s H ex,tj (aB X scope N' cl c s H ex) (C.u λc=>c=a) tg T γ) (fM:∀a cl c s H ex,mm (aB X scope N' cl c s H ex) (C.u λc=>c=a) true ifs τ)
  (Pm:∀a cl c s H ex,PQ (aB X scope N' cl c s H ex) (C.u λc=>c=a) true ke φk) (jm:∀a cl c s H ex,PQ (aB X scope N' cl c s H ex) (C.u λc=>c=a) true elt φ) (hT:T.all (λi=>match lk[i]? with|some (some _)=>false|_=>true)=true:=by rfl)
  (hs:∀x,UU bS X.env x=pure x:=by intro _;rfl):PQ X C pi (.DictComp ke elt [⟨tg,bS,ifs,0⟩] scope pos) (Eu lk ι γ τ φk φ):=by
 have L:=Links.of L;have B7:∀i∈T,∀j,lk[i]?≠some (some j):=λi hi j e=>by
  have:=Wf.mp hT i hi;rw[e]at this;cases this
 have γm:=(ll 0 [] 0 X.s₀ X.H₀ []).mono;have τm:=(fM 0 [] 0 X.s₀ X.H₀ []).mono;have φm:=(jm 0 [] 0 X.s₀ X.H₀ []).mono;have DK:=(Pm 0 [] 0 X.s₀ X.H₀ []).mono;refine⟨λβ R R' k h=>hi.mono β _ _ (λds kd β1 q=>⟨q.1,q.2.mono λ_ _ z=>⟨z.1,k _ _ _ z.2⟩⟩) h,?_⟩;refine(fG (g:=⟨tg,bS,ifs,0⟩) (gs:=[]) (tg:=λa=>Gw X C a T γ) (tt:=λa=>ij X (C.u λc=>c=a) true τ) (ta:=λa=>Ox X C a φk φ)
  L hc vD rfl rfl (λ_ _=>Kk) hi.pi (λa cl c s H ex=>⟨(ll a cl c s H ex).pg,(fM a cl c s H ex).pt,yn (X:=aB X scope N' cl c s H ex) rfl hu (Pm a cl c s H ex).pe (jm a cl c s H ex).pe⟩) hs).pre λσ H Q h=>?_
 obtain⟨β,own,s,h⟩:=h;refine⟨β,own,s,hi.mono β _ _ (λds k β1 h J H1 aE o1 it a ha=>?_) h⟩;obtain⟨hk,q⟩:=h;refine pD (T:=T) (Aa (P:=X.prog) (w:=X.w)) γm τm (λj hj=>hj) (cu L lQ) B7 o1.sq ha hk it ⟨[],ar,(show aI _ _ _ [] [] [] from ⟨rfl,rfl⟩)⟩ (o1.sq.F4 (λxs z=>by cases z) ha (cu L lQ))
  (λHb Wb βx ox σx Hx Nx h0 sx qx=>xN h0 ha DK φm sx qx) q λo H' q o2 r=>?_
 refine q _ _ aE ⟨o2.sq,o1.sn.trans o2.sn,λz=>⟨(o1.pu z).1.trans (o2.pu rfl).1,(o1.pu z).2⟩,o1.le⟩ ?_;obtain⟨vs,at',os⟩:=r;refine⟨[a],EH at' os,by simp,λc hc=>?_⟩
 rw[T_.mp hc];exact⟨UJ λz=>o1.sn.d a z ha,λh=>by obtain⟨j,hj⟩:=h;exact(o1.sq.dm j a hj).1 ha,UJ λz=>o1.sq.gc a z ha⟩
end
end L2.Q
namespace Mx
structure Sr (α:Type) where
 zero:α
 one:α
 add:α->α->α
 mul:α->α->α
section
variable {α:Type}(S:Sr α)
def AE (n:Nat)(f:Nat->α):α:=match n with
 |0=>S.zero
 |n+1=>S.add (AE n f) (f n)
end
section
end
section
end
end Mx
namespace L2.Q
open PySem PySem.Spec PySem.SeqAt PyProof.Rows
structure Bs3 (mg:Str->Option TY):Prop extends Bs2 mg where
 sum:mg "sum" = none
def tI (p:Nat×Nat):List Int:=[(p.1:Int),(p.2:Int)]
theorem xo {p q:Nat×Nat}(h:tI p=tI q):p=q:=by
 unfold tI at h;injection h with h1 h2
 injection h2 with h2 _
 exact Prod.ext (Int.ofNat.inj h1) (Int.ofNat.inj h2)
def xh (ps:List (Nat×Nat)):D:=.lst (ps.map λp=>kD (tI p))
def gk (n:Nat)(ps:List (Nat×Nat)):D:=.tup [.int n,xh ps]
structure CH (n:Nat)(ps:List (Nat×Nat)):Prop where
 lt:∀p∈ps,p.1<p.2/\p.2<n
 nd:ps.Nodup
 le:n<=80
 sm:ps.length<=400
theorem xi {n:Int}{ts:List (List Int)}(n0:0<=n)(h:bF n ts):∃ps:List (Nat×Nat),ts=ps.map tI/\∀p∈ps,p.1<p.2/\p.2<n.toNat:=by
 induction ts with
 |nil=>exact⟨[],rfl,λ_ z=>(nomatch z)⟩
 |cons t ts ih =>
  obtain⟨ps,e,q⟩:=ih λu hu=>h u (by simp[hu])
  obtain⟨a,b,rfl,h1,h2,h3⟩:=h t (by simp)
  refine⟨(a.toNat,b.toNat)::ps,?_,λp hp=>?_⟩
  ·rw[Uy,<- e]
   congr 1
   show [a,b]=[((a.toNat:Nat):Int),((b.toNat:Nat):Int)];rw[XM h1,XM (by lia)]
  ·rcases Uc.mp hp with rfl|hp
   ·exact⟨by show a.toNat<b.toNat;lia,by show b.toNat<n.toNat;lia⟩
   ·exact q p hp
theorem AU {n:Int}{ts:List (List Int)}(n0:0<=n)(n1:n<=80)(l:ts.length<=400)(h:bF n ts)(nd:ts.Nodup):∃(m:Nat) (ps:List (Nat×Nat)),CH m ps/\n=m/\ts=ps.map tI/\D.tup [.int n,.lst (ts.map kD)]=gk m ps:=by
 obtain⟨ps,e,q⟩:=xi n0 h;refine⟨n.toNat,ps,⟨q,?_,by lia,by rw[e,TX]at l;exact l⟩,by lia,e,?_⟩
 ·rw[e]at nd;exact(VP.mp nd).imp λz e=>z (congrArg tI e)
 ·unfold gk xh;rw[e,Va,XM n0];rfl
noncomputable def bz (l:List Nat):List D:=l.map λ(k:Nat)=>D.int (k:Int)
def oR (ps:List (Nat×Nat))(i:Nat):List Nat:=(ps.filter λp=>decide (p.1=i)).map (·.2)
theorem f_ {ps:List (Nat×Nat)}{i k:Nat}:k∈oR ps i↔(i,k)∈ps:=by
 unfold oR;rw[UG];constructor
 ·rintro⟨p,hp,rfl⟩;obtain⟨h1,h2⟩:=UX.mp hp;rw[<- of_decide_eq_true h2];exact h1
 ·intro h;exact⟨(i,k),UX.mpr ⟨h,by simp⟩,rfl⟩
def HI (n:Nat)(ps:List (Nat×Nat)):D:=.lst ((T8 n).map λi=>.lst (bz (oR ps i)))
def wD (ps:List (Nat×Nat))(w:Nat×Nat->Int):D:=dA (ps.map λp=>(tI p,.int (w p)))
theorem DV {ps:List (Nat×Nat)}{w:Nat×Nat->Int}{p:Nat×Nat}(h:p∈ps):ir (ps.map λp=>(tI p,.int (w p))) (tI p)=some (.int (w p)):=by
 unfold ir
 induction ps with
 |nil=>cases h
 |cons q ps ih =>
  rw[Uy,Vu]
  by_cases e:q=p
  ·rw[e,decide_eq_true rfl];rfl
  ·rw[decide_eq_false λz=>e (xo z)];exact ih ((Uc.mp h).resolve_left λz=>e z.symm)
theorem By {ps:List (Nat×Nat)}{w:Nat×Nat->Int}{p:Nat×Nat}(h:p∉ps):ir (ps.map λp=>(tI p,.int (w p))) (tI p)=none:=by
 unfold ir;rw[Option.map_eq_none_iff,List.find?_eq_none];intro x hx;obtain⟨q,hq,rfl⟩:=UG.mp hx;simp only[decide_eq_true_eq];intro e;exact h (xo e▸hq)
theorem F1 {ps:List (Nat×Nat)}{w:Nat×Nat->Int}{i k:Nat}(h:(i,k)∈ps):uF (wD ps w) (.tup [.int (i:Int),.int (k:Int)])=some (.int (w (i,k))):=by
 have:=Cn (kvs:=ps.map λp=>(tI p,D.int (w p))) (t:=tI (i,k));rw[DV h]at this;exact this
theorem bj {α:Type}{n i:Nat}{f:Nat->α}(h:i<n):((T8 n).map f)[i]?=some (f i):=by
 rw[T6,VG h];rfl
theorem ft {ds:List D}{x:Int}{i:Nat}{d:D}(hx:x=(i:Int))(h:ds[i]?=some d):lS (.lst ds) (.int x)=some d:=by rw[hx];exact Cm h
theorem Mz {n:Nat}{ps:List (Nat×Nat)}{x:Int}{i:Nat}(hx:x=(i:Int))(h:i<n):lS (HI n ps) (.int x)=some (.lst (bz (oR ps i))):=ft hx (bj h)
def rK (L:Nat)(T:Nat->Int):List D:=(T8 L).map λl=>.int (T l)
def xn (n:Nat)(L:Nat->Nat)(T:Nat->Nat->Int):D:=.lst ((T8 (n+1)).map λi=>.lst (rK (L i) λl=>T l i))
theorem hG {L:Nat}{T:Nat->Int}{x:Int}{l:Nat}(hx:x=(l:Int))(h:l<L):lS (.lst (rK L T)) (.int x)=some (.int (T l)):=ft hx (bj h)
theorem gq {n:Nat}{L:Nat->Nat}{T:Nat->Nat->Int}{x:Int}{i:Nat}(hx:x=(i:Int))(h:i<=n):lS (xn n L T) (.int x)=some (.lst (rK (L i) λl=>T l i)):=ft hx (bj (by lia))
def gE (ps:List (Nat×Nat))(w:Nat×Nat->Int)(T:Nat->Nat->Int)(i j:Nat):Int:=(fK ((((oR ps i).filter λk=>decide (k<j)).map λk=>w (i,k)+T (k-i-1) (i+1)+T (j-k-1) (k+1))++[T (j-i-1) (i+1)])).getD 0
theorem mJ {l:List Int}{x:Int}:fK (l++[x])=some ((fK (l++[x])).getD 0):=by
 cases l with
 |nil=>rfl
 |cons a l=>rfl
theorem k6 {ps:List (Nat×Nat)}{w:Nat×Nat->Int}{T T':Nat->Nat->Int}{i j:Nat}(hp:∀p∈ps,p.1<p.2)(hj:i<j)(h:∀l,l<j-i->∀a,T l a=T' l a):gE ps w T i j=gE ps w T' i j:=by
 unfold gE;have e:((oR ps i).filter λk=>decide (k<j)).map (λk=>w (i,k)+T (k-i-1) (i+1)+T (j-k-1) (k+1))=((oR ps i).filter λk=>decide (k<j)).map λk=>w (i,k)+T' (k-i-1) (i+1)+T' (j-k-1) (k+1):=by
  refine U5 λk hk=>?_;obtain⟨h1,h2⟩:=UX.mp hk;have h3:=hp _ (f_.mp h1);have h4:=of_decide_eq_true h2;dsimp only at h3;rw[h _ (by lia),h _ (by lia)]
 rw[e,h (j-i-1) (by lia)]
def Ec (ps:List (Nat×Nat))(w:Nat×Nat->Int):Nat->Nat->Nat->Int
 |0,_,_=>0
 |_+1,0,_=>0
 |n+1,l+1,i=>gE ps w (Ec ps w n) i (i+l+1)
theorem o8 {ps:List (Nat×Nat)}{w:Nat×Nat->Int}(hp:∀p∈ps,p.1<p.2):∀{n m l i:Nat},l<=n->l<=m->Ec ps w n l i=Ec ps w m l i
 |0,0,_,_,_,_=>rfl
 |0,m+1,0,_,_,_=>rfl
 |0,m+1,l+1,_,h,_=>by lia
 |n+1,0,0,_,_,_=>rfl
 |n+1,0,l+1,_,_,h=>by lia
 |n+1,m+1,0,_,_,_=>rfl
 |n+1,m+1,l+1,i,h1,h2=>by
  unfold Ec;exact k6 hp (by lia) λl' hl a=>o8 hp (by lia) (by lia)
def tW (ps:List (Nat×Nat))(w:Nat×Nat->Int)(l i:Nat):Int:=Ec ps w l l i
theorem tE {ps:List (Nat×Nat)}{w:Nat×Nat->Int}(hp:∀p∈ps,p.1<p.2){l i:Nat}:tW ps w (l+1) i=gE ps w (tW ps w) i (i+l+1):=by
 show Ec ps w (l+1) (l+1) i=_;unfold Ec;exact k6 hp (by lia) λl' hl a=>o8 hp (by lia) (by lia)
def fC (n a:Nat):List (Nat×Nat):=(T8 (a+1)).map λb=>(n-1-a,n-a+b)
def u0 (n:Nat):List (Nat×Nat):=(T8 n).flatMap (fC n)
def L_ (p:Nat×Nat):D:=.tup [.int (p.1:Int),.int (p.2:Int)]
theorem dB {α:Type}{γ:c6}{τ:a5}{φ:a6}{l:List α}{f:α->D}{k:Kd}{jS:bb}{K:List D->Prop}(t:α->Bool)(g:α->D)(h0:dD jS jS)(hl:l.length<=Ul)
  (h:∀x∈l,∀(x0:Option B) (o:List D) (J:bb->List D->Prop),o.length<Ul->(t x=true->∀x0,J (x0::jS) (o++[g x]))->(t x=false->∀x0,J (x0::jS) o)->γ (f x) (sk k (f x)) (x0::jS) λβ1=>τ β1 λt β2=>if t=true then φ β2 λx kx β3=>BN kx x/\o.length<Ul/\J β3 (o++[x]) else J β2 o)
  (q:K ((l.filter t).map g)):jh γ τ φ (l.map f) k (none::jS) K:=by
 refine⟨λi β o=>i<=l.length/\(∃x0,β=x0::jS)/\o=((l.take i).filter t).map g,⟨Uh _,⟨_,rfl⟩,rfl⟩,?_,?_⟩
 ·rintro i d β o hd ⟨hi,⟨x0,rfl⟩,rfl⟩;rw[T6]at hd;obtain⟨x,hx,rfl⟩:=Uk.mp hd;have d8:i<l.length:=(Ua.mp hx).1;have hle:(((l.take i).filter t).map g).length<Ul:=by
   rw[TX];have:=Vr t (l.take i);rw[Ut]at this;lia
  have e:l.take (i+1)=l.take i++[x]:=by rw[U0,hx];rfl
  refine h x (UO hx) x0 _ (λβ o=>i+1<=l.length/\(∃x0,β=x0::jS)/\o=((l.take (i+1)).filter t).map g) hle (λht x0=>?_) λht x0=>?_
  ·exact⟨d8,⟨_,rfl⟩,by rw[e,VA,Ux,Vj,if_pos ht];rfl⟩
  ·exact⟨d8,⟨_,rfl⟩,by rw[e,VA,Ux,Vj,if_neg (by rw[ht];simp)];simp⟩
 ·rintro β o ⟨_,⟨x0,rfl⟩,rfl⟩;rw[TX,Vd];exact⟨h0,q⟩
theorem sA {α:Type}{γ:c6}{τ:a5}{φ:a6}{l:List α}{f:α->D}{k:Kd}{jS:bb}{K:List D->Prop}(t:α->Bool)(g:α->D)(h0:dD jS jS)(hl:l.length<=Ul)
  (h:∀x∈l,∀(x0 x1:Option B) (o:List D) (J:bb->List D->Prop),o.length<Ul->(t x=true->∀x0 x1,J (x0::x1::jS) (o++[g x]))->(t x=false->∀x0 x1,J (x0::x1::jS) o)->γ (f x) (sk k (f x)) (x0::x1::jS) λβ1=>τ β1 λt β2=>if t=true then φ β2 λx kx β3=>BN kx x/\o.length<Ul/\J β3 (o++[x]) else J β2 o)
  (q:K ((l.filter t).map g)):jh γ τ φ (l.map f) k (none::none::jS) K:=by
 refine⟨λi β o=>i<=l.length/\(∃x0 x1,β=x0::x1::jS)/\o=((l.take i).filter t).map g,⟨Uh _,⟨_,_,rfl⟩,rfl⟩,?_,?_⟩
 ·rintro i d β o hd ⟨hi,⟨x0,x1,rfl⟩,rfl⟩;rw[T6]at hd;obtain⟨x,hx,rfl⟩:=Uk.mp hd;have d8:i<l.length:=(Ua.mp hx).1;have hle:(((l.take i).filter t).map g).length<Ul:=by
   rw[TX];have:=Vr t (l.take i);rw[Ut]at this;lia
  have e:l.take (i+1)=l.take i++[x]:=by rw[U0,hx];rfl
  refine h x (UO hx) x0 x1 _ (λβ o=>i+1<=l.length/\(∃x0 x1,β=x0::x1::jS)/\o=((l.take (i+1)).filter t).map g) hle (λht x0 x1=>?_) λht x0 x1=>?_
  ·exact⟨d8,⟨_,_,rfl⟩,by rw[e,VA,Ux,Vj,if_pos ht];rfl⟩
  ·exact⟨d8,⟨_,_,rfl⟩,by rw[e,VA,Ux,Vj,if_neg (by rw[ht];simp)];simp⟩
 ·rintro β o ⟨_,⟨x0,x1,rfl⟩,rfl⟩;rw[TX,Vd];exact⟨h0,q⟩
theorem a8 {α:Type}{l:List α}:l.filter (λ_=>true)=l:=List.filter_eq_self.mpr λ_ _=>rfl
theorem ia {a b:List D}(h:a.length+b.length<=1000000):wj (.lst a) (.lst b)=some (.lst (a++b)):=by
 show (if a.length+b.length<=Ul then _ else _)=_
 rw[if_pos (U3 h (by decide))]
theorem iS {α:Type}{f:α->Int}:∀{l:List α},D.bW (l.map λx=>D.int (f x))=true
 |[]=>rfl
 |_::l=>iS (l:=l)
theorem mW:∀{a b:List D},D.bW a=true->D.bW b=true->D.bW (a++b)=true
 |[],_,_,h=>h
 |d::a,b,h,h'=>by
  have f':(d.flat&&D.bW a)=true:=h;rw[Vf]at f';show (d.flat&&D.bW (a++b))=true;rw[f'.1,mW f'.2 h'];rfl
theorem yG {α:Type}{f:α->Int}{l:List α}{x:Int}:cY fK [.lst ((l.map λk=>D.int (f k))++[D.int x])]=some (.int ((fK (l.map f++[x])).getD 0)):=by
 have e:(l.map λk=>D.int (f k))++[D.int x]=(l.map f++[x]).map D.int:=by simp
 rw[e];exact fb mJ
theorem BC {α:Type}{l:List α}{m:Nat}{x:α}(h:l.Nodup)(hx:l[m]?=some x):x∉l.take m:=λz=>by
 obtain⟨i,hi⟩:=List.mem_iff_getElem?.mp z;rw[List.getElem?_take]at hi
 split at hi
 ·next d8 =>
  have:=(List.getElem?_inj (Ua.mp hi).1 h).mp (hi.trans hx.symm);lia
 ·cases hi
def zF:FD:=λds R=>∃n:Nat,ds=[.int n]/\n<=80/\R (.lst ((u0 n).map L_))
theorem zF.mono:d9 zF:=λds R R' k h=>by obtain⟨n,e,h1,q⟩:=h;exact⟨n,e,h1,k _ q⟩
def qF:FD:=λds R=>∃n ps,ds=[gk n ps]/\CH n ps/\R (HI n ps)
theorem qF.mono:d9 qF:=λds R R' k h=>by obtain⟨n,ps,e,h1,q⟩:=h;exact⟨n,ps,e,h1,k _ q⟩
def qG:FD:=λds R=>∃(n:Nat) (ps:List (Nat×Nat)) (w:Nat×Nat->Int) (L:Nat->Nat) (T:Nat->Nat->Int) (i k j:Nat),ds=[wD ps w,xn n L T,.int i,.int k,.int j]/\(i,k)∈ps/\i<k/\k<j/\j<=n/\k-i-1<L (i+1)/\j-k-1<L (k+1) /\
 R (.int (w (i,k)+T (k-i-1) (i+1)+T (j-k-1) (k+1)))
theorem qG.mono:d9 qG:=λds R R' k h=>by obtain⟨n,ps,w,L,T,i,k',j,e,h1,h2,h3,h4,h5,h6,q⟩:=h;exact⟨n,ps,w,L,T,i,k',j,e,h1,h2,h3,h4,h5,h6,k _ q⟩
def lz:FD:=λds R=>∃(n:Nat) (ps:List (Nat×Nat)) (w:Nat×Nat->Int) (L:Nat->Nat) (T:Nat->Nat->Int) (i j:Nat),ds=[HI n ps,wD ps w,xn n L T,.int i,.int j]/\CH n ps/\i<j/\j<=n/\(∀a,i<a->a<=n->n+1-a<=L a)/\R (.int (gE ps w T i j))
theorem lz.mono:d9 lz:=λds R R' k h=>by obtain⟨n,ps,w,L,T,i,j,e,h1,h2,h3,h4,q⟩:=h;exact⟨n,ps,w,L,T,i,j,e,h1,h2,h3,h4,k _ q⟩
abbrev lr (n:Nat)(T:Nat->Nat->Int):D:=xn n (λi=>n+1-i) T
def w1:Nat×Nat->Int:=λ_=>1
def zH:FD:=λds R=>∃(n:Nat) (ps:List (Nat×Nat)),ds=[gk n ps]/\CH n ps/\R (wD ps w1)
theorem zH.mono:d9 zH:=λds R R' k h=>by obtain⟨n,ps,e,h1,q⟩:=h;exact⟨n,ps,e,h1,k _ q⟩
theorem cw {n:Nat}(h:n<=1000):n<=Ul:=U3 h (by decide)
theorem fA {n:Nat}(h:n<=1000):n<Ul:=Nat.lt_of_le_of_lt h (by decide)
theorem vQ {n i:Nat}{x:Int}(hx:x=(i:Int))(h:i<n):rl n x=some i:=by
 subst hx;unfold rl;rw[if_pos (by lia),if_pos (by lia)]
 simp
theorem AM {α:Type}{n i:Nat}{f:Nat->α}{y:α}(h:i<n):((T8 n).map f).set i y=(T8 n).map λk=>if k=i then y else f k:=by
 refine Vm λk=>?_;rw[VQ]
 by_cases hk:k<n
 ·rw[bj hk,bj hk,TX,Uw]
  by_cases e:i=k
  ·rw[if_pos e,if_pos (e▸hk),if_pos e.symm]
  ·rw[if_neg e,if_neg (Wd e)]
 ·rw[UK (l:=(T8 n).map f) (by simpa using hk),UK (l:=(T8 n).map λk=>if k=i then y else f k) (by simpa using hk),if_neg (by lia)]
theorem El {n i k:Nat}{ps:List (Nat×Nat)}(h:i<n):((T8 n).map λj=>D.lst (bz (oR ps j))).set i (.lst (bz (oR ps i)++[D.int k]))=(T8 n).map λj=>D.lst (bz (oR (ps++[(i,k)]) j)):=by
 rw[AM h];refine U5 λj _=>?_;unfold oR bz;rw[VA,Ux,Ux]
 by_cases e:j=i
 ·rw[if_pos e,e];simp
 ·rw[if_neg e,Vj,if_neg (by simpa using Wd e)];simp
theorem nQ {ps:List (Nat×Nat)}{i:Nat}:(oR ps i).length<=ps.length:=by
 unfold oR;rw[TX];exact Vr _ _
theorem pE {n a:Nat}:(fC n a).length=a+1:=by unfold fC;simp
theorem vf {n a b:Nat}(h:b<a+1):(fC n a).take (b+1)=(fC n a).take b++[(n-1-a,n-a+b)]:=by
 rw[U0];unfold fC;rw[bj h];rfl
theorem xP {n a:Nat}:(fC n a).take (a+1)=fC n a:=Vi (by rw[pE];exact T4 _)
theorem qp {n:Nat}:∀a:Nat,a<=n->(((T8 n).take a).flatMap (fC n)).length<=a*a
 |0,_=>by simp
 |a+1,h=>by
  have:=qp (n:=n) a (by lia)
  rw[U0,VG (show a<n by lia),XJ,Ui]
  have e:((some a).toList.flatMap (fC n)).length=a+1:=by simp[pE]
  rw[e,Nat.mul_add,Nat.add_mul];lia
theorem xq {n a b:Nat}(hn:n<=80)(ha:a<n)(hb:b<a+1):(((T8 n).take a).flatMap (fC n)).length+((fC n a).take b).length<Ul:=by
 have h1:=qp (n:=n) a (by lia)
 have h2:((fC n a).take b).length<=b:=by rw[Ut];exact Nat.min_le_left _ _
 have h3:a*a<=80*80:=Yz (by lia) (by lia)
 have h4:80*80+80<Ul:=by decide
 lia
end L2.Q
namespace jw
open PySem L2 L2.Q
section
variable {P:T7}{w:Ur}{K:PySem.W.Frag}{mg:Str->Option TY}{base:Heap}
theorem gg:aP ["many"] ["many"] (aC bK):=mkS
theorem Bn {l9 gv} (wQ:D4 K mg l9 gv) (B:Bs3 mg):aR P w K mg base cj 1 l9 gv ["many"] (ik P w true zF):=by
 refine wO wQ.F gg (λds R JD=> by obtain⟨n,e,_⟩ := JD;subst e;rfl) λcG A outer s H E hr=>⟨_,(ao (a_ (O3 ["i","j","many"] [none,none,some 0] (by rfl) (by decide:(["i","j","many"]:List Str).Nodup) rfl (kB B.range (ab (au af (bR.m a3) (aa (i:=0)) ag) (ab (kG eS ag) (ab (kG eS ag) ae)))) (λ_ _ _ _ _ _=>(ak (i:=0) (by decide:(["i","j","many"]:List Str).Nodup))) (λ_ _ _ _ _ _=>bJ) (λ_ _ _ _ _ _=>(rX B.range (ab (au ay aj (aa (i:=0)) ag) (ab (au ay aj (aa (i:=2)) ag) ae)))) (λ_ _ _ _ _ _=>(ak (i:=1) (by decide:(["i","j","many"]:List Str).Nodup))) (λ_ _ _ _ _ _=>bJ) (λ_ _ _ _ _ _=>(cB (ab (aa (i:=0)) (ab (aa (i:=1)) ae))))))),λds R h=>?_⟩
 obtain⟨n,rfl,hn,q⟩:=h;refine⟨_,rfl,trivial,_,rfl,trivial,_,rfl,rfl,trivial,_,rfl,rfl,trivial,(n:Int)-1,-1,rfl,⟨by lia,by lia,by lia,by lia⟩,trivial,?_⟩
 have en:((n:Int)-1 - -1).toNat=n:=by lia
 rw[en];refine⟨λa β o=>a<=n/\(∃x0 x1,β=[x0,x1,some (.val false (.int n))])/\o=(((T8 n).take a).flatMap (fC n)).map L_,⟨Uh _,⟨_,_,rfl⟩,rfl⟩,?_,?_⟩
 ·rintro a d β o hd ⟨ha,⟨x0,x1,rfl⟩,rfl⟩;obtain⟨GQ,rfl⟩:=kz hd;have e1:(n:Int)-1-a=((n-1-a:Nat):Int):=by lia
  rw[e1];refine⟨_,rfl,trivial,_,rfl,trivial,_,rfl,trivial,_,rfl,trivial,((n-1-a:Nat):Int)+1,(n:Int)+1,rfl,⟨by lia,by lia,by lia,by lia⟩,?_⟩
  have e2:((n:Int)+1-(((n-1-a:Nat):Int)+1)).toNat=a+1:=by lia
  rw[e2];refine⟨λb β o=>b<=a+1/\(∃x1,β=[some (.val true (.int ((n-1-a:Nat):Int))),x1,some (.val false (.int n))])/\o=(((T8 n).take a).flatMap (fC n)++(fC n a).take b).map L_,⟨Uh _,⟨_,rfl⟩,by simp⟩,?_,?_⟩
  ·rintro b d β o hd ⟨hb,⟨x1,rfl⟩,rfl⟩;obtain⟨lP,rfl⟩:=bc hd;refine⟨_,rfl,trivial,_,rfl,trivial,rh,trivial,?_,lP,⟨_,rfl⟩,?_⟩
   ·rw[TX,Ui];exact xq hn GQ lP
   ·rw[show ((n-1-a:Nat):Int)+1+(b:Int)=((n-a+b:Nat):Int) by lia,vf lP,<- U4,Ux,Ux,Ux]
    rfl
  ·rintro β o ⟨_,⟨x1,rfl⟩,rfl⟩;refine⟨GQ,⟨_,_,rfl⟩,?_⟩;rw[bp,xP,U0,VG GQ,XJ];simp
 ·rintro β o ⟨_,⟨x0,x1,rfl⟩,rfl⟩;rw[ky,Vi (by simp)]
  exact⟨trivial,trivial,q⟩
theorem bH:aP ["row","many","ties","partners","a","b"] ["row"] (aC cS):=mkS
theorem Bo {l_ gw} (wR:D5 K mg l_ gw) (B:Bs3 mg):aR P w K mg base cj 1 l_ gw ["row"] (ik P w true qF):=by
 refine wO wR.F bH (λds R JC=> by obtain⟨n,ps,e,_⟩ := JC;subst e;rfl) λcG A outer s H E hr=>⟨_,(ah (r9 (aa (i:=0)) (cW (n:=2) rfl (aK (ak (i:=1) bH.nd) (aK (ak (i:=2) bH.nd) b_))))
    (ah (xO (i:=3) true ["point"] [none] (by rfl) (by decide:(["point"]:List Str).Nodup) rfl (λ_=>(aX B.range (ab (aa (i:=1)) ae))) (λ_ _ _ _ _ _=>(ak (i:=0) (by decide:(["point"]:List Str).Nodup))) (λ_ _ _ _ _ _=>bJ) (λ_ _ _ _ _ _=>(aV ae)) bH.nd)
    (ah (bB UR rfl (aY (aa (i:=2))) (cW (n:=2) rfl (aK (ak (i:=4) bH.nd) (aK (ak (i:=5) bH.nd) b_))) (ao (jf (i:=3) true (λ_=>(aa (i:=5))) (λ_=>(aa (i:=4))))))
    (ao (t9 (i:=3)))))),λds R h=>?_⟩
 obtain⟨n,ps,rfl,ok,q⟩:=h;have hn:=ok.le;refine⟨_,rfl,_,rfl,rfl,_,_,rfl,_,_,rfl,rfl,_,rfl,trivial,n,rfl,by lia,by lia,trivial,?_⟩
 rw[W5];refine dB (λ_=>true) (λ_=>.lst []) trivial (by rw[Uw];exact cw (by lia)) (λx hx x0 o J ho h1 _=>⟨Uh _,trivial,ho,h1 rfl _⟩) ?_
 rw[a8];refine⟨_,rfl,_,rfl,trivial,?_⟩;refine⟨λm β=>∃x4 x5,β=[some (.val false (gk n ps)),some (.val true (.int n)),some (.val false (xh ps)),some (.own (HI n (ps.take m))),x4,x5],⟨_,_,rfl⟩,?_,?_⟩
 ·rintro m d β hd ⟨x4,x5,rfl⟩;rw[T6]at hd;obtain⟨p,hp,rfl⟩:=Uk.mp hd;obtain⟨h1,h2⟩:=ok.lt p (UO hp);refine⟨_,rfl,rfl,_,_,rfl,_,_,rfl,rfl,⟨_,rfl⟩,_,rfl,_,_,_,_,rfl,rfl,by rw[TX,Uw];exact vQ rfl (show p.1<n by lia),bj (show p.1<n by lia),_,rfl,trivial,rfl,?_,?_⟩
  ·unfold Q.bz;rw[TX];have:=nQ (ps:=ps.take m) (i:=p.1);rw[Ut]at this;have:=ok.sm;exact fA (by lia)
  ·refine⟨some (.val true (.int p.1)),some (.val true (.int p.2)),?_⟩;have e:ps.take (m+1)=ps.take m++[(p.1,p.2)]:=by rw[U0,hp];rfl
   rw[El (show p.1<n by lia),e]
   rfl
 ·rintro β ⟨x4,x5,rfl⟩;rw[TX,Vd];exact⟨_,rfl,q⟩
theorem kl:aP ["worth","table","i","k","j"] ["worth","table","i","k","j"] (aC cV):=mkS
theorem Bp {jA fu} (uE:D6 K mg jA fu):aR P w K mg base cj 1 jA fu ["worth","table","i","k","j"] (ik P w true qG):=by
 refine wO uE.F kl (λds R JB=> by obtain⟨n,ps,w,L,T,i,k,j,e,_⟩ := JB;subst e;rfl) λcG A outer s H E hr=>⟨_,(ao (a_ (au ay aj (au ay aj (aH af (IB hr.xf) (aa (i:=0)) (cB (ab (aa (i:=2)) (ab (aa (i:=3)) ae)))) (aH af bh (aH af bh (aa (i:=1)) (au ay aj (aa (i:=2)) ag)) (au af (bR.m a3) (au af (bR.m a3) (aa (i:=3)) (aa (i:=2))) ag))) (aH af bh (aH af bh (aa (i:=1)) (au ay aj (aa (i:=3)) ag)) (au af (bR.m a3) (au af (bR.m a3) (aa (i:=4)) (aa (i:=3))) ag))))),λds R h=>?_⟩
 obtain⟨n,ps,w,L,T,i,k,j,rfl,hm,h1,h2,h3,h4,h5,q⟩:=h;exact⟨_,rfl,trivial,_,rfl,trivial,_,rfl,trivial,rh,_,F1 hm,trivial,_,rfl,trivial,_,rfl,trivial,_,rfl,_,gq (i:=i+1) (by lia) (by lia),.inr ⟨trivial,_,rfl,trivial,_,rfl,_,rfl,trivial,_,rfl,_,hG (l:=k-i-1) (by lia) h4,_,rfl,trivial,
  _,rfl,trivial,_,rfl,trivial,_,rfl,_,gq (i:=k+1) (by lia) (by lia),.inr ⟨trivial,_,rfl,trivial,_,rfl,_,rfl,trivial,_,rfl,_,hG (l:=j-k-1) (by lia) h5,_,rfl,trivial,q⟩⟩⟩
theorem fk:aP ["partners","worth","table","i","j","numbers"] ["partners","worth","table","i","j"] (aC cA):=mkS
theorem yy {md gx} (wU:D7 K mg md gx) {jA fu} (uE:D6 K mg jA fu) (B:Bs3 mg):aR P w K mg base cj 2 md gx ["partners","worth","table","i","j"] (ik P w true lz):=by
 have S1:aR P w K mg base cj 1 _ _ _ (ik P w true qG):= Bp uE;refine wO wU.F fk (λds R JA=> by obtain⟨n,ps,w,L,T,i,j,e,_⟩ := JA;subst e;rfl) λcG A outer s H E hr=>⟨_,(ah (xO (i:=5) false ["k","worth","table","i","j"] [none,some 1,some 2,some 3,some 4] (by rfl) (by decide:(["k","worth","table","i","j"]:List Str).Nodup) rfl (λ_=>(aY (aH af bh (aa (i:=0)) (aa (i:=3))))) (λ_ _ _ _ _ _=>(ak (i:=0) (by decide:(["k","worth","table","i","j"]:List Str).Nodup))) (λ_ _ _ _ _ _=>(nE (aM af (bR.m fI) (aa (i:=0)) (aa (i:=4))))) (λ_ _ _ _ _ _=>(bY qG.mono S1 (hr.mono (by decide)) uE.m uE.F.kp uE.b (ab (aa (i:=1)) (ab (aa (i:=2)) (ab (aa (i:=3)) (ab (aa (i:=0)) (ab (aa (i:=4)) ae))))))) fk.nd)
    (ao (a_ (bf af (bE.m (nh rfl)) B.max oK (ab (au ay aj (aa (i:=5)) (aV (ab (aH af bh (aH af bh (aa (i:=2)) (au ay aj (aa (i:=3)) ag)) (au af (bR.m a3) (au af (bR.m a3) (aa (i:=4)) (aa (i:=3))) ag)) ae))) ae))))),λds R h=>?_⟩
 obtain⟨n,ps,w,L,T,i,j,rfl,ok,h1,h2,h3,q⟩:=h;have GC:=ok.sm;have hle:=ok.le;have hl:((oR ps i).filter λk=>decide (k<j)).length<=400:=U3 (Vr _ _) (U3 nQ GC);refine⟨_,rfl,trivial,_,rfl,_,Mz rfl (by lia),.inr ⟨_,rfl,trivial,?_⟩⟩
 refine dB (λk=>decide (k<j)) (λk=>.int (w (i,k)+T (k-i-1) (i+1)+T (j-k-1) (k+1))) trivial (cw (U3 nQ (by lia))) (λk hk x0 o J ho j1 j2=>?_) ?_
 ·have hm:=f_.mp hk;obtain⟨g1,g2⟩:=ok.lt _ hm;dsimp only at g1 g2;refine⟨_,rfl,trivial,_,rfl,_,rfl,_,rfl,mR (λRQ=>?_) (λRQ=>j2 (by simp;lia) _)⟩
  have JU:k<j:=by lia
  have a1:=h3 (i+1) (by lia) (by lia)
  have a2:=h3 (k+1) (by lia) (by lia)
  exact⟨_,rfl,trivial,_,rfl,trivial,_,rfl,trivial,_,rfl,trivial,_,rfl,trivial,n,ps,w,L,T,i,k,j,rfl,hm,g1,JU,h2,by lia,by lia,trivial,ho,j1 (by simpa using JU) _⟩
 ·have a1:=h3 (i+1) (by lia) (by lia)
  refine⟨_,rfl,trivial,_,rfl,trivial,_,rfl,trivial,_,rfl,_,gq (i:=i+1) (by lia) (by lia),.inr ⟨trivial,_,rfl,trivial,_,rfl,_,rfl,trivial,_,rfl,_,hG (l:=j-i-1) (by lia) (by lia),trivial,uZ,_,ia (by rw[TX];show _+1<=_;lia),.inl ⟨mW iS rfl,trivial,_,yG,trivial,q⟩⟩⟩
theorem pB:aP ["row"] ["row"] (aC eT):=mkS
theorem EO {qz jn} (Ap:D8 K mg qz jn):aR P w K mg base cj 1 qz jn ["row"] (ik P w true zH):=by
 refine wO Ap.F pB (λds R Jz=> by obtain⟨n,ps,e,_⟩ := Jz;subst e;rfl) λcG A outer s H E hr=>⟨_,(ao (a_ (SF (Nat.lt_of_succ_lt hr.xf) ["tie"] [none] (by rfl) (by decide:(["tie"]:List Str).Nodup) rfl (aY (aH af bh (aa (i:=0)) ag)) (λ_ _ _ _ _ _=>(ak (i:=0) (by decide:(["tie"]:List Str).Nodup))) (λ_ _ _ _ _ _=>bJ) (λ_ _ _ _ _ _=>(aa (i:=0))) (λ_ _ _ _ _ _=>ag)))),λds R h=>?_⟩
 obtain⟨n,ps,rfl,ok,q⟩:=h;have GC:=ok.sm;refine⟨_,rfl,trivial,_,rfl,.inr ⟨_,rfl,trivial,?_⟩⟩;refine⟨λm β o=>m<=ps.length/\(∃x0,β=[x0])/\o=(ps.take m).map λp=>(tI p,D.int (w1 p)),⟨Uh _,⟨_,rfl⟩,rfl⟩,?_,?_⟩
 ·rintro m d β o hd ⟨hm,⟨x0,rfl⟩,rfl⟩;rw[T6]at hd;obtain⟨p,hp,rfl⟩:=Uk.mp hd;have d8:=(Ua.mp hp).1;refine⟨_,rfl,tI p,rfl,rfl,By (BC ok.nd hp),?_,d8,⟨_,rfl⟩,?_⟩
  ·rw[TX,Ut];exact fA (by lia)
  ·rw[U0,hp,Ux];rfl
 ·rintro β o ⟨_,⟨x0,rfl⟩,rfl⟩;rw[TX,Vd];exact⟨trivial,trivial,q⟩
end
end jw
namespace L2.Q
open PySem PySem.Spec PySem.SeqAt PyProof.Rows
section
end
section
end
section
variable {X:Cx}{C:Cfg}{γ:c6}{τ:a5}{φ:a6}{T:List Nat}{scope:Wg}{tg bS elt:Expr}{ifs:List Expr}{ι:bX}{pos:Pos}
theorem O1 (N':List Str)(lk:List (Option Nat))(L:eY X.env.scope.names X.N scope N' lk=true)(lQ:N'.Nodup)(hc:X.calm=true)(hi:rA X C true tg bS ι)
  (ll:∀a cl c s H ex,tj (aB X scope N' cl c s H ex) (C.u λc=>c=a) tg T γ) (fM:∀a cl c s H ex,mm (aB X scope N' cl c s H ex) (C.u λc=>c=a) true ifs τ)
  (jm:∀a cl c s H ex,PQ (aB X scope N' cl c s H ex) (C.u λc=>c=a) true elt φ) (hT:T.all (λi=>match lk[i]? with|some (some _)=>false|_=>true)=true:=by rfl)
  (hs:∀x,UU bS X.env x=pure x:=by intro _;rfl):PQ X C true (.ListComp elt [⟨tg,bS,ifs,0⟩] scope pos) (pI lk ι γ τ φ) :=
 CP (pi:=true) (pc:=true) (pe:=true) (Links.of L) lQ hT hc hi ll (λa cl c s H ex=>(fM a cl c s H ex).pt) (fM 0 [] 0 X.s₀ X.H₀ []).mono jm (ll 0 [] 0 X.s₀ X.H₀ []).mono (jm 0 [] 0 X.s₀ X.H₀ []).mono hs
end
section
variable {X:Cx}{C:Cfg}{lk:List (Option Nat)}{γ:c6}{τ:a5}{φ:a6}{T:List Nat}{scope:Wg}{N':List Str}{tg bS elt:Expr}{ifs:List Expr}{ι:bX}{pos:Pos}
def xR (lk:List (Option Nat))(ι:bX)(γ:c6)(τ:a5)(φ:a6):a6:=λβ R=>ι β λds k β1=>hold k true/\jh γ τ φ ds k (b8 lk β1) λo=>R (.lst o) .own β1
theorem EC (L:Links X scope N' lk)(lQ:N'.Nodup)(hT:T.all (λi=>match lk[i]? with|some (some _)=>false|_=>true)=true)(hc:X.calm=true)(hi:rA X C true tg bS ι)
  (ll:∀a cl c s H ex,tj (aB X scope N' cl c s H ex) (C.u λc=>c=a) tg T γ) (fM:∀a cl c s H ex,q_ (aB X scope N' cl c s H ex) ifs (ij (aB X scope N' cl c s H ex) (C.u λc=>c=a) true τ)) (τm:∀β R R',(∀d β,R d β->R' d β)->τ β R->τ β R')
  (jm:∀a cl c s H ex,PQ (aB X scope N' cl c s H ex) (C.u λc=>c=a) true elt φ) (γm:∀d k β R R',(∀r,R r->R' r)->γ d k β R->γ d k β R') (φm:∀β R R',(∀d k β,R d k β->R' d k β)->φ β R->φ β R')
  (hs:∀x,UU bS X.env x=pure x:=by intro _;rfl):PQ X C true (.ListComp elt [⟨tg,bS,ifs,0⟩] scope pos) (xR lk ι γ τ φ):=by
 have B7:∀i∈T,∀j,lk[i]?≠some (some j):=λi hi j e=>by
  have:=Wf.mp hT i hi;rw[e]at this;cases this
 refine⟨λβ R R' k h=>hi.mono β _ _ (λds kd β1 q=>⟨q.1,q.2.mono λo z=>k _ _ _ z⟩) h,?_⟩;refine(fG (g:=⟨tg,bS,ifs,0⟩) (gs:=[]) (tg:=λa v σ H Q=>∃own β d k,SQ X (C.u λc=>c=a) σ H β own/\Rp X (eQ (C.u λc=>c=a) (Wn own) k) H d v/\γ d k β λβ'=>∀σ' aN,SQ X (C.u λc=>c=a) σ' H β' aN->(∀a,Wn aN a->Wn own a)->(∀j,j∉T->σ'[j]?=σ[j]?)->Q σ' H)
  (tt:=λa=>ij X (C.u λc=>c=a) true τ) (ta:=λa N σ H=>tQ X (C.u λc=>c=a) true φ σ H λv H1=>∃xs,H1 a=some (.lst xs)/\xs.length<Ul/\N σ (upd H1 a (.lst (xs++[v]))))
  L hc fJ rfl rfl (λ_ _=>uJ) hi.pi (λa cl c s H ex=>⟨(ll a cl c s H ex).pg,fM a cl c s H ex,fH rfl (jm a cl c s H ex).pe⟩) hs).pre λσ H Q ⟨β,own,s,h⟩=>?_
 refine⟨β,own,s,hi.mono β _ _ (λds k β1 ⟨hk,q⟩ J H1 aE o1 it a ha=>?_) h⟩;exact iX γm τm φm (cu L lQ) B7 o1.sq ha (hp:=true) (λ_=>rfl) hk it q λo H' q o2 r=>q _ _ aE (o1.trans o2) (r.later o1.sn)
theorem O2 (N':List Str)(lk:List (Option Nat))(L:eY X.env.scope.names X.N scope N' lk=true)(lQ:N'.Nodup)(hc:X.calm=true)(hi:rA X C true tg bS ι)
  (ll:∀U cl c s H ex,tj (aB X scope N' cl c s H ex) (C.u U) tg T γ) (fM:∀U cl c s H ex,mm (aB X scope N' cl c s H ex) (C.u U) true ifs τ) (jm:∀U cl c s H ex,PQ (aB X scope N' cl c s H ex) (C.u U) true elt φ)
  (hT:T.all (λi=>match lk[i]? with|some (some _)=>false|_=>true)=true:=by rfl) (hs:∀x,UU bS X.env x=pure x:=by intro _;rfl):PQ X C true (.ListComp elt [⟨tg,bS,ifs,0⟩] scope pos) (xR lk ι γ τ φ) :=
 EC (Links.of L) lQ hT hc hi (λa=>ll _) (λa cl c s H ex=>(fM _ cl c s H ex).pt) (fM (λ_=>False) [] 0 X.s₀ X.H₀ []).mono (λa=>jm _) (ll (λ_=>False) [] 0 X.s₀ X.H₀ []).mono (jm (λ_=>False) [] 0 X.s₀ X.H₀ []).mono hs
end
def Ka:V->D
 |.cE=>.cE
 |.bl b=>.bl b
 |.int i=>.int i
 |.str x=>.str x
 |.ref a=>.obj a
 |_=>.cE
def Ot:D->List V->D
 |.lst _,vs=>.lst (vs.map Ka)
 |.dT ks _,vs=>.dT ks (vs.map Ka)
 |.dK ks _,vs=>.dK ks (vs.map Ka)
 |d,_=>d
section
variable {P:T7}{w:Ur}{C:Cfg}{σ:St}{H:Hp}{β:bb}{own:Nat->List Addr}{i:Nat}
theorem EG {W:Addr->Prop}{H':Hp}{d:D}{v:V}(r:aA P w W H' d v):Own P w H (Ka v) v []:=by
 cases d with
 |tup ds=>obtain⟨a,vs,rfl,_⟩:=r;exact⟨rfl,rfl⟩
 |lst ds=>obtain⟨a,vs,rfl,_⟩:=r;exact⟨rfl,rfl⟩
 |dT ks ds=>obtain⟨a,vs,rfl,_⟩:=r;exact⟨rfl,rfl⟩
 |dK ks ds=>obtain⟨a,vs,rfl,_⟩:=r;exact⟨rfl,rfl⟩
 |sT ts=>obtain⟨a,rfl,_⟩:=r;exact⟨rfl,rfl⟩
 |ob φ=>obtain⟨a,rfl,_⟩:=r;exact⟨rfl,rfl⟩
 |cE=>cases (show v=_ from r);exact⟨rfl,rfl⟩
 |bl b=>cases (show v=_ from r);exact⟨rfl,rfl⟩
 |int b=>cases (show v=_ from r);exact⟨rfl,rfl⟩
 |str b=>cases (show v=_ from r);exact⟨rfl,rfl⟩
 |obj b=>cases (show v=_ from r);exact⟨rfl,rfl⟩
theorem jJ {W:Addr->Prop}{H':Hp}:∀{ds:List D} {vs:List V},ai P w W H' ds vs->aI P w H (vs.map Ka) vs []
 |[],_,e=>by cases e;exact⟨rfl,rfl⟩
 |_::_,_,⟨v,vs,rfl,h1,h2⟩=>⟨v,vs,[],[],rfl,rfl,EG h1,jJ h2⟩
theorem jK {W:Addr->Prop}{H':Hp}{d:D}{o:HO}{vs:List V}{a:Addr}(r:ai P w W H' (Hq d) vs)(sh:Gx d o vs)(h:H a=some o):Own P w H (Ot d vs) (.ref a) [a]:=by
 cases d with
 |lst ds=>cases sh;exact⟨a,vs,[],rfl,h,rfl,jJ r⟩
 |dT ks ds=>obtain⟨rfl,l⟩:=sh;exact⟨a,vs,[],rfl,h,l,rfl,jJ r⟩
 |dK ks ds=>obtain⟨rfl,l⟩:=sh;exact⟨a,vs,[],rfl,h,l,rfl,jJ r⟩
 |_=>exact sh.elim
theorem Ho {d:D}{o:HO}{vs:List V}(sh:Gx d o vs):∀xs,o≠.tup xs:=λxs z=>by
 cases d with
 |lst ds=>cases sh;cases z
 |dT ks ds=>obtain⟨rfl,l⟩:=sh;cases z
 |dK ks ds=>obtain⟨rfl,l⟩:=sh;cases z
 |_=>exact sh.elim
theorem bG.toShl {d0 d:D}{v:V}{y:Bool}(s:bG P w C σ H β own)(e:β[i]?=some (some (.own d0)))(hσ:σ[i]?=some (some v))(r:Gp P w (eQ C (Wn own) (yk y)) H d v (own i)):bG P w C σ H (β.set i (some (.shl y d))) own:=by
 refine⟨by simp[s.len],λj y' d' q=>?_,λj d' q=>?_,λj ok q=>?_,s.dm,s.jr,s.jM,s.kp,s.gc,λj y' d' q=>?_⟩
 ·by_cases aF:i=j
  ·subst aF;obtain⟨e',_⟩:=a9 q;cases e'
  ·rw[aU aF]at q;exact s.val j y' d' q
 ·by_cases aF:i=j
  ·subst aF;obtain⟨e',_⟩:=a9 q;cases e'
  ·rw[aU aF]at q;exact s.ow j d' q
 ·by_cases aF:i=j
  ·subst aF;obtain⟨e',_⟩:=a9 q;cases e'
  ·rw[aU aF]at q;exact s.jl j ok q
 ·by_cases aF:i=j
  ·subst aF;obtain⟨e',_⟩:=a9 q;cases e';obtain⟨_,_,_,h0⟩:=s.ow i d0 e;exact⟨v,hσ,r,h0⟩
  ·rw[aU aF]at q;exact s.shl j y' d' q
theorem bG.o4 {d:D}{y:Bool}(s:bG P w C σ H β own)(e:β[i]?=some (some (.shl y d))):∃a o vs,σ[i]?=some (some (.ref a))/\own i=[a]/\H a=some o/\Gx d o vs/\ai P w (eQ C (Wn own) (yk y)) H (Hq d) vs/\C.H0 a=none/\bG P w C σ H (β.set i (some (.own (Ot d vs)))) own:=by
 obtain⟨v,h1,⟨a,o,vs,rfl,h2,h3,h4,h5⟩,h6⟩:=s.shl i y d e;refine⟨a,o,vs,h1,h2,h3,h4,h5,h6 a (by rw[h2];simp),by simp[s.len],λj y' d' q=>?_,λj d' q=>?_,λj ok q=>?_,s.dm,s.jr,s.jM,s.kp,s.gc,λj y' d' q=>?_⟩
 ·by_cases aF:i=j
  ·subst aF;obtain⟨e',_⟩:=a9 q;cases e'
  ·rw[aU aF]at q;exact s.val j y' d' q
 ·by_cases aF:i=j
  ·subst aF;obtain⟨e',_⟩:=a9 q;cases e';exact⟨.ref a,h1,by rw[h2];exact jK h5 h4 h3,h6⟩
  ·rw[aU aF]at q;exact s.ow j d' q
 ·by_cases aF:i=j
  ·subst aF;obtain⟨e',_⟩:=a9 q;cases e'
  ·rw[aU aF]at q;exact s.jl j ok q
 ·by_cases aF:i=j
  ·subst aF;obtain⟨e',_⟩:=a9 q;cases e'
  ·rw[aU aF]at q;exact s.shl j y' d' q
theorem Ek {W:Addr->Prop}{d:D}{o:HO}{vs:List V}{a:Addr}(sh:Gx d o vs)(h:H a=some o)(nw:¬ W a)(r:ai P w W H (Hq d) vs):aA P w W H d (.ref a):=by
 cases d with
 |lst ds=>cases sh;exact⟨a,vs,rfl,h,nw,r⟩
 |dT ks ds=>obtain⟨rfl,l⟩:=sh;exact⟨a,vs,rfl,h,l,nw,r⟩
 |dK ks ds=>obtain⟨rfl,l⟩:=sh;exact⟨a,vs,rfl,h,l,nw,r⟩
 |_=>exact sh.elim
theorem bG.B8 {d:D}{y:Bool}(s:bG P w C σ H β own)(e:β[i]?=some (some (.shl y d))):bG P w C σ H (β.set i (some (.val y d))) (aG own i []):=by
 obtain⟨a,o,vs,h1,h2,h3,h4,h5,h6,s'⟩:=s.o4 e;have hl:i<β.length:=(Ua.mp e).1;have f:=s'.freeze (get_set hl);have sub:∀c,eQ C (Wn (aG own i [])) (yk y) c->eQ C (Wn own) (yk y) c:=fS (λc z=>cJ z) _;have q:=bG.dY (i:=i) (d:=d) (v:=.ref a) (y:=y) f (Ek h4 h3 (λz=>?_) (ai.aT sub h5))
 ·have es:σ.set i (some (.ref a))=σ:=by
   apply Vm;intro j;rw[VQ]
   by_cases aF:i=j
   ·subst aF;rw[if_pos rfl,h1,if_pos (Ua.mp h1).1]
   ·rw[if_neg aF]
  have eo:aG (aG own i []) i []=aG own i []:=by
   funext j
   by_cases aF:i=j
   ·rw[<- aF,os_eq,os_eq]
   ·rw[bg aF,bg aF]
  rw[es,V0,V0,eo]at q;exact q
 ·have nW:¬ Wn (aG own i []) a:=λJy=> by
   obtain⟨j,hj⟩ := Jy;obtain⟨hj,ne⟩:=bL hj;exact ne (s.jr j i a hj (by rw[h2];simp))
  rcases z with z|z
  ·cases y with
   |true=>exact z.elim nW λz=>z h6
   |false=>exact nW z
  ·exact(s.dm i a (by rw[h2];simp)).2.2.2 z
end
abbrev IA (k:Kd)(d:D):Prop:=match k with
 |.own=>True
 |.cF=>True
 |_=>d.flat=true
theorem KV.yg {P:T7}{w:Ur}{C:Cfg}{Z:Hp×(Addr->Prop)}{own:Nat->List Addr}{H:Hp}{d:D}{v:V}{k:Kd}(f:IA k d)(r:KV P w C Z own H k d v):aA P w (av C (Wn own) .cF) H d v:=by
 cases k with
 |own=>exact r.cF
 |cF=>exact r
 |old=>exact aA.flat f r
 |bor=>exact aA.flat f r
theorem ai.snoc {P:T7}{w:Ur}{W:Addr->Prop}{H:Hp}{d:D}{v:V}(h:aA P w W H d v):∀{ds:List D} {vs:List V},ai P w W H ds vs->ai P w W H (ds++[d]) (vs++[v])
 |[],_,e=>by cases e;exact⟨v,[],rfl,h,rfl⟩
 |_::_,_,⟨u,r,rfl,h1,h2⟩=>⟨u,r++[v],rfl,h1,ai.snoc h h2⟩
section
variable {X:Cx}{C:Cfg}{k e:Expr}{es:List Expr}{φ:a6}{φs:bQ}{i:Nat}{x:Str}{pos pos' px pc ap cp:Pos}{p:Bool}
def HD (i:Nat):a6:=λβ R=>∃d,β[i]?=some (some (.shl true d))/\R d .cF (β.set i (some (.val true d)))
theorem jG (hN:X.N[i]?=some x:=by rfl)(hv:lT X.env.scope x:=by first|exact .inl rfl|exact .inr (.inl rfl)|exact .inr (.inr rfl))(hd:(x==("__debug__" : Str))=false:=by decide)(dJ:(x==("__classdict__" : Str))=false:=by decide):
  PQ X C false (.Name x pos) (HD i):=⟨λβ R R' k h=>by obtain⟨b,e,h⟩:=h;exact⟨b,e,k _ _ _ h⟩,(br hN hv hd dJ).pre λσ H Q h=>by
 obtain⟨β,own,s,d,e,q⟩:=h;have f:=s.B8 e;obtain⟨v,h1,h2⟩:=f.ir (y:=true) (get_set (Ua.mp e).1);exact⟨v,h1,q v H _ ⟨f,⟨λb z=>.inl (cJ z),Kp.refl,λ_ z=>z⟩,λz=>(nomatch z),λ_ z=>cJ z⟩ h2⟩⟩
theorem Ed {own:Nat->List Addr}{i:Nat}{a:Addr}(h:own i=[a]):∀c,Wn (aG own i [a]) c->Wn own c:=λc Jx=> by
 obtain⟨j,hj⟩ := Jx
 by_cases aF:i=j
 ·rw[<- aF,os_eq]at hj;exact⟨i,by rw[h];exact hj⟩
 ·rw[bg aF]at hj;exact⟨j,hj⟩
theorem bG.Ex {P:T7}{w:Ur}{U:Addr->Prop}{σ:St}{H:Hp}{β:bb}{own:Nat->List Addr}{d d':D}{a:Addr}{o:HO}{vs':List V}(b:bG P w (C.u U) σ H β own)(e:β[i]?=some (some (.shl true d)))(hσ:σ[i]?=some (some (.ref a)))
  (sh:Gx d' o vs') (r:ai P w (av (C.u U) (Wn own) .cF) (upd H a o) (Hq d') vs'):bG P w C.z σ (upd H a o) (β.set i (some (.shl true d'))) (aG own i [a])/\(∀c∈[a],c∈own i\/(C.H0 c=none/\¬ Wn own c/\U c))/\Wn own a/\∃oc,H a=some oc/\∀xs,oc≠.tup xs:=by
 obtain⟨a',o1,vs,h1,h2,h3,h4,h5,h6,s'⟩:=b.o4 e;rw[hσ]at h1;cases h1;have hl:i<β.length:=(Ua.mp e).1;have ha:a∈own i:=by rw[h2];simp
 have hA:∀c∈[a],c∈own i\/(C.H0 c=none/\¬ Wn own c/\U c):=λc hc=>.inl (by rw[h2];exact hc)
 have q:=s'.putIn (get_set hl) hσ ha (jK r sh ar) (by simp) hA
 rw[V0]at q;have q2:=q.toShl (d:=d') (y:=true) (get_set (by simpa using hl)) hσ ⟨a,o,vs',rfl,by rw[os_eq],ar,sh,ai.aT (λc z=>?_) r⟩
 ·rw[V0]at q2;exact⟨q2,hA,⟨i,ha⟩,o1,h3,Ho h4⟩
 ·rcases z with z|z
  ·exact ic (C:=C) (Ed h2) .cF c z
  ·exact z.elim
theorem ot {H:Hp}{a:Addr}{o oc:HO}{W:Addr->Prop}(h:H a=some oc)(ht:∀xs,oc≠.tup xs)(hw:W a):Kp W H (upd H a o):=(iM h ht).mono λc z=>by rw[z];exact hw
theorem jI (he:∀U,PQ X (C.u U) p e φ)(hN:X.N[i]?=some x:=by rfl)(hv:lT X.env.scope x:=by first|exact .inl rfl|exact .inr (.inl rfl)|exact .inr (.inr rfl))(hd:(x==("__debug__" : Str))=false:=by decide)(dJ:(x==("__classdict__" : Str))=false:=by decide)
  (eM:Wi (.Name x px) "append" X.env (eval (.Name x px) X.env)=eval (.Name x px) X.env:=by rfl)
  (oz:((VT cp (Up [e] X.env)).all (λx=>!x.1)&&(Yx cp (XA [] X.env)).all (λx=>x.1.isSome)&&decide ([e].length+([]:List W4).length+(if ([]:List W4).isEmpty then 0 else 1)<30))=true:=by rfl)
  (eL:(ap.endLine==cp.line)=true:=by rfl) (hs:Up [e] X.env=(false,eval e X.env)::Up [] X.env:=by rfl) (e_:(VT cp (Up [] X.env)).any (·.1)=false:=by rfl)
  (oS:VI (.Call (.Attribute (.Name x px) "append" ap) [e] [] cp) none pos.line X.env=pure false:=by rfl) :
  PB X C (.Expr (.Call (.Attribute (.Name x px) "append" ap) [e] [] cp) pos) (λE β=>(∃ds,β[i]?=some (some (.shl true (.lst ds))))/\φ β λd k β'=>IA k d/\∃ds,β'[i]?=some (some (.shl true (.lst ds)))/\ds.length<Ul/\E.nx (β'.set i (some (.shl true (.lst (ds++[d])))))):=by
 refine⟨λE E' β l h=>by obtain⟨h1,q⟩:=h;exact⟨h1,(he λ_=>False).mono _ _ _ (λd k β' h=>by obtain⟨f,ds,h1,h2,q⟩:=h;exact⟨f,ds,h1,h2,l.nx _ q⟩) q⟩,λpins s σ H D I ⟨Z,E,β,⟨own,sq,n⟩,⟨⟨PR,hb⟩,q⟩,ok⟩=>?_⟩
 refine jE (pos:=pos) (t8 (apos:=ap) (cpos:=cp) PySem.F.plainAttrs_list PySem.F.slot_list_append PySem.F.type_list_append f9 (br (pos:=px) hN hv hd dJ) (bu (he λa=>H a=none).pe cO hs) eM oz eL hs e_) oS pins s σ H D I ?_;obtain⟨a,o0,vs,h1,h2,h3,h4,_⟩:=sq.o4 hb;cases h4;refine⟨.ref a,h1,.inl ⟨rfl,vs,cQ.of h3⟩,tQ.of (he λa=>H a=none) (sq.gP (C:=C.z) (U:=λa=>H a=none) λa z=>z) q λd k β' v H1 aE ⟨f,ds,lP,hl,q⟩ o r=>?_⟩;obtain⟨a',o1,vs',g1,g2,g3,g4,g5,_,_⟩:=o.sq.o4 lP;rw[h1]at g1;cases g1;cases g4;have wa:av (C.u λa=>H a=none) (Wn aE) .cF a:=.inl ⟨i,by rw[g2];simp⟩
 have kp:Kp (av (C.u λa=>H a=none) (Wn aE) .cF) H1 (upd H1 a (.lst (vs'++[v]))):=ot g3 (λxs z=>by cases z) wa
 obtain⟨s2,hA,hw,ze⟩:=o.sq.Ex (d':=.lst (ds++[d])) (o:=.lst (vs'++[v])) (vs':=vs'++[v]) lP h1 rfl (ai.snoc ((r.yg f).keep kp) ((ai.aT (λc z=>.inl z) g5).keep kp));exact⟨a,vs',v,rfl,rfl,g3,by rw[g5.length];exact hl,ok.nx _ _ _ ⟨_,s2,gC (C:=C) (n.trans o.sn) (λb z=>n.free z) hw ze hA⟩ q⟩
theorem Be (he:∀U,oN X (C.u U) p es φs)(hN:X.N.Nodup)(hi:X.N[i]?=some x:=by rfl)(hx:Loc X.env.scope x:=by first|exact .inl rfl|exact .inr rfl)
  (hs:VI (.List es pc) (some (.Name x pos')) pos.line X.env=pure false:=by rfl) (hf:X.fn x=true\/X.env.scope.names.lookup x=some .local:=by first|exact .inl rfl|exact .inr rfl|assumption) :
  PB X C (.Assign [.Name x pos'] (.List es pc) pos) (λE β=>φs β λds ks β'=>d7 ks=.cF/\ds.length<=Ul/\i<β'.length/\E.nx (β'.set i (some (.shl true (.lst ds))))) :=
 ⟨λE E' β l h=>(he λ_=>False).mono _ _ _ (λds ks β' h=>⟨h.1,h.2.1,h.2.2.1,l.nx _ h.2.2.2⟩) h,λpins s σ H D I Jw=> by
  obtain⟨Z,E,β,⟨own,sq,n⟩,q,ok⟩ := Jw;refine iF hN hi hx (nX (he λa=>H a=none).pa) hs hf pins s σ H D I ?_;refine o_.of (he λa=>H a=none) (sq.gP (C:=C.z) (U:=λa=>H a=none) λa z=>z) q λds ks β1 vs H1 aE ⟨hk,hl,l6,q⟩ o r=>⟨by rw[r.length];exact hl,λa ha=>?_⟩
  have J8:H a=none:=o.sn.free ha;have h0:C.H0 a=none:=UJ λz=>o.sq.gc a z ha;have nw:¬ Wn aE a:=λz=>o.sq.uC a z ha;have rr:=r.gh;rw[hk]at rr;have s1:=o.sq.same (az.new (o:=.lst vs) ha);have s2:=s1.nL (i:=i) (jK (d:=.lst ds) (vs:=vs) rr rfl ar) (by simp) λc hc=>⟨by rw[T_.mp hc];exact h0,by rw[T_.mp hc];exact nw,by rw[T_.mp hc];exact J8⟩
  have s3:=s2.toShl (d:=.lst ds) (y:=true) (get_set l6) (get_set (by rw[<- o.sq.len];exact l6)) ⟨a,.lst vs,vs,rfl,by rw[os_eq],ar,rfl,(ai.grow (λc z=>?_) rr).same (az.new ha)⟩
  ·rw[V0]at s3;refine ok.nx _ _ _ ⟨_,s3,?_⟩ q;have m:=(n.trans o.sn).same (az.new (o:=.lst vs) ha);exact⟨λb Jv=> by
    obtain⟨j,hj⟩ := Jv
    by_cases aF:i=j
    ·rw[<- aF,os_eq]at hj;rw[T_.mp hj];exact .inr (n.free J8)
    ·rw[bg aF]at hj;exact m.w b ⟨j,hj⟩,m.k,m.d⟩
  ·rcases z with z|z
   ·rcases z with⟨j,hj⟩|z
    ·by_cases aF:i=j
     ·rw[<- aF,os_eq]at hj;rw[T_.mp hj];exact .inr ha
     ·rw[bg aF]at hj;exact .inl (.inl ⟨j,hj⟩)
    ·exact .inl (.inr z)
   ·exact z.elim⟩
end
end L2.Q
namespace L2
open PySem PySem.Spec PySem.SeqAt PyProof.Rows
def sY:List D->Option (List Bool)
 |[]=>some []
 |.bl b::ds=>(sY ds).map (b::·)
 |_::_=>none
theorem uG:∀{ds:List D} {bs:List Bool},sY ds=some bs->ds=bs.map D.bl
 |[],_,h=>by cases h;rfl
 |d::ds,bs,h=>by
  cases d with
  |bl b =>
   obtain⟨r,h1,rfl⟩:=Uk.mp (show (sY ds).map (b::·)=some bs from h)
   rw[uG h1];rfl
  |_=>cases h
theorem qR:∀bs:List Bool,sY (bs.map D.bl)=some bs
 |[]=>rfl
 |b::bs=>by show (sY (bs.map D.bl)).map (b::·)=_;rw[qR bs];rfl
def Kj:List D->Option D
 |[d]=>d.vI.bind λds=>(sY ds).map λbs=>.bl (bs.any id)
 |_=>none
theorem Cq (bs:List Bool):Kj [.lst (bs.map D.bl)]=some (.bl (bs.any id)):=by
 show (sY (bs.map D.bl)).map _=_;rw[qR];rfl
section
variable {P:T7}{w:Ur}{W:Addr->Prop}{H:Hp}
theorem pG:∀{bs:List Bool} {vs:List V},ai P w W H (bs.map D.bl) vs->vs=bs.map V.bl
 |[],_,h=>h
 |b::bs,_,⟨v,r,e,h1,h2⟩=>by rw[e,show v=.bl b from h1,pG h2];rfl
end
theorem oZ:∀{bs:List Bool} {us:List TY},Vals (bs.map V.bl) us->us=bs.map Value.bool
 |[],_,.nil=>rfl
 |b::bs,_,.cons r q=>by rw[Uy,<- oZ q,show _=Value.bool b from r]
variable {X:Cx}
theorem wC (hc:X.calm=true):bE X (.builtin "any") Kj:=by
 intro pins s σ H xs us Q I r h;obtain⟨W,ds,d,hd,r1,e,q⟩:=h
 match ds,e with
 |[x],e =>
  obtain⟨es,e1,e2⟩:=Vc.mp (show x.vI.bind _=some d from e)
  obtain⟨bs,e3,rfl⟩:=Uk.mp e2;rw[D.oi e1,uG e3]at r1;obtain⟨x,rfl,p,vs,rfl,h1,n1,q1⟩:=fT r1;obtain⟨u,rfl,ru⟩:=vals1 r;cases ru;rw[pG q1]at h1;obtain⟨its,r2,ht,hz⟩:=I.list (cQ.of h1);obtain rfl:=oZ r2;obtain⟨ol,gl,_⟩:=id ht.isList;have lt:p<s.heap.objs.size:=Us gl;have Wk:=Walks.list (prog:=X.prog) (w:=X.w) (A:=X.A.in1) (I.ok.hd hc) s.heap.objs.size p (UI lt) (bs.map Value.bool).toArray;refine call_any_walk (X1 ht.isList ⟨s.heap.objs.size,_,_,_,_,_,λj=>bs.getD j false,rfl,Wk,⟨⟨_,UT _ rfl,rfl,rfl⟩,ht.isList.push _⟩,λj v s' Q' E' hv hq=>?_,λh' tk k=>?_⟩)
  ·have hv:((bs.map Value.bool).toArray)[j]?=some v:=hv;rw[Xv,T6]at hv;obtain⟨b,hb,rfl⟩:=Uk.mp hv;have hq:Q' (bs.getD j false) s':=hq;rw[UE,hb]at hq;exact X0 hq
  ·have ea:((T8 (bs.map Value.bool).toArray.size).any λj=>bs.getD j false)=bs.any id:=by
    rw[V1,Yg,Yg];constructor
    ·rintro⟨j,hj,hb⟩;rw[UE]at hb;cases hg:bs[j]? with
     |none=>rw[hg]at hb;cases hb
     |some b=>rw[hg]at hb;exact⟨b,UO hg,hb⟩
    ·rintro⟨b,hb,ht⟩;obtain⟨j,hj⟩:=V9 hb;refine⟨j,?_,by rw[UE,hj];exact ht⟩
     rw[U_];have:=(Ua.mp hj).1;simpa using this
   rw[ea];exact⟨.bl (bs.any id),H,I.kept (t':=tk) λb o e=>k b o (by
    have:=Us e;simp only[T_];exact UI this) (Ud _ e),rfl,q _ _ (az.refl _) rfl⟩
namespace Q
section
variable {C:Cfg}{a b c:Expr}{p p' pos pos':Pos}
theorem yP {i:Int}{n:Nat}{acc:Array TY}(h:ItemsOf (λk v=>∃t,v=Value.int (i+k*(-1)) t) acc n):Vals ((T8 n).map λk:Nat=>V.int (i-(k:Int))) acc.toList:=by
 have key:∀(l:List TY) (i:Int),(∀j v,l[j]?=some v->∃t,v=Value.int (i-((j:Nat):Int)) t)->Vals ((T8 l.length).map λk:Nat=>V.int (i-(k:Int))) l:=λl=>by
  induction l with
  |nil=>intro i _;exact .nil
  |cons x r ih =>
   intro i h;rw[Um,List.range_succ_eq_map,Uy,Va];obtain⟨t,rfl⟩:=h 0 x rfl;refine .cons ⟨t,rfl⟩ ?_;have:=ih (i-1) λj v e=>by
    obtain⟨t,e'⟩:=h (j+1) v (by simpa using e)
    exact⟨t,by rw[e'];congr 1;lia⟩
   refine(show (λk:Nat=>V.int (i-(k:Int))) ∘ Nat.succ=λk:Nat=>V.int (i-1-(k:Int)) from ?_)▸this
   funext k
   show V.int (i-((k+1:Nat):Int))=_
   congr 1
   lia
 have:=key acc.toList i λj v e=>by
  obtain⟨t,e'⟩:=h.2 j v (by simpa using e)
  exact⟨t,by rw[e',Int.mul_neg,Int.mul_one];rfl⟩
 rwa [Ue,h.1]at this
theorem lZ {ta:TA} (hc:X.calm=true) (JZ:Gl X "list") (Nh:X.mg "list" = none) (hg:Gl X "range") (hm:X.mg "range" = none) (ha:PA X [a,b,c] ta) (hs:Up [a,b,c] X.env=[(false,eval a X.env),(false,eval b X.env),(false,eval c X.env)]:=by rfl) (mS:Up [b,c] X.env=[(false,eval b X.env),(false,eval c X.env)]:=by rfl)
  (hl:Up [.Call (.Name "range" p) [a,b,c] [] pos] X.env=[(false,eval (.Call (.Name "range" p) [a,b,c] [] pos) X.env)]:=by rfl) :
  PE X (.Call (.Name "list" p') [.Call (.Name "range" p) [a,b,c] [] pos] [] pos') (λσ H Q=>ta σ H λvs H1=>∃i j:Int,vs=[.int i,.int j,.int (-1)]/\(-(2 ^ 62)<=i/\i<2 ^ 62/\-(2 ^ 62)<=j/\j<2 ^ 62)/\(i-j).toNat<=2 ^ 24/\∀p,H1 p=none->Q (.ref p) (upd H1 p (.lst ((T8 (i-j).toNat).map λk:Nat=>V.int (i-(k:Int)))))):=by
 intro pins s σ H Q I h;refine Ws (eZ I JZ Nh jT ?_ (by decide) (by decide))
 refine Vl ?_ hl rfl;rw[hl];show UQ _ _ (spliced ((false,eval (.Call (.Name "range" p) [a,b,c] [] pos) X.env)::[])) _ _ s;refine Calls.spliced_cons ?_;refine Ws (eZ I hg hm Yv ?_ (by decide) (by decide))
 refine Vl (b9 (ha pos pins s σ H _ I h) λus s1 h1=>?_) (by rw[hs,mS]) (by rw[mS];rfl)
 obtain⟨vs,H1,I1,r1,i,j,rfl,⟨q1,q2,q3,q4⟩,hz,q⟩:=h1;cases r1 with
 |cons r rr =>
 cases rr with
 |cons r' rr =>
 cases rr with
 |cons Gz rr =>
 cases rr;obtain⟨t1,rfl⟩:=r;obtain⟨t2,rfl⟩:=r';obtain⟨t3,rfl⟩:=Gz;refine call_range_3 (by decide) (Calls.spliced_nil ?_) (.inl (W8 (by decide +kernel)))
 have e2:VZ i j (-1)=(((i-j).toNat:Nat):Int):=by rw[d3];split <;> lia
 refine call_list_range (n:=(i-j).toNat) (I.ok.hd hc) (IsRange.new ..) (mz q1 q2 q3 q4) e2 hz λh' tk acc c kp hS ha=>?_;have I2:=I1.kept (t':=s1.toks) (h':=s1.heap.push {cls:=.type "range",data:=.fields #[.int i t1,.int j t2,.int (-1) t3]}) λb o e=>Ud _ e;have fr:=I2.bM.fresh (T4 _);refine⟨.ref (s1.heap.push {cls:=.type "range",data:=.fields #[.int i t1,.int j t2,.int (-1) t3]}).objs.size,_,I2.laid (o:=.lst _) kp (T4 _) ⟨?_,acc.toList,c,yP ha,?_⟩,rfl,q _ fr⟩
 ·rw[TX,Uw];exact hz
 ·simpa using hS
def vi (φs:bQ):a6:=λβ R=>φs β λds _ β1=>∃i j:Int,ds=[.int i,.int j,.int (-1)]/\(-(2 ^ 62)<=i/\i<2 ^ 62/\-(2 ^ 62)<=j/\j<2 ^ 62)/\(i-j).toNat<=2 ^ 24/\R (.lst (nO i (i-j).toNat)) .own β1
theorem mC {P:T7}{w:Ur}{H:Hp}{i:Int}:∀(l:List Nat),aI P w H (l.map λk:Nat=>D.int (i-(k:Int))) (l.map λk:Nat=>V.int (i-(k:Int))) []
 |[]=>⟨rfl,rfl⟩
 |k::l=>⟨_,_,[],[],rfl,rfl,⟨rfl,rfl⟩,mC l⟩
theorem gm {φs:bQ} {q:Bool} (hc:X.calm=true) (Nh:X.mg "list" = none) (hm:X.mg "range" = none) (ha:oN X C q [a,b,c] φs) (JZ:Gl X "list" := by rfl) (hg:Gl X "range" := by rfl) (hs:Up [a,b,c] X.env=[(false,eval a X.env),(false,eval b X.env),(false,eval c X.env)]:=by rfl) (mS:Up [b,c] X.env=[(false,eval b X.env),(false,eval c X.env)]:=by rfl)
  (hl:Up [.Call (.Name "range" p) [a,b,c] [] pos] X.env=[(false,eval (.Call (.Name "range" p) [a,b,c] [] pos) X.env)]:=by rfl):PQ X C q (.Call (.Name "list" p') [.Call (.Name "range" p) [a,b,c] [] pos] [] pos') (vi φs) :=
 ⟨λβ R R' k h=>ha.mono β _ _ (λds ks β1 h=>by obtain⟨i,j,e,h1,h2,q⟩:=h;exact⟨i,j,e,h1,h2,k _ _ _ q⟩) h,(lZ hc JZ Nh hg hm ha.pa hs mS hl).pre λσ H Q h=>by
  obtain⟨β,own,s,h⟩:=h;refine o_.of ha s h λds ks β1 vs H1 aE h o1 r1=>?_;obtain⟨i,j,rfl,h1,h2,q⟩:=h;obtain⟨x,r,rfl,rx,y,r',rfl,ry,z,Gz,rfl,rz,rr⟩:=r1.gh;cases (show x=V.int i from rx)
  cases (show y=V.int j from ry)
  cases (show z=V.int (-1) from rz)
  cases (show Gz=[] from rr)
  refine⟨i,j,rfl,h1,h2,λp hp=>q _ _ aE (o1.same (az.new hp)) ⟨[p],⟨p,_,[],rfl,ar,rfl,mC _⟩,by simp,λc hc=>?_⟩⟩
  rw[T_.mp hc];exact⟨UJ λz=>o1.sn.d p z hp,λz=>o1.sq.uC p z hp,UJ λz=>o1.sq.gc p z hp⟩⟩
end
end Q
end L2
namespace L2.Q
open Mx
def EW:Sr Nat:=⟨0,1,(·+·),(· * ·)⟩
theorem vG {l:List Int}{x:Int}:(fK (l++[x])).getD 0∈l++[x]/\∀y∈l++[x],y<=(fK (l++[x])).getD 0:=by
 cases l with
 |nil=>exact bV [] x
 |cons a l=>exact bV (l++[x]) a
theorem mL {ps:List (Nat×Nat)}{w:Nat×Nat->Int}{T:Nat->Nat->Int}{i j:Nat}:
  (gE ps w T i j=T (j-i-1) (i+1)\/∃k,(i,k)∈ps/\k<j/\gE ps w T i j=w (i,k)+T (k-i-1) (i+1)+T (j-k-1) (k+1)) /\
  T (j-i-1) (i+1)<=gE ps w T i j/\∀k,(i,k)∈ps->k<j->w (i,k)+T (k-i-1) (i+1)+T (j-k-1) (k+1)<=gE ps w T i j:=by
 obtain⟨h1,h2⟩:=vG (l:=((oR ps i).filter λk=>decide (k<j)).map λk=>w (i,k)+T (k-i-1) (i+1)+T (j-k-1) (k+1)) (x:=T (j-i-1) (i+1));refine⟨?_,h2 _ (by simp),λk hk hj=>h2 _ (Vg _ (UG.mpr ⟨k,UX.mpr ⟨f_.mpr hk,decide_eq_true hj⟩,rfl⟩))⟩
 rcases Uq.mp h1 with h|h
 ·obtain⟨k,hk,e⟩:=UG.mp h;obtain⟨q1,q2⟩:=UX.mp hk;exact .inr ⟨k,f_.mp q1,of_decide_eq_true q2,e.symm⟩
 ·exact .inl (T_.mp h)
open PySem PySem.Spec PySem.SeqAt PyProof.Rows
theorem zC {ps:List (Nat×Nat)}:D.bW (ps.map λp=>kD (tI p))=true:=by
 have:=eO (ps.map tI);rw[Va]at this;exact this
def qJ:FD:=λds R=>∃n ps,ds=[gk n ps]/\R (gk n ps)
theorem qJ.mono:d9 qJ:=λds R R' k h=>by obtain⟨n,ps,e,q⟩:=h;exact⟨n,ps,e,k _ q⟩
def near (ps:List (Nat×Nat))(b:Nat):List Nat:=(ps.filter λp=>decide (p.2=b)).map (·.1)
theorem dz {ps:List (Nat×Nat)}{a b:Nat}:a∈near ps b↔(a,b)∈ps:=by
 unfold near;rw[UG];constructor
 ·rintro⟨p,hp,rfl⟩;obtain⟨h1,h2⟩:=UX.mp hp;rw[<- of_decide_eq_true h2];exact h1
 ·intro h;exact⟨(a,b),UX.mpr ⟨h,by simp⟩,rfl⟩
theorem BB {ps:List (Nat×Nat)}{b:Nat}(h:ps.Nodup):(near ps b).Nodup:=by
 unfold near;refine VP.mpr ((h.filter _).imp_of_mem λ{p q} hp hq n e=>n ?_);have h1:=of_decide_eq_true (UX.mp hp).2;have h2:=of_decide_eq_true (UX.mp hq).2;exact Prod.ext e (h1.trans h2.symm)
theorem kU {ps:List (Nat×Nat)}{b:Nat}:(near ps b).length<=ps.length:=by
 unfold near;rw[TX];exact Vr _ _
theorem tF {f:Nat->Nat}{p:Nat->Bool}{x:Nat}(hx:p x=false):∀{l:List Nat},l.Nodup->((l.filter λa=>p a || decide (a=x)).map f).sum=((l.filter p).map f).sum+if x∈l then f x else 0
 |[],_=>by simp
 |a::l,h=>by
  obtain⟨h1,h2⟩:=UM.mp h;have ih:=tF (f:=f) hx h2
  by_cases e:a=x
  ·subst e;rw[Vj,if_pos (by simp),Vj,if_neg (by rw[hx];simp),Uy,V4,ih,if_neg h1,if_pos (by simp)]
   lia
  ·have e':(if x∈a::l then f x else 0)=if x∈l then f x else 0:=by
    by_cases q:x∈l
    ·rw[if_pos q,if_pos (by simp[q])]
    ·rw[if_neg q,if_neg (by simp[q];exact λz=>e z.symm)]
   rw[e',Vj,Vj];cases q:p a
   ·rw[if_neg (by simp[e]),if_neg (by simp)];exact ih
   ·rw[if_pos (by simp),if_pos rfl,Uy,V4,Uy,V4,ih];lia
theorem mx {f:Nat->Nat}{l:List Nat}(h:l.Nodup){i:Nat}:∀len:Nat,((l.filter λa=>decide (i<=a)&&decide (a<i+len)).map f).sum=Mx.AE EW len λr=>(if i+r∈l then 1 else 0)*f (i+r)
 |0=>by
  have:(l.filter λa=>decide (i<=a)&&decide (a<i+0))=[]:=Xi.mpr λa _=>by simp
  rw[this];rfl
 |len+1=>by
  have e:(λa=>decide (i<=a)&&decide (a<i+(len+1)))=λa=>(decide (i<=a)&&decide (a<i+len)) || decide (a=i+len):=by
   funext a
   rw[V1];simp;lia
  rw[e,tF (by simp) h,mx h len]
  show _+_=_+(if i+len∈l then 1 else 0)*f (i+len)
  congr 1
  split
  ·rw[Yk]
  ·rw[Nat.zero_mul]
theorem ph {α:Type}{f:α->Nat}:∀{l:List α},(l.map λa=>((f a:Nat):Int)).sum=((l.map f).sum:Nat)
 |[]=>rfl
 |a::l=>by rw[Uy,V4,Uy,V4,ph];lia
def jQ:Nat->Nat
 |0=>1
 |n+1=>(n+1)*jQ n
theorem ux (a:Nat):∀b,jQ a*jQ b<=jQ (a+b)
 |0=>by show jQ a*1<=jQ a;lia
 |b+1=>by
  show jQ a*((b+1)*jQ b)<=(a+b+1)*jQ (a+b);rw[Nat.mul_left_comm];exact Yz (by lia) (ux a b)
theorem zE {a b:Nat}(h:a<=b):jQ a<=jQ b:=by
 induction b with
 |zero=>rw[show a=0 by lia];exact T4 _
 |succ b ih =>
  rcases Vt b a with q|q
  ·rw[show a=b+1 by lia];exact T4 _
  ·exact U3 (ih q) (Nat.le_mul_of_pos_left _ (by lia))
theorem tG {f:Nat->Nat}{c:Nat}:∀{n:Nat},(∀r,r<n->f r<=c)->Mx.AE EW n f<=n*c
 |0,_=>Uh _
 |n+1,h=>by
  show Mx.AE EW n f+f n<=_;have:=tG (f:=f) (n:=n) λr hr=>h r (by lia)
  have:=h n (by lia)
  rw[Nat.add_mul,Yk];lia
theorem zP {a b:Int}(h:oQ a b):Kf (.int a) (.int b)=some (.int (a*b)):=by
 show (if oQ a b then _ else _)=_
 rw[if_pos h]
theorem sum_ints {α:Type}{f:α->Int}{l:List α}:cY (λns=>some ns.sum) [.lst (l.map λk=>D.int (f k))]=some (.int (l.map f).sum):=by
 have e:(l.map λk=>D.int (f k))=(l.map f).map D.int:=by simp
 rw[e];exact fb rfl
theorem xD (n:Nat)(ps:List (Nat×Nat)):(gk n ps).pd.canLay0=true/\(gk n ps).pd.depth<=4:=by
 have:=u_ (n:Int) (ps.map tI);unfold Ep at this;rw[Va]at this;exact this
section
variable {ps:List (Nat×Nat)}
def mX (ps:List (Nat×Nat))(i j:Nat):Int:=tW ps w1 (j-i) i
theorem dU {i j:Nat}(h:j<=i):mX ps i j=0:=by unfold mX;rw[show j-i=0 by lia];rfl
theorem jO {l:List Int}{m:Int}(h:fK l=some m):m∈l/\∀x∈l,x<=m:=by
 cases l with
 |nil=>cases h
 |cons a l=>cases h;exact bV l a
theorem BG {l:List Int}{m:Int}(h1:m∈l)(h2:∀x∈l,x<=m):fK l=some m:=by
 cases h:fK l with
 |none=>cases l with|nil=>cases h1|cons a l=>cases h
 |some k =>
  obtain⟨g1,g2⟩:=jO h;have:=h2 _ g1;have:=g2 _ h1;rw[show k=m by lia]
theorem oh (hp:∀p∈ps,p.1<p.2){i j:Nat}(h:i<j):fK ((((oR ps i).filter λk=>decide (k<j)).map λk=>1+mX ps (i+1) k+mX ps (k+1) j)++[mX ps (i+1) j])=some (mX ps i j):=by
 have e:mX ps i j=gE ps w1 (tW ps w1) i j:=by
  unfold mX;rw[show j-i=(j-i-1)+1 by lia,tE hp,show i+(j-i-1)+1=j by lia]
 rw[e];unfold gE;rw[<- mJ];have e2:(((oR ps i).filter λk=>decide (k<j)).map λk=>1+mX ps (i+1) k+mX ps (k+1) j)=((oR ps i).filter λk=>decide (k<j)).map λk=>w1 (i,k)+tW ps w1 (k-i-1) (i+1)+tW ps w1 (j-k-1) (k+1):=by
  refine U5 λk _=>?_;unfold mX;rw[show k-(i+1)=k-i-1 by lia,show j-(k+1)=j-k-1 by lia]
  rfl
 rw[e2];unfold mX;rw[show j-(i+1)=j-i-1 by lia]
theorem jP (hp:∀p∈ps,p.1<p.2){i j:Nat}(h:i<j):mX ps (i+1) j<=mX ps i j:=(jO (oh hp h)).2 _ (by simp)
theorem kY (hp:∀p∈ps,p.1<p.2){i j k:Nat}(h:(i,k)∈ps)(hk:k<j):1+mX ps (i+1) k+mX ps (k+1) j<=mX ps i j:=by
 have FV:=hp _ h;dsimp only at FV;refine(jO (oh hp (show i<j by lia))).2 _ (Vg _ (UG.mpr ⟨k,UX.mpr ⟨f_.mpr h,decide_eq_true hk⟩,rfl⟩))
theorem kZ (hp:∀p∈ps,p.1<p.2){i j:Nat}(h:i<j):mX ps i j=mX ps (i+1) j\/∃k,(i,k)∈ps/\k<j/\mX ps i j=1+mX ps (i+1) k+mX ps (k+1) j:=by
 rcases Uq.mp (jO (oh hp h)).1 with z|z
 ·obtain⟨k,hk,e⟩:=UG.mp z;obtain⟨h1,h2⟩:=UX.mp hk;exact .inr ⟨k,f_.mp h1,of_decide_eq_true h2,e.symm⟩
 ·exact .inl (T_.mp z)
theorem CJ (hp:∀p∈ps,p.1<p.2):∀len i,0<=tW ps w1 len i
 |0,_=>Yn 0
 |l+1,i=>by
  rw[tE hp];have h:=(mL (ps:=ps) (w:=w1) (T:=tW ps w1) (i:=i) (j:=i+l+1)).2.1;rw[show i+l+1-i-1=l by lia]at h
  exact Int.le_trans (CJ hp l (i+1)) h
theorem Io (hp:∀p∈ps,p.1<p.2){i j:Nat}:0<=mX ps i j:=CJ hp (j-i) i
theorem g_ (hp:∀p∈ps,p.1<p.2):∀(n i j:Nat),j-i<=n->i<j->mX ps i (j-1)<=mX ps i j
 |0,i,j,h,aF=>by lia
 |n+1,i,j,h,aF=>by
  by_cases e:i=j-1
  ·rw[dU (by lia)];exact Io hp
  ·have s:=jP hp aF;rcases kZ hp (show i<j-1 by lia)with z|⟨k,h1,h2,z⟩
   ·have:=g_ hp n (i+1) j (by lia) (by lia)
    lia
   ·have FV:=hp _ h1;dsimp only at FV;have:=g_ hp n (k+1) j (by lia) (by lia)
    have:=kY hp h1 (show k<j by lia)
    lia
theorem g9 (hp:∀p∈ps,p.1<p.2){a j:Nat}(ha:(a,j-1)∈ps)(hj:0<j):∀(n i:Nat),j-i<=n->i<=a->mX ps i a+1+mX ps (a+1) (j-1)<=mX ps i j
 |0,i,h,hi=>by have:=hp _ ha;dsimp only at this;lia
 |n+1,i,h,hi=>by
  have R4:=hp _ ha;dsimp only at R4
  by_cases e:i=a
  ·subst e;have t:=kY hp ha (show j-1<j by lia)
   rw[dU (T4 i)];rw[dU (i:=j-1+1) (by lia)]at t
   lia
  ·have s:=jP hp (show i<j by lia)
   rcases kZ hp (show i<a by lia)with z|⟨k,h1,h2,z⟩
   ·have:=g9 hp ha hj n (i+1) (by lia) (by lia)
    lia
   ·have FV:=hp _ h1;dsimp only at FV;have:=g9 hp ha hj n (k+1) (by lia) (by lia)
    have:=kY hp h1 (show k<j by lia)
    lia
theorem iL (hp:∀p∈ps,p.1<p.2):∀(n i j:Nat),j-i<=n->i<j->mX ps i j=mX ps i (j-1)\/∃a,(a,j-1)∈ps/\i<=a/\mX ps i j=mX ps i a+1+mX ps (a+1) (j-1)
 |0,i,j,h,aF=>by lia
 |n+1,i,j,h,aF=>by
  have rs:=g_ hp (j-i) i j (T4 _) aF;rcases kZ hp aF with z|⟨k,h1,h2,z⟩
  ·by_cases e:i+1=j
   ·left
    rw[dU (i:=i+1) (by lia)]at z
    rw[dU (i:=i) (j:=j-1) (by lia)]
    exact z
   ·have s:=jP hp (show i<j-1 by lia)
    rcases iL hp n (i+1) j (by lia) (by lia)with y|⟨a,h1,h2,y⟩
    ·left;lia
    ·right
     have s2:=jP hp (show i<a by lia)
     have t:=g9 hp h1 (by lia) (j-i) i (T4 _) (by lia)
     exact⟨a,h1,by lia,by lia⟩
  ·have FV:=hp _ h1;dsimp only at FV
   by_cases e:k=j-1
   ·right
    subst e;refine⟨i,h1,T4 _,?_⟩;rw[dU (i:=j-1+1) (by lia)]at z
    rw[dU (T4 i)];lia
   ·rcases iL hp n (k+1) j (by lia) (by lia)with y|⟨a,g1,g2,y⟩
    ·left
     have:=kY hp h1 (show k<j-1 by lia)
     lia
    ·right
     have:=kY hp h1 (show k<a by lia)
     have t:=g9 hp g1 (by lia) (j-i) i (T4 _) (by lia)
     exact⟨a,g1,by lia,by lia⟩
theorem yI (hp:∀p∈ps,p.1<p.2){i j:Nat}(h:i<j):fK ([mX ps i (j-1)]++(((near ps (j-1)).filter λa=>decide (i<=a)).map λa=>mX ps i a+1+mX ps (a+1) (j-1)))=some (mX ps i j):=by
 refine BG ?_ λx hx=>?_
 ·rcases iL hp (j-i) i j (T4 _) h with z|⟨a,h1,h2,z⟩
  ·rw[z];simp
  ·exact UP _ (UG.mpr ⟨a,UX.mpr ⟨dz.mpr h1,decide_eq_true h2⟩,z.symm⟩)
 ·rcases Uq.mp hx with z|z
  ·rw[T_.mp z];exact g_ hp (j-i) i j (T4 _) h
  ·obtain⟨a,ha,rfl⟩:=UG.mp z;obtain⟨h1,h2⟩:=UX.mp ha;exact g9 hp (dz.mp h1) (by lia) (j-i) i (T4 _) (of_decide_eq_true h2)
end
section
end
theorem vF {l:List Int}{m:Int}(h:fK l=some m):cY fK [.lst (l.map D.int)]=some (.int m):=fb h
structure KC (mg:Str->Option TY):Prop extends Bs3 mg where
 any:mg "any" = none
theorem Gi:U1 "any" = some (.builtin "any"):=by decide +kernel
def dq (l:List Int):D:=.lst (l.map D.int)
def dg (pp:List (List Int)):D:=.lst (pp.map dq)
def Ae (pp:List (List Int)):Prop:=pp.length<=200/\∀l∈pp,l.length<=200
def nK (n:Nat):List Int:=(T8 (n+1)).map λk:Nat=>(n:Int)+1-(k:Int)
def pA (n:Nat)(pp:List (List Int)):Bool:=decide (pp.map (λl=>(l.length:Int))=nK n)
def Tp (pp:List (List Int))(l i:Nat):Int:=(pp.getD i []).getD l 0
def DH (n:Nat)(ps:List (Nat×Nat))(w:Nat×Nat->Int)(pp:List (List Int)):Prop:=pA n pp=true/\(∀l∈pp,∀x∈l,0<=x)/\∀i j,i<j->j<=n->gE ps w (Tp pp) i j<=Tp pp (j-i) i
theorem tM {n:Nat}{pp:List (List Int)}(h:pA n pp=true):pp.length=n+1/\∀i,i<=n->(pp.getD i []).length=n+1-i:=by
 have h:=of_decide_eq_true h;have hl:pp.length=n+1:=by have:=congrArg List.length h;unfold nK at this;simpa using this
 refine⟨hl,λi hi=>?_⟩;have d_:i<pp.length:=by lia
 have e:pp[i]?=some pp[i]:=T5 d_;have:=congrArg (λl=>l[i]?) h;unfold nK at this;rw[T6,e,bj (by lia)]at this
 have this:((pp[i].length:Nat):Int)=(n:Int)+1-(i:Int):=UD this;rw[UE,e];show pp[i].length=_;lia
theorem BK {l:List Int}:dq l=.lst (rK l.length λk=>l.getD k 0):=by
 unfold dq rK
 congr 1
 apply Vm;intro k;rw[T6]
 by_cases hk:k<l.length
 ·rw[bj hk];show _=some (D.int (l.getD k 0));rw[UE,T5 hk];rfl
 ·rw[UK (by lia),UK (by rw[TX,Uw];lia)];rfl
theorem tU {n:Nat}{pp:List (List Int)}(h:pA n pp=true):dg pp=lr n (Tp pp):=by
 obtain⟨h1,h2⟩:=tM h;unfold dg lr xn
 congr 1
 apply Vm;intro i;rw[T6]
 by_cases hi:i<n+1
 ·have d_:i<pp.length:=by lia
  have e:pp[i]?=some pp[i]:=T5 d_;rw[bj hi,e,WM,BK];have h3:=h2 i (by lia)
  have e2:pp.getD i []=pp[i]:=by rw[UE,e];rfl
  rw[e2]at h3;rw[h3];unfold Tp;rw[e2]
 ·rw[UK (by lia),UK (by rw[TX,Uw];lia)];rfl
theorem oj {ps:List (Nat×Nat)}{w:Nat×Nat->Int}{T:Nat->Nat->Int}{i j:Nat}{x:Int}:gE ps w T i j<=x↔T (j-i-1) (i+1)<=x/\∀k,(i,k)∈ps->k<j->w (i,k)+T (k-i-1) (i+1)+T (j-k-1) (k+1)<=x:=by
 obtain⟨h1,h2,h3⟩:=mL (ps:=ps) (w:=w) (T:=T) (i:=i) (j:=j);constructor
 ·intro h;exact⟨Int.le_trans h2 h,λk hk hj=>Int.le_trans (h3 k hk hj) h⟩
 ·rintro⟨a,b⟩;rcases h1 with e|⟨k,hk,hj,e⟩
  ·rw[e];exact a
  ·rw[e];exact b k hk hj
theorem qb {n i j:Nat}:(i,j)∈u0 n↔i<j/\j<=n:=by
 unfold u0 fC;rw[List.mem_flatMap];constructor
 ·rintro⟨a,ha,h⟩;obtain⟨b,hb,e⟩:=UG.mp h;have ha:=U_.mp ha;have hb:=U_.mp hb;obtain⟨e1,e2⟩:=Yj e;lia
 ·rintro⟨h1,h2⟩;refine⟨n-1-i,U_.mpr (by lia),UG.mpr ⟨j-i-1,U_.mpr (by lia),?_⟩⟩
  exact Prod.ext (by show n-1-(n-1-i)=i;lia) (by show n-(n-1-i)+(j-i-1)=j;lia)
def qH:FD:=λds R=>∃(n:Nat) (pp:List (List Int)),ds=[dg pp,.int n]/\n<=40/\Ae pp/\R (.bl (pA n pp))
theorem qH.mono:d9 qH:=λds R R' k h=>by obtain⟨n,pp,e,h1,h2,q⟩:=h;exact⟨n,pp,e,h1,h2,k _ q⟩
def lA:FD:=λds R=>∃(n:Nat) (ps:List (Nat×Nat)) (w:Nat×Nat->Int) (pp:List (List Int)),ds=[gk n ps,wD ps w,dg pp]/\CH n ps/\n<=40/\Ae pp/\∀b:Bool,(b=true↔DH n ps w pp)->R (.bl b)
theorem lA.mono:d9 lA:=λds R R' k h=>by obtain⟨n,ps,w,pp,e,h1,h2,h3,q⟩:=h;exact⟨n,ps,w,pp,e,h1,h2,h3,λb hb=>k _ (q b hb)⟩
def fN:FD:=λds R=>∃(n:Nat) (ps:List (Nat×Nat)) (pp:List (List Int)),ds=[gk n ps,dg pp]/\CH n ps/\n<=40/\Ae pp/\∀b:Bool,(b=true↔DH n ps w1 pp)->R (.bl b)
theorem fN.mono:d9 fN:=λds R R' k h=>by obtain⟨n,ps,pp,e,h1,h2,h3,q⟩:=h;exact⟨n,ps,pp,e,h1,h2,h3,λb hb=>k _ (q b hb)⟩
theorem pF {n:Nat}:nO ((n:Int)+1) (n+1)=(nK n).map D.int:=by
 unfold nO nK;rw[Va];rfl
def kT (pp:List (List Int)):List Bool:=pp.flatMap λl=>l.map λx=>decide (x<0)
theorem pU {pp:List (List Int)}:(kT pp).any id=false↔∀l∈pp,∀x∈l,0<=x:=by
 unfold kT;rw[List.any_flatMap,W3];refine forall_congr' λl=>forall_congr' λ_=>?_;rw[Bool.not_eq_true,List.any_map,W3];refine forall_congr' λx=>forall_congr' λ_=>?_;simp only[Function.comp,id,decide_eq_true_eq];lia
theorem yD {pp:List (List Int)}(h:Ae pp):∀m,(kT (pp.take m)).length<=200*pp.length:=by
 intro m;have:∀q:List (List Int),(∀l∈q,l.length<=200)->(kT q).length<=200*q.length:=λq=>by
  induction q with
  |nil=>intro _;exact T4 _
  |cons l q ih =>
   intro hq;have h1:=ih λx hx=>hq x (UA _ hx);have h2:=hq l Uz;unfold kT at *
   rw[List.flatMap_cons,Ui,TX,Um];lia
 have h1:=this (pp.take m) λl hl=>h.2 l (WJ hl);rw[Ut]at h1;have:min m pp.length<=pp.length:=Nat.min_le_right _ _;lia
end L2.Q
namespace jw
open PySem L2 L2.Q
section
variable {P:T7}{w:Ur}{K:PySem.W.Frag}{mg:Str->Option TY}{base:Heap}
theorem nM:aP ["paper","many"] ["paper","many"] (aC dP):=mkS
theorem Bq {me gy} (wV:D9 K mg me gy) (B:Bs3 mg):aR P w K mg base cj 1 me gy ["paper","many"] (ik P w true qH):=by
 refine wO wV.F nM (λds R Ju=> by obtain⟨n,pp,e,_⟩ := Ju;subst e;rfl) λcG A outer s H E hr=>⟨_,(ao (a_ (rZ af (bR.m (cP hr.units)) (C4 ["numbers"] [none] (by rfl) (by decide:(["numbers"]:List Str).Nodup) rfl (aY (aa (i:=0))) (λ_ _ _ _ _ _=>(ak (i:=0) (by decide:(["numbers"]:List Str).Nodup))) (λ_ _ _ _ _ _=>bJ) (λ_ _ _ _ _ _=>(bf af (bE.m dt) B.len iZ (ab (aa (i:=0)) ae)))) (gm rfl B.list B.range (ab (au ay aj (aa (i:=1)) ag) (ab ag (ab (kG eS ag) ae))))))),λds R h=>?_⟩
 obtain⟨n,pp,rfl,hn,hb,q⟩:=h;have hlen:∀l:List Int,wg [dq l]=some (.int (l.length:Int)):=λl=>by show some (D.int (((l.map D.int).length:Nat):Int))=_;rw[TX]
 refine⟨_,rfl,_,rfl,trivial,?_⟩;refine dB (λ_=>true) (λl=>.int (l.length:Int)) trivial (cw (by have:=hb.1;lia)) (λl hl y0 o J ho h1 _=>?_) ?_
 ·exact⟨_,rfl,trivial,_,hlen l,trivial,ho,h1 rfl _⟩
 rw[a8];refine⟨trivial,_,rfl,trivial,_,rfl,trivial,trivial,_,rfl,rfl,trivial,(n:Int)+1,0,rfl,⟨by lia,by lia,by lia,by lia⟩,by lia,?_⟩
 rw[show ((n:Int)+1-0).toNat=n+1 by lia,pF]
 have e:GZ (.lst (pp.map λl=>D.int (l.length:Int))) (.lst ((nK n).map D.int))=some (.bl (pA n pp)):=by
  have:=zS (pp.map λl=>(l.length:Int)) (nK n);rw[Va]at this;exact this
 exact⟨_,e,trivial,q⟩
theorem cy:aP ["row","worth","paper","partners","i","j"] ["row","worth","paper"] (aC cU):=mkS
theorem yz {qA jo} (Aq:Ln K mg qA jo) {me gy} (wV:D9 K mg me gy) {l_ gw} (wR:D5 K mg l_ gw) {l9 gv} (wQ:D4 K mg l9 gv) {md gx} (wU:D7 K mg md gx) {jA fu} (uE:D6 K mg jA fu) (B:KC mg):aR P w K mg base cj 3 qA jo ["row","worth","paper"] (ik P w true lA):=by
 have S5:aR P w K mg base cj 1 _ _ _ (ik P w true qH):= Bq wV B.toBs3;have SX:aR P w K mg base cj 1 _ _ _ (ik P w true qF):= Bo wR B.toBs3;have SU:aR P w K mg base cj 1 _ _ _ (ik P w true zF):= Bn wQ B.toBs3;have S3:aR P w K mg base cj 2 _ _ _ (ik P w true lz):= yy wU uE B.toBs3;refine wO Aq.F cy (λds R Jt=> by obtain⟨n,ps,w,pp,e,_⟩ := Jt;subst e;rfl) λcG A outer s H E hr=>⟨_,(ah (b7 (wX.t (nS (nU (jF (bY qH.mono S5 (hr.mono (by decide)) wV.m wV.F.kp wV.b (ab (aa (i:=2)) (ab (aH af bh (aa (i:=0)) ag) ae))))) (nR (jF (bf af (bE.m (wC rfl)) B.any Gi (ab (O3 ["numbers","number"] [none,none] (by rfl) (by decide:(["numbers","number"]:List Str).Nodup) rfl (aY (aa (i:=2))) (λ_ _ _ _ _ _=>(ak (i:=0) (by decide:(["numbers","number"]:List Str).Nodup))) (λ_ _ _ _ _ _=>bJ) (λ_ _ _ _ _ _=>(vj (i:=0))) (λ_ _ _ _ _ _=>(ak (i:=1) (by decide:(["numbers","number"]:List Str).Nodup))) (λ_ _ _ _ _ _=>bJ) (λ_ _ _ _ _ _=>(rZ af (bR.m fI) (aa (i:=1)) ag))) ae)))))) (ao (a_ fF)) ba)
    (ah (aO (i:=3) (bY qF.mono SX (hr.mono (by decide)) wR.m wR.F.kp wR.b (ab (aa (i:=0)) ae)) cy.nd)
    (ah (bB UR rfl (aY (bY zF.mono SU (hr.mono (by decide)) wQ.m wQ.F.kp wQ.b (ab (aH af bh (aa (i:=0)) ag) ae))) (cW (n:=2) rfl (aK (ak (i:=4) cy.nd) (aK (ak (i:=5) cy.nd) b_))) (ao (b7 (aM af (bR.m fI) (aH af bh (aH af bh (aa (i:=2)) (aa (i:=4))) (au af (bR.m a3) (aa (i:=5)) (aa (i:=4)))) (bY lz.mono S3 (hr.mono (by decide)) wU.m wU.F.kp wU.b (ab (aa (i:=3)) (ab (aa (i:=1)) (ab (aa (i:=2)) (ab (aa (i:=4)) (ab (aa (i:=5)) ae))))))) (ao (a_ fF)) ba)))
    (ao (a_ fF))))),λds R h=>?_⟩
 obtain⟨n,ps,w,pp,rfl,ok,hn,hb,q⟩:=h;refine⟨_,rfl,trivial,_,rfl,trivial,_,rfl,trivial,n,pp,rfl,hn,hb,_,rfl,?_⟩;cases Al:pA n pp with
 |false=>exact Fo rfl ⟨trivial,q false ⟨λz=>(nomatch z),λz=>by have:=z.1;rw[Al]at this;cases this⟩⟩
 |true =>
  refine vV rfl ?_;obtain⟨JT,JS⟩:=hb;have JQ:=yD ⟨JT,JS⟩;refine⟨_,rfl,_,rfl,trivial,?_⟩;refine⟨λa β o=>a<=pp.length/\(∃x0 x1,β=[x0,x1])/\o=(kT (pp.take a)).map D.bl,⟨Uh _,⟨_,_,rfl⟩,rfl⟩,?_,?_⟩
  ·rintro a d β o hd ⟨ha,⟨x0,x1,rfl⟩,rfl⟩;rw[T6]at hd;obtain⟨l,hl,rfl⟩:=Uk.mp hd;have GQ:=(Ua.mp hl).1;have TR:=JS l (UO hl);have et:pp.take (a+1)=pp.take a++[l]:=by rw[U0,hl];rfl
   have en:kT (pp.take (a+1))=kT (pp.take a)++l.map λx=>decide (x<0):=by
    rw[et];unfold kT;rw[XJ];simp
   refine⟨_,_,rfl,?_⟩;refine⟨λb β o=>b<=l.length/\(∃x1,β=[some (.val false (dq l)),x1])/\o=(kT (pp.take a)++(l.take b).map λx=>decide (x<0)).map D.bl,⟨Uh _,⟨_,rfl⟩,by simp⟩,?_,?_⟩
   ·rintro b d β o hd ⟨hb,⟨x1,rfl⟩,rfl⟩;rw[T6]at hd;obtain⟨x,hx,rfl⟩:=Uk.mp hd;have lP:=(Ua.mp hx).1;have Sk:l.take (b+1)=l.take b++[x]:=by rw[U0,hx];rfl
    refine⟨_,rfl,trivial,_,rfl,trivial,?_,lP,⟨_,rfl⟩,?_⟩
    ·rw[TX,Ui,TX,Ut];have:=JQ a;rw[U8];lia
    ·rw[Sk];simp
   ·rintro β o ⟨_,⟨x1,rfl⟩,rfl⟩;refine⟨GQ,⟨_,_,rfl⟩,?_⟩;rw[TX,Vd,en]
  ·rintro β o ⟨_,⟨x0,x1,rfl⟩,rfl⟩;rw[TX,Vd];refine⟨trivial,trivial,_,Cq _,_,rfl,?_⟩;cases FP:(kT pp).any id with
   |true=>exact Fo rfl ⟨trivial,q false ⟨λz=>(nomatch z),λz=>by rw[pU.mpr z.2.1]at FP;cases FP⟩⟩
   |false =>
    refine vV rfl ?_;have FP:=pU.mp FP;rw[tU Al];refine⟨_,rfl,trivial,n,ps,rfl,ok,?_⟩;refine⟨_,rfl,trivial,_,rfl,trivial,n,rfl,by lia,_,rfl,trivial,?_⟩
    refine⟨λm β=>(∀s∈(u0 n).take m,gE ps w (Tp pp) s.1 s.2<=Tp pp (s.2-s.1) s.1)/\∃x4 x5,β=[some (.val false (gk n ps)),some (.val false (wD ps w)),some (.val false (lr n (Tp pp))),some (.val true (HI n ps)),x4,x5],⟨λs hs=>(nomatch hs),_,_,rfl⟩,?_,?_⟩
    ·rintro m d β hd ⟨eN,x4,x5,rfl⟩;rw[T6]at hd;obtain⟨⟨i,j⟩,hs,rfl⟩:=Uk.mp hd;obtain⟨h1,h2⟩:=qb.mp (UO hs);have et:(u0 n).take (m+1)=(u0 n).take m++[(i,j)]:=by rw[U0,hs];rfl
     refine⟨_,rfl,rfl,_,_,rfl,_,_,rfl,rfl,?_⟩;refine⟨_,rfl,trivial,_,rfl,_,gq (i:=i) rfl (by lia),.inr ⟨trivial,_,rfl,trivial,_,rfl,_,rfl,_,hG (l:=j-i) (by lia) (by lia),trivial,?_⟩⟩
     refine⟨_,rfl,trivial,_,rfl,trivial,_,rfl,trivial,_,rfl,trivial,_,rfl,trivial,n,ps,w,(λi=>n+1-i),Tp pp,i,j,rfl,ok,h1,h2,λa _ _=>T4 _,_,rfl,_,rfl,mR (λd8=>?_) (λd8=>?_)⟩
     ·exact⟨trivial,q false ⟨λz=>(nomatch z),λz=>absurd (z.2.2 i j h1 h2) (by lia)⟩⟩
     ·refine⟨λs hs=>?_,_,_,rfl⟩;rw[et]at hs;rcases Uq.mp hs with z|z
      ·exact eN s z
      ·rw[T_.mp z];dsimp only;lia
    ·rintro β ⟨eN,x4,x5,rfl⟩;rw[TX,Vd]at eN;exact⟨trivial,q true ⟨λ_=>⟨Al,FP,λi j h1 h2=>eN (i,j) (qb.mpr ⟨h1,h2⟩)⟩,λ_=>rfl⟩⟩
theorem ki:aP ["row","paper"] ["row","paper"] (aC cT):=mkS
theorem yv {v9 m6} (Dx:Ol K mg v9 m6) {qA jo} (Aq:Ln K mg qA jo) {me gy} (wV:D9 K mg me gy) {l_ gw} (wR:D5 K mg l_ gw) {l9 gv} (wQ:D4 K mg l9 gv) {md gx} (wU:D7 K mg md gx) {jA fu} (uE:D6 K mg jA fu) {qz jn} (Ap:D8 K mg qz jn) (B:KC mg):aR P w K mg base cj 4 v9 m6 ["row","paper"] (ik P w true fN):=by
 have S6:aR P w K mg base cj 3 _ _ _ (ik P w true lA):= yz Aq wV wR wQ wU uE B;have S0:aR P w K mg base cj 1 _ _ _ (ik P w true zH):= EO Ap;refine wO Dx.F ki (λds R Js=> by obtain⟨n,ps,pp,e,_⟩ := Js;subst e;rfl) λcG A outer s H E hr=>⟨_,(ao (a_ (bY lA.mono S6 (hr.mono (by decide)) Aq.m Aq.F.kp Aq.b (ab (aa (i:=0)) (ab (bY zH.mono S0 (hr.mono (by decide)) Ap.m Ap.F.kp Ap.b (ab (aa (i:=0)) ae)) (ab (aa (i:=1)) ae)))))),λds R h=>?_⟩
 obtain⟨n,ps,pp,rfl,ok,hn,hb,q⟩:=h;exact⟨_,rfl,trivial,_,rfl,trivial,n,ps,rfl,ok,trivial,_,rfl,trivial,n,ps,w1,pp,rfl,ok,hn,hb,λb hb=>⟨trivial,q b hb⟩⟩
end
end jw
namespace L2.Q
open PySem PySem.Spec PySem.SeqAt PyProof.Rows
section
variable {X:Cx}{C:Cfg}{e k k2:Expr}{φ φk φj:a6}{i:Nat}{x:Str}{pos pos' px kp:Pos}{p:Bool}
theorem pP (he:∀U,PQ X (C.u U) p e φ)(hk:∀U,PQ X (C.u U) true k φk)(hj:∀U,PQ X (C.u U) true k2 φj)(hN:X.N[i]?=some x:=by rfl)(hv:lT X.env.scope x:=by first|exact .inl rfl|exact .inr (.inl rfl)|exact .inr (.inr rfl))(hd:(x==("__debug__" : Str))=false:=by decide)(dJ:(x==("__classdict__" : Str))=false:=by decide)
  (FU:jU k:=by exact λ_ _=>rfl)
  (ha:∀v,assign (.Subscript (.Subscript (.Name x px) k kp) k2 pos') X.env v=(do
   let ov <- holding [v] (eval (.Subscript (.Name x px) k kp) X.env)
   let iv <- holding [v,ov] (eval k2 X.env)
   XF pos'
   holding [v,ov,iv] (setItem ov iv v)
   release [v,ov,iv] []):=by intro _;rfl) (hs:XO [.Subscript (.Subscript (.Name x px) k kp) k2 pos'] e pos.line X.env=pure false:=by rfl) (hw:XQ [.Subscript (.Subscript (.Name x px) k kp) k2 pos'] e X.env=pure none:=by rfl)
  (h1:(VU [.Subscript (.Subscript (.Name x px) k kp) k2 pos'] X.env).map (·.2)=[assign (.Subscript (.Subscript (.Name x px) k kp) k2 pos') X.env]:=by rfl) :
  PB X C (.Assign [.Subscript (.Subscript (.Name x px) k kp) k2 pos'] e pos) (λE β=>φ β λd kd β1=>d.flat=true/\(∃d0,β1[i]?=some (some (.own d0)))/\φk β1 λjd _ β2=>∃ds j m es,jd=.int j/\β2[i]?=some (some (.own (.lst ds)))/\rl ds.length j=some m/\ds[m]?=some (.lst es) /\
   φj β2 λid _ β3=>∃j2 m2,id=.int j2/\β3[i]?=some (some (.own (.lst ds)))/\rl es.length j2=some m2/\E.nx (β3.set i (some (.own (.lst (ds.set m (.lst (es.set m2 d)))))))):=by
 refine⟨λE E' β l q=>(he λ_=>False).mono _ _ _ (λd kd β1 h=>by
  obtain⟨f,h0,q⟩:=h;exact⟨f,h0,(hk λ_=>False).mono _ _ _ (λjd _ β2 h=>by
   obtain⟨ds,j,m,es,g1,g2,g3,g4,q⟩:=h;exact⟨ds,j,m,es,g1,g2,g3,g4,(hj λ_=>False).mono _ _ _ (λid _ β3 h=>by obtain⟨j2,m2,g5,g6,g7,q⟩:=h;exact⟨j2,m2,g5,g6,g7,l.nx _ q⟩) q⟩) q⟩) q,λpins s σ H De I ⟨Z,E,β,⟨own,sq,n⟩,q,ok⟩=>?_⟩
 refine kA (he λa=>H a=none).pe (kL (gn (pos:=kp) cX (br (pos:=px) hN hv hd dJ) (hk λa=>H a=none).pe FU) (hj λa=>H a=none).pe set_list ha) hs hw h1 pins s σ H De I ?_;refine tQ.of (he λa=>H a=none) (sq.gP (C:=C.z) (U:=λa=>H a=none) λa z=>z) q λd kd β1 v H1 aE ⟨f,⟨d0,GL⟩,q⟩ o r=>?_;obtain⟨v0,BV,_,_⟩:=o.sq.ow i d0 GL;refine⟨v0,BV,tQ.of (hk λa=>H a=none) o.sq q λjd kk β2 kv H2 bI ⟨ds,j,m,es,e1,hb,RS,hm,q⟩ o2 r2=>?_⟩;subst e1;cases r2.rep;obtain⟨v1,IQ,ow,h0⟩:=o2.sq.ow i _ hb;rw[BV]at IQ;cases IQ;obtain⟨a,vs,c,us,B,rfl,q1,q2,q3,q4,q5,q6,q7,q8,q9⟩:=gX (l:=true) ow (o2.sq.jM i) hm;have G1:jB vs j=some (.ref c):=by unfold jB;rw[q2,RS];exact q3
 refine⟨a,vs,j,.ref c,rfl,rfl,cQ.of q1,G1,tQ.of (hj λa=>H a=none) o2.sq q λid kj β3 iv H3 HM ⟨j2,m2,e2,Py,Pn,q⟩ o3 r3=>?_⟩;subst e2;cases r3.rep;obtain⟨s3,e3⟩:=o3.pu rfl;subst e3;obtain⟨v2,Pa,QN,TM⟩:=o3.sq.ow i _ Py;rw[BV]at Pa;cases Pa;obtain⟨a',vs',c',rH,B',ea,p1,p2,p3,p4,p5,p6,p7,p8,p9⟩:=gX (l:=true) QN (o3.sq.jM i) hm;cases ea;have e4:=s3 _ _ q1;rw[p1]at e4;cases e4;rw[q3]at p3;cases p3;have e5:=s3 _ _ q4;rw[p4]at e5;cases e5;have FT:m2<es.length:=Fj Pn;have RE:es[m2]?=some es[m2]:=T5 FT;obtain⟨w0,B1,B2,B3,k1,rfl,k3,k4,k5⟩:=p6.split RE;have K3:m2<us.length:=by rw[p6.length];exact FT
 have rf:Own X.prog X.w H3 d v []:=c0 f (((aA.flat (W':=λ_=>True) f r.rep).keep (o2.sn.k.mono λ_ _=>trivial)).same s3);have Me:aI X.prog X.w H3 (es.set m2 d) (us.set m2 v) (B1++([]++B3)):=by
  rw[Wu,if_pos FT,Wu,if_pos K3];exact k3.append ⟨v,_,[],B3,rfl,rfl,rf,k5⟩
 have nd:=p8;obtain⟨n1,n2,n3⟩:=U9.mp nd;obtain⟨n4,n5,n6⟩:=U9.mp n2;obtain⟨A',g1,g2,g3⟩:=p9 (es.set m2 d) (us.set m2 v) (B1++([]++B3)) Me (U9.mpr ⟨n1,n5,λx hx y hy=>n3 x hx y (UP _ hy)⟩)
  (λx hx=>.inl ((Uq.mp hx).elim (λz=>by simp[z]) λz=>by simp[show x∈B3 from z])) (λx hx=>(p7 x ((Uq.mp hx).elim (λz=>by simp[z]) λz=>by simp[show x∈B3 from z])).2)
 have hA:∀x∈A',x∈HM i\/(C.H0 x=none/\¬ Wn HM x/\H x=none):=λx hx=>by
  rcases g3 x hx with z|z
  ·exact .inl z
  ·exact .inl (p7 x ((Uq.mp z).elim (λz=>by simp[z]) λz=>by simp[show x∈B3 from z])).1
 exact⟨c,us,j2,m2,rfl,rfl,p4,by rw[p6.length];exact Pn,ok.nx _ _ _ ⟨_,o3.sq.putIn (C:=C) (U:=λa=>H a=none) Py BV p5 g1 g2 hA,gC (((n.trans o.sn).trans o2.sn).trans o3.sn) (λb z=>n.free z) ⟨i,p5⟩ ⟨_,p4,λxs z=>by cases z⟩ hA⟩ q⟩
end
theorem Bb {X:Cx}{C:Cfg}{a:List Stmt}{ψ:Gq}(i:Nat)(h:tf X C a ψ):tf X C a (λE β=>∃d,β[i]?=some (some (.own d))/\ψ E (β.set i (some (.val true d)))) :=
 ⟨λE E' β l q=>by obtain⟨d,e,q⟩:=q;exact⟨d,e,h.mono E E' _ l q⟩,h.ps.pre λD σ H z=>by
  obtain⟨Z,E,β,⟨own,s,n⟩,⟨d,e,q⟩,ok⟩:=z;exact⟨Z,E,_,⟨_,s.freeze e,rT n⟩,q,ok⟩⟩
end L2.Q
namespace L2
open PySem PySem.Spec PySem.SeqAt PyProof.Rows
def F9 (a b:D):Option D:=a.vI.bind λds=>b.int?.bind λk=>if 0<=k/\k<2 ^ 62/\ds.length*k.toNat<=Ul then some (.lst (UL k.toNat ds).flatten) else none
theorem iC {P:T7}{w:Ur}{W:Addr->Prop}{H:Hp}{ds:List D}{vs:List V}(h:ai P w W H ds vs):∀k:Nat,ai P w W H (UL k ds).flatten (UL k vs).flatten
 |0=>rfl
 |k+1=>by
  rw[Vx,VR,Vx,VR];exact h.append (iC h k)
theorem yq {X:Cx}:Kx X (VL .Mult) F9:=by
 intro pins s σ H x y v u Q I rx ry h;obtain⟨W,d1,d2,d,hd,r1,r2,e,q⟩:=h;obtain⟨ds,h1,e⟩:=Vc.mp e;obtain⟨k,h2,e⟩:=Vc.mp e;obtain⟨⟨k0,k1,hl⟩,rfl⟩:=dC e;rw[D.oi h1]at r1;rw[D.uj h2]at r2;obtain⟨p,vs,rfl,g1,n1,q1⟩:=r1;exact EK pins s σ H _ _ v u Q I rx ry ⟨p,k,vs,rfl,r2,g1,by lia,by lia,by rw[q1.length];exact hl,λl sN=>q _ _ (az.new sN) (Rp.gD hd sN (iC q1 _)) λf=>sj sN f (iC q1 _)⟩
namespace Q
def cC (n:Nat)(f:Nat->Nat->D):D:=.lst ((T8 (n+1)).map λb=>.lst ((T8 (n+1)).map λe=>f b e))
theorem kh {α:Type}{n m:Nat}{f g:Nat->α}(h:∀k,k<n->k≠m->f k=g k):((T8 n).map f).set m (g m)=(T8 n).map g:=by
 apply Vm;intro k;rw[VQ]
 by_cases hk:k<n
 ·rw[bj hk]
  by_cases e:m=k
  ·subst e;rw[if_pos rfl,if_pos (by rw[TX,Uw];exact hk),bj hk]
  ·rw[if_neg e,bj hk,h k hk (Wd e)]
 ·have hn:((T8 n).map g)[k]?=none:=UK (by rw[TX,Uw];lia)
  have GF:((T8 n).map f)[k]?=none:=UK (by rw[TX,Uw];lia)
  rw[hn,GF]
  split
  ·rw[if_neg (by rw[TX,Uw];lia)]
  ·rfl
theorem xM {n b e:Nat}{f g:Nat->Nat->D}(h:∀x y,¬ (x=b/\y=e)->f x y=g x y):((T8 (n+1)).map λx=>D.lst ((T8 (n+1)).map λy=>f x y)).set b (.lst (((T8 (n+1)).map λy=>f b y).set e (g b e)))=(T8 (n+1)).map λx=>D.lst ((T8 (n+1)).map λy=>g x y):=by
 have e1:((T8 (n+1)).map λy=>f b y).set e (g b e)=(T8 (n+1)).map λy=>g b y:=kh λk _ hk=>h b k λz=>hk z.2;rw[e1];exact kh (g:=λx=>D.lst ((T8 (n+1)).map λy=>g x y)) λk _ hk=>by
  rw[show (λy=>f k y)=λy=>g k y from funext λy=>h k y λz=>hk z.1]
theorem mY {α:Type}{f:α->D}(h:∀x,(f x).flat=true):∀l:List α,D.bW (l.map f)=true
 |[]=>rfl
 |x::l=>by
  show ((f x).flat&&D.bW (l.map f))=true;rw[h x,mY h l];rfl
theorem AW {d:D}{k:Nat}:(UL k [d]).flatten=UL k d:=by
 induction k with
 |zero=>rfl
 |succ k ih=>rw[Vx,VR,ih];rfl
theorem mH {l:List (Nat×Nat)}{p:Nat×Nat}{b:Nat}:near (l++[p]) b=near l b++if p.2=b then [p.1] else []:=by
 unfold near;rw[VA,Ux,Vj,List.filter_nil]
 by_cases h:p.2=b <;> simp[h]
section
variable {ps:List (Nat×Nat)}
def Ar (ps:List (Nat×Nat)):Nat->Nat->Nat->Nat
 |0,_,_=>1
 |f+1,b,e=>if e<=b then 1 else (if mX ps b (e-1)=mX ps b e then Ar ps f b (e-1) else 0)+(((near ps (e-1)).filter λa=>decide (b<=a)).map λa=>if 1+mX ps b a+mX ps (a+1) (e-1)=mX ps b e then Ar ps f b a*Ar ps f (a+1) (e-1) else 0).sum
theorem fR (hp:∀p∈ps,p.1<p.2):∀{f g b e:Nat},e-b<=f->e-b<=g->Ar ps f b e=Ar ps g b e
 |0,0,_,_,_,_=>rfl
 |0,g+1,b,e,h,_=>by unfold Ar;rw[if_pos (by lia)]
 |f+1,0,b,e,_,h=>by unfold Ar;rw[if_pos (by lia)]
 |f+1,g+1,b,e,h1,h2=>by
  unfold Ar
  by_cases hb:e<=b
  ·rw[if_pos hb,if_pos hb]
  ·rw[if_neg hb,if_neg hb,fR hp (f:=f) (g:=g) (b:=b) (e:=e-1) (by lia) (by lia)]
   congr 2
   refine U5 λa ha=>?_;obtain⟨h3,h4⟩:=UX.mp ha;have h5:=of_decide_eq_true h4;have h6:=hp _ (dz.mp h3);dsimp only at h6;rw[fR hp (f:=f) (g:=g) (b:=b) (e:=a) (by lia) (by lia),fR hp (f:=f) (g:=g) (b:=a+1) (e:=e-1) (by lia) (by lia)]
def cL (ps:List (Nat×Nat))(b e:Nat):Nat:=Ar ps (e-b) b e
theorem oI {b e:Nat}(h:e<=b):cL ps b e=1:=by
 unfold cL;rw[show e-b=0 by lia]
 rfl
theorem uK (hp:∀p∈ps,p.1<p.2){b e:Nat}(h:b<e):cL ps b e=(if mX ps b (e-1)=mX ps b e then cL ps b (e-1) else 0)+(((near ps (e-1)).filter λa=>decide (b<=a)).map λa=>if 1+mX ps b a+mX ps (a+1) (e-1)=mX ps b e then cL ps b a*cL ps (a+1) (e-1) else 0).sum:=by
 unfold cL;rw[show e-b=(e-1-b)+1 by lia]
 conv=>lhs;unfold Ar
 rw[if_neg (by lia)]
 congr 2
 refine U5 λa ha=>?_;obtain⟨h3,h4⟩:=UX.mp ha;have h5:=of_decide_eq_true h4;have h6:=hp _ (dz.mp h3);dsimp only at h6;rw[fR hp (f:=e-1-b) (g:=a-b) (b:=b) (e:=a) (by lia) (by lia),fR hp (f:=e-1-b) (g:=e-1-(a+1)) (b:=a+1) (e:=e-1) (by lia) (by lia)]
theorem uL (hp:∀p∈ps,p.1<p.2)(nd:ps.Nodup):∀(l b e:Nat),e-b<=l->cL ps b e<=jQ (e-b)
 |0,b,e,h=>by rw[oI (by lia),show e-b=0 by lia];decide
 |l+1,b,e,h=>by
  by_cases hb:e<=b
  ·rw[oI hb,show e-b=0 by lia];decide
  ·obtain⟨m,hm⟩:∃m,e-b=m+1:=⟨e-b-1,by lia⟩
   rw[uK hp (by lia),hm]
   have h1:(if mX ps b (e-1)=mX ps b e then cL ps b (e-1) else 0)<=jQ m:=by
    have:=uL hp nd l b (e-1) (by lia)
    rw[show e-1-b=m by lia]at this
    split <;> lia
   cases m with
   |zero =>
    have en:(near ps (e-1)).filter (λa=>decide (b<=a))=[]:=by
     rw[Xi];intro a ha z;have h5:=of_decide_eq_true z;have h6:=hp _ (dz.mp ha);dsimp only at h6;lia
    rw[en];show _+0<=_;have:jQ 0=1:=rfl;have:jQ (0+1)=1:=rfl;lia
   |succ m =>
    have ef:(near ps (e-1)).filter (λa=>decide (b<=a))=(near ps (e-1)).filter λa=>decide (b<=a)&&decide (a<b+(m+1)):=List.filter_congr λa ha=>by
     have h6:=hp _ (dz.mp ha);dsimp only at h6;rw[decide_eq_true (show a<b+(m+1) by lia),Bool.and_true]
    rw[ef,mx (BB nd)];have h2:=tG (n:=m+1) (c:=jQ m) (f:=λr=>(if b+r∈near ps (e-1) then 1 else 0)*(if 1+mX ps b (b+r)+mX ps (b+r+1) (e-1)=mX ps b e then cL ps b (b+r)*cL ps (b+r+1) (e-1) else 0)) (λr hr=>by
     have k1:=uL hp nd l b (b+r) (by lia)
     have k2:=uL hp nd l (b+r+1) (e-1) (by lia)
     rw[show b+r-b=r by lia]at k1
     rw[show e-1-(b+r+1)=m-r by lia]at k2
     have k3:=Yz k1 k2;have k4:=ux r (m-r);rw[show r+(m-r)=m by lia]at k4
     have k5:(if 1+mX ps b (b+r)+mX ps (b+r+1) (e-1)=mX ps b e then cL ps b (b+r)*cL ps (b+r+1) (e-1) else 0)<=jQ m:=by split <;> lia
     split
     ·rw[Yk];exact k5
     ·rw[Nat.zero_mul];exact Uh _)
    have e1:jQ (m+1)=(m+1)*jQ m:=rfl;have e2:jQ (m+1+1)=(m+1+1)*jQ (m+1):=rfl;rw[e2,Nat.succ_mul];have e3:jQ (m+1)<=(m+1)*jQ (m+1):=Nat.le_mul_of_pos_left _ (by lia)
    lia
end
theorem AV {n:Nat}(hn:n<=40){d:D}:F9 (.lst [d]) (.int ((n:Int)+1))=some (.lst ((T8 (n+1)).map λ_=>d)):=by
 unfold F9 D.vI D.int?;rw[VX,VX,if_pos ⟨by lia,by lia,by rw[V5,Yk,show ((n:Int)+1).toNat=n+1 by lia];exact cw (by lia)⟩,AW,show ((n:Int)+1).toNat=n+1 by lia,List.map_const',Uw]
def tS (ps:List (Nat×Nat))(b e:Nat):D:=.tup [.int (mX ps b e),.int (cL ps b e:Int)]
theorem pL {ps:List (Nat×Nat)}{b e:Nat}(h:e<=b):tS ps b e=.tup [.int 0,.int 1]:=by
 unfold tS;rw[dU h,oI h];rfl
def jx (ps:List (Nat×Nat))(J m b e:Nat):D:=if e<J\/(e=J/\J<=b+m) then tS ps b e else .tup [.int 0,.int 1]
theorem rO {ps:List (Nat×Nat)}{J m b e:Nat}(h:e<J\/(e=J/\J<=b+m)):jx ps J m b e=tS ps b e:=if_pos h
theorem gH {n:Nat}{f g:Nat->Nat->D}(h:∀b e,b<=n->e<=n->f b e=g b e):cC n f=cC n g:=by
 unfold cC
 congr 1
 refine U5 λb hb=>?_
 congr 1
 exact U5 λe he=>h b e (by have:=U_.mp hb;lia) (by have:=U_.mp he;lia)
theorem u5 {ps:List (Nat×Nat)}{n:Nat}:cC n (λ_ _=>.tup [.int 0,.int 1])=cC n (jx ps 1 0):=gH λb e _ _=>by
 unfold jx
 split
 ·rw[pL (by lia)]
 ·rfl
theorem xt {ps:List (Nat×Nat)}{n J:Nat}:cC n (jx ps J J)=cC n (jx ps (J+1) 0):=gH λb e _ _=>by
 unfold jx
 by_cases h1:e<J\/(e=J/\J<=b+J)
 ·rw[if_pos h1,if_pos (by lia)]
 ·rw[if_neg h1]
  split
  ·rw[pL (by lia)]
  ·rfl
theorem AG {ps:List (Nat×Nat)}{n:Nat}:cC n (jx ps (n+1) 0)=cC n (tS ps):=gH λb e _ he=>rO (.inl (by lia))
theorem AF {ps:List (Nat×Nat)}{n J m b:Nat}(h:b+m+1=J):((T8 (n+1)).map λx=>D.lst ((T8 (n+1)).map λy=>jx ps J m x y)).set b (.lst (((T8 (n+1)).map λy=>jx ps J m b y).set J (tS ps b J)))=(T8 (n+1)).map λx=>D.lst ((T8 (n+1)).map λy=>jx ps J (m+1) x y):=by
 have:=xM (n:=n) (b:=b) (e:=J) (f:=jx ps J m) (g:=jx ps J (m+1)) λx y IL=>by
  unfold jx
  by_cases h1:y<J\/(y=J/\J<=x+m)
  ·rw[if_pos h1,if_pos (by lia)]
  ·rw[if_neg h1]
   split
   ·next h2=>exact absurd (show x=b/\y=J by lia) IL
   ·rfl
 rw[show jx ps J (m+1) b J=tS ps b J from rO (.inr ⟨rfl,by lia⟩)]at this
 exact this
def uI (ps:List (Nat×Nat))(b J:Nat)(l:List Nat):List (Int×Int):=(mX ps b (J-1),(cL ps b (J-1):Int))::(l.filter λa=>decide (b<=a)).map λa=>(1+mX ps b a+mX ps (a+1) (J-1),(cL ps b a:Int)*(cL ps (a+1) (J-1):Int))
def QL (p:Int×Int):D:=.tup [.int p.1,.int p.2]
theorem zT {ps:List (Nat×Nat)}{b J:Nat}{l:List Nat}{a:Nat}:uI ps b J (l++[a])=uI ps b J l++if b<=a then [(1+mX ps b a+mX ps (a+1) (J-1),(cL ps b a:Int)*(cL ps (a+1) (J-1):Int))] else []:=by
 unfold uI;rw[VA,Ux,Vj,List.filter_nil,Ye]
 by_cases h:b<=a <;> simp[h]
theorem Ct {ps:List (Nat×Nat)}(hp:∀p∈ps,p.1<p.2){b J:Nat}(h:b<J):fK ((uI ps b J (near ps (J-1))).map (·.1))=some (mX ps b J):=by
 have:=yI hp h;unfold uI;rw[Uy,Va];rw[show (((near ps (J-1)).filter λa=>decide (b<=a)).map λa=>mX ps b a+1+mX ps (a+1) (J-1))=((near ps (J-1)).filter λa=>decide (b<=a)).map ((λx:Int×Int=>x.1) ∘ λa=>(1+mX ps b a+mX ps (a+1) (J-1),(cL ps b a:Int)*(cL ps (a+1) (J-1):Int))) from U5 λa _=>by show _=1+mX ps b a+mX ps (a+1) (J-1);lia]at this
 exact this
theorem xp {α:Type}{q:α->Bool}{f:α->Int}:∀l:List α,((l.filter q).map f).sum=(l.map λx=>if q x=true then f x else 0).sum
 |[]=>rfl
 |x::l=>by
  rw[Vj,Uy,V4,<- xp l]
  split
  ·rw[Uy,V4]
  ·rw[Xl]
theorem Cs {ps:List (Nat×Nat)}(hp:∀p∈ps,p.1<p.2){b J:Nat}(h:b<J):(((uI ps b J (near ps (J-1))).filter λp=>decide (p.1=mX ps b J)).map (·.2)).sum=(cL ps b J:Int):=by
 rw[xp,uK hp h];unfold uI;rw[Uy,V4,Va,Int.natCast_add,<- ph]
 congr 1
 ·by_cases h1:mX ps b (J-1)=mX ps b J
  ·rw[if_pos (decide_eq_true h1),if_pos h1]
  ·rw[if_neg (by rw[decide_eq_false h1];simp),if_neg h1];rfl
 ·congr 1
  refine U5 λa _=>?_;show (if decide (1+mX ps b a+mX ps (a+1) (J-1)=mX ps b J)=true then _ else _)=_
  by_cases h1:1+mX ps b a+mX ps (a+1) (J-1)=mX ps b J
  ·rw[if_pos (decide_eq_true h1),if_pos h1,Int.natCast_mul]
  ·rw[if_neg (by rw[decide_eq_false h1];simp),if_neg h1];rfl
def qE:FD:=λds R=>∃(n:Nat) (ps:List (Nat×Nat)),ds=[gk n ps]/\CH n ps/\n<=40/\R (cC n (tS ps))
theorem qE.mono:d9 qE:=λds R R' k h=>by obtain⟨n,ps,e,h1,h2,q⟩:=h;exact⟨n,ps,e,h1,h2,k _ q⟩
theorem Ge {ps:List (Nat×Nat)}(hp:∀p∈ps,p.1<p.2)(nd:ps.Nodup){a b c d:Nat}(h:(b-a)+(d-c)<=40):oQ (cL ps a b:Int) (cL ps c d:Int):=by
 have big:∀x y,y-x<=20->((cL ps x y:Nat):Int)<2 ^ 64:=λx y hl=>by
  have h1:=uL hp nd (y-x) x y (T4 _);have h2:=zE hl;have h3:jQ 20<2 ^ 64:=by decide
  lia
 rcases Vt 20 (b-a)with q|q
 ·exact .inr ⟨by lia,big c d (by lia)⟩
 ·exact .inl ⟨by lia,big a b q⟩
end Q
end L2
namespace jw
open PySem L2 L2.Q
section
variable {P:T7}{w:Ur}{K:PySem.W.Frag}{mg:Str->Option TY}{base:Heap}
theorem aJ:aP ["row","many","ties","lesser","one","other","found","end","begin","some","point","left","right","best"] ["row"] (aC dN):=mkS
theorem Bm {v8 mZ} (Dw:Oj K mg v8 mZ) (B:Bs3 mg):aR P w K mg base cj 1 v8 mZ ["row"] (ik P w true qE):=by
 refine wO Dw.F aJ (λds R Jr=> by obtain⟨n,ps,e,_⟩ := Jr;subst e;rfl) λcG A outer s H E hr=>⟨_,(ah (r9 (aa (i:=0)) (cW (n:=2) rfl (aK (ak (i:=1) aJ.nd) (aK (ak (i:=2) aJ.nd) b_))))
    (ah (xO (i:=3) true ["point"] [none] (by rfl) (by decide:(["point"]:List Str).Nodup) rfl (λ_=>(aX B.range (ab (aa (i:=1)) ae))) (λ_ _ _ _ _ _=>(ak (i:=0) (by decide:(["point"]:List Str).Nodup))) (λ_ _ _ _ _ _=>bJ) (λ_ _ _ _ _ _=>(aV ae)) aJ.nd)
    (ah (bB UR rfl (aY (aa (i:=2))) (cW (n:=2) rfl (aK (ak (i:=4) aJ.nd) (aK (ak (i:=5) aJ.nd) b_))) (ao (jf (i:=3) true (λ_=>(aa (i:=4))) (λ_=>(aa (i:=5))))))
    (Bb 3 (ah (xO (i:=6) true ["begin","many"] [none,some 1] (by rfl) (by decide:(["begin","many"]:List Str).Nodup) rfl (λ_=>(aX B.range (ab (au ay aj (aa (i:=1)) ag) ae))) (λ_ _ _ _ _ _=>(ak (i:=0) (by decide:(["begin","many"]:List Str).Nodup))) (λ_ _ _ _ _ _=>bJ) (λ_ _ _ _ _ _=>(au ay yq (aV (ab (cB (ab ag (ab ag ae))) ae)) (au ay aj (aa (i:=1)) ag))) aJ.nd)
    (ah (bB UR rfl (cM B.range (ab ag (ab (au ay aj (aa (i:=1)) ag) ae))) (ak (i:=7) aJ.nd) (ao (bB UR rfl (kB B.range (ab (au af (bR.m a3) (aa (i:=7)) ag) (ab (kG eS ag) (ab (kG eS ag) ae)))) (ak (i:=8) aJ.nd) (ah (dQ (i:=9) (λ_=>(aV (ab (aH af bh (aH af bh (aa (i:=6)) (aa (i:=8))) (au af (bR.m a3) (aa (i:=7)) ag)) ae))) aJ.nd)
    (ah (bB UR rfl (aY (aH af bh (aa (i:=3)) (au af (bR.m a3) (aa (i:=7)) ag))) (ak (i:=10) aJ.nd) (ao (b7 (aM af (bR.m EL) (aa (i:=10)) (aa (i:=8))) (ah (aO (i:=11) (aH af bh (aH af bh (aa (i:=6)) (aa (i:=8))) (aa (i:=10))) aJ.nd)
    (ah (aO (i:=12) (aH af bh (aH af bh (aa (i:=6)) (au ay aj (aa (i:=10)) ag)) (au af (bR.m a3) (aa (i:=7)) ag)) aJ.nd)
    (ao (cN (i:=9) (λ_=>(cB (ab (au ay aj (au ay aj ag (aH af bh (aa (i:=11)) ag)) (aH af bh (aa (i:=12)) ag)) (ab (au af (bR.m ub) (aH af bh (aa (i:=11)) ag) (aH af bh (aa (i:=12)) ag)) ae)))))))) ba)))
    (ah (aO (i:=13) (bf af (bE.m (nh rfl)) B.max oK (ab (O2 ["most","sets"] [none,none] (by rfl) (by decide:(["most","sets"]:List Str).Nodup) rfl (aY (aa (i:=9))) (λ_ _ _ _ _ _=>(cW (n:=2) rfl (aK (ak (i:=0) (by decide:(["most","sets"]:List Str).Nodup)) (aK (ak (i:=1) (by decide:(["most","sets"]:List Str).Nodup)) b_)))) (λ_ _ _ _ _ _=>bJ) (λ_ _ _ _ _ _=>(aa (i:=0)))) ae)) aJ.nd)
    (ao (pP (i:=6) (λ_=>(cB (ab (aa (i:=13)) (ab (bf af (bE.m (wx rfl)) B.sum Gf (ab (O2 ["most","sets","best"] [none,none,some 13] (by rfl) (by decide:(["most","sets","best"]:List Str).Nodup) rfl (aY (aa (i:=9))) (λ_ _ _ _ _ _=>(cW (n:=2) rfl (aK (ak (i:=0) (by decide:(["most","sets","best"]:List Str).Nodup)) (aK (ak (i:=1) (by decide:(["most","sets","best"]:List Str).Nodup)) b_)))) (λ_ _ _ _ _ _=>(nE (aM af (bR.m (cP hr.units)) (aa (i:=0)) (aa (i:=2))))) (λ_ _ _ _ _ _=>(aa (i:=1)))) ae)) ae)))) (λ_=>(aa (i:=8))) (λ_=>(aa (i:=7)))))))))))
    (ao (t9 (i:=6))))))))),λds R h=>?_⟩
 obtain⟨n,ps,rfl,ok,hn,q⟩:=h;have GC:=ok.sm;have hp:∀p∈ps,p.1<p.2:=λp hp=>(ok.lt p hp).1;refine⟨_,rfl,_,rfl,rfl,_,_,rfl,_,_,rfl,rfl,_,rfl,trivial,n,rfl,by lia,by lia,trivial,?_⟩
 rw[W5];refine dB (λ_=>true) (λ_=>.lst []) trivial (by rw[Uw];exact cw (by lia)) (λx hx x0 o J ho h1 _=>⟨Uh _,trivial,ho,h1 rfl _⟩) ?_
 rw[a8];refine⟨_,rfl,_,rfl,trivial,?_⟩;refine⟨λm β=>∃x4 x5 x6 x7 x8 x9 fx il rB wM,β=[some (.val false (gk n ps)),some (.val true (.int n)),some (.val false (xh ps)),some (.own (.lst ((T8 n).map λi=>D.lst (Q.bz (near (ps.take m) i))))),x4,x5,x6,x7,x8,x9,fx,il,rB,wM],⟨_,_,_,_,_,_,_,_,_,_,rfl⟩,?_,?_⟩
 ·rintro m d β hd ⟨x4,x5,x6,x7,x8,x9,fx,il,rB,wM,rfl⟩;rw[T6]at hd;obtain⟨p,Dg,rfl⟩:=Uk.mp hd;obtain⟨h1,h2⟩:=ok.lt p (UO Dg);have et:ps.take (m+1)=ps.take m++[p]:=by rw[U0,Dg];rfl
  have es:((T8 n).map λi=>D.lst (Q.bz (near (ps.take m) i))).set p.2 (.lst (Q.bz (near (ps.take m) p.2)++[.int (p.1:Int)]))=(T8 n).map λi=>D.lst (Q.bz (near (ps.take (m+1)) i)):=by
   rw[et];have e1:D.lst (Q.bz (near (ps.take m) p.2)++[.int (p.1:Int)])=D.lst (Q.bz (near (ps.take m++[p]) p.2)):=by
    rw[mH,if_pos rfl];unfold Q.bz;rw[Ux];rfl
   rw[e1];exact kh (g:=λi=>D.lst (Q.bz (near (ps.take m++[p]) i))) λk _ hk=>by rw[mH,if_neg (Wd hk),Vo]
  refine⟨_,rfl,rfl,_,_,rfl,_,_,rfl,rfl,⟨_,rfl⟩,_,rfl,_,_,_,_,rfl,rfl,by rw[TX,Uw];exact vQ rfl (show p.2<n by lia),bj (show p.2<n by lia),_,rfl,trivial,rfl,?_,?_⟩
  ·unfold Q.bz;rw[TX];have:=kU (ps:=ps.take m) (b:=p.2);rw[Ut]at this;exact fA (by lia)
  ·exact⟨_,_,_,_,_,_,_,_,_,_,by rw[es];rfl⟩
 ·rintro β ⟨x4,x5,x6,x7,x8,x9,fx,il,rB,wM,rfl⟩;rw[TX,Vd];have NZ:=AV hn (d:=.tup [.int 0,.int 1]);refine⟨_,rfl,_,rfl,trivial,_,rfl,trivial,(n:Int)+1,rfl,by lia,by lia,trivial,?_⟩
  rw[show ((n:Int)+1).toNat=n+1 by lia]
  refine dB (λ_=>true) (λ_=>.lst ((T8 (n+1)).map λ_=>D.tup [.int 0,.int 1])) trivial (by rw[Uw];exact cw (by lia)) (λx hx x0 o J ho h1 _=>?_) ?_
  ·exact⟨trivial,trivial,rh,trivial,uZ,trivial,_,rfl,trivial,_,rfl,_,NZ,.inl ⟨mY (λ_=>rfl) _,trivial,ho,h1 rfl _⟩⟩
  rw[a8];have e0:D.lst ((T8 (n+1)).map λ_=>D.lst ((T8 (n+1)).map λ_=>D.tup [.int 0,.int 1]))=cC n (jx ps 1 0):=u5;rw[e0];refine⟨trivial,_,rfl,trivial,_,rfl,trivial,1,(n:Int)+1,rfl,⟨by lia,by lia,by lia,by lia⟩,trivial,?_⟩
  rw[show ((n:Int)+1-1).toNat=n by lia]
  refine⟨λj β=>j<=n/\∃x7 x8 x9 fx il rB wM,β=[some (.val false (gk n ps)),some (.val true (.int n)),some (.val false (xh ps)),some (.val true (.lst ((T8 n).map λi=>D.lst (Q.bz (near ps i))))),x4,x5,some (.own (cC n (jx ps (j+1) 0))),x7,x8,x9,fx,il,rB,wM],⟨Uh _,_,_,_,_,_,_,_,rfl⟩,?_,?_⟩
  ·rintro j d β hd ⟨_,x7,x8,x9,fx,il,rB,wM,rfl⟩;obtain⟨hj,rfl⟩:=bc hd;obtain⟨J,hJ⟩:∃J,J=j+1:=⟨_,rfl⟩;rw[show (1:Int)+(j:Int)=(J:Int) by lia,<- hJ]
   refine⟨_,rfl,trivial,_,rfl,trivial,_,rfl,rfl,trivial,_,rfl,rfl,trivial,(J:Int)-1,-1,rfl,⟨by lia,by lia,by lia,by lia⟩,trivial,?_⟩
   rw[show ((J:Int)-1 - -1).toNat=J by lia]
   refine⟨λm β=>m<=J/\∃x8 x9 fx il rB wM,β=[some (.val false (gk n ps)),some (.val true (.int n)),some (.val false (xh ps)),some (.val true (.lst ((T8 n).map λi=>D.lst (Q.bz (near ps i))))),x4,x5,some (.own (cC n (jx ps J m))),some (.val true (.int J)),x8,x9,fx,il,rB,wM],⟨Uh _,_,_,_,_,_,_,rfl⟩,?_,?_⟩
   ·rintro m d β hd ⟨_,x8,x9,fx,il,rB,wM,rfl⟩;obtain⟨hm,rfl⟩:=kz hd;obtain⟨b,hb⟩:∃b,b+m+1=J:=⟨J-1-m,by lia⟩
    rw[show (J:Int)-1-(m:Int)=(b:Int) by lia]
    have yY:∀x:Nat,x<=n->lS (cC n (jx ps J m)) (.int (x:Int))=some (.lst ((T8 (n+1)).map λy=>jx ps J m x y)):=λx hx=>ft rfl (bj (by lia))
    have La:∀x y:Nat,y<=n->(y<J\/(y=J/\J<=x+m))->lS (.lst ((T8 (n+1)).map λy=>jx ps J m x y)) (.int (y:Int))=some (.tup [.int (mX ps x y),.int (cL ps x y:Int)]):=λx y hy h=>ft rfl (by rw[bj (by lia),rO h];rfl)
    have eJ:(J:Int)-1=((J-1:Nat):Int):=by lia
    have Di:∀x:Nat,lS (.lst ((T8 (n+1)).map λy=>jx ps J m x y)) (.int ((J:Int)-1))=some (.tup [.int (mX ps x (J-1)),.int (cL ps x (J-1):Int)]):=λx=>by rw[eJ];exact La x (J-1) (by lia) (.inl (by lia))
    refine⟨_,rfl,trivial,_,rfl,_,yY b (by lia),.inr ⟨trivial,_,rfl,trivial,_,rfl,_,Di b,trivial,uZ,.inl ⟨⟨rfl,trivial⟩,trivial,?_⟩⟩⟩
    refine⟨_,rfl,trivial,_,rfl,trivial,_,rfl,_,ft (i:=J-1) eJ (bj (by lia)),.inr ⟨_,rfl,trivial,?_⟩⟩
    refine⟨λk β=>k<=(near ps (J-1)).length/\∃fx il rB,β=[some (.val false (gk n ps)),some (.val true (.int n)),some (.val false (xh ps)),some (.val true (.lst ((T8 n).map λi=>D.lst (Q.bz (near ps i))))),x4,x5,some (.own (cC n (jx ps J m))),some (.val true (.int J)),some (.val true (.int b)),some (.own (.lst ((uI ps b J ((near ps (J-1)).take k)).map QL))),fx,il,rB,wM],⟨Uh _,_,_,_,rfl⟩,?_,?_⟩
    ·rintro k d β hd ⟨_,fx,il,rB,rfl⟩;have JQ:=kU (ps:=ps) (b:=J-1);unfold Q.bz at hd;rw[T6]at hd;obtain⟨a,ha,rfl⟩:=Uk.mp hd;have Np:=(Ua.mp ha).1;have Rt:=ok.lt _ (dz.mp (UO ha));dsimp only at Rt;have et:(near ps (J-1)).take (k+1)=(near ps (J-1)).take k++[a]:=by rw[U0,ha];rfl
     have Lh:=zT (ps:=ps) (b:=b) (J:=J) (l:=(near ps (J-1)).take k) (a:=a);refine⟨_,rfl,trivial,_,rfl,_,rfl,_,rfl,mR (λh=>?_) (λh=>?_)⟩
     ·have NM:b<=a:=by lia
      rw[if_pos NM]at Lh;refine⟨_,rfl,trivial,_,rfl,_,yY b (by lia),.inr ⟨trivial,_,rfl,_,La b a (by lia) (.inl (by lia)),rfl,?_⟩⟩
      refine⟨_,rfl,trivial,_,rfl,trivial,_,rfl,_,yY (a+1) (by lia),.inr ⟨trivial,_,rfl,trivial,_,rfl,_,Di (a+1),rfl,?_⟩⟩
      refine⟨⟨_,rfl⟩,trivial,_,rfl,trivial,_,rfl,_,rfl,trivial,_,rfl,trivial,_,rfl,_,rfl,trivial,_,rfl,trivial,_,rfl,trivial,_,rfl,trivial,_,rfl,_,zP (Ge hp ok.nd (by lia)),trivial,rh,trivial,_,rfl,?_,Np,_,_,_,by rw[et,Lh,Ux];rfl⟩
      rw[TX];have e1:=Vr (λa=>decide (b<=a)) ((near ps (J-1)).take k);have e2:((near ps (J-1)).take k).length<=400:=by rw[Ut];lia
      unfold uI;rw[Um,TX];exact fA (by lia)
     ·rw[if_neg (by lia),Vo]at Lh
      exact⟨Np,_,_,_,by rw[et,Lh];rfl⟩
    ·rintro β ⟨_,fx,il,rB,rfl⟩;rw[show (Q.bz (near ps (J-1))).length=(near ps (J-1)).length by unfold Q.bz;rw[TX],Vd]
     have zm:(uI ps b J (near ps (J-1))).length<=1000:=by
      have e1:=Vr (λa=>decide (b<=a)) (near ps (J-1));have JQ:=kU (ps:=ps) (b:=J-1);unfold uI;rw[Um,TX];lia
     have em:cY fK [.lst ((uI ps b J (near ps (J-1))).map λp=>D.int p.1)]=some (.int (mX ps b J)):=by
      have:=vF (Ct hp (show b<J by lia))
      rw[Va]at this;exact this
     refine⟨_,rfl,_,rfl,trivial,?_⟩;refine sA (λ_=>true) (λp=>.int p.1) trivial (cw zm) (λp An y0 y1 o J' ho j1 j2=>?_) ?_
     ·exact⟨_,rfl,rfl,_,_,rfl,_,_,rfl,rfl,_,rfl,trivial,ho,j1 rfl _ _⟩
     rw[a8];refine⟨trivial,_,em,?_⟩;have NX:cY (λns=>some ns.sum) [.lst (((uI ps b J (near ps (J-1))).filter λp=>decide (p.1=mX ps b J)).map λp=>D.int p.2)]=some (.int (cL ps b J:Int)):=by
      have:=sum_ints (f:=λp:Int×Int=>p.2) (l:=(uI ps b J (near ps (J-1))).filter λp=>decide (p.1=mX ps b J));rw[Cs hp (show b<J by lia)]at this
      exact this
     refine⟨_,rfl,trivial,_,rfl,_,rfl,trivial,?_⟩;refine sA (λp=>decide (p.1=mX ps b J)) (λp=>.int p.2) trivial (cw zm) (λp An y0 y1 o J' ho j1 j2=>?_) ?_
     ·exact⟨_,rfl,rfl,_,_,rfl,_,_,rfl,rfl,_,rfl,trivial,_,rfl,_,b6 _ _,_,rfl,mR (λh=>⟨_,rfl,trivial,ho,j1 (decide_eq_true h) _ _⟩) (λh=>j2 (decide_eq_false h) _ _)⟩
     have N1:((T8 (n+1)).map λx=>D.lst ((T8 (n+1)).map λy=>jx ps J m x y)).set b (.lst (((T8 (n+1)).map λy=>jx ps J m b y).set J (.tup [.int (mX ps b J),.int (cL ps b J:Int)])))=(T8 (n+1)).map λx=>D.lst ((T8 (n+1)).map λy=>jx ps J (m+1) x y):=AF hb;refine⟨trivial,_,NX,trivial,rh,rfl,⟨_,rfl⟩,_,rfl,_,(b:Int),b,_,rfl,rfl,by rw[TX,Uw];exact vQ rfl (by lia),bj (show b<n+1 by lia),_,rfl,(J:Int),J,rfl,rfl,by rw[TX,Uw];exact vQ rfl (by lia),hm,_,_,_,_,_,_,by rw[N1];rfl⟩
   ·rintro β ⟨_,x8,x9,fx,il,rB,wM,rfl⟩;rw[ky,xt];exact⟨by lia,_,_,_,_,_,_,_,rfl⟩
  ·rintro β ⟨_,x7,x8,x9,fx,il,rB,wM,rfl⟩;rw[bp,AG];exact⟨_,rfl,q⟩
end
end jw
namespace L2.Q
open PySem PySem.Spec PySem.SeqAt PyProof.Rows
def mK (τ:a5)(T:Nat)(ds:List D)(β0:bb)(K:List D->Prop):Prop:=∃I:Nat->bb->List D->Prop,I 0 β0 [] /\
 (∀i d β o,ds[i]?=some d->I i β o->τ (β.set T (some (.val false d))) λt β2=>if t=true then o.length<Ul/\I (i+1) β2 (o++[d]) else I (i+1) β2 o)/\∀β o,I ds.length β o->dD β0 β/\K o
theorem mK.mono {τ:a5}{T:Nat}{ds:List D}{β0:bb}{K K':List D->Prop}(h:∀o,K o->K' o)(q:mK τ T ds β0 K):mK τ T ds β0 K':=let ⟨I,h0,h1,h2⟩:=q;⟨I,h0,h1,λβ o z=>⟨(h2 β o z).1,h _ (h2 β o z).2⟩⟩
section
variable {X:Cx}{C:Cfg}{lk:List (Option Nat)}{τ:a5}{T:Nat}
theorem sS {σ:St}{H1:Hp}{β:bb}{own:Nat->List Addr}{a:Addr}{J:It}{ds:List D}{K:List D->Prop}{End:Hp->Prop}
  (τm:∀β R R',(∀d β,R d β->R' d β)->τ β R->τ β R')
  (inj:∀(i i' j:Nat),lk[i]?=some (some j)->lk[i']?=some (some j)->i=i') (hT:∀j,lk[T]?≠some (some j)) (R6:T<lk.length)
  (s1:SQ X C σ H1 β own) (ha:H1 a=none) (it:uU X (av C (Wn own) .old) J ds H1) (q:mK τ T ds (b8 lk β) K)
  (fin:∀o H',K o->Out X C σ H1 own true β H' own->KV X.prog X.w C (H1,Wn own) own H' .old (.lst o) (.ref a)->End H') :
  fg J (uo T) (ij X (C.u λc=>c=a) true τ) (λN σ H=>(∃v,σ[T]?=some (some v)/\∃xs,H a=some (.lst xs)/\xs.length<Ul/\N σ (upd H a (.lst (xs++[v])))))
   (λ_ H'=>End H') (c5 lk σ) (upd H1 a (.lst [])):=by
 obtain⟨I,i0,i1,i2⟩:=q;have h0:C.H0 a=none:=UJ λz=>s1.gc a z ha;have sm:az H1 (upd H1 a (.lst [])):=az.new ha;have QU:¬ av C (Wn own) .old a:=λz=>s1.uC a z ha;let W:Addr->Prop:=λb=>av C (Wn own) .old b\/H1 b=none
 let S:Nat->St->Hp->Prop:=λi σ' H'=>∃βi d4 vs o,SQ X (C.u λc=>c=a) σ' H' βi d4/\(∀c,Wn d4 c->Wn (bo lk β own) c)/\H' a=some (.lst vs)/\ai X.prog X.w W H' o vs /\
  az H1 H'/\σ'.length=lk.length/\(∀j,j≠T->σ'[j]?=(c5 lk σ)[j]?)/\I i βi o
 have C8:=it (λb=>av C (Wn own) .old b\/H1 b=none) λb z=>z;refine⟨λi m σ' H'=>i<=ds.length/\m=ds.length-i/\S i σ' H',⟨_,Uh _,rfl,b8 lk β,bo lk β own,[],[],s1.enter ha inj,λ_ z=>z,ar,rfl,sm,by unfold c5;simp,λ_ _=>rfl,i0⟩,?_⟩
 rintro i m σ2 H2 ⟨hi,rfl,βi,d4,vs,o,sq,le,GN,os,pu,hlen,st,hl⟩;obtain⟨bS,l3⟩:=C8 i H2 (pu.kp.mono λb z=>.inr z)
 by_cases d8:i<ds.length
 ·right
  have hd:ds[i]?=some ds[i]:=T5 d8;obtain⟨go,yl⟩:=bS _ hd;refine⟨go,λσ' H'=>S (i+1) σ' H',λσ' H' h=>⟨_,by lia,d8,rfl,h⟩,λx H3 y=>?_⟩
  obtain⟨s3,r3⟩:=yl x H3 y;have Gy:aA X.prog X.w W H3 ds[i] x:=r3;have sub:∀c,eQ (C.u λc=>c=a) (Wn d4) .old c->W c:=λc z=>z.elim (λz=>.inl (bq c (le c z))) λz=>.inr (by rw[z];exact ha)
  have s4:=(sq.same s3).dY (i:=T) (y:=false) (aA.aT sub Gy);have Iz:∀c,Wn (aG d4 T []) c->Wn (bo lk β own) c:=λc z=>le c (cJ z);refine⟨_,_,s4,τm _ _ _ (λt β5 q H5 gY o5=>?_) (i1 i _ βi o hd hl)⟩;obtain⟨s5,e5⟩:=o5.pu rfl;have ee:az H1 H5:=(pu.trans s3).trans s5;have EJ:ai X.prog X.w W H5 o vs:=(os.same s3).same s5;have sP:H5 a=some (.lst vs):=s5 _ _ (s3 _ _ GN);have O0:∀c,Wn gY c->Wn (bo lk β own) c:=λc z=>Iz c (o5.le c z);have Aj:∀j,j≠T->(σ2.set T (some x))[j]?=(c5 lk σ)[j]?:=λj hj=>(aU (Wd hj)).trans (st j hj);cases t with
  |false=>exact⟨β5,gY,vs,o,o5.sq,O0,sP,EJ,ee,by simpa using hlen,Aj,q⟩
  |true =>
   obtain⟨hz,q⟩:=q;have kp:Kp W H5 (upd H5 a (.lst (vs++[x]))):=ot sP (λxs z=>by cases z) (.inr ha)
   refine⟨x,get_set (by rw[hlen];exact R6),vs,sP,by rw[EJ.length];exact hz,β5,gY,vs++[x],o++[ds[i]],o5.sq.AO sP (λxs z=>by cases z) h0,O0,ar,ai.snoc ((Gy.same s5).keep kp) (EJ.keep kp),λb ob e=>?_,by simpa using hlen,Aj,q⟩
   rw[aw (λz'=>by rw[z',ha]at e;cases e)]
   exact ee b ob e
 ·left
  have e:i=ds.length:=by lia
  subst e;obtain⟨hh,q⟩:=i2 βi o hl;have sn:Sn (H1,Wn (bo lk β own)) H2 (Wn d4):=⟨λb z=>.inl (le b z),pu.kp.mono λb z=>.inr z,λb z e=>z (pu.free e)⟩;have lv:SQ X C σ H2 β own:=s1.leave sq sn le hh λj ok i' e1 e2=>st i' λz=>hT j (z▸e2);exact⟨l3 (T4 _),fin o H2 q ⟨lv,⟨λb z=>.inl z,pu.kp.mono λb z=>.inr z,λb z e=>z (pu.free e)⟩,λz=>⟨pu,rfl⟩,λ_ z=>z⟩ ⟨a,vs,rfl,GN,QU,ai.aT (λc z=>.inl z) os⟩⟩
variable {scope:Wg}{N':List Str}{bS:Expr}{ifs:List Expr}{ι:bX}{pos px py:Pos}{x:Str}{pi:Bool}
def Es (lk:List (Option Nat))(ι:bX)(τ:a5)(T:Nat):a6:=λβ R=>ι β λds k β1=>k=.old/\mK τ T ds (b8 lk β1) λo=>R (.lst o) .old β1
theorem Q4 (T:Nat)(N':List Str)(lk:List (Option Nat))(L:eY X.env.scope.names X.N scope N' lk=true)(lQ:N'.Nodup)(hc:X.calm=true)(hi:rA X C pi (.Name x px) bS ι)
  (fM:∀U cl c s H ex,mm (aB X scope N' cl c s H ex) (C.u U) true ifs τ) (hx:N'[T]?=some x:=by rfl) (hT:lk[T]?=some none:=by rfl)
  (Nk:∀cl c s H ex,Loc (aB X scope N' cl c s H ex).env.scope x:=by intro _ _ _ _ _;first|exact .inl rfl|exact .inr rfl)
  (hv:∀cl c s H ex,lT (aB X scope N' cl c s H ex).env.scope x:=by intro _ _ _ _ _;first|exact .inl rfl|exact .inr (.inl rfl)|exact .inr (.inr rfl))
  (hf:∀cl c s H ex,(aB X scope N' cl c s H ex).fn x=true\/(aB X scope N' cl c s H ex).env.scope.names.lookup x=some .local:=by intro _ _ _ _ _;first|exact .inl rfl|exact .inr rfl)
  (hd:(x==("__debug__" : Str))=false:=by decide) (dJ:(x==("__classdict__" : Str))=false:=by decide)
  (hs:∀x,UU bS X.env x=pure x:=by intro _;rfl):PQ X C pi (.ListComp (.Name x py) [⟨.Name x px,bS,ifs,0⟩] scope pos) (Es lk ι τ T):=by
 have L':=Links.of L;refine⟨λβ R R' k h=>hi.mono β _ _ (λds kd β1 q=>⟨q.1,q.2.mono λo z=>k _ _ _ z⟩) h,?_⟩;refine(fG (g:=⟨.Name x px,bS,ifs,0⟩) (gs:=[]) (tg:=λ_=>uo T) (tt:=λa=>ij X (C.u λc=>c=a) true τ) (ta:=λa N σ H=>∃v,σ[T]?=some (some v)/\∃xs,H a=some (.lst xs)/\xs.length<Ul/\N σ (upd H a (.lst (xs++[v]))))
  L' hc fJ rfl rfl (λ_ _=>uJ) hi.pi (λa cl c s H ex=>⟨t6 lQ hx (Nk cl c s H ex) (hf cl c s H ex),(fM _ cl c s H ex).pt,fH rfl (br hx (hv cl c s H ex) hd dJ)⟩) hs).pre λσ H Q ⟨β,own,s,h⟩=>?_
 refine⟨β,own,s,hi.mono β _ _ (λds k β1 ⟨hk,q⟩ J H1 aE o1 it a ha=>?_) h⟩;subst hk;exact sS (fM (λ_=>False) [] 0 X.s₀ X.H₀ []).mono (cu L' lQ) (λj e=>by rw[hT]at e;cases e) (Ua.mp hT).1 o1.sq ha it q λo H' q o2 r=>q _ _ aE (o1.Qh o2 λz=>⟨z,rfl⟩) (r.later o1.sn)
end
theorem E7 {α:Type}{τ:a5}{l:List α}{f:α->D}{jS:bb}{K:List D->Prop}(t:α->Bool)(h0:dD jS jS)(hl:l.length<=Ul)(h:∀x∈l,∀R:Bool->bb->Prop,R (t x) (some (.val false (f x))::jS)->τ (some (.val false (f x))::jS) R)(q:K ((l.filter t).map f)):mK τ 0 (l.map f) (none::jS) K:=by
 refine⟨λi β o=>i<=l.length/\(∃x0,β=x0::jS)/\o=((l.take i).filter t).map f,⟨Uh _,⟨_,rfl⟩,rfl⟩,?_,?_⟩
 ·rintro i d β o hd ⟨hi,⟨x0,rfl⟩,rfl⟩;rw[T6]at hd;obtain⟨x,hx,rfl⟩:=Uk.mp hd;have l6:=(Ua.mp hx).1;have hlen:(((l.take i).filter t).map f).length<=i:=by
   rw[TX];exact U3 (Vr _ _) (by rw[Ut];lia)
  have et:(l.take (i+1)).filter t=(l.take i).filter t++if t x=true then [x] else []:=by
   rw[U0,hx,VA];cases ee:t x <;> simp[ee]
  refine h x (UO hx) _ ?_;cases e:t x with
  |true =>
   rw[if_pos rfl];exact⟨by lia,by lia,⟨_,rfl⟩,by rw[et,e,if_pos rfl,Ux];rfl⟩
  |false =>
   rw[if_neg (by simp)]
   exact⟨by lia,⟨_,rfl⟩,by rw[et,e,if_neg (by simp),Vo]⟩
 ·rintro β o ⟨_,⟨x0,rfl⟩,rfl⟩;rw[TX,Vd];exact⟨h0,q⟩
end L2.Q
namespace jw
open PySem L2 L2.Q
section
variable {P:T7}{w:Ur}{K:PySem.W.Frag}{mg:Str->Option TY}{base:Heap}
theorem bU:∀(ns:List Int) (n:Int),(ns.foldl min n∈n::ns)/\∀x∈n::ns,ns.foldl min n<=x
 |[],n=>⟨by simp,λx hx=>by simp at hx;rw[hx];exact Yn _⟩
 |m::ns,n=>by
  obtain⟨h1,h2⟩:=bU ns (min n m);have hm:ns.foldl min (min n m)<=min n m:=h2 _ (by simp)
  rw[VO];refine⟨?_,λx hx=>?_⟩
  ·rcases Uc.mp h1 with h|h
   ·rw[h]
    by_cases q:n<=m
    ·rw[show min n m=n by lia];simp
    ·rw[show min n m=m by lia];simp
   ·simp[h]
  ·rcases Uc.mp hx with rfl|hx
   ·lia
   ·rcases Uc.mp hx with rfl|hx
    ·lia
    ·exact h2 x (by simp[hx])
theorem iB {fl:List (List Int)}:(D.lst (fl.map dq)).pd.canLay0=true/\(D.lst (fl.map dq)).pd.depth<=3:=dk λd hd=>by
 obtain⟨l,_,rfl⟩:=UG.mp hd;exact dk λd hd=>by
  obtain⟨b,_,rfl⟩:=UG.mp hd;exact cK _
theorem yF {l:List Int}(h:l≠[]):∃m,E1 l=some m/\(m<0↔∃x∈l,x<0):=by
 obtain⟨m,e⟩:∃m,E1 l=some m:=by cases l with|nil=>exact absurd rfl h|cons a r=>exact⟨_,rfl⟩
 obtain⟨h1,h2⟩:m∈l/\∀x∈l,m<=x:=by cases l with|nil=>cases e|cons a r=>cases e;exact bU r a
 exact⟨m,e,λz=>⟨m,h1,z⟩,λJq=> by obtain⟨x,hx,z⟩ := Jq;have:=h2 x hx;lia⟩
theorem aW:aP ["row","paper","many","ties","begin","at","one","other","end","inner","outer"] ["row","paper"] (aC de):=mkS
theorem yx {v_ m7} (DA:Oi K mg v_ m7) (B:Bs3 mg):aR P w K mg base cj 1 v_ m7 ["row","paper"] (ik P w true fN):=by
 refine wO DA.F aW (λds R Jp=> by obtain⟨n,ps,pp,e,_⟩ := Jp;subst e;rfl) λcG A outer s H E hr=>⟨_,(ah (r9 (aa (i:=0)) (cW (n:=2) rfl (aK (ak (i:=2) aW.nd) (aK (ak (i:=3) aW.nd) b_))))
    (ah (b7 (aM af (bR.m (iI hr.units)) (C4 ["line"] [none] (by rfl) (by decide:(["line"]:List Str).Nodup) rfl (aY (aa (i:=1))) (λ_ _ _ _ _ _=>(ak (i:=0) (by decide:(["line"]:List Str).Nodup))) (λ_ _ _ _ _ _=>bJ) (λ_ _ _ _ _ _=>(bf af (bE.m dt) B.len iZ (ab (aa (i:=0)) ae)))) (gm rfl B.list B.range (ab (au ay aj (aa (i:=2)) ag) (ab ag (ab (kG eS ag) ae))))) (ao (a_ fF)) ba)
    (ah (b7 (aM af (bR.m (iI hr.units)) (Q4 0 ["line"] [none] (by rfl) (by decide:(["line"]:List Str).Nodup) rfl (aY (aa (i:=1))) (λ_ _ _ _ _ _=>(nE (aM af (bR.m fI) (bf af (bE.m (wA rfl)) B.min oJ (ab (aa (i:=0)) ae)) ag)))) (aV ae)) (ao (a_ fF)) ba)
    (ah (bB UR rfl (aX B.range (ab (aa (i:=2)) ae)) (ak (i:=4) aW.nd) (ao (bB UR rfl (cM B.range (ab ag (ab (bf af (bE.m dt) B.len iZ (ab (aH af bh (aa (i:=1)) (aa (i:=4))) ae)) ae))) (ak (i:=5) aW.nd) (ao (b7 (aM af (bR.m fI) (aH af bh (aH af bh (aa (i:=1)) (aa (i:=4))) (aa (i:=5))) (aH af bh (aH af bh (aa (i:=1)) (au ay aj (aa (i:=4)) ag)) (au af (bR.m a3) (aa (i:=5)) ag))) (ao (a_ fF)) ba)))))
    (ah (bB UR rfl (aY (aa (i:=3))) (cW (n:=2) rfl (aK (ak (i:=6) aW.nd) (aK (ak (i:=7) aW.nd) b_))) (ao (bB UR rfl (cM B.range (ab (au ay aj (aa (i:=7)) ag) (ab (au ay aj (aa (i:=2)) ag) ae))) (ak (i:=8) aW.nd) (ah (aO (i:=9) (aH af bh (aH af bh (aa (i:=1)) (au ay aj (aa (i:=6)) ag)) (au af (bR.m a3) (au af (bR.m a3) (aa (i:=7)) (aa (i:=6))) ag)) aW.nd)
    (ah (aO (i:=10) (aH af bh (aH af bh (aa (i:=1)) (au ay aj (aa (i:=7)) ag)) (au af (bR.m a3) (au af (bR.m a3) (aa (i:=8)) (aa (i:=7))) ag)) aW.nd)
    (ao (b7 (aM af (bR.m fI) (aH af bh (aH af bh (aa (i:=1)) (aa (i:=6))) (au af (bR.m a3) (aa (i:=8)) (aa (i:=6)))) (au ay aj (au ay aj ag (aa (i:=9))) (aa (i:=10)))) (ao (a_ fF)) ba)))))))
    (ao (a_ fF))))))),λds R h=>?_⟩
 obtain⟨n,ps,pp,rfl,ok,hn,hb,q⟩:=h;obtain⟨JT,JS⟩:=id hb;have hlen:∀l:List Int,wg [dq l]=some (.int (l.length:Int)):=λl=>by show some (D.int (((l.map D.int).length:Nat):Int))=_;rw[TX]
 refine⟨_,rfl,_,rfl,rfl,_,_,rfl,_,_,rfl,rfl,?_⟩;refine⟨_,rfl,_,rfl,trivial,?_⟩;refine dB (λ_=>true) (λl=>.int (l.length:Int)) trivial (cw (by lia)) (λl hl y0 o J ho h1 _=>?_) ?_
 ·exact⟨_,rfl,trivial,_,hlen l,trivial,ho,h1 rfl _⟩
 rw[a8];refine⟨trivial,_,rfl,trivial,_,rfl,trivial,trivial,_,rfl,rfl,trivial,(n:Int)+1,0,rfl,⟨by lia,by lia,by lia,by lia⟩,by lia,?_⟩
 rw[show ((n:Int)+1-0).toNat=n+1 by lia,pF]
 have e:Dz (.lst (pp.map λl=>D.int (l.length:Int))) (.lst ((nK n).map D.int))=some (.bl (!pA n pp)):=by
  have:=qO (pp.map λl=>(l.length:Int)) (nK n);rw[Va]at this;exact this
 refine⟨_,e,_,rfl,?_⟩;cases Al:pA n pp with
 |false=>exact Fo rfl ⟨trivial,q false ⟨λz=>(nomatch z),λz=>by have:=z.1;rw[Al]at this;cases this⟩⟩
 |true =>
  refine vV rfl ?_;obtain⟨s1,s2⟩:=tM Al;have vX:∀l∈pp,l≠[]:=λl hl z=>by
   obtain⟨i,hi⟩:=V9 hl;have d_:=(Ua.mp hi).1;have:=s2 i (by lia)
   rw[UE,hi,z]at this;have:0=n+1-i:=this;lia
  refine⟨_,rfl,_,rfl,rfl,?_⟩;refine E7 (λl:List Int=>l.any λx=>decide (x<0)) trivial (cw (by lia)) (λl hl R hR=>?_) ?_
  ·obtain⟨m,em,hm⟩:=yF (vX l hl);have ed:decide (m<0)=l.any λx=>decide (x<0):=by
    rw[V1,decide_eq_true_eq,hm,Yg];simp only[decide_eq_true_eq]
   rw[<- ed]at hR;exact⟨_,rfl,trivial,_,fb em,trivial,_,rfl,_,rfl,hR⟩
  have RW:∀fl:List (List Int),Dz (.lst (fl.map dq)) (.lst [])=some (.bl (!decide (fl=[]))):=λfl=>by
   have h1:(D.lst (fl.map dq)).xI=true:=c9 (n:=3) iB;have h2:(D.lst []).xI=true:=c9 (n:=3) (iB (fl:=[]));cases fl with
   |nil=>exact lF (n:=3) (iB (fl:=[]))
   |cons l r=>exact oD h1 h2 rfl
  refine⟨trivial,Uh _,_,RW _,_,rfl,?_⟩;have GJ:(pp.filter λl:List Int=>l.any λx=>decide (x<0))=[]↔∀l∈pp,∀x∈l,0<=x:=by
   rw[Xi];refine forall_congr' λl=>forall_congr' λ_=>?_;rw[Bool.not_eq_true,W3];refine forall_congr' λx=>forall_congr' λ_=>?_;rw[decide_eq_true_eq];lia
  refine O6 (λhf=>⟨trivial,q false ⟨λz=>(nomatch z),λz=>absurd (GJ.mpr z.2.1) hf⟩⟩) (λhf=>?_);have FP:=GJ.mp hf;rw[tU Al];have hp:∀p∈ps,p.1<p.2/\p.2<n:=ok.lt;refine⟨_,rfl,trivial,n,rfl,by lia,by lia,trivial,?_⟩
  refine⟨λa β=>a<=n/\(∀i,i<a->∀k,1<=k->k<n+1-i->Tp pp (k-1) (i+1)<=Tp pp k i)/\∃x4 x5 x6 x7 x8 x9 fx,β=[some (.val false (gk n ps)),some (.val false (lr n (Tp pp))),some (.val true (.int n)),some (.val false (xh ps)),x4,x5,x6,x7,x8,x9,fx],⟨Uh _,λi hi=>by lia,_,_,_,_,_,_,_,rfl⟩,?_,?_⟩
  ·rintro a d β hd ⟨_,eN,x4,x5,x6,x7,x8,x9,fx,rfl⟩;obtain⟨ha,rfl⟩:=bc hd;rw[Xl];have ha:a<n:=by simpa using ha
   refine⟨trivial,_,rfl,trivial,_,rfl,_,gq (i:=a) rfl (by lia),.inr ⟨trivial,_,rfl,trivial,1,((n+1-a:Nat):Int),by show [D.int 1,D.int (((rK (n+1-a) λl=>Tp pp l a).length:Nat):Int)]=_;unfold rK;rw[TX,Uw],⟨by lia,by lia,by lia,by lia⟩,trivial,?_⟩⟩
   rw[show (((n+1-a:Nat):Int)-1).toNat=n-a by lia]
   refine⟨λk β=>k<=n-a/\(∀m,1<=m->m<k+1->Tp pp (m-1) (a+1)<=Tp pp m a)/\∃x5,β=[some (.val false (gk n ps)),some (.val false (lr n (Tp pp))),some (.val true (.int n)),some (.val false (xh ps)),some (.val true (.int a)),x5,x6,x7,x8,x9,fx],⟨Uh _,λm h1 h2=>by lia,_,rfl⟩,?_,?_⟩
   ·rintro k d β hd ⟨_,hk,x5,rfl⟩;obtain⟨GG,rfl⟩:=bc hd;refine⟨_,rfl,trivial,_,rfl,_,gq (i:=a) rfl (by lia),.inr ⟨trivial,_,rfl,_,hG (l:=k+1) (by lia) (by lia),trivial,_,rfl,trivial,_,rfl,trivial,_,rfl,_,gq (i:=a+1) (by lia) (by lia),.inr ⟨trivial,_,rfl,trivial,_,rfl,_,hG (l:=k) (by lia) (by lia),_,rfl,_,rfl,mR (λd8=>?_) (λd8=>?_)⟩⟩⟩
    ·refine⟨trivial,q false ⟨λz=>(nomatch z),λz=>?_⟩⟩;have:=(oj.mp (z.2.2 a (a+k+1) (by lia) (by lia))).1
     rw[show a+k+1-a-1=k by lia,show a+k+1-a=k+1 by lia]at this
     exact absurd this (by lia)
    ·refine⟨by lia,λm h1 h2=>?_,_,rfl⟩
     by_cases e:m=k+1
     ·rw[e,show k+1-1=k by lia];lia
     ·exact hk m h1 (by lia)
   ·rintro β ⟨_,hk,x5,rfl⟩;rw[bp]at hk;refine⟨by lia,λi hi m h1 h2=>?_,_,_,_,_,_,_,_,rfl⟩
    by_cases e:i=a
    ·subst e;exact hk m h1 (by lia)
    ·exact eN i (by lia) m h1 h2
  ·rintro β ⟨_,eN,x4,x5,x6,x7,x8,x9,fx,rfl⟩;rw[bp]at eN;refine⟨_,rfl,_,rfl,trivial,?_⟩;refine⟨λa β=>(∀p∈ps.take a,∀e,p.2<e->e<=n->1+Tp pp (p.2-p.1-1) (p.1+1)+Tp pp (e-p.2-1) (p.2+1)<=Tp pp (e-p.1) p.1)/\∃x6 x7 x8 x9 fx,β=[some (.val false (gk n ps)),some (.val false (lr n (Tp pp))),some (.val true (.int n)),some (.val false (xh ps)),x4,x5,x6,x7,x8,x9,fx],⟨λp hp=>(nomatch hp),_,_,_,_,_,rfl⟩,?_,?_⟩
   ·rintro a d β hd ⟨fM,x6,x7,x8,x9,fx,rfl⟩;rw[T6]at hd;obtain⟨⟨b,c⟩,Dg,rfl⟩:=Uk.mp hd;have hm:=UO Dg;obtain⟨h1,h2⟩:=hp _ hm;dsimp only at h1 h2;have et:ps.take (a+1)=ps.take a++[(b,c)]:=by rw[U0,Dg];rfl
    refine⟨_,rfl,rfl,_,_,rfl,_,_,rfl,rfl,?_⟩;refine⟨_,rfl,trivial,_,rfl,trivial,_,rfl,trivial,_,rfl,trivial,(c:Int)+1,(n:Int)+1,rfl,⟨by lia,by lia,by lia,by lia⟩,trivial,?_⟩
    rw[show ((n:Int)+1-((c:Int)+1)).toNat=n-c by lia]
    refine⟨λk β=>k<=n-c/\(∀e,c<e->e<c+1+k->1+Tp pp (c-b-1) (b+1)+Tp pp (e-c-1) (c+1)<=Tp pp (e-b) b)/\∃x8 x9 fx,β=[some (.val false (gk n ps)),some (.val false (lr n (Tp pp))),some (.val true (.int n)),some (.val false (xh ps)),x4,x5,some (.val true (.int b)),some (.val true (.int c)),x8,x9,fx],⟨Uh _,λe h1 h2=>by lia,_,_,_,rfl⟩,?_,?_⟩
    ·rintro k d β hd ⟨_,hk,x8,x9,fx,rfl⟩;obtain⟨GG,rfl⟩:=bc hd;obtain⟨e,he⟩:∃e,e=c+1+k:=⟨_,rfl⟩;rw[show (c:Int)+1+(k:Int)=(e:Int) by lia]
     refine⟨_,rfl,trivial,_,rfl,trivial,_,rfl,_,gq (i:=b+1) (by lia) (by lia),.inr ⟨trivial,_,rfl,trivial,_,rfl,_,rfl,trivial,_,rfl,_,hG (l:=c-b-1) (by lia) (by lia),?_⟩⟩
     refine⟨_,rfl,trivial,_,rfl,trivial,_,rfl,_,gq (i:=c+1) (by lia) (by lia),.inr ⟨trivial,_,rfl,trivial,_,rfl,_,rfl,trivial,_,rfl,_,hG (l:=e-c-1) (by lia) (by lia),?_⟩⟩
     refine⟨_,rfl,trivial,_,rfl,_,gq (i:=b) rfl (by lia),.inr ⟨trivial,_,rfl,trivial,_,rfl,_,rfl,_,hG (l:=e-b) (by lia) (by lia),trivial,trivial,_,rfl,_,rfl,trivial,_,rfl,_,rfl,_,rfl,_,rfl,mR (λd8=>?_) (λd8=>?_)⟩⟩
     ·refine⟨trivial,q false ⟨λz=>(nomatch z),λz=>?_⟩⟩;have:=(oj.mp (z.2.2 b e (by lia) (by lia))).2 c hm (by lia)
      have P9:w1 (b,c)=1:=rfl;rw[P9]at this;exact absurd this (by lia)
     ·refine⟨by lia,λe' h1 h2=>?_,_,_,_,rfl⟩
      by_cases z:e'=e
      ·rw[z];lia
      ·exact hk e' h1 (by lia)
    ·rintro β ⟨_,hk,x8,x9,fx,rfl⟩;rw[bp]at hk;refine⟨λp An e h3 h4=>?_,_,_,_,_,_,rfl⟩;rw[et]at An;rcases Uq.mp An with z|z
     ·exact fM p z e h3 h4
     ·rw[T_.mp z]at h3 ⊢
      exact hk e h3 (by dsimp only at h3;lia)
   ·rintro β ⟨fM,x6,x7,x8,x9,fx,rfl⟩;rw[TX,Vd]at fM;refine⟨trivial,q true ⟨λ_=>⟨Al,FP,λi j h1 h2=>oj.mpr ⟨?_,λk hk hj=>?_⟩⟩,λ_=>rfl⟩⟩
    ·have:=eN i (by lia) (j-i) (by lia) (by lia)
     exact this
    ·have:=fM (i,k) hk j hj h2;exact this
end
def Bd (k:Nat)(pp:List (List Int)):Prop:=pp.length<=41+k/\∀l∈pp,l.length<=41+k
def hZ:FD:=λds R=>∃n ps,ds=[gk n ps]/\CH n ps/\n<=40/\∀ls:List (List (List Int)),ls.length=6->(∀pp∈ls,Bd 0 pp/\pp≠[])->R (.lst (ls.map dg))
theorem hZ.mono:d9 hZ:=λds R R' k h=>by obtain⟨n,ps,e,h1,h2,q⟩:=h;exact⟨n,ps,e,h1,h2,λls a b=>k _ (q ls a b)⟩
def yu (n:Nat)(ps:List (Nat×Nat)):List (List Int):=(T8 (n+1)).map λb=>(T8 (n+1-b)).map λr=>tW ps w1 r b
def qm (n:Nat):List (List Int):=(T8 (n+1)).map λb=>(T8 (n+1-b)).map λa:Nat=>(a:Int) / 2
theorem z6 {n:Nat}{f:Nat->Nat->Int}(hn:n<=40):Bd 0 ((T8 (n+1)).map λb=>(T8 (n+1-b)).map λr=>f b r)/\((T8 (n+1)).map λb=>(T8 (n+1-b)).map λr=>f b r)≠[]:=by
 refine⟨⟨by rw[TX,Uw];lia,λl hl=>?_⟩,λz=>by have:=congrArg List.length z;rw[TX,Uw]at this;cases this⟩
 obtain⟨b,_,rfl⟩:=UG.mp hl;rw[TX,Uw];lia
theorem oq {α:Type}{f:α->Int}{l:List α}:dq (l.map f)=.lst (l.map λr=>D.int (f r)):=by unfold dq;rw[Va];rfl
theorem tT {f:Nat->List Int}{b:Nat}:((T8 (b+1)).map f).map dq=((T8 b).map f).map dq++[dq (f b)]:=by rw[Xp,Ux,Ux];rfl
theorem sV {l:List Int}:jq (l.map D.int)=l.zipIdx.map λp:Int×Nat=>D.tup [.int (p.2:Int),.int p.1]:=by
 apply Vm;intro i
 by_cases hi:i<l.length
 ·have h1:i<(jq (l.map D.int)).length:=by rw[iT,TX];exact hi
  obtain⟨b,hb,e⟩:=m_ (T5 h1);rw[T5 h1,e,T6,List.getElem?_zipIdx];rw[T6]at hb;obtain⟨x,hx,rfl⟩:=Uk.mp hb;rw[hx];simp
 ·rw[UK (by rw[iT,TX];lia),UK (by rw[TX,XX];lia)]
def oY (m:Int)(l:List Int):List Int:=l.zipIdx.map λp:Int×Nat=>p.1+m*(p.2:Int)
theorem A9 {pp:List (List Int)}{f:List Int->List Int}{m:Nat}{l:List Int}(h:pp[m]?=some l):((pp.take (m+1)).map f).map dq=((pp.take m).map f).map dq++[dq (f l)]:=by
 rw[U0,h,Ux,Ux];rfl
theorem z7 {pp:List (List Int)}{f:List Int->List Int}(hf:∀l∈pp,(f l).length<=l.length)(h:Bd 0 pp/\pp≠[]):Bd 0 (pp.map f)/\pp.map f≠[]:=by
 refine⟨⟨by rw[TX];exact h.1.1,λl hl=>?_⟩,λz=>h.2 (List.map_eq_nil_iff.mp z)⟩
 obtain⟨l',h',rfl⟩:=UG.mp hl;exact U3 (hf l' h') (h.1.2 l' h')
section
variable {P:T7}{w:Ur}{K:PySem.W.Frag}{mg:Str->Option TY}{base:Heap}
theorem aQ:aP ["hand","row","many","table","one","begin","half","more","found","paper","wide","line"] ["hand","row"] (aC dc):=mkS
theorem vx {Cb uv} (GY:P7 K mg Cb uv) {zD lx} (dT:D1 K mg zD lx) {v8 mZ} (Dw:Oj K mg v8 mZ) (B:Bs3 mg):aR P w K mg base cj 2 Cb uv ["hand","row"] (fB P w fq false hZ):=by
 have GT:aR P w K mg base cj 1 _ _ _ (fB P w fq true bC):=iu (f7 dT.F);have SS:aR P w K mg base cj 1 _ _ _ (ik P w true qE):=Bm Dw B;refine Bv GY.F aQ (λds R Jo=> by obtain⟨n,ps,e,_⟩ := Jo;subst e;rfl) λcG A outer s H E IO hr=>⟨_,(ah (aO (i:=2) (aH af bh (aa (i:=1)) ag) aQ.nd)
    (ah (aO (i:=3) (bY qE.mono SS (hr.mono (by decide)) Dw.m Dw.F.kp Dw.b (ab (aa (i:=1)) ae)) aQ.nd)
    (ah (dQ (i:=4) (λ_=>(aV ae)) aQ.nd)
    (ah (bB UR rfl (aX B.range (ab (au ay aj (aa (i:=2)) ag) ae)) (ak (i:=5) aQ.nd) (ao (cN (i:=4) (λ_=>(C4 ["end","table","begin"] [none,some 3,some 5] (by rfl) (by decide:(["end","table","begin"]:List Str).Nodup) rfl (cM B.range (ab (aa (i:=5)) (ab (au ay aj (aa (i:=2)) ag) ae))) (λ_ _ _ _ _ _=>(ak (i:=0) (by decide:(["end","table","begin"]:List Str).Nodup))) (λ_ _ _ _ _ _=>bJ) (λ_ _ _ _ _ _=>(aH af bh (aH af bh (aH af bh (aa (i:=1)) (aa (i:=2))) (aa (i:=0))) ag)))))))
    (ah (xO (i:=6) false ["begin","many"] [none,some 2] (by rfl) (by decide:(["begin","many"]:List Str).Nodup) rfl (λ_=>(aX B.range (ab (au ay aj (aa (i:=2)) ag) ae))) (λ_ _ _ _ _ _=>(ak (i:=0) (by decide:(["begin","many"]:List Str).Nodup))) (λ_ _ _ _ _ _=>bJ) (λ_ _ _ _ _ _=>(O1 ["at"] [none] (by rfl) (by decide:(["at"]:List Str).Nodup) rfl (aX B.range (ab (au af (bR.m a3) (au ay aj (aa (i:=1)) ag) (aa (i:=0))) ae)) (λ_ _ _ _ _ _=>(ak (i:=0) (by decide:(["at"]:List Str).Nodup))) (λ_ _ _ _ _ _=>bJ) (λ_ _ _ _ _ _=>(au af (bR.m Bk) (aa (i:=0)) ag)))) aQ.nd)
    (ah (aO (i:=7) (au ay aj ag (aZ (ih:=0) bC.mono GT (hr.mono (by decide)) dT.m dT.F.kp dT.b (ab ag ae))) aQ.nd)
    (ah (Be (i:=8) (λ_=>ae) aQ.nd)
    (ah (bB UR rfl (aY (aV (ab (rY (i:=4)) (ab (aa (i:=6)) ae)))) (ak (i:=9) aQ.nd) (ah (jI (i:=8) (λ_=>(aa (i:=9))))
    (ah (jI (i:=8) (λ_=>(C4 ["line","more"] [none,some 7] (by rfl) (by decide:(["line","more"]:List Str).Nodup) rfl (aY (aa (i:=9))) (λ_ _ _ _ _ _=>(ak (i:=0) (by decide:(["line","more"]:List Str).Nodup))) (λ_ _ _ _ _ _=>bJ) (λ_ _ _ _ _ _=>(O1 ["number","more"] [none,some 1] (by rfl) (by decide:(["number","more"]:List Str).Nodup) rfl (aY (aa (i:=0))) (λ_ _ _ _ _ _=>(ak (i:=0) (by decide:(["number","more"]:List Str).Nodup))) (λ_ _ _ _ _ _=>bJ) (λ_ _ _ _ _ _=>(au ay aj (aa (i:=0)) (aa (i:=1)))))))))
    (ah (dQ (i:=10) (λ_=>(aV ae)) aQ.nd)
    (ah (bB UR rfl (aY (aa (i:=9))) (ak (i:=11) aQ.nd) (ao (cN (i:=10) (λ_=>(C4 ["at","number","more"] [none,none,some 7] (by rfl) (by decide:(["at","number","more"]:List Str).Nodup) rfl (A8 (xS B.enumerate (xT (xU (i:=11)) AZ))) (λ_ _ _ _ _ _=>(cW (n:=2) rfl (aK (ak (i:=0) (by decide:(["at","number","more"]:List Str).Nodup)) (aK (ak (i:=1) (by decide:(["at","number","more"]:List Str).Nodup)) b_)))) (λ_ _ _ _ _ _=>bJ) (λ_ _ _ _ _ _=>(au ay aj (aa (i:=1)) (au af (bR.m ub) (aa (i:=2)) (aa (i:=0))))))))))
    (ao (jI (i:=8) (λ_=>(rY (i:=10))))))))))
    (ao (a_ (jG (i:=8)))))))))))),λds R h=>?_⟩
 obtain⟨n,ps,rfl,ok,hn,q⟩:=h;have yY:∀x:Nat,x<=n->lS (cC n (tS ps)) (.int (x:Int))=some (.lst ((T8 (n+1)).map λy=>tS ps x y)):=λx hx=>ft rfl (bj (by lia))
 have La:∀x y:Nat,y<=n->lS (.lst ((T8 (n+1)).map λy=>tS ps x y)) (.int (y:Int))=some (.tup [.int (mX ps x y),.int (cL ps x y:Int)]):=λx y hy=>ft rfl (by rw[bj (by lia)];rfl)
 refine⟨_,rfl,trivial,_,rfl,_,rfl,trivial,n,ps,rfl,ok,hn,Uh _,trivial,?_⟩;refine⟨_,rfl,trivial,_,rfl,trivial,(n:Int)+1,rfl,by lia,by lia,trivial,?_⟩
 rw[show ((n:Int)+1).toNat=n+1 by lia]
 refine⟨λa β=>a<=n+1/\∃x5 x6 x7 x8 x9 fx il,β=[some (.hand fq),some (.val false (gk n ps)),some (.val true (.int n)),some (.val true (cC n (tS ps))),some (.own (.lst (((T8 a).map λb=>(T8 (n+1-b)).map λr=>tW ps w1 r b).map dq))),x5,x6,x7,x8,x9,fx,il],⟨Uh _,_,_,_,_,_,_,_,rfl⟩,?_,?_⟩
 ·rintro b d β hd ⟨_,x5,x6,x7,x8,x9,fx,il,rfl⟩;obtain⟨hb,rfl⟩:=bc hd;rw[Xl];refine⟨⟨_,rfl⟩,_,rfl,trivial,_,rfl,trivial,_,rfl,trivial,(b:Int),(n:Int)+1,rfl,⟨by lia,by lia,by lia,by lia⟩,trivial,?_⟩
  rw[show ((n:Int)+1-(b:Int)).toNat=n+1-b by lia]
  refine dB (λ_=>true) (λr=>.int (tW ps w1 r b)) trivial (by rw[Uw];exact cw (by lia)) (λr hr y0 o J ho h1 _=>?_) ?_
  ·have Tu:=U_.mp hr;rw[show (b:Int)+(r:Int)=((b+r:Nat):Int) by lia]
   have em:mX ps b (b+r)=tW ps w1 r b:=by unfold mX;rw[show b+r-b=r by lia]
   rw[<- em]at h1;exact⟨_,rfl,trivial,_,rfl,_,yY b (by lia),.inr ⟨trivial,_,rfl,_,La b (b+r) (by lia),trivial,_,rfl,trivial,ho,h1 rfl _⟩⟩
  rw[a8];exact⟨trivial,_,rfl,by rw[TX,TX,Uw];exact fA (by lia),hb,_,_,_,_,_,_,_,by rw[tT,oq];rfl⟩
 ·rintro β ⟨_,x5,x6,x7,x8,x9,fx,il,rfl⟩;rw[bp];refine⟨_,rfl,trivial,_,rfl,trivial,(n:Int)+1,rfl,by lia,by lia,trivial,?_⟩
  rw[show ((n:Int)+1).toNat=n+1 by lia]
  refine⟨λa β o=>a<=n+1/\(∃x0,β=[x0,some (.val true (.int n))])/\o=((T8 a).map λb=>(T8 (n+1-b)).map λa:Nat=>(a:Int) / 2).map dq,⟨Uh _,⟨_,rfl⟩,rfl⟩,?_,?_⟩
  ·rintro b d β o hd ⟨_,⟨x0,rfl⟩,rfl⟩;obtain⟨hb,rfl⟩:=bc hd;rw[Xl];refine⟨_,rfl,trivial,_,rfl,trivial,_,rfl,_,rfl,trivial,(n:Int)+1-(b:Int),rfl,by lia,by lia,trivial,?_⟩
   rw[show ((n:Int)+1-(b:Int)).toNat=n+1-b by lia]
   refine dB (λ_=>true) (λa=>.int ((a:Int) / 2)) trivial (by rw[Uw];exact cw (by lia)) (λr hr y0 o J ho h1 _=>?_) ?_
   ·rw[Xl];exact⟨_,rfl,trivial,_,rfl,trivial,ho,h1 rfl _⟩
   rw[a8];exact⟨trivial,by rw[TX,TX,Uw];exact fA (by lia),hb,⟨_,rfl⟩,by rw[tT,oq]⟩
  ·rintro β o ⟨_,⟨x0,rfl⟩,rfl⟩;rw[bp];have M7:Bd 0 (yu n ps)/\yu n ps≠[]:=z6 hn;have JY:Bd 0 (qm n)/\qm n≠[]:=z6 hn;refine⟨trivial,trivial,rfl,trivial,rfl,trivial,99,rfl,by lia,by lia,λmore m0 m1=>⟨_,rfl,?_⟩⟩
   refine⟨rfl,Uh _,by show 8<12;decide,?_⟩
   refine⟨_,rfl,trivial,_,rfl,trivial,rh,.inr ⟨_,rfl,trivial,?_⟩⟩;refine⟨λk β=>k<=2/\∃(ls:List (List (List Int))) (x9 fx il:Option Q.B),β=[some (.hand fq),some (.val false (gk n ps)),some (.val true (.int n)),some (.val true (cC n (tS ps))),some (.val true (dg (yu n ps))),x5,some (.val true (dg (qm n))),some (.val true (.int (1+more))),some (.shl true (.lst (ls.map dg))),x9,fx,il]/\ls.length=3*k/\∀pp∈ls,Bd 0 pp/\pp≠[],⟨Uh _,[],_,_,_,rfl,rfl,λ_ z=>(nomatch z)⟩,?_,?_⟩
   ·rintro k d β hd ⟨_,ls,x9,fx,il,rfl,hl,hg⟩;obtain⟨pp,rfl,Am,K5⟩:∃pp,d=dg pp/\(Bd 0 pp/\pp≠[])/\k<2:=by
     match k,hd with
     |0,hd=>exact⟨yu n ps,(UD hd).symm,M7,by decide⟩
     |1,hd=>exact⟨qm n,(UD hd).symm,JY,by decide⟩
    have hsz:∀l∈pp,l.length<=41:=λl hl=>Am.1.2 l hl;have hpl:pp.length<=41:=Am.1.1;refine⟨⟨_,rfl⟩,_,rfl,trivial,_,rfl,by rw[TX];exact fA (by lia),?_⟩
    refine⟨⟨_,rfl⟩,_,rfl,_,rfl,trivial,?_⟩;refine dB (λ_=>true) (λl=>dq (l.map λx=>x+(1+more))) trivial (cw (by lia)) (λl hl y0 o J ho h1 _=>?_) ?_
    ·refine⟨_,rfl,_,rfl,trivial,?_⟩;refine dB (λ_=>true) (λx=>.int (x+(1+more))) trivial (cw (by have:=hsz l hl;lia)) (λx hx S_ o' J' zf zt _=>⟨_,rfl,trivial,_,rfl,_,rfl,trivial,zf,zt rfl _⟩) ?_
     rw[a8];rw[oq]at h1;exact⟨trivial,ho,h1 rfl _⟩
    rw[a8];have e1:D.lst (pp.map λl=>dq (l.map λx=>x+(1+more)))=dg (pp.map λl=>l.map λx=>x+(1+more)):=by unfold dg;rw[Va];rfl
    rw[e1];refine⟨trivial,_,rfl,by rw[Ui,TX];exact fA (by show _+1<=_;lia),?_⟩
    refine⟨Uh _,trivial,_,rfl,_,rfl,trivial,?_⟩;refine⟨λm β=>m<=pp.length/\∃il:Option Q.B,β=[some (.hand fq),some (.val false (gk n ps)),some (.val true (.int n)),some (.val true (cC n (tS ps))),some (.val true (dg (yu n ps))),x5,some (.val true (dg (qm n))),some (.val true (.int (1+more))),some (.shl true (.lst (ls.map dg++[dg pp]++[dg (pp.map λl=>l.map λx=>x+(1+more))]))),some (.val true (dg pp)),some (.own (.lst (((pp.take m).map (oY (1+more))).map dq))),il],⟨Uh _,_,rfl⟩,?_,?_⟩
    ·rintro m d β hd ⟨_,il,rfl⟩;rw[T6]at hd;obtain⟨l,Nl,rfl⟩:=Uk.mp hd;have hm:=(Ua.mp Nl).1;have RM:=hsz l (UO Nl);refine⟨⟨_,rfl⟩,_,rfl,_,rfl,trivial,?_⟩;rw[sV];refine sA (λ_=>true) (λp:Int×Nat=>.int (p.1+(1+more)*(p.2:Int))) trivial (by rw[XX];exact cw (by lia)) (λp An y0 y1 o J' ho j1 j2=>?_) ?_
     ·exact⟨_,rfl,rfl,_,_,rfl,_,_,rfl,rfl,_,rfl,trivial,_,rfl,trivial,_,rfl,_,zP (.inl ⟨by lia,by lia⟩),_,rfl,trivial,ho,j1 rfl _ _⟩
     rw[a8];have e2:D.lst (l.zipIdx.map λp:Int×Nat=>D.int (p.1+(1+more)*(p.2:Int)))=dq (oY (1+more) l):=by unfold oY;rw[oq]
     exact⟨trivial,_,rfl,by rw[TX,TX,Ut];exact fA (by lia),hm,_,by rw[A9 Nl,<- e2];rfl⟩
    ·rintro β ⟨_,il,rfl⟩;rw[TX,Vd];refine⟨⟨_,rfl⟩,_,rfl,trivial,_,rfl,by rw[Ui,Ui,TX];exact fA (by show _+1+1<=_;lia),by lia,ls++[pp,pp.map λl=>l.map λx=>x+(1+more),pp.map (oY (1+more))],_,_,_,by rw[Ux,U4,U4];rfl,by rw[Ui];show _+3=_;lia,λx hx=>?_⟩
     rcases Uq.mp hx with z|z
     ·exact hg x z
     ·simp only[Uc,VJ,or_false]at z;rcases z with rfl|rfl|rfl
      ·exact Am
      ·exact z7 (λl _=>by rw[TX];exact T4 _) Am
      ·exact z7 (λl _=>by unfold oY;rw[TX,XX];exact T4 _) Am
   ·rintro β ⟨_,ls,x9,fx,il,rfl,hl,hg⟩;exact⟨_,rfl,trivial,rfl,q ls hl hg⟩
end
end jw
namespace L2.Q
open PySem PySem.Spec PySem.SeqAt PyProof.Rows
def tJ (P:T7)(w:Ur)(ok:List Int->Prop)(F:FD):Sp:=λvs H Q _=>∃(W:Addr->Prop) (h:Addr) (vs':List V) (ds:List D) (ns:List Int),vs=.ref h::vs'/\Dm W H/\W h/\H h=some (.lst (ns.map V.int))/\ok ns/\ai P w W H ds vs' /\
 F ds λd=>∀v H' n_,Kp (·=h) H H'->(∀c,H c≠none->H' c≠none)->H' h=some (.lst (n_.map V.int))->ok n_->aA P w W H' d v->Q v H'
def iw (N:List Str)(ok:List Int->Prop)(ds:List D):bb:=some (.hand ok)::(ds.map (λd=>some (.val true d))++UL (N.length-(ds.length+1)) none)
section
variable {P:T7}{w:Ur}{K:PySem.W.Frag}{mg:Str->Option TY}{base:Heap}
theorem rN {ds:List D}{n i:Nat}{b:B}(h:(ds.map (λd=>some (B.val true d))++UL n none)[i]?=some (some b)):∃d,ds[i]?=some d/\b=.val true d:=by
 by_cases hi:i<ds.length
 ·rw[Vh (by simpa using hi),T6]at h
  cases q:ds[i]? with
  |none=>rw[q]at h;cases h
  |some d=>rw[q]at h;cases h;exact⟨d,rfl,rfl⟩
 ·rw[UZ (by simpa using hi)]at h
  exact(eE h).elim
open Classical in
noncomputable def oE (W:Addr->Prop)(H:Hp):Hp:=λa=>if W a then H a else none
theorem iW {W:Addr->Prop}{H:Hp}{a:Addr}{o:HO}(h:oE W H a=some o):W a/\H a=some o:=by
 unfold oE at h
 split at h
 ·next z=>exact⟨z,h⟩
 ·cases h
theorem uH {W:Addr->Prop}{H:Hp}{a:Addr}(h:oE W H a≠none):W a/\H a≠none:=by
 cases q:oE W H a with
 |none=>exact absurd q h
 |some o=>obtain⟨h1,h2⟩:=iW q;exact⟨h1,by rw[h2];exact λz=>(nomatch z)⟩
theorem Cr {W:Addr->Prop}{H:Hp}{a:Addr}(h:W a):oE W H a=H a:=by unfold oE;rw[if_pos h]
theorem u7 {N:List Str}{ok:List Int->Prop}{W:Addr->Prop}{h:Addr}{ns:List Int}{vs:List V}{ds:List D}{H:Hp}(hd:Dm W H)(hW:W h)(hh:H h=some (.lst (ns.map V.int)))(ho:ok ns)(r:ai P w W H ds vs):
  bG P w ⟨oE W H,(·=h),false,λ_=>False⟩ (start N (.ref h::vs)) H (iw N ok ds) (λi=>if i=0 then [h] else []):=by
 have nZ:∀{i:Nat} {a:Addr},a∈(if i=0 then [h] else ([]:List Addr))->i=0/\a=h:=λ{i a} q=>by
  by_cases e:i=0
  ·rw[if_pos e]at q;exact⟨e,by simpa using q⟩
  ·rw[if_neg e]at q;cases q
 have oA:∀{i:Nat} {b:B},(iw N ok ds)[i]?=some (some b)->(i=0/\b=.hand ok)\/∃j d,i=j+1/\ds[j]?=some d/\b=.val true d:=λ{i b} q=>by
  unfold iw at q;cases i with
  |zero=>simp at q;exact .inl ⟨rfl,q.symm⟩
  |succ i =>
   rw[VY]at q;obtain⟨d,e,e'⟩:=rN q;exact .inr ⟨i,d,rfl,e,e'⟩
 refine⟨?_,λi y d q=>?_,λi d q=>?_,λi sg q=>?_,λi a q=>?_,λi j a h1 h2=>?_,λi=>?_,⟨λc o z _=>(iW z).2,λc xs z=>(iW z).2⟩,λ_ z=>(uH z).2,λi y d q=>(oA q).elim (λJn=> by obtain⟨_,e⟩ := Jn;cases e) (λJm=> by obtain⟨j,d',_,_,e'⟩ := Jm;cases e')⟩
 ·unfold iw start;simp[r.length]
 ·rcases oA q with⟨_,e⟩|⟨j,d',rfl,e,e'⟩
  ·cases e
  ·cases e';obtain⟨v,e1,e2⟩:=ai.get r e;refine⟨v,eh (by simpa using e1),aA.aT (λa z=>?_) e2⟩
   rcases z with (⟨j,q⟩|z)|z
   ·rw[(nZ q).2];exact hW
   ·exact(uH z).1
   ·exact z.elim
 ·rcases oA q with⟨_,e⟩|⟨j,d',_,_,e'⟩
  ·cases e
  ·cases e'
 ·rcases oA q with⟨e0,e⟩|⟨j,d',_,_,e'⟩
  ·cases e;subst e0;exact⟨h,ns,eh rfl,hh,ho,rfl,.inr rfl⟩
  ·cases e'
 ·obtain⟨_,rfl⟩:=nZ q;exact⟨by rw[hh];exact λz=>(nomatch z),λxs z=>(by rw[hh]at z;cases z),.inr rfl,λz=>z⟩
 ·rw[(nZ h1).1,(nZ h2).1]
 ·by_cases e:i=0
  ·simp[e]
  ·simp[e]
theorem HV {x qual:Str}{st:Stmt}{f:Addr}{fd:UW}{N ps:List Str}{k:Nat}{F:FD}{ok:List Int->Prop}(G:Ag K x qual st f fd)(S:aP N ps (aC st))(len:∀ds R,F ds R->ds.length+1=ps.length)
  (hX:∀(cG:TY) (A:U6) (outer:List Env) (s:T3) (H H0:Hp) (E:XK) (IO:Addr->Prop),cR k (A.deeper (W7 qual (aC st) s.heap.objs.size f cG)) ->
   ∃ψ,tf (lH cj P w K mg base N qual (aC st) f cG A outer s H E).Bx ⟨H0,IO,false,λ_=>False⟩ (di st) ψ/\∀ds R,F ds R->ψ {nx:=λ_=>False,rt:=λd β=>β[0]?=some (some (.hand ok))/\R d} (iw N ok ds)) :
  aR P w K mg base cj (k+1) f fd ps (tJ P w ok F):=by
 refine G.ok S (λvs H Q E h=>?_) (λcG A outer s H vs Q E hr h=>?_)
 ·obtain⟨W,h,vs',ds,ns,rfl,_,_,hh,ho,r,q⟩:=h;rw[Um,r.length];exact len ds _ q
 ·obtain⟨W,h,vs',ds,ns,rfl,hd,hW,hh,ho,r,q⟩:=h;obtain⟨ψ,hb,hF⟩:=hX cG A outer s H (oE W H) E (·=h) hr;refine⟨_,hb.ps,(H,_),_,iw N ok ds,⟨_,u7 hd hW hh ho r,Sn.refl⟩,hF ds _ q,λσ H' β sb z=>z.elim,λσ H' β d v sb rr ⟨b0,q⟩=>?_,λ_ _ _ _ z=>z.elim,λ_ _ _ _ z=>z.elim⟩;obtain⟨own,s',n'⟩:=sb;obtain⟨a,n_,g1,g2,g3,g4,g5⟩:=s'.jl 0 ok b0;have ea:a=h:=g5.elim (λz=>(z h rfl).elim) λz=>z;subst ea;refine q v H' n_ ⟨λc o e vX=>n'.k.out c o e λz=>?_,n'.k.tup⟩ n'.d g2 g3 (aA.aT (λc z=>?_) (show aA P w (λa=>oE W H a≠none) H' d v from rr))
  ·rcases z with⟨j,hj⟩|z
   ·have hj:c∈if j=0 then [a] else []:=hj
    by_cases ej:j=0
    ·rw[if_pos ej]at hj;exact vX (T_.mp hj)
    ·rw[if_neg ej]at hj;cases hj
   ·have z:H c=none:=z;rw[show H c=some o from e]at z
    cases z
  ·rw[Cr z];exact hd c z
end
section
variable {X:Cx}{C:Cfg}{k ih:Nat}{f:Addr}{fd:UW}{ps:List Str}{F:FD}{p:Bool}{x hx:Str}{pp pos px:Pos}{es:List Expr}{φs:bQ}{ok:List Int->Prop}
def Et (ih:Nat)(ok:List Int->Prop)(F:FD)(φs:bQ):a6:=λβ R=>β[ih]?=some (some (.hand ok))/\φs β λds ks β1=>β1[ih]?=some (some (.hand ok))/\hold (d7 ks) false/\F ds λd=>R d (d7 ks) β1
theorem pM (mF:d9 F)(G:aR X.prog X.w X.K X.mg X.base cj k f fd ps (tJ X.prog X.w ok F))(hr:cR k X.A)(hm:X.mg x=some (.ref f))(hk:PySem.W.keepIn X.K (.ref f)=true)(hb:Binds X.K fd ps [])(ha:oN X C p es φs)(hN:X.N[ih]?=some hx:=by rfl)
  (hv:lT X.env.scope hx:=by first|exact .inl rfl|exact .inr (.inl rfl)|exact .inr (.inr rfl)) (hd:(hx==("__debug__" : Str))=false:=by decide) (dJ:(hx==("__classdict__" : Str))=false:=by decide) (hg:Gl X x:=by rfl) (hdb:(x==("__debug__" : Str))=false:=by decide)
  (jk:Up (.Name hx px::es) X.env=(false,eval (.Name hx px) X.env)::Up es X.env:=by rfl) (hpl:(VT pos (Up es X.env)).any (·.1)=false:=by rfl) :
  PQ X C false (.Call (.Name x pp) (.Name hx px::es) [] pos) (Et ih ok F φs) :=
 ⟨λβ R R' k FC=>by obtain⟨e,h⟩:=FC;exact⟨e,ha.mono β _ _ (λds ks β1 FA=>by obtain⟨e,hh,q⟩:=FA;exact⟨e,hh,mF ds _ _ (λd q=>k _ _ _ q) q⟩) h⟩,
  (nY G hr hg hm hk hb .nil ym (bu (br (pos:=px) hN hv hd dJ) ha.pa jk) (hdb:=hdb) (he:=jk) (hpl:=hpl)).pre λσ H Q Fz=>by
  obtain⟨β,own,s,e,h⟩:=Fz;obtain⟨hh,ns,h1,h2,h3,h4⟩:=s.jl ih ok e;refine⟨.ref hh,h1,o_.of ha s h λds ks β1 vs H1 aE ⟨e1,ho,q⟩ o1 r1=>?_⟩;obtain⟨RU,Mk,g1,g2,g3,g4,g5⟩:=o1.sq.jl ih ok e1;rw[h1]at g1;cases g1;have wh:Wn aE hh:=⟨ih,by rw[g4];simp⟩
  rw[Vo];refine⟨av C (Wn aE) (d7 ks),hh,vs,ds,Mk,rfl,o1.sq.F7 _,?_,g2,g3,r1.gh,mF ds _ _ (λd q v H' n_ kp dn e' sg r=>?_) q⟩
  ·cases hk:d7 ks with
   |own=>exact .inl wh
   |cF=>exact .inl wh
   |old=>exact wh
   |bor=>rw[hk]at ho;exact ho.elim
  ·refine q v H' aE ⟨o1.sq.drawn e1 h1 kp e' sg dn,o1.sn.kp (kp.mono λb z=>by rw[z];exact wh) dn,λz=>(nomatch z),o1.le⟩ ?_
   have:=KV.of (Z:=(H,Wn own)) (k:=d7 ks) (C:=C) (own:=aE) (P:=X.prog) (w:=X.w) (H:=H') (d:=d) (v:=v) (by rw[e9];exact r)
   rw[e9]at this;exact this⟩
end
section
variable {X:Cx}{C:Cfg}{Z:Hp×(Addr->Prop)}{σ:St}{H H1:Hp}{β1:bb}{own aE:Nat->List Addr}{p:Bool}{i:Nat}{a:Addr}{ds:List D}{vs:List V}{E:eP}{De:Ends}
theorem ud (n:Sn Z H (Wn own))(o:Out X (C.u λa=>H a=none) σ H own p β1 H1 aE)(ha:H1 a=none)(rr:ai X.prog X.w (av (C.u λa=>H a=none) (Wn aE) .cF) H1 ds vs)(l6:i<β1.length)(ok:P4 X C Z E De)(q:E.nx (β1.set i (some (.shl true (.lst ds))))):De.nx (σ.set i (some (.ref a))) (upd H1 a (.lst vs)):=by
 have J8:H a=none:=o.sn.free ha;have h0:C.H0 a=none:=UJ λz=>o.sq.gc a z ha;have nw:¬ Wn aE a:=λz=>o.sq.uC a z ha;have s1:=o.sq.same (az.new (o:=.lst vs) ha);have s2:=s1.nL (i:=i) (jK (d:=.lst ds) (vs:=vs) rr rfl ar) (by simp) λc hc=>⟨by rw[T_.mp hc];exact h0,by rw[T_.mp hc];exact nw,by rw[T_.mp hc];exact J8⟩
 have s3:=s2.toShl (d:=.lst ds) (y:=true) (get_set l6) (get_set (by rw[<- o.sq.len];exact l6)) ⟨a,.lst vs,vs,rfl,by rw[os_eq],ar,rfl,(ai.grow (λc z=>?_) rr).same (az.new ha)⟩
 ·rw[V0]at s3;refine ok.nx _ _ _ ⟨_,s3,?_⟩ q;have m:=(n.trans o.sn).same (az.new (o:=.lst vs) ha);exact⟨λb Jl=> by
   obtain⟨j,hj⟩ := Jl
   by_cases aF:i=j
   ·rw[<- aF,os_eq]at hj;rw[T_.mp hj];exact .inr (n.free J8)
   ·rw[bg aF]at hj;exact m.w b ⟨j,hj⟩,m.k,m.d⟩
 ·rcases z with z|z
  ·rcases z with⟨j,hj⟩|z
   ·by_cases aF:i=j
    ·rw[<- aF,os_eq]at hj;rw[T_.mp hj];exact .inr ha
    ·rw[bg aF]at hj;exact .inl (.inl ⟨j,hj⟩)
   ·exact .inl (.inr z)
  ·exact z.elim
theorem ai.app {P:T7}{w:Ur}{W:Addr->Prop}{H:Hp}:∀{ds es:List D} {vs us:List V},ai P w W H ds vs->ai P w W H es us->ai P w W H (ds++es) (vs++us)
 |[],_,_,_,e,h=>by cases e;exact h
 |d::ds,_,_,_,⟨v,r,e,h1,h2⟩,h=>by subst e;exact⟨v,_,rfl,h1,ai.app h2 h⟩
end
section
variable {X:Cx}{C:Cfg}{e a b:Expr}{φ φa φb:a6}{i j k:Nat}{x y z:Str}{p p':Bool}{pos pos' pc pp:Pos}
theorem yj (he:∀U,PQ X (C.u U) p e φ) (hm:X.mg "list" = none) (hN:X.N.Nodup) (hi:X.N[i]?=some x:=by rfl) (hx:Loc X.env.scope x:=by first|exact .inl rfl|exact .inr rfl) (hg:Gl X "list" := by rfl)
  (hs:VI (.Call (.Name "list" pp) [e] [] pc) (some (.Name x pos')) pos.line X.env=pure false:=by rfl) (hf:X.fn x=true\/X.env.scope.names.lookup x=some .local:=by first|exact .inl rfl|exact .inr rfl|assumption)
  (jk:Up [e] X.env=(false,eval e X.env)::Up [] X.env:=by rfl) (hpl:(VT pc (Up [] X.env)).any (·.1)=false:=by rfl) :
  PB X C (.Assign [.Name x pos'] (.Call (.Name "list" pp) [e] [] pc) pos) (λE β=>φ β λd k β1=>∃ds,d=.lst ds/\IA k d/\i<β1.length/\E.nx (β1.set i (some (.shl true (.lst ds))))) :=
 ⟨λE E' β l h=>(he λ_=>False).mono _ _ _ (λd k β1 Jk=> by obtain⟨ds,h1,h2,h3,q⟩ := Jk;exact⟨ds,h1,h2,h3,l.nx _ q⟩) h,λpins s σ H De I Jj=> by
  obtain⟨Z,E,β,⟨own,sq,n⟩,q,ok⟩ := Jj;refine iF hN hi hx (iH fc hg hm jT (bu (he λa=>H a=none).pe cO jk) (by decide) (by decide) (he:=jk) (hpl:=hpl)) hs hf pins s σ H De I ?_
  refine tQ.of (he λa=>H a=none) (sq.gP (C:=C.z) (U:=λa=>H a=none) λa z=>z) q λd k β1 v H1 aE ⟨ds,e1,f,l6,q⟩ o r=>?_;subst e1;obtain⟨b,us,rfl,K_,nb,rb⟩:=r.yg f;exact⟨b,us,rfl,.inl (cQ.of K_),λl hl=>ud n o hl rb l6 ok q⟩⟩
theorem t_ (ha:∀U,PQ X (C.u U) p a φa)(hb:∀U,PQ X (C.u U) p' b φb)(hN:X.N.Nodup)(hi:X.N[i]?=some x:=by rfl)(hx:Loc X.env.scope x:=by first|exact .inl rfl|exact .inr rfl)
  (hs:VI (.BinOp a .Add b pc) (some (.Name x pos')) pos.line X.env=pure false:=by rfl) (hf:X.fn x=true\/X.env.scope.names.lookup x=some .local:=by first|exact .inl rfl|exact .inr rfl|assumption) :
  PB X C (.Assign [.Name x pos'] (.BinOp a .Add b pc) pos) (λE β=>φa β λd k β1=>IA k d/\k≠.bor/\φb β1 λd2 k2 β2=>∃ds es,d=.lst ds/\d2=.lst es/\IA k2 d2/\ds.length+es.length<=Ul/\i<β2.length/\E.nx (β2.set i (some (.shl true (.lst (ds++es)))))) :=
 ⟨λE E' β l h=>(ha λ_=>False).mono _ _ _ (λd k β1 Ji=> by obtain⟨h1,h2,q⟩ := Ji;exact⟨h1,h2,(hb λ_=>False).mono _ _ _ (λd2 k2 β2 Jh=> by obtain⟨ds,es,g1,g2,g3,g4,g5,q⟩ := Jh;exact⟨ds,es,g1,g2,g3,g4,g5,l.nx _ q⟩) q⟩) h,λpins s σ H De I Jg=> by
  obtain⟨Z,E,β,⟨own,sq,n⟩,q,ok⟩ := Jg;refine iF hN hi hx (cI sd (ha λa=>H a=none).pe (hb λa=>H a=none).pe) hs hf pins s σ H De I ?_;refine tQ.of (ha λa=>H a=none) (sq.gP (C:=C.z) (U:=λa=>H a=none) λa z=>z) q λd k β1 v H1 aE ⟨f,nb,q⟩ o r=>?_;refine tQ.of (hb λa=>H a=none) o.sq q λd2 k2 β2 v2 H2 bI ⟨ds,es,e1,e2,f2,hz,l6,q2⟩ o2 r2=>?_;subst e1 e2;obtain⟨l1,Qd,rfl,g1,_,r1⟩:=(KV.held (Z:=(H,Wn own)) nb r o2.sn).yg f;obtain⟨l2,Qc,rfl,g2,_,r2⟩:=r2.yg f2;exact⟨l1,l2,Qd,Qc,rfl,rfl,g1,g2,by rw[r1.length,r2.length];exact hz,λl hl=>ud n (o.trans o2) hl (ai.app r1 r2) l6 ok q2⟩⟩
theorem yi {p1 p2 p3 p4 p5 p6 p7 p8 p9 CV CU CT Md Mc:Pos}{k1 k2}(hc:X.calm=true)(hN:X.N[i]?=some x:=by rfl)(hv:lT X.env.scope x:=by first|exact .inl rfl|exact .inr (.inl rfl)|exact .inr (.inr rfl))(hd:(x==("__debug__" : Str))=false:=by decide)(dJ:(x==("__classdict__" : Str))=false:=by decide)
  (PD:X.N[j]?=some y:=by rfl) (O_:lT X.env.scope y:=by first|exact .inl rfl|exact .inr (.inl rfl)|exact .inr (.inr rfl)) (Pw:(y==("__debug__" : Str))=false:=by decide) (J4:(y==("__classdict__" : Str))=false:=by decide)
  (PC:X.N[k]?=some z:=by rfl) (O9:lT X.env.scope z:=by first|exact .inl rfl|exact .inr (.inl rfl)|exact .inr (.inr rfl)) (Pu:(z==("__debug__" : Str))=false:=by decide) (J3:(z==("__classdict__" : Str))=false:=by decide)
  (Rm:Up [.Subscript (.Name x p7) (.Name z p8) p9,.Subscript (.Name x CV) (.Name y CU) CT] X.env=(false,eval (.Subscript (.Name x p7) (.Name z p8) p9) X.env)::Up [.Subscript (.Name x CV) (.Name y CU) CT] X.env:=by rfl) (mS:Up [.Subscript (.Name x CV) (.Name y CU) CT] X.env=(false,eval (.Subscript (.Name x CV) (.Name y CU) CT) X.env)::Up [] X.env:=by rfl)
  (oS:XO [.Tuple [.Subscript (.Name x p1) (.Name y p2) p3,.Subscript (.Name x p4) (.Name z p5) p6] k1 Md] (.Tuple [.Subscript (.Name x p7) (.Name z p8) p9,.Subscript (.Name x CV) (.Name y CU) CT] k2 Mc) pos.line X.env=pure false:=by rfl)
  (Ft:XQ [.Tuple [.Subscript (.Name x p1) (.Name y p2) p3,.Subscript (.Name x p4) (.Name z p5) p6] k1 Md] (.Tuple [.Subscript (.Name x p7) (.Name z p8) p9,.Subscript (.Name x CV) (.Name y CU) CT] k2 Mc) X.env=pure none:=by rfl) :
  PB X C (.Assign [.Tuple [.Subscript (.Name x p1) (.Name y p2) p3,.Subscript (.Name x p4) (.Name z p5) p6] k1 Md] (.Tuple [.Subscript (.Name x p7) (.Name z p8) p9,.Subscript (.Name x CV) (.Name y CU) CT] k2 Mc) pos)
   (λE β=>∃ya yb ta tb ds m n dm dn,β[j]?=some (some (.val ya (.int ta)))/\β[k]?=some (some (.val yb (.int tb)))/\β[i]?=some (some (.shl true (.lst ds)))/\rl ds.length ta=some m/\rl ds.length tb=some n/\ds[m]?=some dm/\ds[n]?=some dn/\E.nx (β.set i (some (.shl true (.lst ((ds.set m dn).set n dm)))))) :=
 ⟨λE E' β l Jf=> by obtain⟨ya,yb,ta,tb,ds,m,n,dm,dn,h1,h2,h3,h4,h5,h6,h7,q⟩ := Jf;exact⟨ya,yb,ta,tb,ds,m,n,dm,dn,h1,h2,h3,h4,h5,h6,h7,l.nx _ q⟩,
  (kA (yh (bu (gn (pos:=p9) cX (br (pos:=p7) hN hv hd dJ) (br (pos:=p8) PC O9 Pu J3) (λ_ _=>rfl)) (bu (gn (pos:=CT) cX (br (pos:=CV) hN hv hd dJ) (br (pos:=CU) PD O_ Pw J4) (λ_ _=>rfl)) cO mS) Rm))
   (ye hc (kK (kL (br (pos:=p1) hN hv hd dJ) (br (pos:=p2) PD O_ Pw J4) set_list) (kK (kL (br (pos:=p4) hN hv hd dJ) (br (pos:=p5) PC O9 Pu J3) set_list) t5))) oS Ft).pre λDe σ H Je=> by
  obtain⟨Z,E,β,⟨own,sq,nn⟩,⟨ya,yb,ta,tb,ds,m,n,dm,dn,hy,hz,hb,hm,hn,em,en,q⟩,ok⟩ := Je;obtain⟨vy,sy,ry⟩:=sq.val j ya _ hy;obtain⟨vz,sz,rz⟩:=sq.val k yb _ hz;cases (show vy=.int ta from ry)
  cases (show vz=.int tb from rz)
  obtain⟨a,o1,vs,g1,g2,g3,g4,g5,_,_⟩:=sq.o4 hb;cases g4;have hl:=g5.length;obtain⟨vm,Sz,rm⟩:=ai.get g5 em;obtain⟨vn,Sw,rn⟩:=ai.get g5 en;have G1:jB vs tb=some vn:=by unfold jB;rw[show vs.length=ds.length from hl,hn];exact Sw
  have at2:jB vs ta=some vm:=by unfold jB;rw[show vs.length=ds.length from hl,hm];exact Sz
  refine⟨_,g1,_,sz,a,vs,tb,vn,rfl,rfl,cQ.of g3,G1,_,g1,_,sy,a,vs,ta,vm,rfl,rfl,cQ.of g3,at2,(by show 2<=Ul;decide),λt ht=>?_⟩
  have Fs:a≠t:=λz=>by rw[z,ht]at g3;cases g3
  have sm:az H (upd H t (.tup [vn,vm])):=az.new ht;have Qx:=sq.same sm;have n1:=nn.same sm;have ga:upd H t (.tup [vn,vm]) a=some (.lst vs):=by rw[aw Fs];exact g3
  have w1:av C.z (Wn own) .cF a:=.inl ⟨i,by rw[g2];simp⟩
  have Mv:Kp (av C.z (Wn own) .cF) (upd H t (.tup [vn,vm])) (upd (upd H t (.tup [vn,vm])) a (.lst (vs.set m vn))):=ot ga (λxs z=>by cases z) w1
  have PJ:ai X.prog X.w (av C.z (Wn own) .cF) (upd H t (.tup [vn,vm])) ds vs:=(ai.aT (λc z=>.inl z) g5).same sm;obtain⟨s2,hA,hw,ze⟩:=Qx.Ex (C:=C) (U:=λ_=>False) (d':=.lst (ds.set m dn)) (o:=.lst (vs.set m vn)) (vs':=vs.set m vn) hb g1 rfl ((ai.set ((aA.aT (λc z=>.inl z) rn).same sm) m PJ).keep Mv);have n2:=gC (C:=C) (i:=i) (o:=.lst (vs.set m vn)) (U:=λ_=>False) n1 (λ_ z=>z.elim) hw ze hA;refine⟨t,[vn,vm],rfl,uS.of ar,rfl,vn,[vm],rfl,_,g1,_,sy,a,vs,ta,m,rfl,rfl,ga,by rw[show vs.length=ds.length from hl];exact hm,vm,[],rfl,_,g1,_,sz,a,vs.set m vn,tb,n,rfl,rfl,ar,by rw[Xr,show vs.length=ds.length from hl];exact hn,rfl,?_⟩
  have l6:i<β.length:=(Ua.mp hb).1;have K9:(β.set i (some (.shl true (.lst (ds.set m dn)))))[i]?=some (some (.shl true (.lst (ds.set m dn)))):=get_set l6;have e2:aG own i [a]=own:=by
   funext j
   by_cases aF:i=j
   ·rw[<- aF,os_eq,g2]
   ·rw[bg aF]
  rw[e2]at s2 n2;have QC:=((aA.aT (λc z=>.inl z) rm:aA X.prog X.w (av C.z (Wn own) .cF) H dm vm).same sm).keep Mv;have g6:=(ai.set ((aA.aT (λc z=>.inl z) rn:aA X.prog X.w (av C.z (Wn own) .cF) H dn vn).same sm) m PJ).keep Mv;have Q6:Kp (av C.z (Wn own) .cF) (upd (upd H t (.tup [vn,vm])) a (.lst (vs.set m vn))) (upd (upd (upd H t (.tup [vn,vm])) a (.lst (vs.set m vn))) a (.lst ((vs.set m vn).set n vm))):=ot ar (λxs z=>by cases z) w1
  obtain⟨s3,Sa,Rj,Nb⟩:=s2.Ex (C:=C) (U:=λ_=>False) (d':=.lst ((ds.set m dn).set n dm)) (o:=.lst ((vs.set m vn).set n vm)) (vs':=(vs.set m vn).set n vm) K9 g1 rfl ((ai.set QC n g6).keep Q6);have n3:=gC (C:=C) (i:=i) (o:=.lst ((vs.set m vn).set n vm)) (U:=λ_=>False) n2 (λ_ z=>z.elim) Rj Nb Sa;rw[V0]at s3;exact ok.nx _ _ _ ⟨_,s3,n3⟩ q⟩
end
theorem CL {ds:List D}{x:Int}{h:Nat}(hx:x=(h:Int)):Ao (.lst ds) none (some x)=some (.lst (ds.take h)):=by
 subst hx;show some (D.lst (cutD _ _ _))=_;unfold cutD;rw[HT.kq,HT.nN,List.drop_zero]
 congr 2
 rcases Nat.le_total h ds.length with q|q
 ·rw[Nat.min_eq_left q,Nat.sub_zero]
 ·rw[Nat.min_eq_right q,Nat.sub_zero,Vi (T4 _),Vi q]
theorem tL {ds:List D}{x:Int}{h:Nat}(hx:x=(h:Int)):Ao (.lst ds) (some x) none=some (.lst (ds.drop h)):=by
 subst hx;show some (D.lst (cutD _ _ _))=_;unfold cutD;rw[HT.kq,HT.nN]
 congr 2
 rcases Nat.le_total h ds.length with q|q
 ·rw[Nat.min_eq_left q,Vi (by rw[Vv];lia)]
 ·rw[Nat.min_eq_right q,WO,List.take_zero,List.drop_eq_nil_of_le q]
theorem uh {l:List Int}{r:Int}(h0:0<=r)(h1:r<l.length):∃x,lS (.lst (l.map D.int)) (.int r)=some (.int x):=by
 obtain⟨n,rfl⟩:=VE h0;refine⟨l.getD n 0,ft rfl ?_⟩;rw[T6,UE,T5 (show n<l.length by lia)]
 rfl
theorem BI {l:List Int}{h:Nat}:(l.map D.int).take h=(l.take h).map D.int:=by rw[WE]
theorem BJ {l:List Int}{h:Nat}:(l.map D.int).drop h=(l.drop h).map D.int:=by rw[W_]
theorem qP {ds:List D}{n:Nat}(h:ds.length=n):wg [.lst ds]=some (.int (n:Int)):=by subst h;rfl
theorem b4 {l:List Int}:D.bW (l.map D.int)=true:=by
 have:=iS (f:=id) (l:=l);exact this
end L2.Q
namespace jw
open PySem L2 L2.Q
theorem zO:Ke (.int 10) (.int 39)=some (.int (10 ^ 39)):=by
 show (if tq 10 39 then _ else none)=_
 rw[if_pos (by decide)]
 rfl
def m9:FD:=λds R=>∃(k:Nat) (pp:List (List Int)),ds=[dg pp]/\Bd k pp/\k<=2/\pp≠[]/\∀qq,Bd (k+1) qq->R (dg qq)
theorem m9.mono:d9 m9:=λds R R' l ⟨k,pp,e,h1,h2,h3,q⟩=>⟨k,pp,e,h1,h2,h3,λqq h=>l _ (q qq h)⟩
section
variable {P:T7}{w:Ur}{K:PySem.W.Frag}{mg:Str->Option TY}{base:Heap}
theorem a7:aP ["hand","paper","at","line","here","number","far","way","other","longer","some","changed","found"] ["hand","paper"] (aC eV):=mkS
theorem Bt {Cc uw} (Cp:P6 K mg Cc uw) {zD lx} (dT:D1 K mg zD lx) (B:Bs3 mg):aR P w K mg base cj 2 Cc uw ["hand","paper"] (tJ P w fq m9):=by
 have GT:aR P w K mg base cj 1 _ _ _ (fB P w fq true bC):=iu (f7 dT.F);refine HV Cp.F a7 (λds R Jd=> by obtain⟨k,pp,e,_⟩ := Jd;subst e;rfl) λcG A outer s H H0 E IO hr=>⟨_,(ah (aO (i:=2) (aZ (ih:=0) bC.mono GT (hr.mono (by decide)) dT.m dT.F.kp dT.b (ab (bf af (bE.m dt) B.len iZ (ab (aa (i:=1)) ae)) ae)) a7.nd)
    (ah (aO (i:=3) (aH af bh (aa (i:=1)) (aa (i:=2))) a7.nd)
    (ah (aO (i:=4) (aZ (ih:=0) bC.mono GT (hr.mono (by decide)) dT.m dT.F.kp dT.b (ab (au ay aj (bf af (bE.m dt) B.len iZ (ab (aa (i:=3)) ae)) ag) ae)) a7.nd)
    (ah (aO (i:=5) (aH af bh (au ay aj (aa (i:=3)) (aV (ab ag ae))) (aa (i:=4))) a7.nd)
    (ah (aO (i:=6) (aH af bh (aV (ab (au ay aj (aa (i:=5)) ag) (ab (au af (bR.m a3) (aa (i:=5)) ag) (ab (au af (bR.m a3) (aa (i:=5)) ag) (ab ag (ab (au af (bR.m ua) ag ag) (ab (kG eS ag) (ab (au af (bR.m a3) ag (au af (bR.m ua) ag ag)) ae)))))))) (aZ (ih:=0) bC.mono GT (hr.mono (by decide)) dT.m dT.F.kp dT.b (ab ag ae))) a7.nd)
    (ah (aO (i:=7) (aZ (ih:=0) bC.mono GT (hr.mono (by decide)) dT.m dT.F.kp dT.b (ab ag ae)) a7.nd)
    (ah (aO (i:=8) (aZ (ih:=0) bC.mono GT (hr.mono (by decide)) dT.m dT.F.kp dT.b (ab (bf af (bE.m dt) B.len iZ (ab (aa (i:=1)) ae)) ae)) a7.nd)
    (ah (aO (i:=9) (au ay aj (au ay aj (dy (aa (i:=3)) bx (bw (aa (i:=4)))) (aV (ab (aa (i:=6)) ae))) (dy (aa (i:=3)) (bw (aa (i:=4))) bx)) a7.nd)
    (ah (aO (i:=10) (aV (ab (au ay aj (dy (aa (i:=3)) bx (bw (aa (i:=4)))) (dy (aa (i:=3)) (bw (au ay aj (aa (i:=4)) ag)) bx)) (ab (aa (i:=9)) (ab (aV ae) ae)))) a7.nd)
    (ah (b7 (aM af (bR.m fI) (aa (i:=7)) ag) (ah (aO (i:=11) (au ay aj (au ay aj (dy (aa (i:=3)) bx (bw (aa (i:=4)))) (aV (ab (aa (i:=6)) ae))) (dy (aa (i:=3)) (bw (au ay aj (aa (i:=4)) ag)) bx)) a7.nd)
    (ao (a_ (au ay aj (au ay aj (dy (aa (i:=1)) bx (bw (aa (i:=2)))) (aV (ab (aa (i:=11)) ae))) (dy (aa (i:=1)) (bw (au ay aj (aa (i:=2)) ag)) bx))))) ba)
    (ah (b7 (aM af (bR.m (cP hr.units)) (aa (i:=7)) ag) (ao (a_ (au ay aj (au ay aj (dy (aa (i:=1)) bx (bw (aa (i:=2)))) (aV (ab (aH af bh (aa (i:=10)) (aZ (ih:=0) bC.mono GT (hr.mono (by decide)) dT.m dT.F.kp dT.b (ab ag ae))) ae))) (dy (aa (i:=1)) (bw (au ay aj (aa (i:=2)) ag)) bx)))) ba)
    (ah (b7 (aM af (bR.m (cP hr.units)) (aa (i:=7)) ag) (ao (a_ (au ay aj (dy (aa (i:=1)) bx (bw (aa (i:=2)))) (dy (aa (i:=1)) (bw (au ay aj (aa (i:=2)) ag)) bx)))) ba)
    (ah (b7 (aM af (bR.m (cP hr.units)) (aa (i:=7)) ag) (ao (a_ (au ay aj (au ay aj (dy (aa (i:=1)) bx (bw (aa (i:=2)))) (aV (ab (aH af bh (aa (i:=1)) (aa (i:=8))) ae))) (dy (aa (i:=1)) (bw (aa (i:=2))) bx)))) ba)
    (ah (yj (i:=12) (λ_=>(aa (i:=1))) B.list a7.nd)
    (ah (yi (i:=12) (j:=2) (k:=8) rfl)
    (ao (a_ (jG (i:=12))))))))))))))))))),λds R h=>?_⟩
 obtain⟨k,pp,rfl,bd,hk,vX,q⟩:=h;have hpl:1<=pp.length:=List.length_pos_iff.mpr vX;have TH:=bd.1;have Iv:wg [dg pp]=some (.int (pp.length:Int)):=qP (by rw[TX])
 refine⟨rfl,_,rfl,trivial,_,Iv,trivial,rfl,trivial,(pp.length:Int),rfl,by lia,by lia,λr r0 r1=>?_⟩
 obtain⟨t,rfl⟩:=VE r0;have ht:t<pp.length:=by lia
 obtain⟨l,hl⟩:∃l,pp[t]?=some l:=⟨_,T5 ht⟩;have RM:=bd.2 l (UO hl);have FU:lS (dg pp) (.int (t:Int))=some (dq l):=ft rfl (by rw[T6,hl];rfl)
 have Ms:wg [dq l]=some (.int (l.length:Int)):=qP (by rw[TX])
 refine⟨_,rfl,trivial,_,rfl,_,FU,.inr ?_⟩;refine⟨rfl,_,rfl,trivial,_,Ms,trivial,_,rfl,trivial,rfl,trivial,(l.length:Int)+1,rfl,by lia,by lia,λr r0 r1=>?_⟩
 obtain⟨h,rfl⟩:=VE r0;have hh:h<=l.length:=by lia
 have N3:wj (dq l) (.lst [.int 0])=some (.lst ((l++[0]).map D.int)):=(ia (by rw[TX];show _+1<=_;lia)).trans (by rw[Ux];rfl)
 obtain⟨nu,Rx⟩:=uh (l:=l++[0]) (r:=(h:Int)) (by lia) (by rw[Ui];show _<((_+1:Nat):Int);lia)
 refine⟨_,rfl,trivial,trivial,uZ,_,N3,.inl ⟨b4,trivial,_,rfl,_,Rx,?_⟩⟩;refine⟨_,rfl,trivial,_,rfl,trivial,_,rfl,trivial,_,rfl,trivial,_,rfl,trivial,_,rfl,trivial,trivial,trivial,_,zO,trivial,_,rfl,rfl,trivial,trivial,trivial,_,zO,_,rfl,trivial,cw (by show 7<=1000;decide),trivial,?_⟩
 refine⟨rfl,trivial,rfl,trivial,7,rfl,by decide,by decide,λr r0 r1=>?_⟩
 obtain⟨fa,NH⟩:=uh (l:=[nu+1,nu-1,nu-1,0,10 ^ 39,-1,0-10 ^ 39]) (r:=r) r0 r1;refine⟨_,NH,?_⟩;refine⟨rfl,trivial,rfl,trivial,9,rfl,by decide,by decide,λwy w0 w1=>?_⟩
 refine⟨rfl,_,rfl,trivial,_,Iv,trivial,rfl,trivial,(pp.length:Int),rfl,by lia,by lia,λr r0 r1=>?_⟩
 obtain⟨u,rfl⟩:=VE r0;have hu:u<pp.length:=by lia
 have Dt:∀x:Nat,Ao (dq l) (some (x:Int)) none=some (.lst ((l.drop x).map D.int)):=λx=>(tL rfl).trans (by rw[BJ])
 have xm:Ao (dq l) none (some (h:Int))=some (.lst ((l.take h).map D.int)):=(CL rfl).trans (by rw[BI])
 have Du:Ao (dq l) (some ((h:Int)+1)) none=some (.lst ((l.drop (h+1)).map D.int)):=Dt (h+1);have zq:∀a b:List Int,a.length+b.length<=1000->wj (.lst (a.map D.int)) (.lst (b.map D.int))=some (.lst ((a++b).map D.int)):=λa b z=>(ia (by rw[TX,TX];lia)).trans (by rw[Ux])
 have Ts:(l.take h).length<=50:=by rw[Ut];lia
 have J2:∀x,(l.drop x).length<=50:=λx=>by rw[Vv];lia
 have Px:=J2 h;have TF:=J2 (h+1);refine⟨_,rfl,_,rfl,_,rfl,_,xm,.inl ⟨b4,trivial,_,rfl,trivial,uZ,_,zq (l.take h) [fa] (by show _+1<=_;lia),.inl ⟨b4,trivial,?_⟩⟩⟩
 refine⟨_,rfl,_,rfl,_,rfl,_,Dt h,.inl ⟨b4,_,zq (l.take h++[fa]) (l.drop h) (by rw[Ui];show _+1+_<=_;lia),.inl ⟨b4,?_⟩⟩⟩
 refine⟨_,rfl,_,rfl,_,rfl,_,xm,.inl ⟨b4,trivial,_,rfl,_,rfl,trivial,_,rfl,_,rfl,_,Du,.inl ⟨b4,_,zq (l.take h) (l.drop (h+1)) (by lia),.inl ⟨b4,trivial,_,rfl,trivial,Uh _,trivial,cw (by show 3<=1000;decide),.inr ?_⟩⟩⟩⟩
 have PX:∀x∈pp.take t,x.length<=41+(k+1):=λx hx=>by have:=bd.2 x (WJ hx);lia
 have PY:∀n,∀x∈pp.drop n,x.length<=41+(k+1):=λn x hx=>by have:=bd.2 x (List.mem_of_mem_drop hx);lia
 have dM:Ao (dg pp) none (some (t:Int))=some (.lst ((pp.take t).map dq)):=(CL rfl).trans (by rw[WE])
 have Ds:∀x:Nat,Ao (dg pp) (some (x:Int)) none=some (.lst ((pp.drop x).map dq)):=λx=>(tL rfl).trans (by rw[W_])
 have sX:Ao (dg pp) (some ((t:Int)+1)) none=some (.lst ((pp.drop (t+1)).map dq)):=Ds (t+1);have sZ:∀a b:List (List Int),a.length+b.length<=1000->wj (.lst (a.map dq)) (.lst (b.map dq))=some (.lst ((a++b).map dq)):=λa b z=>(ia (by rw[TX,TX];lia)).trans (by rw[Ux])
 have OY:(pp.take t).length=t:=by rw[Ut];lia
 have KW:∀x,(pp.drop x).length=pp.length-x:=λx=>Vv;have To:=KW (t+1);have Tq:=KW t;have put:∀c:List Int,c.length<=41+(k+1)->∀x,t<=x->Bd (k+1) (pp.take t++[c]++pp.drop x):=λc hc x hx=>by
  refine⟨?_,λy hy=>?_⟩
  ·rw[Ui,Ui,OY,KW];show t+1+_<=_;lia
  ·rcases Uq.mp hy with hy|hy
   ·rcases Uq.mp hy with hy|hy
    ·exact PX y hy
    ·rw[T_.mp hy];exact hc
   ·exact PY x y hy
 have Q1:(l.take h++[fa]++l.drop (h+1)).length<=41+(k+1):=by
  rw[Ui,Ui,Ut,Vv];show _+1+_<=_;lia
 have Q0:(l.take h++[fa]++l.drop h).length<=41+(k+1):=by
  rw[Ui,Ui,Ut,Vv];show _+1+_<=_;lia
 have QZ:(l.take h++l.drop (h+1)).length<=41+(k+1):=by
  rw[Ui,Ut,Vv];lia
 refine⟨_,rfl,trivial,_,rfl,_,rfl,mR (λh5=>?_) λh5=>?_⟩
 ·refine⟨_,rfl,_,rfl,_,rfl,_,xm,.inl ⟨b4,trivial,_,rfl,trivial,uZ,_,zq (l.take h) [fa] (by show _+1<=_;lia),.inl ⟨b4,trivial,?_⟩⟩⟩
  refine⟨_,rfl,_,rfl,trivial,_,rfl,_,rfl,_,Du,.inl ⟨b4,_,zq (l.take h++[fa]) (l.drop (h+1)) (by rw[Ui];show _+1+_<=_;lia),.inl ⟨b4,?_⟩⟩⟩
  refine⟨_,rfl,_,rfl,_,rfl,_,dM,.inr ⟨trivial,_,rfl,trivial,uZ,.inr ⟨_,sZ (pp.take t) [l.take h++[fa]++l.drop (h+1)] (by show _+1<=_;lia),.inr ⟨trivial,?_⟩⟩⟩⟩
  refine⟨_,rfl,_,rfl,trivial,_,rfl,_,rfl,_,sX,.inr ⟨_,sZ (pp.take t++[l.take h++[fa]++l.drop (h+1)]) (pp.drop (t+1)) (by rw[Ui];show _+1+_<=_;lia),.inr ⟨trivial,rfl,q _ (put _ Q1 _ (by lia))⟩⟩⟩
 refine⟨_,rfl,trivial,_,b6 _ _,_,rfl,mR (λh6=>?_) λh6=>?_⟩
 ·refine⟨_,rfl,_,rfl,_,rfl,_,dM,.inr ⟨trivial,_,rfl,trivial,rfl,trivial,rfl,trivial,3,rfl,by decide,by decide,λr r0 r1=>?_⟩⟩
  obtain⟨c,hc,zm⟩:∃c:List Int,lS (.lst [dq (l.take h++l.drop (h+1)),dq (l.take h++[fa]++l.drop h),dq []]) (.int r)=some (dq c)/\c.length<=41+(k+1):=by
   obtain⟨v,rfl⟩:=VE r0;have hv:v=0\/v=1\/v=2:=by lia
   rcases hv with rfl|rfl|rfl
   ·exact⟨_,rfl,QZ⟩
   ·exact⟨_,rfl,Q0⟩
   ·exact⟨[],rfl,Uh _⟩
  refine⟨_,hc,.inr ⟨trivial,uZ,.inr ⟨_,sZ (pp.take t) [c] (by show _+1<=_;lia),.inr ⟨trivial,?_⟩⟩⟩⟩
  refine⟨_,rfl,_,rfl,trivial,_,rfl,_,rfl,_,sX,.inr ⟨_,sZ (pp.take t++[c]) (pp.drop (t+1)) (by rw[Ui];show _+1+_<=_;lia),.inr ⟨trivial,rfl,q _ (put _ zm _ (by lia))⟩⟩⟩
 refine⟨_,rfl,trivial,_,b6 _ _,_,rfl,mR (λh7=>?_) λh7=>?_⟩
 ·refine⟨_,rfl,_,rfl,_,rfl,_,dM,.inr ⟨trivial,?_⟩⟩;refine⟨_,rfl,_,rfl,trivial,_,rfl,_,rfl,_,sX,.inr ⟨_,sZ (pp.take t) (pp.drop (t+1)) (by lia),.inr ⟨trivial,rfl,q _ ⟨?_,λy hy=>?_⟩⟩⟩⟩
  ·rw[Ui,OY,KW];lia
  ·exact(Uq.mp hy).elim (PX y) (PY _ y)
 have Nu:∃lu,pp[u]?=some lu/\lu.length<=41+k:=⟨_,T5 hu,bd.2 _ (Vz hu)⟩;obtain⟨lu,JR,RL⟩:=Nu;refine⟨_,rfl,trivial,_,b6 _ _,_,rfl,mR (λh8=>?_) λh8=>?_⟩
 ·have Rh:lS (dg pp) (.int (u:Int))=some (dq lu):=ft rfl (by rw[T6,JR];rfl)
  refine⟨_,rfl,_,rfl,_,rfl,_,dM,.inr ⟨trivial,_,rfl,trivial,_,rfl,_,Rh,.inr ⟨trivial,uZ,.inr ⟨_,sZ (pp.take t) [lu] (by show _+1<=_;lia),.inr ⟨trivial,?_⟩⟩⟩⟩⟩
  refine⟨_,rfl,_,rfl,_,rfl,_,Ds t,.inr ⟨_,sZ (pp.take t++[lu]) (pp.drop t) (by rw[Ui];show _+1+_<=_;lia),.inr ⟨trivial,rfl,q _ (put _ (by lia) _ (T4 _))⟩⟩⟩
 refine⟨_,rfl,_,rfl,trivial,by show 12<13;decide,?_⟩
 refine⟨_,_,(t:Int),(u:Int),_,t,u,dq l,dq lu,rfl,rfl,rfl,by rw[TX];exact vQ rfl ht,by rw[TX];exact vQ rfl hu,by rw[T6,hl];rfl,by rw[T6,JR];rfl,?_⟩
 have Sl:((pp.map dq).set t (dq lu)).set u (dq l)=((pp.set t lu).set u l).map dq:=by rw[List.map_set,List.map_set]
 rw[Sl];refine⟨_,rfl,trivial,rfl,q ((pp.set t lu).set u l) ⟨by rw[Xr,Xr];lia,λy hy=>?_⟩⟩
 rcases YI hy with hy|rfl
 ·rcases YI hy with hy|rfl
  ·have:=bd.2 y hy;lia
  ·lia
 ·lia
end
theorem Fc {K:PySem.W.Frag}:PySem.W.kitOne K (.type "bool") (.type "bool")=some true:=by rfl
def ly:FD:=λds R=>∃(n:Nat) (ps:List (Nat×Nat)) (pp:List (List Int)),ds=[gk n ps,dg pp]/\CH n ps/\n<=40/\Ae pp/\R (.bl true)
theorem ly.mono:d9 ly:=λds R R' k ⟨n,ps,pp,e,h1,h2,h3,q⟩=>⟨n,ps,pp,e,h1,h2,h3,k _ q⟩
section
variable {P:T7}{w:Ur}{K:PySem.W.Frag}{mg:Str->Option TY}{base:Heap}
theorem lX:aP ["row"] ["row"] (aC df):=mkS
theorem vA {wb m8} (DB:Oh K mg wb m8) (B:Bs mg):aR P w K mg base cj 1 wb m8 ["row"] (ik P w true qJ):=by
 refine wO DB.F lX (λds R Jc=> by obtain⟨n,ps,e,_⟩ := Jc;subst e;rfl) λcG A outer s H E hr=>⟨_,(ao (a_ (cB (ab (aH af bh (aa (i:=0)) ag) (ab (fZ ay ju B.list jT (ab (aH af bh (aa (i:=0)) ag) ae)) ae))))),λds R h=>?_⟩
 obtain⟨n,ps,rfl,q⟩:=h;exact⟨_,rfl,trivial,_,rfl,trivial,_,rfl,trivial,_,rfl,.inr ⟨trivial,_,rfl,.inl ⟨zC,trivial,rh,trivial,q⟩⟩⟩
theorem cz:aP ["row","paper","due","handed","again","found"] ["row","paper"] (aC dO):=mkS
theorem yw {Ca ur} (GX:P5 K mg Ca ur) {wb m8} (DB:Oh K mg wb m8) {v_ m7} (DA:Oi K mg v_ m7) {v9 m6} (Dx:Ol K mg v9 m6) {qA jo} (Aq:Ln K mg qA jo) {me gy} (wV:D9 K mg me gy) {l_ gw} (wR:D5 K mg l_ gw) {l9 gv} (wQ:D4 K mg l9 gv) {md gx} (wU:D7 K mg md gx) {jA fu} (uE:D6 K mg jA fu) {qz jn} (Ap:D8 K mg qz jn) (B:KC mg):aR P w K mg base cj 5 Ca ur ["row","paper"] (ik P w true ly):=by
 have S7:aR P w K mg base cj 1 _ _ _ (ik P w true qJ):=vA DB B.toBs;have S4:aR P w K mg base cj 1 _ _ _ (ik P w true fN):=yx DA B.toBs3;have SV:aR P w K mg base cj 4 _ _ _ (ik P w true fN):=yv Dx Aq wV wR wQ wU uE Ap B;refine wO GX.F cz (λds R Jb=> by obtain⟨n,ps,pp,e,_⟩ := Jb;subst e;rfl) λcG A outer s H E hr=>⟨_,(ah (aO (i:=2) (bY fN.mono S4 (hr.mono (by decide)) DA.m DA.F.kp DA.b (ab (aa (i:=0)) (ab (aa (i:=1)) ae))) cz.nd)
    (ah (aO (i:=3) (cB (ab (bY qJ.mono S7 (hr.mono (by decide)) DB.m DB.F.kp DB.b (ab (aa (i:=0)) ae)) (ab (C4 ["line"] [none] (by rfl) (by decide:(["line"]:List Str).Nodup) rfl (aY (aa (i:=1))) (λ_ _ _ _ _ _=>(ak (i:=0) (by decide:(["line"]:List Str).Nodup))) (λ_ _ _ _ _ _=>bJ) (λ_ _ _ _ _ _=>(fZ ay ju B.list jT (ab (aa (i:=0)) ae)))) ae))) cz.nd)
    (ah (bB UR rfl (aX B.range (ab ag ae)) (ak (i:=4) cz.nd) (ah (aO (i:=5) (bY fN.mono SV (hr.mono (by decide)) Dx.m Dx.F.kp Dx.b (ab (aH af bh (aa (i:=3)) ag) (ab (aH af bh (aa (i:=3)) ag) ae))) cz.nd)
    (ao (b7 (wX.t (nS (nU (jF (EB (A4 B.Rb (xU (i:=5)) B.bool Cy)))) (nS (aM af (bR.m (iI hr.units)) (aa (i:=5)) (aa (i:=2))) (nR (aM af (bR.m (iI hr.units)) (aa (i:=3)) (cB (ab (aa (i:=0)) (ab (aa (i:=1)) ae)))))))) (ao (a_ fF)) ba))))
    (ao (a_ fF))))),λds R h=>?_⟩
 obtain⟨n,ps,pp,rfl,ok,hn,hb,q⟩:=h;have K_:=hb.1;have KN:(dg pp).pd.canLay0=true/\(dg pp).pd.depth<=3:=dk λd hd=>by
  obtain⟨l,_,rfl⟩:=UG.mp hd;exact ck l
 refine⟨_,rfl,trivial,_,rfl,trivial,n,ps,pp,rfl,ok,hn,hb,λb1 PN=>?_⟩;refine⟨_,rfl,trivial,n,ps,rfl,trivial,_,rfl,_,rfl,trivial,?_⟩;refine dB (λ_=>true) (λl:List Int=>dq l) trivial (cw (by lia)) (λl hl x0 o J ho j1 _=>⟨_,rfl,trivial,_,rfl,.inl ⟨b4,trivial,ho,j1 rfl _⟩⟩) ?_
 rw[a8];refine⟨trivial,rh,trivial,2,rfl,by decide,by decide,trivial,?_⟩
 refine⟨λ_ β=>∃x4 x5,β=[some (.val false (gk n ps)),some (.val false (dg pp)),some (.val true (.bl b1)),some (.val true (.tup [gk n ps,dg pp])),x4,x5],⟨_,_,rfl⟩,?_,?_⟩
 ·rintro i d β hd ⟨x4,x5,rfl⟩;obtain⟨_,rfl⟩:=bc hd;refine⟨_,rfl,trivial,_,rfl,trivial,_,rfl,trivial,_,rfl,.inr ⟨trivial,n,ps,pp,rfl,ok,hn,hb,λb2 PM=>?_⟩⟩;have SA:b2=b1:=by
   cases b1 with
   |true=>exact PM.mpr (PN.mp rfl)
   |false=>cases b2 with
    |false=>rfl
    |true=>exact absurd (PN.mpr (PM.mp rfl)) (by decide)
  subst SA;refine⟨_,rfl,_,_,rfl,Fc,rfl,_,rfl,vV rfl ⟨_,rfl,trivial,_,rfl,_,lF (xF _),_,rfl,vV rfl ?_⟩⟩;have Qy:(D.tup [gk n ps,dg pp]).pd.canLay0=true/\(D.tup [gk n ps,dg pp]).pd.depth<=5:=iA λd hd=>by
   simp only[Uc,VJ,or_false]at hd;rcases hd with rfl|rfl
   ·exact xD n ps
   ·exact⟨KN.1,by have:=KN.2;lia⟩
  exact⟨_,rfl,trivial,_,rfl,trivial,_,rfl,trivial,rh,.inr ⟨_,lF Qy,_,rfl,vV rfl ⟨_,_,rfl⟩⟩⟩
 ·rintro β ⟨x4,x5,rfl⟩;exact⟨trivial,q⟩
end
section
variable {P:T7}{w:Ur}{K:PySem.W.Frag}{mg:Str->Option TY}{base:Heap}
theorem dZ:aP ["script","cell","hand","row","papers","some","turn","once","paper"] ["script"] (aC kn):=mkS
def xA (K:PySem.W.Frag):Sp:=λvs H Q _=>∃(a:Addr) (ns:List Int),vs=[.ref a]/\cQ K H a (ns.map V.int)/\ns.length<=63/\∀H',Q (.bl true) H'
def JL (β:Q.bb):Prop:=∃y0 y1 y2 y3 y4 y5 y6 y7 y8:Option Q.B,β=[y0,y1,y2,y3,y4,y5,y6,y7,y8]
theorem ER {f:Addr} {fd:UW} (F:Ag K "law" "law" kn f fd) (B:KC mg) {Ca ur} (GX:P5 K mg Ca ur) {wb m8} (DB:Oh K mg wb m8) {v_ m7} (DA:Oi K mg v_ m7) {v9 m6} (Dx:Ol K mg v9 m6) {qA jo} (Aq:Ln K mg qA jo) {me gy} (wV:D9 K mg me gy) {l_ gw} (wR:D5 K mg l_ gw) {l9 gv} (wQ:D4 K mg l9 gv) {md gx} (wU:D7 K mg md gx) {jA fu} (uE:D6 K mg jA fu) {qz jn} (Ap:D8 K mg qz jn) {Sg NT} (dH:S8 K mg Sg NT) {zD lx} (dT:D1 K mg zD lx) {Dp qw} (dA:D0 K mg Dp qw) {GV v7} (dI:D2 K mg GV v7) {Lc B_} (dR:D3 K mg Lc B_) {v8 mZ} (Dw:Oj K mg v8 mZ) {Cc uw} (Cp:P6 K mg Cc uw) {Cb uv} (GY:P7 K mg Cb uv):aR P w K mg base cj 6 f fd ["script"] (xA K):=by
 have GH:aR P w K mg base cj 1 _ _ _ (ik P w true qI):=F0 (Br dH.F ⟨B.max,B.min,B.int⟩);have GT:aR P w K mg base cj 1 _ _ _ (fB P w fq true bC):=iu (f7 dT.F);have GR:aR P w K mg base cj 4 _ _ _ (fB P w fq true zG):=EN dR dT dA dI B.toBs;have SY:aR P w K mg base cj 2 _ _ _ (fB P w fq false hZ):=vx GY dT Dw B.toBs3;have P2:aR P w K mg base cj 2 _ _ _ (tJ P w fq m9):=Bt Cp dT B.toBs3;have SW:aR P w K mg base cj 5 _ _ _ (ik P w true ly):=yw GX DB DA Dx Aq wV wR wQ wU uE Ap B;refine F.ok dZ (λvs H Q E h=>?_) (λcG A outer s H vs Qk E hr h=>?_)
 ·obtain⟨a,ns,rfl,_⟩:=h;rfl
 ·obtain⟨a,ns,rfl,hS,hlen,k⟩:=h;have Nv:∀b:Addr,¬ (λ_=>False) b:=λb z=>z;obtain⟨ψ,hb,hψ⟩:∃ψ,Q.tf (lH cj P w K mg base ["script","cell","hand","row","papers","some","turn","once","paper"] "law" (aC kn) f cG A outer s H E).Bx ⟨H,λ_=>False,true,λ_=>False⟩ (match (di kn)with | .For _ _ b _ _::_=>b|_=>[]) ψ /\
    ∀(c:Int) (x0 x2 x3 x4 x5 x6 x7 x8:Option Q.B),ψ {nx:=JL,rt:=λd _=>d=.bl true,bk:=JL,ct:=JL} [x0,some (.val true (.int c)),x2,x3,x4,x5,x6,x7,x8]:=by
   refine⟨_,(ah (Bc (i:=2) fq Nv (λ_=>(bY qI.mono GH (hr.mono (by decide)) dH.m dH.F.kp dH.b (ab (aa (i:=1)) ae))) dZ.nd)
    (ah (aO (i:=3) (aZ (ih:=2) zG.mono GR (hr.mono (by decide)) dR.m dR.F.kp dR.b ae) dZ.nd)
    (ah (aO (i:=4) (aZ (ih:=2) hZ.mono SY (hr.mono (by decide)) GY.m GY.F.kp GY.b (ab (aa (i:=3)) ae)) dZ.nd)
    (ah (t_ (i:=5) (λ_=>(aV (ab (aV ae) ae))) (λ_=>(aa (i:=4))) dZ.nd)
    (ah (bB UR rfl (aX B.range (ab ag ae)) (ak (i:=6) dZ.nd) (ah (aO (i:=7) (pM (ih:=2) m9.mono P2 (hr.mono (by decide)) Cp.m Cp.F.kp Cp.b (ab (aH af bh (aa (i:=4)) (aZ (ih:=2) bC.mono GT (hr.mono (by decide)) dT.m dT.F.kp dT.b (ab ag ae))) ae)) dZ.nd)
    (ah (t_ (i:=5) (λ_=>(jG (i:=5))) (λ_=>(aV (ab (aa (i:=7)) ae))) dZ.nd)
    (ao (b7 (aM af (bR.m (iI hr.units)) (aa (i:=7)) (aV ae)) (ao (jI (i:=5) (λ_=>(pM (ih:=2) m9.mono P2 (hr.mono (by decide)) Cp.m Cp.F.kp Cp.b (ab (aa (i:=7)) ae))))) ba)))))
    (ao (bB UR rfl (aY (jG (i:=5))) (ak (i:=8) dZ.nd) (ao (b7 (nU (jF (bY ly.mono SW (hr.mono (by decide)) GX.m GX.F.kp GX.b (ab (aa (i:=3)) (ab (aa (i:=8)) ae))))) (ao (a_ fF)) ba))))))))),λc x0 x2 x3 x4 x5 x6 x7 x8=>?_⟩
   refine⟨_,rfl,trivial,c,rfl,λns hk=>⟨trivial,(by show 2<9;decide),ns,rfl,hk,?_⟩⟩
   refine⟨rfl,rfl,trivial,rfl,λn ts n0 n1 dr=>?_⟩;obtain⟨hl,tr,sr,nd⟩:=dr;obtain⟨m,ps,ok,en,TQ,er⟩:=AU n0 (by lia) (by lia) tr nd
   rw[er];have hm:m<=40:=by lia
   refine⟨rfl,_,rfl,trivial,rfl,trivial,m,ps,rfl,ok,hm,λls Pk Ph=>?_⟩;have Kq:∀{a b:Nat} {pp:List (List Int)},a<=b->Bd a pp->Bd b pp:=λGO h=>⟨by have:=h.1;lia,λl hl=>by have:=h.2 l hl;lia⟩
   refine⟨Uh _,trivial,uZ,trivial,λz=>(nomatch z),_,rfl,[dg []],_,rfl,rfl,trivial,by rw[TX,Pk];decide,by show 5<9;decide,?_⟩
   refine⟨trivial,4,rfl,by decide,by decide,trivial,?_⟩
   refine⟨λi β=>i<=4/\∃ss x6 x7 x8,β=[x0,some (.val true (.int c)),some (.hand fq),some (.val true (gk m ps)),some (.val true (.lst (ls.map dg))),some (.shl true (.lst (ss.map dg))),x6,x7,x8]/\(∀pp∈ss,Bd 2 pp)/\ss.length<=7+2*i,⟨Uh _,[]::ls,x6,x7,x8,rfl,λpp hp=>?_,by rw[Um,Pk];decide⟩,?_,?_⟩
   ·rcases Uc.mp hp with rfl|hp
    ·exact⟨Uh _,λl hl=>nomatch hl⟩
    ·exact Kq (by lia) (Ph pp hp).1
   ·rintro i d β hd ⟨_,ss,y6,y7,y8,rfl,MK,GD⟩;have hi:i<4:=by
     have:=(Ua.mp hd).1
     rwa [bp]at this
    obtain⟨_,rfl⟩:=bc hd;refine⟨rfl,_,rfl,trivial,rfl,trivial,rfl,trivial,6,rfl,by decide,by decide,λr r0 r1=>?_⟩
    obtain⟨v,rfl⟩:=VE r0;have hv:v<ls.length:=by lia
    have FU:lS (.lst (ls.map dg)) (.int (v:Int))=some (dg ls[v]):=ft rfl (by rw[T6,T5 hv];rfl)
    have Dh:=Ph ls[v] (Vz hv);refine⟨_,FU,.inr ⟨trivial,rfl,trivial,0,ls[v],rfl,Dh.1,by lia,Dh.2,λqq hq=>?_⟩⟩
    refine⟨_,rfl,trivial,λz=>(nomatch z),_,rfl,trivial,uZ,.inr ⟨_,[dg qq],rfl,rfl,trivial,?_,by show 5<9;decide,?_⟩⟩
    ·rw[TX];show _+1<=_;exact cw (by lia)
    have Sm:ss.map dg++[dg qq]=(ss++[qq]).map dg:=by rw[Ux];rfl
    rw[Sm];have IV:∀pp∈ss++[qq],Bd 2 pp:=λpp hp=>by
     rcases Uq.mp hp with hp|hp
     ·exact MK pp hp
     ·rw[T_.mp hp];exact Kq (by lia) hq
    have Rl:(ss++[qq]).length<=8+2*i:=by rw[Ui];show _+1<=_;lia
    have KN:(dg qq).pd.canLay0=true/\(dg qq).pd.depth<=3:=dk λd hd=>by
     obtain⟨l,_,rfl⟩:=UG.mp hd;exact ck l
    have Sv:Dz (dg qq) (.lst [])=some (.bl (!decide (qq=[]))):=oD (c:=decide (qq=[])) (c9 KN) (c9 (ck [])) (by cases qq <;> rfl)
    refine⟨_,rfl,trivial,Uh _,_,Sv,_,rfl,?_⟩
    by_cases MM:qq=[]
    ·exact vV (by rw[decide_eq_true MM];rfl) ⟨hi,ss++[qq],_,_,_,rfl,IV,by lia⟩
    ·refine Fo (by rw[decide_eq_false MM];rfl) ?_
     refine⟨⟨_,rfl⟩,rfl,_,rfl,trivial,rfl,trivial,1,qq,rfl,hq,by lia,MM,λrr l5=>⟨trivial,_,rfl,by rw[TX];exact fA (by lia),?_⟩⟩
     have NY:(ss++[qq]).map dg++[dg rr]=(ss++[qq]++[rr]).map dg:=by rw[Ux (l₂:=[rr])];rfl
     rw[NY];refine⟨hi,ss++[qq]++[rr],_,_,_,rfl,λpp hp=>?_,by rw[Ui];show _+1<=_;lia⟩
     rcases Uq.mp hp with hp|hp
     ·exact IV pp hp
     ·rw[T_.mp hp];exact l5
   ·rintro β ⟨_,ss,y6,y7,y8,rfl,MK,GD⟩;refine⟨_,rfl,_,rfl,trivial,?_⟩;refine⟨λi β=>∃z5 z8,β=[x0,some (.val true (.int c)),some (.hand fq),some (.val true (gk m ps)),some (.val true (.lst (ls.map dg))),z5,y6,y7,z8],⟨_,_,rfl⟩,?_,?_⟩
    ·rintro i d β hd ⟨z5,z8,rfl⟩;rw[T6]at hd;obtain⟨pp,Am,rfl⟩:=Uk.mp hd;have hb:=MK pp (UO Am);exact⟨_,rfl,trivial,_,rfl,trivial,m,ps,pp,rfl,ok,hm,⟨by have:=hb.1;lia,λl hl=>by have:=hb.2 l hl;lia⟩,_,rfl,vV rfl ⟨_,_,rfl⟩⟩
    ·rintro β ⟨z5,z8,rfl⟩;exact⟨_,_,_,_,_,_,_,_,_,rfl⟩
  refine⟨_,dw (xX UR rfl (nV (cI sd (nX (bu (cI kP bt bt) cO)) (pO tK (pv 0) tX (tV bt)))) (Q.ak (C:=⟨H,λ_=>False,true,λ_=>False⟩) (i:=1) dZ.nd).pg hb.ps) (gV (iG CS)),?_⟩;obtain⟨ms,em,hm⟩:=wm ns none (some 4);refine⟨_,_,rfl,rfl,yd,(by show 1<=Ul;decide),λp1 JN=>⟨_,rfl,_,rfl,a,_,rfl,(az.new JN).seq hS,λp2 K1=>?_⟩⟩
  have QV:p1≠p2:=cn ar K1;refine⟨p1,p2,_,_,rfl,rfl,(by rw[aw QV];exact ar),ar,(by rw[em,TX,U8,V5];lia),λl hl=>⟨l,rfl,⟨_,cQ.of ar⟩,?_⟩⟩
  rw[em];rw[em]at hl;have sm:az H (upd (upd (upd H p1 (.lst [V.int (10 ^ (18:Int).toNat)])) p2 (.lst (ms.map V.int))) l (.lst ([V.int (10 ^ (18:Int).toNat)]++ms.map V.int))):=((az.new JN).trans (az.new (by rw[em]at *;exact K1))).trans (az.new hl)
  have mT:(upd (upd (upd H p1 (.lst [V.int (10 ^ (18:Int).toNat)])) p2 (.lst (ms.map V.int))) l (.lst ([V.int (10 ^ (18:Int).toNat)]++ms.map V.int))) l=some (.lst (((10 ^ (18:Int).toNat)::ms).map V.int)):=ar;generalize (upd (upd (upd H p1 (.lst [V.int (10 ^ (18:Int).toNat)])) p2 (.lst (ms.map V.int))) l (.lst ([V.int (10 ^ (18:Int).toNat)]++ms.map V.int)))=H1 at sm mT ⊢
  generalize ((10 ^ (18:Int).toNat)::ms)=cs at mT;let X:Cx:=(lH cj P w K mg base ["script","cell","hand","row","papers","some","turn","once","paper"] "law" (aC kn) f cG A outer s H E).Bx
  let C:Q.Cfg:=⟨H,λ_=>False,true,λ_=>False⟩
  have it:uU X (λ_=>False) (Lm K l) (cs.map D.int) H1:=lb mT (λz=>z) (bO cs);have C8:=it (λb=>(λ_=>False) b\/H1 b=none) λb z=>z;have s':Q.bG P w C.z (L2.start ["script","cell","hand","row","papers","some","turn","once","paper"] [.ref a]) H1 (UL 9 none) (λ_=>[]):=AH (by rfl) sm
  generalize RX:cs.map D.int=ds at C8;have hint:∀d∈ds,∃c:Int,d=.int c:=λd hd=>by
   rw[<- RX]at hd;obtain⟨c,_,rfl⟩:=UG.mp hd;exact⟨c,rfl⟩
  refine⟨λi m σ H'=>i<=ds.length/\m=ds.length-i/\∃β,Q.SB X C (H1,Q.Wn λ_=>[]) σ H' β/\JL β,⟨_,Uh _,rfl,_,⟨_,s',Sn.refl⟩,⟨_,_,_,_,_,_,_,_,_,rfl⟩⟩,?_⟩;rintro i m σ2 H2 ⟨hi,rfl,β2,⟨bI,s2,n2⟩,⟨y0,y1,y2,y3,y4,y5,y6,y7,y8,rfl⟩⟩;obtain⟨bS,l3⟩:=C8 i H2 (n2.k.mono λb z=>z.imp (λJa=> by obtain⟨_,q⟩ := Ja;exact(nomatch q)) id)
  by_cases d8:i<ds.length
  ·right
   have hd:ds[i]?=some ds[i]:=T5 d8;obtain⟨go,yl⟩:=bS _ hd;obtain⟨c,hc⟩:=hint ds[i] (Vz d8);refine⟨go,λσ' H'=>∃β,Q.SB X C (H1,Q.Wn λ_=>[]) σ' H' β/\JL β,λσ' H' I_=> by obtain⟨β',AS,sN⟩ := I_;exact⟨_,by lia,d8,rfl,β',AS,sN⟩,λx H3 y=>?_⟩
   obtain⟨s3,r3⟩:=yl x H3 y;rw[hc]at r3;refine⟨bI,_,.int c,.own,s2.same s3,aA.flat rfl r3,λσ4 pQ s4 w4 _=>?_⟩;exact⟨(H1,Q.Wn λ_=>[]),{nx:=JL,rt:=λd _=>d=.bl true,bk:=JL,ct:=JL},_,⟨pQ,s4,Q.gT (n2.same s3) w4⟩,hψ c y0 y2 y3 y4 y5 y6 y7 y8,⟨λσ5 H5 β5 ve q5=>⟨β5,ve,q5⟩,λσ5 H5 β5 d5 v5 ve r5 q5=>by
    subst q5;cases (show v5=V.bl true from Hu r5)
    exact k _,λσ5 H5 β5 ve q5=>k _,λσ5 H5 β5 ve q5=>⟨β5,ve,q5⟩⟩⟩
  ·left
   have e:i=ds.length:=by lia
   subst e;exact⟨l3 (T4 _),k _⟩
end
theorem jy {α:Type}{P:List α->Prop}(h:∀a,P [a]):∀us:List α,us.length=1->P us:=λus e=>by
 obtain⟨a,rfl⟩:=List.length_eq_one_iff.mp e;exact h a
theorem l0 {α:Type}{P:List α->Prop}(h:∀a b,P [a,b]):∀us:List α,us.length=2->P us:=λus e=>by
 cases us with
 |nil=>cases e
 |cons a us=>exact jy (P:=λus=>P (a::us)) (h a) us (Xg e)
theorem Iy {α:Type}{P:List α->Prop}(h:∀a b c,P [a,b,c]):∀us:List α,us.length=3->P us:=λus e=>by
 cases us with
 |nil=>cases e
 |cons a us=>exact l0 (P:=λus=>P (a::us)) (h a) us (Xg e)
theorem Mt {α:Type}{P:List α->Prop}(h:∀a b c d,P [a,b,c,d]):∀us:List α,us.length=4->P us:=λus e=>by
 cases us with
 |nil=>cases e
 |cons a us=>exact Iy (P:=λus=>P (a::us)) (h a) us (Xg e)
theorem Iw {α:Type}{P:List α->Prop}(h:∀a b c d e,P [a,b,c,d,e]):∀us:List α,us.length=5->P us:=λus e=>by
 cases us with
 |nil=>cases e
 |cons a us=>exact Mt (P:=λus=>P (a::us)) (h a) us (Xg e)
theorem zw {K:PySem.W.Frag}{x m:Str}{st:Stmt}{t c f:Nat}(l:K.lookup f=some (kF st x m t c))(cd:PySem.W.codeIn K (.ref c) x=true)(k:PySem.W.keepIn K (.ref f)=true):Ag K x x st f (KY st x m t c):=F3 l cd k
theorem cD {K:PySem.W.Frag}{h:Heap}{mg:Str->Option TY}{x m:Str}{st:Stmt}{t c f:Nat}{ps:List Str}(X:K.In h)(G:h.Ns VC mg)(l:K.lookup f=some (kF st x m t c))(cd:PySem.W.codeIn K (.ref c) x=true)(k:PySem.W.keepIn K (.ref f)=true)
  (a:PySem.W.nsIn K VC x=some (some (.ref f))) (b:∀us:List TY,us.length=ps.length->bindArgs (KY st x m t c) ⟨us,[]⟩=pure (ps.zip us)):Df K mg x st ps f (KY st x m t c):=⟨zw l cd k,.all b,PySem.W.mg_of X G a⟩
theorem all_mk {l:PySem.W.OpenLaw} (w:Ur) (mg:Str->Option TY) (fa:Addr) (h:Heap) (X:(KK w.params).In h) (G:h.Ns VC mg) (NH:mg "law" = some (.ref fa))   :∃fd:UW,(∀(s:T3) (v:TY),BindsTo s fd ⟨[v],[]⟩ [("script",v)])/\∀base:Heap,(KK w.params).In base->base.Ns VC mg->aR l.prog w (KK w.params) mg base cj 6 fa fd ["script"] (xA (KK w.params)):=by
 have e:=NH.symm.trans (PySem.W.mg_of X G (v:=.ref 132) (by kernel_rfl))
 cases e;have Ii:=PySem.W.mg_none_of X G (n:="max") (by kernel_rfl)
 have Ih:=PySem.W.mg_none_of X G (n:="min") (by kernel_rfl)
 have Ik:=PySem.W.mg_none_of X G (n:="int") (by kernel_rfl)
 have BF:=PySem.W.mg_none_of X G (n:="range") (by kernel_rfl)
 have yE:=PySem.W.mg_none_of X G (n:="sorted") (by kernel_rfl)
 have Ig:=PySem.W.mg_none_of X G (n:="set") (by kernel_rfl)
 have Ij:=PySem.W.mg_none_of X G (n:="len") (by kernel_rfl)
 have EX:=PySem.W.mg_none_of X G (n:="list") (by kernel_rfl)
 have og:=PySem.W.mg_none_of X G (n:="isinstance") (by kernel_rfl)
 have BE:=PySem.W.mg_none_of X G (n:="tuple") (by kernel_rfl)
 have Ie:=PySem.W.mg_none_of X G (n:="str") (by kernel_rfl)
 have EY:=PySem.W.mg_none_of X G (n:="bool") (by kernel_rfl)
 have Ib:=PySem.W.mg_none_of X G (n:="zip") (by kernel_rfl)
 have pV:=PySem.W.mg_none_of X G (n:="enumerate") (by kernel_rfl)
 have Ic:=PySem.W.mg_none_of X G (n:="sum") (by kernel_rfl)
 have Il:=PySem.W.mg_none_of X G (n:="any") (by kernel_rfl)
 have B:=(⟨(⟨⟨⟨Ii,Ih,Ik,BF,yE,Ig,Ij,EX⟩,og,BE,Ie,EY,Ib,pV⟩,Ic⟩:Bs3 mg),Il⟩:KC mg);exact⟨_,λs v=>.of_eq rfl,λbase _ _=>ER (zw (x:="law") (m:="law_archrow_k08_papers_judged") (st:=kn) (t:=246) (c:=131) (f:=132) (by kernel_rfl) (by kernel_rfl) (by kernel_rfl)) B (cD X G (x:="_law_right") (m:="law_archrow_k08_papers_judged") (st:=dO) (t:=246) (c:=124) (f:=125) (ps:=["row","paper"]) (by kernel_rfl) (by kernel_rfl) (by kernel_rfl) (by kernel_rfl) (l0 λ_ _=>rfl))
  (cD X G (x:="_law_copied") (m:="law_archrow_k08_papers_judged") (st:=df) (t:=246) (c:=102) (f:=103) (ps:=["row"]) (by kernel_rfl) (by kernel_rfl) (by kernel_rfl) (by kernel_rfl) (jy λ_=>rfl))
  (cD X G (x:="_law_let_by") (m:="law_archrow_k08_papers_judged") (st:=de) (t:=246) (c:=107) (f:=108) (ps:=["row","paper"]) (by kernel_rfl) (by kernel_rfl) (by kernel_rfl) (by kernel_rfl) (l0 λ_ _=>rfl))
  (cD X G (x:="paper_shows") (m:="archrow.kept") (st:=cT) (t:=230) (c:=52) (f:=53) (ps:=["row","paper"]) (by kernel_rfl) (by kernel_rfl) (by kernel_rfl) (by kernel_rfl) (l0 λ_ _=>rfl))
  (cD X G (x:="paper_holds") (m:="archrow.stretches") (st:=cU) (t:=187) (c:=33) (f:=34) (ps:=["row","worth","paper"]) (by kernel_rfl) (by kernel_rfl) (by kernel_rfl) (by kernel_rfl) (Iy λ_ _ _=>rfl))
  (cD X G (x:="has_shape") (m:="archrow.stretches") (st:=dP) (t:=187) (c:=28) (f:=29) (ps:=["paper","many"]) (by kernel_rfl) (by kernel_rfl) (by kernel_rfl) (by kernel_rfl) (l0 λ_ _=>rfl))
  (cD X G (x:="partners_of") (m:="archrow.stretches") (st:=cS) (t:=187) (c:=23) (f:=24) (ps:=["row"]) (by kernel_rfl) (by kernel_rfl) (by kernel_rfl) (by kernel_rfl) (jy λ_=>rfl))
  (cD X G (x:="stretches_rising") (m:="archrow.stretches") (st:=bK) (t:=187) (c:=18) (f:=19) (ps:=["many"]) (by kernel_rfl) (by kernel_rfl) (by kernel_rfl) (by kernel_rfl) (jy λ_=>rfl))
  (cD X G (x:="least_number") (m:="archrow.stretches") (st:=cA) (t:=187) (c:=45) (f:=46) (ps:=["partners","worth","table","i","j"]) (by kernel_rfl) (by kernel_rfl) (by kernel_rfl) (by kernel_rfl) (Iw λ_ _ _ _ _=>rfl))
  (cD X G (x:="number_with") (m:="archrow.stretches") (st:=cV) (t:=187) (c:=40) (f:=41) (ps:=["worth","table","i","k","j"]) (by kernel_rfl) (by kernel_rfl) (by kernel_rfl) (by kernel_rfl) (Iw λ_ _ _ _ _=>rfl))
  (cD X G (x:="one_each") (m:="archrow.kept") (st:=eT) (t:=230) (c:=57) (f:=58) (ps:=["row"]) (by kernel_rfl) (by kernel_rfl) (by kernel_rfl) (by kernel_rfl) (jy λ_=>rfl))
  (cD X G (x:="_law_hand") (m:="law_archrow_k08_papers_judged") (st:=dv) (t:=246) (c:=64) (f:=65) (ps:=["cell"]) (by kernel_rfl) (by kernel_rfl) (by kernel_rfl) (by kernel_rfl) (jy λ_=>rfl))
  (cD X G (x:="_law_take") (m:="law_archrow_k08_papers_judged") (st:=du) (t:=246) (c:=71) (f:=72) (ps:=["hand","many"]) (by kernel_rfl) (by kernel_rfl) (by kernel_rfl) (by kernel_rfl) (l0 λ_ _=>rfl))
  (cD X G (x:="_law_arcs") (m:="law_archrow_k08_papers_judged") (st:=eW) (t:=246) (c:=78) (f:=79) (ps:=["hand","many"]) (by kernel_rfl) (by kernel_rfl) (by kernel_rfl) (by kernel_rfl) (l0 λ_ _=>rfl))
  (cD X G (x:="_law_ties") (m:="law_archrow_k08_papers_judged") (st:=eU) (t:=246) (c:=83) (f:=84) (ps:=["hand","many"]) (by kernel_rfl) (by kernel_rfl) (by kernel_rfl) (by kernel_rfl) (l0 λ_ _=>rfl))
  (cD X G (x:="_law_row") (m:="law_archrow_k08_papers_judged") (st:=fW) (t:=246) (c:=90) (f:=91) (ps:=["hand"]) (by kernel_rfl) (by kernel_rfl) (by kernel_rfl) (by kernel_rfl) (jy λ_=>rfl))
  (cD X G (x:="_law_table") (m:="law_archrow_k08_papers_judged") (st:=dN) (t:=246) (c:=95) (f:=96) (ps:=["row"]) (by kernel_rfl) (by kernel_rfl) (by kernel_rfl) (by kernel_rfl) (jy λ_=>rfl))
  (cD X G (x:="_law_bent") (m:="law_archrow_k08_papers_judged") (st:=eV) (t:=246) (c:=114) (f:=115) (ps:=["hand","paper"]) (by kernel_rfl) (by kernel_rfl) (by kernel_rfl) (by kernel_rfl) (l0 λ_ _=>rfl))
  (cD X G (x:="_law_papers") (m:="law_archrow_k08_papers_judged") (st:=dc) (t:=246) (c:=119) (f:=120) (ps:=["hand","row"]) (by kernel_rfl) (by kernel_rfl) (by kernel_rfl) (by kernel_rfl) (l0 λ_ _=>rfl))⟩
end jw
abbrev PySem.W.Fast.tw2367503960017327440:PySem.Program:=PySem.Challenge.pw_archrow_k08_papers_judged
theorem PySem.W.Fast.te2367503960017327440:PySem.Challenge.pw_archrow_k08_papers_judged=PySem.W.Fast.tw2367503960017327440:=rfl
open PySem PySem.W PyProof.Rows
set_option maxRecDepth 100000 in
set_option maxHeartbeats 0 in
theorem PySem.Challenge.cw_archrow_k08_papers_judged_holds : PySem.Challenge.rw_archrow_k08_papers_judged.Holds := by
 w_on;o_law
 refine holds_open (q:=jw.view) (loose:=[]) (Xt:=λs=>xlAt jw.view [] s&&recOk (RowW.records PySem.Challenge.rw_archrow_k08_papers_judged.row.toRowW) s) (XP:=XL jw.view []) (Yf:=jw.HK.obs) (Ya:=jw.HK.val) (YP:=λw h=>(jw.KK w.params).In h) (N:=1340) jw.left jw.HK.of jw.HK.keeps (λs e=>xl_of s (Bool.and_eq_true_iff.mp e).1) XL.keeps (by rfl) (by rfl) (by rfl) (λs e=>recFacts_of (Bool.and_eq_true_iff.mp e).2) (by rfl) (by first|assumption|decide +kernel) (by decide +kernel) ⟨rfl,rfl,rfl,rfl,rfl,by decide +kernel⟩ ?hw ?hc
 (case hw=>w_witness2)
 case hc =>
  exact L2.Az (l:=PySem.Challenge.rw_archrow_k08_papers_judged) (K:=jw.KK) (n:=63) (k:=6) (x:="script") (CX:=λ_=>L2.cj) (sp:=λw=>jw.xA (jw.KK w.params)) rfl (by decide) rfl ⟨rfl,by decide,by decide⟩ (λw h Y=>Y) jw.all_mk (λ_ _ a ns hl _ hS=>⟨a,ns,rfl,hS,hl,λ_=>rfl⟩) λ_ _ _ _ _ z=>z
#print axioms PySem.Challenge.cw_archrow_k08_papers_judged_holds
